import PyProof.Rows.All
import Wide.All
import OpenK.AllK
import Wide.FinOn
import Lean
import PyProof.EqAt
import PyProof.EqKinds
import PyProof.TupleCall
import KE.KRevIter
import PyProof.ListNew
import PyProof.NeKinds
import PyProof.StrBlockL
import KE.LcSums
import PyProof.Rows.EqDataRows
import PyProof.Draws
import PyProof.EnumMake
import PyProof.ZipIter
import PyProof.WalksMore
import PyProof.P3In
import KE.KTab
import PyProof.Rows.SumAny
import PyProof.SetKind
import PyProof.Rows.SetFrom
import PyProof.SetRoads
import PyProof.CollectWalk
import PyProof.Rows.SortStr
import KE.KDictSum
import PySem.Challenge.RW_leansay_k03_parts_folds_letters
set_option Elab.async false
set_option linter.all false
set_option maxRecDepth 100000
/-! THE HAND LAYER, for ints, bools, texts, own classes, LISTS and tuples (index, slices, in, append, pop ..), calls, loops. Paste it whole ahead of your own text; what your proof does not reach may be deleted. -/
namespace L2
open PySem PySem.Spec PyProof.Rows

/-- a key: an int or a str -/
abbrev Key := Sum Int Str
def keyIs : Key → Value → Bool
  | .inl k, v => Value.isInt k v
  | .inr x, v => Value.isStrOf x v
def keyH (w : World) : Key → Int
  | .inl k => hashInt k
  | .inr x => hashStr w x
theorem keyIs_shape : ∀ {k : Key} {v : Value}, keyIs k v = true → (∃ i t, k = Sum.inl i ∧ v = Value.int i t) ∨ (∃ x t, k = Sum.inr x ∧ v = Value.str x t)
  | .inl i, v, h => by
    obtain ⟨t, e⟩ := Value.isInt_shape (k := i) (v := v) h
    exact .inl ⟨i, t, rfl, e⟩
  | .inr x, v, h => by
    obtain ⟨t, e⟩ := Value.isStrOf_shape (x := x) (v := v) h
    exact .inr ⟨x, t, rfl, e⟩
theorem key_ll (a b : Int) : decide ((Sum.inl a : Key) = Sum.inl b) = (a == b) := by
  by_cases e : a = b
  · subst e; simp
  · have h : ¬ (Sum.inl a : Key) = Sum.inl b := fun q => e (Sum.inl.inj q)
    rw [decide_eq_false h]
    exact (beq_eq_false_iff_ne.mpr e).symm
theorem key_rr (a b : Str) : decide ((Sum.inr a : Key) = Sum.inr b) = decide (a = b) := by
  by_cases e : a = b
  · subst e; simp
  · have h : ¬ (Sum.inr a : Key) = Sum.inr b := fun q => e (Sum.inr.inj q)
    rw [decide_eq_false h, decide_eq_false e]
theorem key_lr (a : Int) (b : Str) : decide ((Sum.inl a : Key) = Sum.inr b) = false := decide_eq_false (fun q => nomatch q)
theorem key_rl (a : Str) (b : Int) : decide ((Sum.inr a : Key) = Sum.inl b) = false := decide_eq_false (fun q => nomatch q)

def mixKind (prog : Program) (w : World) : PySem.KeyKind prog w Key where
  is := keyIs
  hash := keyH w
  inj := fun v a b ha hb => by
    rcases keyIs_shape ha with ⟨i, t, rfl, rfl⟩ | ⟨x, t, rfl, rfl⟩
    · rcases keyIs_shape hb with ⟨j, u, rfl, e⟩ | ⟨y, u, rfl, e⟩
      · injection e with e1 _; rw [e1]
      · exact nomatch e
    · rcases keyIs_shape hb with ⟨j, u, rfl, e⟩ | ⟨y, u, rfl, e⟩
      · exact nomatch e
      · injection e with e1 _; rw [e1]
  byValue := fun k v h => by
    rcases keyIs_shape h with ⟨i, t, rfl, rfl⟩ | ⟨x, t, rfl, rfl⟩ <;> rfl
  pyHash := fun hv h => by
    rcases keyIs_shape hv with ⟨i, t, rfl, rfl⟩ | ⟨x, t, rfl, rfl⟩
    · exact wpAny_pyHash_int h
    · exact wpAny_pyHash_str h
  eqBool := fun hu hv h => by
    rcases keyIs_shape hu with ⟨i, t, rfl, rfl⟩ | ⟨x, t, rfl, rfl⟩
    · rcases keyIs_shape hv with ⟨j, u, rfl, rfl⟩ | ⟨y, u, rfl, rfl⟩
      · rw [key_ll] at h; exact wpAny_eqBool_int h
      · rw [key_lr] at h; exact SeqAt.EqAt.int_str i t y u _ _ _ _ h
    · rcases keyIs_shape hv with ⟨j, u, rfl, rfl⟩ | ⟨y, u, rfl, rfl⟩
      · rw [key_rl] at h; exact SeqAt.EqAt.str_int x t j u _ _ _ _ h
      · rw [key_rr] at h; exact wpAny_eqBool_str h
  «strs» := fun k x t v h => by
    rcases keyIs_shape h with ⟨i, u, rfl, e⟩ | ⟨y, u, rfl, e⟩
    · exact nomatch e
    · injection e with e1 _
      subst e1
      cases v <;> rfl

end L2

namespace L2
open PySem PySem.Spec PyProof.Rows

/-- a value, without the heap -/
inductive V where
  | non | bl (b : Bool) | int (i : Int) | str (x : Str) | byt (b : Array UInt8) | flt (b : UInt64) | ref (a : Addr) | ty (n : String)
  deriving DecidableEq

def RelV : V → Value → Prop
  | .non, u => u = Value.none
  | .bl b, u => u = Value.bool b
  | .int i, u => ∃ t, u = Value.int i t
  | .str x, u => ∃ t, u = Value.str x t
  | .byt b, u => ∃ t, u = Value.bytes b t
  | .flt b, u => ∃ t, u = Value.float b t
  | .ref a, u => u = Value.ref a
  | .ty n, u => u = Value.type n

abbrev Vals : List V → List Value → Prop := Paired RelV
theorem Vals.length {xs : List V} {us : List Value} (r : Vals xs us) : xs.length = us.length := Paired.length r
theorem Vals.get : ∀ {xs : List V} {us : List Value} {i : Nat} {x : V}, Vals xs us → xs[i]? = some x → ∃ u, us[i]? = some u ∧ RelV x u
  | _, _, _, _, .nil, e => by simp at e
  | _, _, 0, _, .cons r _, e => by simp at e; subst e; exact ⟨_, rfl, r⟩
  | _, _, i + 1, x, .cons _ t, e => by
    obtain ⟨u, h1, h2⟩ := Vals.get (i := i) (x := x) t (by simpa using e)
    exact ⟨u, by simpa using h1, h2⟩
theorem Vals.set {x : V} {u : Value} (r : RelV x u) : ∀ {xs : List V} {us : List Value} (i : Nat), Vals xs us → Vals (xs.set i x) (us.set i u)
  | _, _, _, .nil => .nil
  | _, _, 0, .cons _ t => .cons r t
  | _, _, i + 1, .cons q t => .cons q (Vals.set r i t)
theorem Vals.append : ∀ {xs ys : List V} {us ws : List Value}, Vals xs us → Vals ys ws → Vals (xs ++ ys) (us ++ ws)
  | _, _, _, _, .nil, s => s
  | _, _, _, _, .cons r t, s => .cons r (Vals.append t s)
theorem Vals.take : ∀ {xs : List V} {us : List Value} (n : Nat), Vals xs us → Vals (xs.take n) (us.take n)
  | _, _, 0, _ => .nil
  | _, _, _ + 1, .nil => .nil
  | _, _, n + 1, .cons r t => .cons r (Vals.take n t)
theorem Vals.drop : ∀ {xs : List V} {us : List Value} (n : Nat), Vals xs us → Vals (xs.drop n) (us.drop n)
  | _, _, 0, r => r
  | _, _, _ + 1, .nil => .nil
  | _, _, n + 1, .cons _ t => Vals.drop n t

def RelO : Option V → Option Value → Prop
  | some v, some u => RelV v u
  | none, none => True
  | _, _ => False
def KV {κ : Type} : List (κ × V) → List (κ × Value) → Prop := Paired fun (p : κ × V) (q : κ × Value) => p.1 = q.1 ∧ RelV p.2 q.2

/-- a key of a dict (00_mix): an int or a text -/
def kV : Key → V
  | .inl i => .int i
  | .inr x => .str x

/-- what stands at a tracked address -/
inductive HO where
  /-- a list -/
  | lst (xs : List V)
  /-- a tuple (never changes) -/
  | tup (xs : List V)
  /-- a dict whose keys are ints and texts; one whose keys are tuples of ints and texts (the empty one is both) -/
  | dK (kvs : List (Key × V)) | dT (kvs : List (List Key × V))
  /-- a set of ints: its members, its size -/
  | set (S : Int → Bool) (n : Nat)
  /-- an instance of the class at C, its dict at dx, its attributes -/
  | ins (C dx : Addr) (fs : List (Str × V))
  /-- the dict of the instance at x -/
  | own (x : Addr)
  /-- the dict of an exception -/
  | xd (fs : List (Str × V))
  /-- a bound method, f of x -/
  | met (f x : Addr)
  /-- a range object lo, lo + 1, .. below hi -/
  | rng (lo hi : Int)
  /-- a thing that is known to the object (the script; a dict while a loop walks it): read, never written while it is so -/
  | frz (o : Obj) (u : HO)
  /-- a code object's table -/
  | tbl (ps : Array Value)
  /-- any other thing, by what is true of its one object (a def of one's own: SetO a S n := HO.ext fun h => ..) -/
  | ext (φ : Heap → Prop)

abbrev Hp := Addr → Option HO
def upd (H : Hp) (a : Addr) (o : HO) : Hp := fun b => if b = a then some o else H b
theorem upd_same {H : Hp} {a : Addr} {o : HO} : upd H a o a = some o := by unfold upd; rw [if_pos rfl]
theorem upd_ne {H : Hp} {a b : Addr} {o : HO} (h : b ≠ a) : upd H a o b = H b := by unfold upd; rw [if_neg h]
theorem upd_upd {H : Hp} {a : Addr} {o u : HO} : upd (upd H a o) a u = upd H a u := by
  funext b; unfold upd; split <;> rfl
/-- two objects of different content stand apart -/
theorem ne_of {H : Hp} {a b : Addr} {o u : HO} (h : H a = some o) (h' : H b = some u) (d : o ≠ u) : a ≠ b := by
  intro e; subst e; rw [h] at h'; exact d (Option.some.inj h')
theorem ne_of_none {H : Hp} {a b : Addr} {o : HO} (h : H a = some o) (h' : H b = none) : a ≠ b := by
  intro e; subst e; rw [h] at h'; cases h'

section
variable (P : Program) (w : World)
def ObjOk (H : Hp) (h : Heap) (a : Addr) : HO → Prop
  | .lst xs => xs.length ≤ sizeLine ∧ ∃ (its : List Value) (n : Nat), Vals xs its ∧ h.get? a = some { cls := .type "list", data := .seq its.toArray n }
  | .tup xs => xs.length ≤ sizeLine ∧ ∃ its : List Value, Vals xs its ∧ IsTup h a its.toArray
  | .dK kvs => kvs.length ≤ sizeLine ∧ (a == sysModules) = false ∧ ∃ vs, KV kvs vs ∧ h.DictOf (mixKind P w) a vs
  | .dT kvs => kvs.length ≤ sizeLine ∧ (a == sysModules) = false ∧ ∃ xs : List (List Key × Addr × Value),
      Paired (fun (p : List Key × V) (q : List Key × Addr × Value) => p.1 = q.1 ∧ H q.2.1 = some (.tup (p.1.map kV)) ∧ RelV p.2 q.2.2) kvs xs ∧
      ∃ o es ep, h.get? a = some o ∧ o.ExactDict ∧ o.data = .dict es ep ∧ es.toList = xs.map (entryOfKey (tupleKind (mixKind P w))) ∧ (xs.map (·.1)).Nodup
  | .set S n => h.SetOf (intKind P w) a S n
  | .ins C dx fs => H dx = some (.own a) ∧ fs.length ≤ 1000 ∧ dx ≠ a ∧ h.get? a = some (PySem.W.instObj C dx) ∧
      ∃ mA, h.Ns1 dx mA ∧ (∀ f, RelO (fs.lookup f) (mA f)) ∧ PySem.Within mA (fs.map (·.1))
  | .own _ => ∃ o, h.get? a = some o
  | .xd fs => ∃ mA, h.Ns1 a mA ∧ ∀ f, RelO (fs.lookup f) (mA f)
  | .rng lo hi => ∃ t u v, h.get? a = some { cls := .type "range", data := .fields #[.int lo t, .int hi u, .int 1 v] }
  | .frz o u => h.get? a = some o ∧ ObjOk H h a u
  | .tbl ps => h.get? a = some { cls := .none, data := .fields ps }
  | .met f x => h.get? a = some (PySem.W.methodObj (.ref f) (.ref x))
  | .ext φ => φ h ∧ (∃ o, h.get? a = some o) ∧ ∀ h1 h2 : Heap, φ h1 → (∀ o, h1.get? a = some o → h2.get? a = some o) → φ h2
/-- the abstract heap is held -/
def HOk (H : Hp) (h : Heap) : Prop := ∀ a o, H a = some o → ObjOk P w H h a o
end

section
variable {P : Program} {w : World} {H H' : Hp} {h h' : Heap} {a : Addr} {o : HO}
theorem ObjOk.lt (x : ObjOk P w H h a o) : a < h.objs.size := by
  cases o with
  | lst xs => obtain ⟨_, _, _, _, e⟩ := x; exact Heap.lt_size e
  | tup xs => obtain ⟨_, _, _, p⟩ := x; exact p.lt
  | dK kvs => obtain ⟨_, _, _, _, o, _, _, e, _⟩ := x; exact Heap.lt_size e
  | dT kvs => obtain ⟨_, _, _, _, o, _, _, e, _⟩ := x; exact Heap.lt_size e
  | set S n => obtain ⟨o, _, _, _, e, _⟩ := x; exact Heap.lt_size e
  | ins C dx fs => obtain ⟨_, _, _, e, _⟩ := x; exact Heap.lt_size e
  | own y => obtain ⟨_, e⟩ := x; exact Heap.lt_size e
  | xd fs => obtain ⟨_, ⟨_, _, _, e, _⟩, _⟩ := x; exact Heap.lt_size e
  | rng lo hi => obtain ⟨_, _, _, e⟩ := x; exact Heap.lt_size e
  | frz ob u => obtain ⟨e, _⟩ := x; exact Heap.lt_size e
  | tbl ps => exact Heap.lt_size (show h.get? a = some _ from x)
  | met f y => exact Heap.lt_size (show h.get? a = some _ from x)
  | ext φ => obtain ⟨_, ⟨_, e⟩, _⟩ := x; exact Heap.lt_size e
theorem Paired.mapP {α β : Type} {F G : α → β → Prop} : ∀ {l₁ : List α} {l₂ : List β}, Paired F l₁ l₂ → (∀ a b, F a b → G a b) → Paired G l₁ l₂
  | _, _, .nil, _ => .nil
  | _, _, .cons r t, f => .cons (f _ _ r) (Paired.mapP t f)
/-- what an object's description leans on: its own object, its own dict, the tuples -/
theorem ObjOk.stay (x : ObjOk P w H h a o) (k : ∀ b u, (b = a ∨ H b = some (.own a)) → h.get? b = some u → h'.get? b = some u)
    (ho : ∀ b, H b = some (.own a) → H' b = some (.own a)) (ht : ∀ b xs, H b = some (.tup xs) → H' b = some (.tup xs)) : ObjOk P w H' h' a o := by
  induction o with
  | lst xs => obtain ⟨z, its, n, r, e⟩ := x; exact ⟨z, its, n, r, k _ _ (.inl rfl) e⟩
  | tup xs => obtain ⟨z, its, r, ob, e, c⟩ := x; exact ⟨z, its, r, ob, k _ _ (.inl rfl) e, c⟩
  | dK kvs => obtain ⟨z, y, vs, r, ob, es, ep, e, c⟩ := x; exact ⟨z, y, vs, r, ob, es, ep, k _ _ (.inl rfl) e, c⟩
  | dT kvs =>
    obtain ⟨z, y, xs, r, ob, es, ep, e, c⟩ := x
    exact ⟨z, y, xs, Paired.mapP r fun p q z => ⟨z.1, ht _ _ z.2.1, z.2.2⟩, ob, es, ep, k _ _ (.inl rfl) e, c⟩
  | set S n => obtain ⟨ob, es, ep, t, e, c⟩ := x; exact ⟨ob, es, ep, t, k _ _ (.inl rfl) e, c⟩
  | ins C dx fs =>
    obtain ⟨d, z, ne, e, mA, ⟨od, es, ep, e2, c⟩, r⟩ := x
    exact ⟨ho _ d, z, ne, k _ _ (.inl rfl) e, mA, ⟨od, es, ep, k _ _ (.inr d) e2, c⟩, r⟩
  | own y => obtain ⟨ob, e⟩ := x; exact ⟨ob, k _ _ (.inl rfl) e⟩
  | xd fs => obtain ⟨mA, ⟨od, es, ep, e, c⟩, r⟩ := x; exact ⟨mA, ⟨od, es, ep, k _ _ (.inl rfl) e, c⟩, r⟩
  | rng lo hi => obtain ⟨t, u, v, e⟩ := x; exact ⟨t, u, v, k _ _ (.inl rfl) e⟩
  | frz ob u ih => obtain ⟨e, q⟩ := x; exact ⟨k _ _ (.inl rfl) e, ih q⟩
  | tbl ps =>
    have e : h.get? a = some { cls := .none, data := .fields ps } := x
    show h'.get? a = some { cls := .none, data := .fields ps }
    exact k a _ (.inl rfl) e
  | met f y =>
    have e : h.get? a = some (PySem.W.methodObj (.ref f) (.ref y)) := x
    show h'.get? a = some (PySem.W.methodObj (.ref f) (.ref y))
    exact k a _ (.inl rfl) e
  | ext φ => obtain ⟨p, ⟨o, e⟩, st⟩ := x; exact ⟨st _ _ p fun o q => k _ _ (.inl rfl) q, ⟨o, k _ _ (.inl rfl) e⟩, st⟩
theorem HOk.lt (x : HOk P w H h) (e : H a = some o) : a < h.objs.size := (x a o e).lt
theorem HOk.fresh (x : HOk P w H h) (e : h.objs.size ≤ a) : H a = none := by
  cases q : H a with
  | none => rfl
  | some u => exact absurd (Nat.lt_of_lt_of_le (x.lt q) e) (Nat.lt_irrefl _)
/-- every object of the heap is kept -/
theorem HOk.kept (x : HOk P w H h) (k : ∀ b u, h.get? b = some u → h'.get? b = some u) : HOk P w H h' := fun a o e =>
  (x a o e).stay (fun b u _ q => k b u q) (fun _ q => q) fun _ _ q => q
/-- a new object is laid and tracked -/
theorem HOk.laid (x : HOk P w H h) (k : ∀ b u, h.get? b = some u → h'.get? b = some u) (hp : h.objs.size ≤ a) (new : ObjOk P w (upd H a o) h' a o) : HOk P w (upd H a o) h' := fun b u e => by
  have hn := x.fresh hp
  by_cases hb : b = a
  · subst hb; rw [upd_same] at e; cases e; exact new
  · rw [upd_ne hb] at e
    exact (x b u e).stay (fun c v _ q => k c v q) (fun c q => by rw [upd_ne (ne_of_none q hn)]; exact q) fun c xs q => by rw [upd_ne (ne_of_none q hn)]; exact q
end

/-- what may be read as u: it is u, or a known u -/
def Rd (H : Hp) (a : Addr) (u : HO) : Prop := H a = some u ∨ ∃ o, H a = some (.frz o u)
theorem Rd.ok {P : Program} {w : World} {H : Hp} {h : Heap} {a : Addr} {u : HO} (r : Rd H a u) (x : HOk P w H h) : ObjOk P w H h a u := by
  rcases r with r | ⟨o, r⟩
  · exact x a u r
  · obtain ⟨_, q⟩ := x a _ r
    exact q
/-- what may be written -/
def Mut : Option HO → Prop
  | some (.lst _) => True
  | some (.dK _) => True
  | some (.dT _) => True
  | some (.set _ _) => True
  | some (.ins _ _ _) => True
  | some (.ext _) => True
  | _ => False
section
variable {P : Program} {w : World} {H : Hp} {h h' : Heap} {x e : Addr} {o' : HO}
/-- the object at e is changed: x itself, or the dict of the instance x -/
theorem HOk.write (ok : HOk P w H h) (mu : Mut (H x)) (he : e = x ∨ H e = some (.own x)) (k : ∀ b u, b ≠ e → h.get? b = some u → h'.get? b = some u) (heo : ∃ u, h'.get? e = some u)
    (new : ObjOk P w (upd H x o') h' x o') : HOk P w (upd H x o') h' := fun b u q => by
  have nown : ∀ c y, H c = some (.own y) → c ≠ x := fun c y r z => by subst z; rw [r] at mu; exact mu
  have ntup : ∀ c xs, H c = some (.tup xs) → c ≠ x := fun c xs r z => by subst z; rw [r] at mu; exact mu
  by_cases hb : b = x
  · subst hb; rw [upd_same] at q; cases q; exact new
  · rw [upd_ne hb] at q
    by_cases hbe : b = e
    · have q' : H b = some (.own x) := by
        rcases he with z | z
        · exact absurd (hbe.trans z) hb
        · rw [hbe]; exact z
      rw [q] at q'; cases q'
      obtain ⟨v, hv⟩ := heo
      exact ⟨v, by rw [hbe]; exact hv⟩
    · refine (ok b u q).stay (fun c v hc r => k c v ?_ r) (fun c r => by rw [upd_ne (nown c b r)]; exact r) fun c xs r => by rw [upd_ne (ntup c xs r)]; exact r
      rcases hc with rfl | hc
      · exact hbe
      · rintro rfl
        rcases he with z | z
        · exact nown c b hc z
        · rw [hc] at z; cases z; exact hb rfl
end

/-! ### kept unless tracked; of the frames at fs (the callers') the slots may change (an exception that passes writes there); of the records at ex (iterators) nothing is said -/
structure Un (fs ex : List Addr) (H H' : Hp) (h h' : Heap) : Prop where
  keep : ∀ b o, h.get? b = some o → H b = none → b ∉ fs → b ∉ ex → h'.get? b = some o
  slot : ∀ b o, h.get? b = some o → H b = none → b ∈ fs → b ∉ ex → ∃ sl, h'.get? b = some { o with slots := sl }
  free : ∀ b o, h.get? b = some o → H b = none → b ∉ ex → H' b = none
  there : ∀ b o, h.get? b = some o → b ∉ ex → ∃ o', h'.get? b = some o'
  tups : ∀ b xs, H b = some (.tup xs) → H' b = some (.tup xs)
  frzs : ∀ b o u, H b = some (.frz o u) → H' b = some (.frz o u)
  tbls : ∀ b ps, H b = some (.tbl ps) → ∃ more, H' b = some (.tbl (ps ++ more))
section
variable {fs fs' ex ex' : List Addr} {H H1 H2 : Hp} {h h1 h2 h' : Heap} {a x e : Addr} {o : HO}
theorem Un.any (u : Un fs ex H H1 h h1) {b : Addr} {ob : Obj} (q : h.get? b = some ob) (n : H b = none) (hx : b ∉ ex) : ∃ sl, h1.get? b = some { ob with slots := sl } := by
  by_cases hb : b ∈ fs
  · exact u.slot b ob q n hb hx
  · exact ⟨ob.slots, u.keep b ob q n hb hx⟩
theorem Un.kept (k : ∀ b u, h.get? b = some u → h'.get? b = some u) : Un fs ex H H h h' :=
  ⟨fun b ob q _ _ _ => k b ob q, fun b ob q _ _ _ => ⟨ob.slots, k b ob q⟩, fun _ _ _ n _ => n, fun b ob q _ => ⟨ob, k b ob q⟩, fun _ _ q => q, fun _ _ _ q => q, fun _ ps q => ⟨#[], by rw [q]; simp⟩⟩
theorem Un.refl : Un fs ex H H h h := Un.kept fun _ _ q => q
theorem Un.laid (k : ∀ b u, h.get? b = some u → h'.get? b = some u) (hp : h.objs.size ≤ a) (hn : H a = none) : Un fs ex H (upd H a o) h h' where
  keep := fun b u q _ _ _ => k b u q
  slot := fun b u q _ _ _ => ⟨u.slots, k b u q⟩
  free := fun b u q n _ => by rw [upd_ne (Nat.ne_of_lt (Nat.lt_of_lt_of_le (Heap.lt_size q) hp))]; exact n
  there := fun b u q _ => ⟨u, k b u q⟩
  tups := fun b xs q => by rw [upd_ne (ne_of_none q hn)]; exact q
  frzs := fun b u xs q => by rw [upd_ne (ne_of_none q hn)]; exact q
  tbls := fun b ps q => ⟨#[], by rw [upd_ne (ne_of_none q hn), q]; simp⟩
theorem Un.write (mu : Mut (H x)) (he : e = x ∨ H e = some (.own x)) (k : ∀ b u, b ≠ e → h.get? b = some u → h'.get? b = some u) (heo : ∃ u, h'.get? e = some u) : Un fs ex H (upd H x o) h h' := by
  have hx : ∀ b, H b = none → b ≠ x := fun b n z => by subst z; rw [n] at mu; exact mu
  have hb : ∀ b, H b = none → b ≠ e := fun b n z => by
    subst z
    rcases he with r | r
    · exact hx b n r
    · rw [n] at r; cases r
  have hm : ∀ b u, H b = some u → ¬ Mut (some u) → b ≠ x := fun b u q nm z => by subst z; rw [q] at mu; exact nm mu
  refine ⟨fun b u q n _ _ => k b u (hb b n) q, fun b u q n _ _ => ⟨u.slots, k b u (hb b n) q⟩, fun b u q n _ => by rw [upd_ne (hx b n)]; exact n, fun b u q _ => ?_,
    fun b xs q => by rw [upd_ne (hm b _ q fun z => z)]; exact q, fun b u xs q => by rw [upd_ne (hm b _ q fun z => z)]; exact q, fun b ps q => ⟨#[], by rw [upd_ne (hm b _ q fun z => z), q]; simp⟩⟩
  by_cases hbe : b = e
  · subst hbe; exact heo
  · exact ⟨u, k b u hbe q⟩
end

/-! ### the heap without what is tracked -/
def trk (h : Heap) (H : Hp) : List Addr := (List.range h.objs.size).filter fun a => (H a).isSome
def hidT (h : Heap) (H : Hp) : Heap := PySem.W.hideAll h (trk h H)
theorem hidT_size (h : Heap) (H : Hp) : (hidT h H).objs.size = h.objs.size := PySem.W.hideAll_size _ _
theorem hidT_get {h : Heap} {H : Hp} {b : Addr} {o : Obj} (e : h.get? b = some o) (n : H b = none) : (hidT h H).get? b = some o :=
  PySem.W.hideAll_get _ e fun hm => by
    have q : (H b).isSome = true := (List.mem_filter.mp hm).2
    rw [n] at q; simp at q
theorem of_hidT {h : Heap} {H : Hp} {b : Addr} {o : Obj} (e : (hidT h H).get? b = some o) : h.get? b = some o ∧ H b = none := by
  have e' : h.get? b = some o := PySem.W.of_hideAll (trk h H) e
  refine ⟨e', ?_⟩
  cases q : H b with
  | none => rfl
  | some x =>
    have hm : b ∈ trk h H := List.mem_filter.mpr ⟨List.mem_range.mpr (Heap.lt_size e'), by simp [q]⟩
    have z : (hidT h H).get? b = none := PySem.W.hideAll_none (trk h H) hm
    rw [z] at e; cases e

/-! ### OpenK's ledger, filled with every new object but one -/
end L2

namespace L2
open PySem PySem.Spec PyProof.Rows

/-- the module's facts, over the base: the heap at the law's entry without what is tracked there -/
structure Mod (K : PySem.W.Frag) (mg : Str → Option Value) (base : Heap) : Prop where
  kin : K.In base
  glob : base.Ns mainGlobals mg
  blt : ∃ mb, base.Ns builtinsNs mb ∧ ∀ x : Str, x ≠ "__name__" → mb x = bootBuiltins x
  nolimit : base.NoLimit

/-- the context: a def's body (or a comprehension's block) running. base: fixed through the whole law; s₀, H₀: the entry; outer: the frames whose slots others may change (a def's callers); stack: all frames that run;
   ex: iterators that were made ahead of the entry and are walked here (a comprehension's); fn: the names whose cells were made at the entry (a def: all; a comprehension's block: its own); calm: not within an except suite; pn: pins that every state bears; xe: what is wanted of an exception that leaves the code -/
structure Cx where
  prog : Program
  w : World
  K : PySem.W.Frag
  mg : Str → Option Value
  base : Heap
  A : Around
  N : List Str
  s₀ : Shared
  H₀ : Hp
  env : Env
  outer : List Env
  stack : List Env
  ex : List Addr
  fn : Str → Bool
  calm : Bool
  pn : List (Addr × Obj)
  xe : Value → Shared → Prop
/-- the callers' frames -/
def frs (l : List Env) : List Addr := l.filterMap (·.frame)
abbrev Cx.fs (X : Cx) : List Addr := frs X.outer

def Vis (sc : Scope) (x : Str) : Prop := sc.names.lookup x = some .local ∨ sc.names.lookup x = some .cell ∨ sc.names.lookup x = some .free
def Loc (sc : Scope) (x : Str) : Prop := sc.names.lookup x = some .local ∨ sc.names.lookup x = some .cell
def Look (env : Env) (h : Heap) (m : Str → Option Value) (x : Str) (u : Value) : Prop :=
  (env.kindOf x = some .local ∧ m x = some u) ∨ ((env.kindOf x = some .cell ∨ env.kindOf x = some .free) ∧ ∃ c, env.cells.lookup x = some c ∧ h.IsCell c (some u))

structure Cx.Ok (X : Cx) : Prop where
  mod : Mod X.K X.mg X.base
  kind : X.env.scope.kind = .function
  glob : X.env.globals = mainGlobals
  blt : X.env.builtins = builtinsNs
  above : X.s₀.heap.objs.size ≤ X.env.locals
  inj : ∀ x y c, X.env.cells.lookup x = some c → X.env.cells.lookup y = some c → x = y
  has : ∀ x, (X.env.kindOf x = some .cell ∨ X.env.kindOf x = some .free) → ∃ c, X.env.cells.lookup x = some c
  cab : ∀ x c, X.fn x = true → X.env.cells.lookup x = some c → X.s₀.heap.objs.size ≤ c
  hd : X.calm = true → X.A.handled = none
  frames : X.A.frames = some X.stack
  stk : X.stack = X.outer ∨ (X.stack = X.env :: X.outer ∧ X.env.frame = some X.env.locals)
  exf : ∀ b ∈ X.ex, b ≠ X.env.locals ∧ ∀ x c, X.env.cells.lookup x = some c → c ≠ b
  bs : ∀ b o, X.base.get? b = some o → X.s₀.heap.get? b = some o ∧ X.H₀ b = none
  bsz : X.base.objs.size ≤ X.s₀.heap.objs.size
  noex : ∀ b o, X.base.get? b = some o → b ∉ X.ex
  exfs : ∀ b ∈ X.ex, b ∉ X.fs
  funs : X.s₀.heap.FunFrames X.base X.outer
  frf : ∀ b ∈ X.fs, X.H₀ b = none

structure Inv (X : Cx) (pins : List (Addr × Obj)) (σ : List (Option V)) (H : Hp) (s : Shared) : Prop where
  ok : X.Ok
  os : s.os = X.s₀.os
  bare : AllBare s.gens
  base : Un X.fs X.ex X.H₀ H X.s₀.heap s.heap
  loc : ∃ m, s.heap.Ns X.env.locals m ∧ ∀ (i : Nat) (x : Str) (v : V), X.N[i]? = some x → σ[i]? = some (some v) → Vis X.env.scope x → ∃ u, RelV v u ∧ Look X.env s.heap m x u
  cell : ∀ x c, X.env.cells.lookup x = some c → ∃ v, s.heap.IsCell c v
  free : H X.env.locals = none
  freeC : ∀ x c, X.env.cells.lookup x = some c → H c = none
  pin : ∀ p ∈ X.pn ++ pins, s.heap.get? p.1 = some p.2 ∧ H p.1 = none ∧ p.1 ≠ X.env.locals ∧ p.1 ∉ X.fs ∧ ∀ v, p.2.data ≠ .cell v
  hok : HOk X.prog X.w H s.heap
  len : σ.length = X.N.length

section
variable {X : Cx} {pins : List (Addr × Obj)} {σ : List (Option V)} {H H' : Hp} {s : Shared} {h' : Heap}

theorem Cx.Ok.nofr (ok : X.Ok) {b : Addr} {o : Obj} (e : X.base.get? b = some o) : b ∉ X.fs := fun hb => by
  have := (ok.funs.mem hb).1
  rw [e] at this; cases this
theorem Inv.bs (I : Inv X pins σ H s) : ∀ b o, X.base.get? b = some o → s.heap.get? b = some o ∧ H b = none := fun b o e =>
  ⟨I.base.keep b o (I.ok.bs b o e).1 (I.ok.bs b o e).2 (I.ok.nofr e) (I.ok.noex b o e), I.base.free b o (I.ok.bs b o e).1 (I.ok.bs b o e).2 (I.ok.noex b o e)⟩
theorem Inv.bk (I : Inv X pins σ H s) : ∀ b o, X.base.get? b = some o → s.heap.get? b = some o := fun b o e => (I.bs b o e).1
theorem Inv.mod (I : Inv X pins σ H s) : Mod X.K X.mg X.base := I.ok.mod
theorem Inv.kIn (I : Inv X pins σ H s) : X.K.In s.heap := I.ok.mod.kin.keeps I.bk
theorem Inv.lt (I : Inv X pins σ H s) : X.env.locals < s.heap.objs.size := let ⟨_, hn, _⟩ := I.loc; hn.lt
theorem Inv.sz (I : Inv X pins σ H s) : X.s₀.heap.objs.size ≤ s.heap.objs.size := Nat.le_trans I.ok.above (Nat.le_of_lt I.lt)
theorem Inv.nofs (I : Inv X pins σ H s) {a : Addr} (h : s.heap.objs.size ≤ a) : a ∉ X.fs := fun hb => by
  obtain ⟨_, o, ho, _⟩ := I.ok.funs.mem hb
  exact absurd (Nat.lt_of_lt_of_le (Heap.lt_size ho) (Nat.le_trans I.sz h)) (Nat.lt_irrefl _)
theorem Inv.cne (I : Inv X pins σ H s) : ∀ x c, X.env.cells.lookup x = some c → c ≠ X.env.locals := fun x c e z => by
  obtain ⟨v, o, ho, hd⟩ := I.cell x c e
  obtain ⟨m, ⟨o', es, ep, ho', hd', _⟩, _⟩ := I.loc
  rw [z, ho'] at ho; cases ho; rw [hd'] at hd; cases hd
theorem Inv.funs (I : Inv X pins σ H s) : s.heap.FunFrames X.base X.outer := by
  have all : ∀ (l : List Env), (∀ b ∈ frs l, b ∈ X.fs) → X.s₀.heap.FunFrames X.base l → s.heap.FunFrames X.base l := by
    intro l
    induction l with
    | nil => intro _ _; trivial
    | cons env r ih =>
      intro hs hl
      obtain ⟨hk, ⟨L, o, hf, hn, ho, hd⟩, hr⟩ := hl
      have hL : L ∈ X.fs := hs L (by unfold frs; rw [List.filterMap_cons, hf]; exact List.mem_cons_self)
      obtain ⟨sl, e⟩ := I.base.slot L o ho (I.ok.frf L hL) hL fun z => I.ok.exfs L z hL
      exact ⟨hk, ⟨L, _, hf, hn, e, hd⟩, ih (fun b hb => hs b (by unfold frs; rw [List.filterMap_cons, hf]; exact List.mem_cons_of_mem _ hb)) hr⟩
  exact all X.outer (fun _ hb => hb) I.ok.funs

/-- the frames that run, for a call -/
theorem Inv.stack (I : Inv X pins σ H s) : s.heap.FunFrames X.base X.stack := by
  rcases I.ok.stk with e | ⟨e, hf⟩
  · rw [e]; exact I.funs
  · rw [e]
    obtain ⟨m, hn, _⟩ := I.loc
    refine .cons (by rw [I.ok.kind]; decide) hf hn ?_ I.funs
    exact Heap.get?_none_of_le (Nat.le_trans I.ok.bsz I.ok.above)
theorem Inv.stkSub (I : Inv X pins σ H s) : ∀ b ∈ frs X.stack, b ∈ X.env.locals :: X.fs := fun b hb => by
  rcases I.ok.stk with e | ⟨e, hf⟩
  · rw [e] at hb; exact List.mem_cons_of_mem _ hb
  · rw [e] at hb
    unfold frs at hb
    rw [List.filterMap_cons, hf] at hb
    exact hb
theorem Inv.stkFree (I : Inv X pins σ H s) : ∀ b ∈ frs X.stack, H b = none := fun b hb => by
  rcases List.mem_cons.mp (I.stkSub b hb) with e | hb
  · rw [e]; exact I.free
  · obtain ⟨_, o, ho, _⟩ := I.ok.funs.mem hb
    exact I.base.free b o ho (I.ok.frf b hb) fun z => I.ok.exfs b z hb

/-- THE STEP: the untracked objects but the frame and the records at ch are kept (the callers' frames up to slots), the frame's map is kept, the new abstract heap is held -/
theorem Inv.step {g' : Array GenState} {t' : Nat} {d' : Drawn} {ch : List Addr} (I : Inv X pins σ H s)
    (hch : ∀ b ∈ ch, (b ∈ X.ex ∨ X.s₀.heap.objs.size ≤ b) ∧ b ≠ X.env.locals ∧ (∀ x c, X.env.cells.lookup x = some c → c ≠ b) ∧ ∀ p ∈ X.pn ++ pins, p.1 ≠ b)
    (keep : ∀ b o, b ≠ X.env.locals → b ∉ X.fs → b ∉ ch → s.heap.get? b = some o → H b = none → h'.get? b = some o)
    (slot : ∀ b o, b ≠ X.env.locals → b ∈ X.fs → b ∉ ch → s.heap.get? b = some o → H b = none → ∃ sl, h'.get? b = some { o with slots := sl }) (free : ∀ b o, b ∉ ch → s.heap.get? b = some o → H b = none → H' b = none)
    (there : ∀ b o, b ∉ ch → s.heap.get? b = some o → ∃ o', h'.get? b = some o')
    (tups : ∀ b xs, H b = some (.tup xs) → H' b = some (.tup xs)) (frzs : ∀ b o u, H b = some (.frz o u) → H' b = some (.frz o u)) (tbls : ∀ b ps, H b = some (.tbl ps) → ∃ more, H' b = some (.tbl (ps ++ more)))
    (ns : ∀ m, s.heap.Ns X.env.locals m → h'.Ns X.env.locals m) (hok : HOk X.prog X.w H' h') (hg : AllBare g') :
    Inv X pins σ H' { s with heap := h', gens := g', drawn := d', toks := t' } := by
  have neL : ∀ b o, X.s₀.heap.get? b = some o → b ≠ X.env.locals := fun b o e => Nat.ne_of_lt (Nat.lt_of_lt_of_le (Heap.lt_size e) I.ok.above)
  have neC : ∀ b o, X.s₀.heap.get? b = some o → b ∉ X.ex → b ∉ ch := fun b o e hx hb => by
    rcases (hch b hb).1 with z | z
    · exact hx z
    · exact absurd (Nat.lt_of_lt_of_le (Heap.lt_size e) z) (Nat.lt_irrefl _)
  have cellK : ∀ x c, X.env.cells.lookup x = some c → ∀ v, s.heap.IsCell c v → h'.IsCell c v := fun x c e v ⟨o, ho, hd⟩ => by
    have nch : c ∉ ch := fun z => (hch c z).2.2.1 x c e rfl
    by_cases hc : c ∈ X.fs
    · obtain ⟨sl, q⟩ := slot c o (I.cne x c e) hc nch ho (I.freeC x c e)
      exact ⟨_, q, hd⟩
    · exact ⟨o, keep c o (I.cne x c e) hc nch ho (I.freeC x c e), hd⟩
  refine ⟨I.ok, I.os, hg, ⟨fun b o e n hb hx => ?_, fun b o e n hb hx => ?_, fun b o e n hx => ?_, fun b o e hx => ?_, fun b xs e => tups b xs (I.base.tups b xs e), fun b o xs e => frzs b o xs (I.base.frzs b o xs e), fun b ps e => ?_⟩, ?_, fun x c e => ?_, ?_, fun x c e => ?_, fun p hp => ?_, hok, I.len⟩
  · exact keep b o (neL b o e) hb (neC b o e hx) (I.base.keep b o e n hb hx) (I.base.free b o e n hx)
  · obtain ⟨sl, e1⟩ := I.base.slot b o e n hb hx
    obtain ⟨sl', e2⟩ := slot b _ (neL b o e) hb (neC b o e hx) e1 (I.base.free b o e n hx)
    exact ⟨sl', e2⟩
  · obtain ⟨o', e1⟩ := I.base.there b o e hx
    exact free b o' (neC b o e hx) e1 (I.base.free b o e n hx)
  · obtain ⟨o', e1⟩ := I.base.there b o e hx
    exact there b o' (neC b o e hx) e1
  · obtain ⟨m1, e1⟩ := I.base.tbls b ps e
    obtain ⟨m2, e2⟩ := tbls b _ e1
    exact ⟨m1 ++ m2, by rw [e2, Array.append_assoc]⟩
  · obtain ⟨m, hn, hl⟩ := I.loc
    refine ⟨m, ns m hn, fun i x v e1 e2 e3 => ?_⟩
    obtain ⟨u, r, l⟩ := hl i x v e1 e2 e3
    refine ⟨u, r, ?_⟩
    rcases l with l | ⟨k, c, e, z⟩
    · exact .inl l
    · exact .inr ⟨k, c, e, cellK x c e _ z⟩
  · obtain ⟨v, z⟩ := I.cell x c e
    exact ⟨v, cellK x c e v z⟩
  · obtain ⟨m, ⟨o, _, _, ho, _⟩, _⟩ := I.loc
    exact free _ o (fun z => (hch _ z).2.1 rfl) ho I.free
  · obtain ⟨v, o, ho, hd⟩ := I.cell x c e
    exact free c o (fun z => (hch c z).2.2.1 x c e rfl) ho (I.freeC x c e)
  · obtain ⟨e, n, ne, nf, d⟩ := I.pin p hp
    have nch : p.1 ∉ ch := fun z => (hch p.1 z).2.2.2 p hp rfl
    exact ⟨keep p.1 p.2 ne nf nch e n, free p.1 p.2 nch e n, ne, nf, d⟩
/-- .. where the frame's own object is kept too -/
theorem Inv.un {t' : Nat} (I : Inv X pins σ H s) (u : Un X.fs [] H H' s.heap h') (hok : HOk X.prog X.w H' h') : Inv X pins σ H' { s with heap := h', toks := t' } := by
  obtain ⟨m, ⟨o, es, ep, ho, r⟩, _⟩ := id I.loc
  obtain ⟨sl, hL⟩ := u.any ho I.free (by simp)
  exact I.step (g' := s.gens) (d' := s.drawn) (ch := []) (fun _ z => nomatch z) (fun b o _ hb _ e n => u.keep b o e n hb (by simp)) (fun b o _ hb _ e n => u.slot b o e n hb (by simp)) (fun b o _ e n => u.free b o e n (by simp)) (fun b o _ e => u.there b o e (by simp)) u.tups u.frzs u.tbls (fun m' hm => by
    obtain ⟨o', es', ep', ho', r'⟩ := hm
    rw [ho] at ho'; cases ho'
    exact ⟨_, es', ep', hL, r'⟩) hok I.bare
/-- behind a call (or a comprehension's block): the slots of this frame may have changed too, the records at ch may have turned -/
theorem Inv.call {g' : Array GenState} {t' : Nat} {d' : Drawn} {ch : List Addr} (I : Inv X pins σ H s) (u : Un (frs X.stack) ch H H' s.heap h') (hok : HOk X.prog X.w H' h') (hg : AllBare g')
    (hch : ∀ b ∈ ch, (b ∈ X.ex ∨ X.s₀.heap.objs.size ≤ b) ∧ b ≠ X.env.locals ∧ (∀ x c, X.env.cells.lookup x = some c → c ≠ b) ∧ ∀ p ∈ X.pn ++ pins, p.1 ≠ b) :
    Inv X pins σ H' { s with heap := h', gens := g', drawn := d', toks := t' } := by
  obtain ⟨m, ⟨o, es, ep, ho, r⟩, _⟩ := id I.loc
  obtain ⟨sl, hL⟩ := u.any ho I.free fun z => (hch _ z).2.1 rfl
  exact I.step (ch := ch) hch (fun b o hL hb hc e n => u.keep b o e n (fun z => (List.mem_cons.mp (I.stkSub b z)).elim hL hb) hc) (fun b o _ _ hc e n => u.any e n hc) (fun b o hc e n => u.free b o e n hc) (fun b o hc e => u.there b o e hc) u.tups u.frzs u.tbls (fun m' hm => by
    obtain ⟨o', es', ep', ho', r'⟩ := hm
    rw [ho] at ho'; cases ho'
    exact ⟨_, es', ep', hL, r'⟩) hok hg
/-- an untracked record of ours (an iterator) has turned -/
theorem Inv.turned {t' : Nat} {it : Addr} (I : Inv X pins σ H s) (k : ∀ b o, b ≠ it → s.heap.get? b = some o → h'.get? b = some o) (hn : H it = none) (hL : it ≠ X.env.locals)
    (h1 : it ∈ X.ex ∨ X.s₀.heap.objs.size ≤ it) (h2 : ∀ x c, X.env.cells.lookup x = some c → c ≠ it) (h3 : ∀ p ∈ X.pn ++ pins, p.1 ≠ it) : Inv X pins σ H { s with heap := h', toks := t' } := by
  have nit : ∀ b u, H b = some u → b ≠ it := fun b u e z => by rw [z, hn] at e; cases e
  refine I.step (g' := s.gens) (d' := s.drawn) (ch := [it]) (fun b hb => ?_) (fun b o _ _ hc e _ => k b o (fun z => hc (by simp [z])) e) (fun b o _ _ hc e _ => ⟨o.slots, k b o (fun z => hc (by simp [z])) e⟩) (fun _ _ _ _ n => n)
    (fun b o hc e => ⟨o, k b o (fun z => hc (by simp [z])) e⟩) (fun _ _ e => e) (fun _ _ _ e => e) (fun b ps e => ⟨#[], by rw [e]; simp⟩) (fun m hm => ?_) (fun b u e => ?_) I.bare
  · have e : b = it := by simpa using hb
    subst e
    exact ⟨h1, hL, h2, h3⟩
  · obtain ⟨o, es, ep, ho, r⟩ := hm
    exact ⟨o, es, ep, k _ o (Ne.symm hL) ho, r⟩
  · refine (I.hok b u e).stay (fun c v hc q => k c v ?_ q) (fun _ q => q) fun _ _ q => q
    rcases hc with z | z
    · rw [z]; exact nit b u e
    · exact nit c _ z
theorem Inv.tok (I : Inv X pins σ H s) (t : Nat) : Inv X pins σ H { s with toks := t } := I.un (h' := s.heap) (t' := t) Un.refl I.hok
/-- all objects kept -/
theorem Inv.kept {t' : Nat} (I : Inv X pins σ H s) (k : ∀ b u, s.heap.get? b = some u → h'.get? b = some u) : Inv X pins σ H { s with heap := h', toks := t' } := I.un (Un.kept k) (I.hok.kept k)
/-- a new object laid and tracked -/
theorem Inv.laid {a : Addr} {o : HO} {t' : Nat} (I : Inv X pins σ H s) (k : ∀ b u, s.heap.get? b = some u → h'.get? b = some u) (hp : s.heap.objs.size ≤ a) (new : ObjOk X.prog X.w (upd H a o) h' a o) :
    Inv X pins σ (upd H a o) { s with heap := h', toks := t' } := I.un (Un.laid k hp (I.hok.fresh hp)) (I.hok.laid k hp new)
/-- an object written -/
theorem Inv.write {x e : Addr} {o : HO} {t' : Nat} (I : Inv X pins σ H s) (mu : Mut (H x)) (he : e = x ∨ H e = some (.own x)) (k : ∀ b u, b ≠ e → s.heap.get? b = some u → h'.get? b = some u) (heo : ∃ u, h'.get? e = some u)
    (new : ObjOk X.prog X.w (upd H x o) h' x o) : Inv X pins σ (upd H x o) { s with heap := h', toks := t' } := I.un (Un.write mu he k heo) (I.hok.write mu he k heo new)
theorem Inv.pins_of {pins' : List (Addr × Obj)} (I : Inv X pins σ H s) (h : ∀ p ∈ pins', s.heap.get? p.1 = some p.2 ∧ H p.1 = none ∧ p.1 ≠ X.env.locals ∧ p.1 ∉ X.fs ∧ ∀ v, p.2.data ≠ .cell v) : Inv X pins' σ H s :=
  ⟨I.ok, I.os, I.bare, I.base, I.loc, I.cell, I.free, I.freeC, fun p hp => (List.mem_append.mp hp).elim (fun z => I.pin p (List.mem_append_left _ z)) (h p), I.hok, I.len⟩

theorem nodup_ix {N : List Str} (hN : N.Nodup) {i j : Nat} {x : Str} (a : N[i]? = some x) (b : N[j]? = some x) : i = j := by
  obtain ⟨h1, e1⟩ := List.getElem?_eq_some_iff.mp a
  obtain ⟨h2, e2⟩ := List.getElem?_eq_some_iff.mp b
  exact (List.getElem_inj hN).mp (e1.trans e2.symm)

/-- a name is stored; what changed -/
theorem store_ok2 {M : Model} {A : Around} {E : Value → Shared → Prop} {i : Nat} {x : Str} {v : V} {u : Value} {Q : Unit → Shared → Prop} (I : Inv X pins σ H s) (hN : X.N.Nodup) (hi : X.N[i]? = some x) (hx : Loc X.env.scope x) (r : RelV v u)
    (h : ∀ s', Inv X pins (σ.set i (some v)) H s' → (∃ a, Heap.SameBut a s.heap s'.heap ∧ (a = X.env.locals ∨ X.env.cells.lookup x = some a)) → Q () s') (hf : X.fn x = true ∨ X.env.scope.names.lookup x = some .local := by first | exact .inl rfl | exact .inr rfl | assumption) : wpAny M A (storeName X.env x u) Q E s := by
  obtain ⟨m, hn, hl⟩ := id I.loc
  have hcls : (X.env.scope.kind == .class || (X.env.scope.kind == .module && X.env.locals != X.env.globals)) = false := by rw [I.ok.kind]; rfl
  have hiσ : i < σ.length := by rw [I.len]; exact (List.getElem?_eq_some_iff.mp hi).1
  have cne := I.cne
  have tracked : ∀ {a : Addr} {h' : Heap}, (∃ o, s.heap.get? a = some o ∧ H a = none) → Heap.SameBut a s.heap h' → HOk X.prog X.w H h' := fun {a h'} ha hs b ob e => by
    obtain ⟨_, _, hfree⟩ := ha
    refine (I.hok b ob e).stay (fun c w' hc q => (hs.2 c ?_).trans q) (fun _ q => q) fun _ _ q => q
    rintro rfl
    rcases hc with rfl | hc
    · rw [hfree] at e; cases e
    · rw [hfree] at hc; cases hc
  rcases hx with hk | hk
  · refine wpAny_storeName_local hk hn (fun h' hn' hs => ?_) hcls
    obtain ⟨oL, _, _, hoL, _⟩ := id hn
    refine h _ ⟨I.ok, I.os, I.bare, ⟨fun b o e n hb hx => ?_, fun b o e n hb hx => ?_, I.base.free, fun b o e hx => ?_, I.base.tups, I.base.frzs, I.base.tbls⟩, ⟨_, hn', fun j y v' e1 e2 e3 => ?_⟩, fun y c e => ?_, I.free, I.freeC, fun p hp => ?_, tracked ⟨oL, hoL, I.free⟩ hs, by simpa using I.len⟩ ⟨_, hs, .inl rfl⟩
    · exact (hs.2 b (Nat.ne_of_lt (Nat.lt_of_lt_of_le (Heap.lt_size e) I.ok.above))).trans (I.base.keep b o e n hb hx)
    · obtain ⟨sl, e1⟩ := I.base.slot b o e n hb hx
      exact ⟨sl, (hs.2 b (Nat.ne_of_lt (Nat.lt_of_lt_of_le (Heap.lt_size e) I.ok.above))).trans e1⟩
    · obtain ⟨o', e1⟩ := I.base.there b o e hx
      exact ⟨o', (hs.2 b (Nat.ne_of_lt (Nat.lt_of_lt_of_le (Heap.lt_size e) I.ok.above))).trans e1⟩
    · by_cases hj : j = i
      · subst hj
        rw [hi] at e1; cases e1
        rw [List.getElem?_set_self hiσ] at e2
        cases e2
        exact ⟨u, r, .inl ⟨hk, by simp⟩⟩
      · rw [List.getElem?_set_ne (Ne.symm hj)] at e2
        obtain ⟨u', r', q⟩ := hl j y v' e1 e2 e3
        refine ⟨u', r', ?_⟩
        rcases q with ⟨k, e⟩ | ⟨k, c, e, z⟩
        · refine .inl ⟨k, ?_⟩
          have : y ≠ x := fun e => hj (nodup_ix hN e1 (e ▸ hi))
          simp [this, e]
        · exact .inr ⟨k, c, e, z.sameBut hs (cne y c e)⟩
    · obtain ⟨w', z⟩ := I.cell y c e
      exact ⟨w', z.sameBut hs (cne y c e)⟩
    · obtain ⟨e, n, ne, nf, d⟩ := I.pin p hp
      exact ⟨(hs.2 p.1 ne).trans e, n, ne, nf, d⟩
  · have hfn : X.fn x = true := by
      rcases hf with z | z
      · exact z
      · rw [z] at hk; cases hk
    obtain ⟨c, hc⟩ := I.ok.has x (.inl hk)
    obtain ⟨w', z⟩ := I.cell x c hc
    refine wpAny_storeName_cell I.ok.kind hk hc z (fun h' hc' hs => ?_)
    obtain ⟨oc, hoc, hocd⟩ := id z
    refine h { s with heap := h' } ⟨I.ok, I.os, I.bare, ⟨fun b o e n hb hx => ?_, fun b o e n hb hx => ?_, I.base.free, fun b o e hx => ?_, I.base.tups, I.base.frzs, I.base.tbls⟩, ⟨m, hn.sameBut hs (Ne.symm (cne x c hc)), fun j y v' e1 e2 e3 => ?_⟩, fun y c' e => ?_, I.free, I.freeC, fun p hp => ?_, tracked ⟨oc, hoc, I.freeC x c hc⟩ hs, by simpa using I.len⟩ ⟨c, hs, .inr hc⟩
    · exact (hs.2 b (Nat.ne_of_lt (Nat.lt_of_lt_of_le (Heap.lt_size e) (I.ok.cab x c hfn hc)))).trans (I.base.keep b o e n hb hx)
    · obtain ⟨sl, e1⟩ := I.base.slot b o e n hb hx
      exact ⟨sl, (hs.2 b (Nat.ne_of_lt (Nat.lt_of_lt_of_le (Heap.lt_size e) (I.ok.cab x c hfn hc)))).trans e1⟩
    · obtain ⟨o', e1⟩ := I.base.there b o e hx
      exact ⟨o', (hs.2 b (Nat.ne_of_lt (Nat.lt_of_lt_of_le (Heap.lt_size e) (I.ok.cab x c hfn hc)))).trans e1⟩
    · by_cases hj : j = i
      · subst hj
        rw [hi] at e1; cases e1
        rw [List.getElem?_set_self hiσ] at e2
        cases e2
        exact ⟨u, r, .inr ⟨.inl hk, c, hc, hc'⟩⟩
      · rw [List.getElem?_set_ne (Ne.symm hj)] at e2
        obtain ⟨u', r', q⟩ := hl j y v' e1 e2 e3
        refine ⟨u', r', ?_⟩
        rcases q with q | ⟨k, c', e, z'⟩
        · exact .inl q
        · refine .inr ⟨k, c', e, z'.sameBut hs ?_⟩
          rintro rfl
          exact hj (nodup_ix hN e1 (I.ok.inj _ _ _ e hc ▸ hi))
    · by_cases hcc : c' = c
      · subst hcc; exact ⟨_, hc'⟩
      · obtain ⟨w2, z2⟩ := I.cell y c' e
        exact ⟨w2, z2.sameBut hs hcc⟩
    · obtain ⟨e, n, ne, nf, d⟩ := I.pin p hp
      refine ⟨(hs.2 p.1 ?_).trans e, n, ne, nf, d⟩
      intro q
      rw [q, hoc] at e
      have q' : oc = p.2 := Option.some.inj e
      exact d w' (by rw [← q']; exact hocd)
theorem store_ok {M : Model} {A : Around} {E : Value → Shared → Prop} {i : Nat} {x : Str} {v : V} {u : Value} {Q : Unit → Shared → Prop} (I : Inv X pins σ H s) (hN : X.N.Nodup) (hi : X.N[i]? = some x) (hx : Loc X.env.scope x) (r : RelV v u)
    (h : ∀ s', Inv X pins (σ.set i (some v)) H s' → Q () s') (hf : X.fn x = true ∨ X.env.scope.names.lookup x = some .local := by first | exact .inl rfl | exact .inr rfl | assumption) : wpAny M A (storeName X.env x u) Q E s :=
  store_ok2 I hN hi hx r (fun s' I' _ => h s' I') hf
/-- behind a call or a block, the state as it is -/
theorem Inv.call' {s' : Shared} {ch : List Addr} (I : Inv X pins σ H s) (ho : s'.os = s.os) (u : Un (frs X.stack) ch H H' s.heap s'.heap) (hok : HOk X.prog X.w H' s'.heap) (hg : AllBare s'.gens)
    (hch : ∀ b ∈ ch, (b ∈ X.ex ∨ X.s₀.heap.objs.size ≤ b) ∧ b ≠ X.env.locals ∧ (∀ x c, X.env.cells.lookup x = some c → c ≠ b) ∧ ∀ p ∈ X.pn ++ pins, p.1 ≠ b) : Inv X pins σ H' s' := by
  obtain ⟨h', g', d', t', o'⟩ := s'
  have e : o' = s.os := ho
  subst e
  exact I.call (g' := g') (t' := t') (d' := d') u hok hg hch
end

/-! ### the judgements -/
/-- an exception: its class, its own dict's address (where it has one), the abstract heap behind it -/
abbrev XK := Value → Option Addr → Hp → Prop
abbrev St := List (Option V)
abbrev VK := V → Hp → Prop
/-- an expression's reading; a test's; an argument list's -/
abbrev TE := St → Hp → VK → Prop
abbrev TT := St → Hp → (Bool → Hp → Prop) → Prop
abbrev TA := St → Hp → (List V → Hp → Prop) → Prop
/-- what is wanted behind a statement -/
structure Ends where
  nx : St → Hp → Prop
  rt : VK
  bk : St → Hp → Prop := fun _ _ => False
  ct : St → Hp → Prop := fun _ _ => False
abbrev TS := Ends → St → Hp → Prop

def EP (X : Cx) (pins : List (Addr × Obj)) (σ : St) (Q : VK) (u : Value) (s' : Shared) : Prop := ∃ v H', Inv X pins σ H' s' ∧ RelV v u ∧ Q v H'
def TP (X : Cx) (pins : List (Addr × Obj)) (σ : St) (Q : Bool → Hp → Prop) (b : Bool) (s' : Shared) : Prop := ∃ H', Inv X pins σ H' s' ∧ Q b H'
def AP (X : Cx) (pins : List (Addr × Obj)) (σ : St) (Q : List V → Hp → Prop) (us : List Value) (s' : Shared) : Prop := ∃ vs H', Inv X pins σ H' s' ∧ Vals vs us ∧ Q vs H'
def SP (X : Cx) (pins : List (Addr × Obj)) (D : Ends) (f : Flow) (s' : Shared) : Prop :=
  match f with
  | .next => ∃ σ' H', Inv X pins σ' H' s' ∧ D.nx σ' H'
  | .brk => ∃ σ' H', Inv X pins σ' H' s' ∧ D.bk σ' H'
  | .cont => ∃ σ' H', Inv X pins σ' H' s' ∧ D.ct σ' H'
  | .ret u => ∃ v σ' H', Inv X pins σ' H' s' ∧ RelV v u ∧ D.rt v H'

def PE (X : Cx) (e : Expr) (t : TE) : Prop :=
  ∀ (pins : List (Addr × Obj)) (s : Shared) (σ : St) (H : Hp) (Q : VK), Inv X pins σ H s → t σ H Q → wpAny (model X.prog X.w) X.A (eval e X.env) (EP X pins σ Q) X.xe s
def PT (X : Cx) (e : Expr) (t : TT) : Prop :=
  ∀ (pins : List (Addr × Obj)) (s : Shared) (σ : St) (H : Hp) (Q : Bool → Hp → Prop), Inv X pins σ H s → t σ H Q → wpAny (model X.prog X.w) X.A (isTrue e X.env (eval e X.env)) (TP X pins σ Q) X.xe s
/-- a test whatever its 'whole' is (and, or) -/
def PW (X : Cx) (e : Expr) (t : TT) : Prop :=
  ∀ (whole : Sem Value) (pins : List (Addr × Obj)) (s : Shared) (σ : St) (H : Hp) (Q : Bool → Hp → Prop), Inv X pins σ H s → t σ H Q → wpAny (model X.prog X.w) X.A (isTrue e X.env whole) (TP X pins σ Q) X.xe s
theorem PW.pt {X : Cx} {e : Expr} {t : TT} (h : PW X e t) : PT X e t := h _
/-- an argument list (no star), from the left -/
def PA (X : Cx) (es : List Expr) (t : TA) : Prop :=
  ∀ (pos : Pos) (pins : List (Addr × Obj)) (s : Shared) (σ : St) (H : Hp) (Q : List V → Hp → Prop), Inv X pins σ H s → t σ H Q → wpAny (model X.prog X.w) X.A (spliced (backTo pos (starEach es X.env))) (AP X pins σ Q) X.xe s
def PS (X : Cx) (st : Stmt) (t : TS) : Prop :=
  ∀ (pins : List (Addr × Obj)) (s : Shared) (σ : St) (H : Hp) (D : Ends), Inv X pins σ H s → t D σ H → wpAny (model X.prog X.w) X.A (exec st X.env) (SP X pins D) X.xe s
def PSs (X : Cx) (st : List Stmt) (t : TS) : Prop :=
  ∀ (pins : List (Addr × Obj)) (s : Shared) (σ : St) (H : Hp) (D : Ends), Inv X pins σ H s → t D σ H → wpAny (model X.prog X.w) X.A (execs st X.env) (SP X pins D) X.xe s
/-- weaken the end -/
theorem thn {α : Type} {t : Sem α} {Q Q' : α → Shared → Prop} {M : Model} {A : Around} {E : Value → Shared → Prop} {s : Shared} (h : wpAny M A t Q E s) (hQ : ∀ a s, Q a s → Q' a s) : wpAny M A t Q' E s := wpAny_mono h hQ fun _ _ x => x
end L2

namespace L2
open PySem PySem.Spec PyProof.Rows
section
variable {X : Cx}

/-- two expressions in a row -/
theorem bin {a b : Expr} {ta tb : TE} (ha : PE X a ta) (hb : PE X b tb) {pins : List (Addr × Obj)} {s : Shared} {σ : St} {H : Hp} {R : V → V → Hp → Prop} (I : Inv X pins σ H s) (h : ta σ H fun x H1 => tb σ H1 fun y H2 => R x y H2)
    {α : Type} {Q : α → Shared → Prop} {f : Value → Value → Sem α}
    (hf : ∀ v u s2 x y H2, Inv X pins σ H2 s2 → RelV x v → RelV y u → R x y H2 → wpAny (model X.prog X.w) X.A (f v u) Q X.xe s2) :
    wpAny (model X.prog X.w) X.A (eval a X.env) (fun v s₁ => wpAny (model X.prog X.w) X.A (eval b X.env) (fun u s₂ => wpAny (model X.prog X.w) X.A (f v u) Q X.xe s₂) X.xe s₁) X.xe s := by
  refine thn (ha pins s σ H _ I h) fun v s1 ⟨x, H1, I1, r1, q1⟩ => ?_
  refine thn (hb pins s1 σ H1 _ I1 q1) fun u s2 ⟨y, H2, I2, r2, q2⟩ => ?_
  exact hf v u s2 x y H2 I2 r1 r2 q2

/-! ### names and constants -/
def tVar (i : Nat) : TE := fun σ H Q => ∃ v, σ[i]? = some (some v) ∧ Q v H
def tC (v : V) : TE := fun _ H Q => Q v H
theorem pe_var {i : Nat} {x : Str} {pos : Pos} (hN : X.N[i]? = some x) (hv : Vis X.env.scope x) (hd : (x == ("__debug__" : Str)) = false := by decide) (hcd : (x == ("__classdict__" : Str)) = false := by decide) : PE X (.Name x pos) (tVar i) := by
  intro pins s σ H Q I h
  obtain ⟨v, e, h⟩ := h
  obtain ⟨m, hn, hl⟩ := I.loc
  obtain ⟨u, r, l⟩ := hl i x v hN e hv
  have fin : EP X pins σ Q u s := ⟨v, H, I, r, h⟩
  rcases l with ⟨hk, hm⟩ | ⟨hk, c, hc, hcell⟩
  · exact wpAny_Name (wpAny_loadName_local I.ok.kind hk hn hm fin) hd
  · rcases hk with hk | hk
    · exact wpAny_Name (wpAny_loadName_cell I.ok.kind hk hc hcell fin) hd
    · exact wpAny_Name (wpAny_loadName_free I.ok.kind hk hc hcell fin hcd) hd
theorem pe_int {i j pos} : PE X (.Constant (.int i) j pos) (tC (.int i)) := fun _ _ _ H _ I h => wpAny_Constant_int ⟨.int i, H, I.tok _, ⟨_, rfl⟩, h⟩
theorem pe_bl {b j pos} : PE X (.Constant (.bool b) j pos) (tC (.bl b)) := fun _ _ _ H _ I h => Constant_bool ⟨.bl b, H, I, rfl, h⟩
theorem pe_str {x j pos} : PE X (.Constant (.str x) j pos) (tC (.str x)) := fun _ _ _ H _ I h => Calls.Constant_str ⟨.str x, H, I.tok _, ⟨_, rfl⟩, h⟩

/-- a global name of the def -/
def Gl (X : Cx) (x : Str) : Prop := X.env.kindOf x = some .globalImplicit
theorem ld_glob {E : Value → Shared → Prop} {pins : List (Addr × Obj)} {s : Shared} {σ : St} {H : Hp} {x : Str} {u : Value} {pos : Pos} {Q : Value → Shared → Prop} (I : Inv X pins σ H s) (hg : Gl X x) (hm : X.mg x = some u) (h : Q u s)
    (hd : (x == ("__debug__" : Str)) = false := by decide) : wpAny (model X.prog X.w) X.A (eval (.Name x pos) X.env) Q E s :=
  Calls.Name_function_global I.ok.kind hg (Calls.loadGlobal_global (by rw [I.ok.glob]; exact I.mod.glob.keeps I.bk) hm h) hd
theorem ld_blt {E : Value → Shared → Prop} {pins : List (Addr × Obj)} {s : Shared} {σ : St} {H : Hp} {x : Str} {u : Value} {pos : Pos} {Q : Value → Shared → Prop} (I : Inv X pins σ H s) (hg : Gl X x) (hm : X.mg x = none) (hv : bootBuiltins x = some u) (h : Q u s)
    (hn : x ≠ "__name__" := by decide) (hd : (x == ("__debug__" : Str)) = false := by decide) : wpAny (model X.prog X.w) X.A (eval (.Name x pos) X.env) Q E s := by
  obtain ⟨mb, h1, h2⟩ := I.mod.blt
  exact Calls.Name_function_global I.ok.kind hg (Calls.loadGlobal_builtin (by rw [I.ok.glob]; exact I.mod.glob.keeps I.bk) hm (by rw [I.ok.blt]; exact h1.keeps I.bk) ((h2 x hn).trans hv) h) hd
/-- a module's constant, a class, a function, as a value -/
theorem pe_glob {x : Str} {v : V} {u : Value} {pos : Pos} (hg : Gl X x) (hm : X.mg x = some u) (r : RelV v u) (hd : (x == ("__debug__" : Str)) = false := by decide) : PE X (.Name x pos) (tC v) :=
  fun _ _ _ H _ I h => ld_glob I hg hm ⟨v, H, I, r, h⟩ hd
theorem pe_bltn {x : Str} {v : V} {u : Value} {pos : Pos} (hg : Gl X x) (hm : X.mg x = none) (hv : bootBuiltins x = some u) (r : RelV v u) (hn : x ≠ "__name__" := by decide) (hd : (x == ("__debug__" : Str)) = false := by decide) : PE X (.Name x pos) (tC v) :=
  fun _ _ _ H _ I h => ld_blt I hg hm hv ⟨v, H, I, r, h⟩ hn hd

/-! ### arithmetic -/
variable {a b : Expr} {ta tb : TE} {pos : Pos}

/-! ### comparisons -/
def PC (X : Cx) (op : CmpOp) (a b : Expr) (t : TE) : Prop :=
  ∀ (pins : List (Addr × Obj)) (s : Shared) (σ : St) (H : Hp) (Q : VK), Inv X pins σ H s → t σ H Q →
    wpAny (model X.prog X.w) X.A (eval a X.env) (fun v s₁ => wpAny (model X.prog X.w) X.A (eval b X.env) (fun u s₂ => wpAny (model X.prog X.w) X.A (compareOp op v u) (EP X pins σ Q) X.xe s₂) X.xe s₁) X.xe s
/-- a comparison as a value, as a test -/
def tB (t : TE) : TT := fun σ H Q => t σ H fun x H1 => ∃ c, x = .bl c ∧ Q c H1
theorem pt_cmp {op : CmpOp} {t : TE} (h : PC X op a b t) (h1 : behindInMarks op b = false := by first | exact nobehind _ (by decide) (by decide) | rfl) : PT X (.Compare a [op] [b] pos) (tB t) := by
  intro pins s σ H Q I hw
  refine wpAny_isTrue_Compare1 (thn (h pins s σ H _ I hw) fun v s1 h1 => thn h1 fun u s2 h2 => thn h2 fun c s3 ⟨x, H1, I1, r1, q1⟩ => ?_) h1
  obtain ⟨d, rfl, q⟩ := q1
  cases r1
  exact wpAny_truthy_bool ⟨H1, I1, q⟩
/-- an expression whose value is a bool, as a test -/
theorem pt_val {e : Expr} {t : TE} (h : PE X e t) (he : ∀ whole, isTrue e X.env whole = (do let v ← whole; standAt e.pos; holding [v] (truthy v)) := by intro _; rfl) : PT X e (tB t) := by
  intro pins s σ H Q I hw
  refine isTrue_plain (thn (h pins s σ H _ I hw) fun v s1 ⟨x, H1, I1, r1, q1⟩ => ?_) (he _)
  obtain ⟨d, rfl, q⟩ := q1
  cases r1
  exact wpAny_truthy_bool ⟨H1, I1, q⟩

/-! ### and, or, not -/
variable {tA tB' : TT} {rest : List Expr}
def tAnd (t u : TT) : TT := fun σ H Q => t σ H fun c H1 => if c = true then u σ H1 Q else Q false H1
def tOr (t u : TT) : TT := fun σ H Q => t σ H fun c H1 => if c = true then Q true H1 else u σ H1 Q
def tNot (t : TT) : TT := fun σ H Q => t σ H fun c H1 => Q (!c) H1
theorem pw_and1 (ha : PT X a tA) : PW X (.BoolOp .And [a] pos) tA := by
  intro wh pins s σ H Q I h
  refine isTrue_and (thn (ha pins s σ H Q I h) fun c s1 e => ?_)
  cases c with
  | true => exact isTrue_and_nil e
  | false => exact e
theorem pw_or1 (ha : PT X a tA) : PW X (.BoolOp .Or [a] pos) tA := by
  intro wh pins s σ H Q I h
  refine isTrue_or (thn (ha pins s σ H Q I h) fun c s1 e => ?_)
  cases c with
  | false => exact isTrue_or_nil e
  | true => exact e
theorem pw_and (ha : PT X a tA) (hb : PW X (.BoolOp .And (b :: rest) pos) tB') : PW X (.BoolOp .And (a :: b :: rest) pos) (tAnd tA tB') := by
  intro wh pins s σ H Q I h
  refine isTrue_and (thn (ha pins s σ H _ I h) fun c s1 ⟨H1, I1, q1⟩ => ?_)
  cases c with
  | true => exact hb wh pins s1 σ H1 Q I1 q1
  | false => exact ⟨H1, I1, q1⟩
theorem pw_or (ha : PT X a tA) (hb : PW X (.BoolOp .Or (b :: rest) pos) tB') : PW X (.BoolOp .Or (a :: b :: rest) pos) (tOr tA tB') := by
  intro wh pins s σ H Q I h
  refine isTrue_or (thn (ha pins s σ H _ I h) fun c s1 ⟨H1, I1, q1⟩ => ?_)
  cases c with
  | true => exact ⟨H1, I1, q1⟩
  | false => exact hb wh pins s1 σ H1 Q I1 q1
theorem pt_not (ha : PT X a tA) : PT X (.UnaryOp .Not a pos) (tNot tA) := by
  intro pins s σ H Q I h
  exact isTrue_not (ha pins s σ H (fun c H1 => Q (!c) H1) I h)
/-- .. as values (bools) -/
def tAndV (ta tb : TE) : TE := fun σ H Q => ta σ H fun x H1 => ∃ c, x = .bl c ∧ if c = true then tb σ H1 Q else Q (.bl false) H1
def tNotV (ta : TE) : TE := fun σ H Q => ta σ H fun x H1 => ∃ c, x = .bl c ∧ Q (.bl (!c)) H1
theorem pe_one {op} {t : TE} (h : PE X a t) : PE X (.BoolOp op [a] pos) t := fun pins s σ H Q I hw => BoolOp_one (h pins s σ H Q I hw)
theorem pe_and (ha : PE X a ta) (hb : PE X (.BoolOp .And (b :: rest) pos) tb) : PE X (.BoolOp .And (a :: b :: rest) pos) (tAndV ta tb) := by
  intro pins s σ H Q I h
  refine BoolOp_and (thn (ha pins s σ H _ I h) fun v s1 ⟨x, H1, I1, r1, q1⟩ => ?_)
  obtain ⟨c, rfl, q1⟩ := q1
  cases r1
  refine wpAny_truthy_bool ?_
  cases c with
  | true => exact hb pins s1 σ H1 Q I1 q1
  | false => exact ⟨.bl false, H1, I1, rfl, q1⟩
theorem pe_not (ha : PE X a ta) : PE X (.UnaryOp .Not a pos) (tNotV ta) := by
  intro pins s σ H Q I h
  refine UnaryOp_ (thn (ha pins s σ H _ I h) fun v s1 ⟨x, H1, I1, r1, q1⟩ => ?_)
  obtain ⟨c, rfl, q1⟩ := q1
  cases r1
  exact not_of (wpAny_truthy_bool ⟨.bl (!c), H1, I1, rfl, q1⟩)
end
end L2

namespace L2
open PySem PySem.Spec PyProof.Rows

/-! ### a list, a tuple that is read: tracked, frozen, or an object of the module -/
def SqL (K : PySem.W.Frag) (H : Hp) (a : Addr) (xs : List V) : Prop :=
  Rd H a (.lst xs) ∨
    ∃ (o : Obj) (its : Array Value) (n : Nat), K.lookup a = some o ∧ o.cls = .type "list" ∧ o.dict = none ∧ o.data = .seq its n ∧ its.size ≤ sizeLine ∧ Vals xs its.toList
def SqT (K : PySem.W.Frag) (H : Hp) (a : Addr) (xs : List V) : Prop :=
  Rd H a (.tup xs) ∨
    ∃ (o : Obj) (its : Array Value) (n : Nat), K.lookup a = some o ∧ o.cls = .type "tuple" ∧ o.data = .seq its n ∧ its.size ≤ sizeLine ∧ Vals xs its.toList
def absV : Value → Option V
  | .none => some .non
  | .bool b => some (.bl b)
  | .int i _ => some (.int i)
  | .str x _ => some (.str x)
  | .bytes b _ => some (.byt b)
  | .float b _ => some (.flt b)
  | .ref a => some (.ref a)
  | .type n => some (.ty n)
  | _ => none
theorem RelV.abs {x : V} {u : Value} (r : RelV x u) : absV u = some x := by
  cases x with
  | non => cases r; rfl
  | bl _ => cases r; rfl
  | int _ => obtain ⟨t, rfl⟩ := r; rfl
  | str _ => obtain ⟨t, rfl⟩ := r; rfl
  | byt _ => obtain ⟨t, rfl⟩ := r; rfl
  | flt _ => obtain ⟨t, rfl⟩ := r; rfl
  | ref _ => cases r; rfl
  | ty _ => cases r; rfl
theorem RelV.inj {x y : V} {u : Value} (r : RelV x u) (q : RelV y u) : x = y := Option.some.inj (r.abs.symm.trans q.abs)
theorem Vals.inj : ∀ {xs ys : List V} {us : List Value}, Vals xs us → Vals ys us → xs = ys
  | _, _, _, .nil, .nil => rfl
  | _, _, _, .cons r t, .cons r' t' => by rw [r.inj r', Vals.inj t t']
section
variable {X : Cx} {pins : List (Addr × Obj)} {σ : St} {H : Hp} {s : Shared} {a : Addr} {xs ys : List V}
theorem SqL.of {K : PySem.W.Frag} (h : H a = some (.lst xs)) : SqL K H a xs := .inl (.inl h)
theorem SqT.of {K : PySem.W.Frag} (h : H a = some (.tup xs)) : SqT K H a xs := .inl (.inl h)
theorem Inv.list (I : Inv X pins σ H s) (h : SqL X.K H a xs) : ∃ its : List Value, Vals xs its ∧ PlainL s.heap a its.toArray ∧ xs.length ≤ sizeLine := by
  rcases h with h | ⟨o, its, n, hk, hc, hd, hs, hz, r⟩
  · obtain ⟨z, its, n, r, e⟩ := h.ok I.hok
    exact ⟨its, r, ⟨_, n, e, rfl, rfl, rfl⟩, z⟩
  · refine ⟨its.toList, r, ⟨o, n, I.kIn a o hk, hc, hd, by simpa using hs⟩, ?_⟩
    have e := r.length
    simp only [Array.length_toList] at e
    omega
theorem Inv.tuple (I : Inv X pins σ H s) (h : SqT X.K H a xs) : ∃ its : List Value, Vals xs its ∧ IsTup s.heap a its.toArray ∧ xs.length ≤ sizeLine := by
  rcases h with h | ⟨o, its, n, hk, hc, hs, hz, r⟩
  · obtain ⟨z, its, r, p⟩ := h.ok I.hok
    exact ⟨its, r, p, z⟩
  · refine ⟨its.toList, r, ⟨o, I.kIn a o hk, hc, n, by simpa using hs⟩, ?_⟩
    have e := r.length
    simp only [Array.length_toList] at e
    omega
theorem Inv.list_inj (I : Inv X pins σ H s) (h : SqL X.K H a xs) (h' : SqL X.K H a ys) : xs = ys := by
  obtain ⟨its, r, ⟨o, n, e, _, _, d⟩, _⟩ := I.list h
  obtain ⟨its', r', ⟨o', n', e', _, _, d'⟩, _⟩ := I.list h'
  rw [e] at e'; cases e'
  rw [d] at d'
  injection d' with d1 _
  have : its = its' := by simpa using congrArg Array.toList d1
  subst this
  exact r.inj r'
end

/-! ### another wish about exceptions -/
abbrev Cx.wish (X : Cx) (E : Value → Shared → Prop) : Cx := { X with xe := E }
/-- no exception leaves -/
abbrev Cx.nox (X : Cx) : Cx := X.wish fun _ _ => False
theorem Cx.Ok.wish {X : Cx} (ok : X.Ok) (E : Value → Shared → Prop) : (X.wish E).Ok :=
  ⟨ok.mod, ok.kind, ok.glob, ok.blt, ok.above, ok.inj, ok.has, ok.cab, ok.hd, ok.frames, ok.stk, ok.exf, ok.bs, ok.bsz, ok.noex, ok.exfs, ok.funs, ok.frf⟩
theorem Cx.Ok.unwish {X : Cx} {E : Value → Shared → Prop} (ok : (X.wish E).Ok) : X.Ok :=
  ⟨ok.mod, ok.kind, ok.glob, ok.blt, ok.above, ok.inj, ok.has, ok.cab, ok.hd, ok.frames, ok.stk, ok.exf, ok.bs, ok.bsz, ok.noex, ok.exfs, ok.funs, ok.frf⟩
section
variable {X : Cx} {pins : List (Addr × Obj)} {σ : St} {H : Hp} {s : Shared} {E : Value → Shared → Prop}
theorem Inv.wish (I : Inv X pins σ H s) (E : Value → Shared → Prop) : Inv (X.wish E) pins σ H s := ⟨I.ok.wish E, I.os, I.bare, I.base, I.loc, I.cell, I.free, I.freeC, I.pin, I.hok, I.len⟩
theorem Inv.unwish (I : Inv (X.wish E) pins σ H s) : Inv X pins σ H s := ⟨I.ok.unwish, I.os, I.bare, I.base, I.loc, I.cell, I.free, I.freeC, I.pin, I.hok, I.len⟩
theorem SP.unwish {D : Ends} {f : Flow} {s' : Shared} (h : SP (X.wish E) pins D f s') : SP X pins D f s' := by
  cases f with
  | next => obtain ⟨σ', H', I, q⟩ := h; exact ⟨σ', H', I.unwish, q⟩
  | brk => obtain ⟨σ', H', I, q⟩ := h; exact ⟨σ', H', I.unwish, q⟩
  | cont => obtain ⟨σ', H', I, q⟩ := h; exact ⟨σ', H', I.unwish, q⟩
  | ret u => obtain ⟨v, σ', H', I, r, q⟩ := h; exact ⟨v, σ', H', I.unwish, r, q⟩
theorem PSs.nox {st : List Stmt} {t : TS} (h : PSs X.nox st t) : PSs X st t := fun pins s σ H D I hw =>
  wpAny_mono (h pins s σ H D (I.wish _) hw) (fun _ _ q => q.unwish) fun _ _ z => False.elim z
end

/-! ### blocks and small statements -/
section
variable {X : Cx} {st : Stmt} {rest : List Stmt} {t u : TS} {e : Expr} {te : TE} {pos : Pos}
def tNext : TS := fun D σ H => D.nx σ H
def tSeq (t u : TS) : TS := fun D σ H => t { D with nx := u D } σ H
theorem pss_nil : PSs X [] tNext := fun _ _ σ H _ I h => wpAny_execs_nil ⟨σ, H, I, h⟩
theorem pss_cons (h1 : PS X st t) (h2 : PSs X rest u) : PSs X (st :: rest) (tSeq t u) := by
  intro pins s σ H D I h
  refine wpAny_execs_cons (thn (h1 pins s σ H { D with nx := u D } I h) fun f s1 q => ?_)
  cases f with
  | next =>
    obtain ⟨σ', H', I', q⟩ := q
    exact h2 pins s1 σ' H' D I' q
  | ret v => exact q
  | brk => exact q
  | cont => exact q
theorem pss_one (h1 : PS X st t) : PSs X [st] t := by
  intro pins s σ H D I h
  refine wpAny_execs_cons (thn (h1 pins s σ H D I h) fun f s1 q => ?_)
  cases f with
  | next => exact wpAny_execs_nil q
  | ret v => exact q
  | brk => exact q
  | cont => exact q
/-- in a def's body nothing is shown -/
theorem Inv.quiet {pins : List (Addr × Obj)} {σ : St} {H : Hp} {s : Shared} (I : Inv X pins σ H s) : interactive X.env = false := by simp [interactive, I.ok.kind]
/-- an expression whose value is dropped -/
def tDrop (te : TE) : TS := fun D σ H => te σ H fun _ H1 => D.nx σ H1
theorem ps_expr (he : PE X e te) (hs : swapsWith e none pos.line X.env = pure false := by rfl) : PS X (.Expr e pos) (tDrop te) := by
  intro pins s σ H D I h
  exact wpAny_Expr_any (thn (he pins s σ H _ I h) fun v s1 ⟨x, H1, I1, r1, q1⟩ => ⟨σ, H1, I1, q1⟩) I.quiet hs
def tRet (te : TE) : TS := fun D σ H => te σ H D.rt
theorem ps_ret (he : PE X e te) : PS X (.Return (some e) pos) (tRet te) := by
  intro pins s σ H D I h
  exact wpAny_Return_some (thn (he pins s σ H _ I h) fun v s1 ⟨x, H1, I1, r1, q1⟩ => ⟨x, σ, H1, I1, r1, q1⟩)
def tIfS (c : TT) (t u : TS) : TS := fun D σ H => c σ H fun b H1 => if b = true then t D σ H1 else u D σ H1
theorem ps_if {c : Expr} {a b : List Stmt} {tc : TT} (hc : PT X c tc) (ha : PSs X a t) (hb : PSs X b u) : PS X (.If c a b pos) (tIfS tc t u) := by
  intro pins s σ H D I h
  refine wpAny_If (thn (hc pins s σ H _ I h) fun d s1 ⟨H1, I1, q1⟩ => ?_)
  cases d with
  | true => exact ha pins s1 σ H1 D I1 q1
  | false => exact hb pins s1 σ H1 D I1 q1
end

/-! ### targets -/
abbrev TG := V → St → Hp → (St → Hp → Prop) → Prop
def PG (X : Cx) (target : Expr) (t : TG) : Prop :=
  ∀ (pins : List (Addr × Obj)) (s : Shared) (σ : St) (H : Hp) (v : V) (u : Value) (Q : St → Hp → Prop), Inv X pins σ H s → RelV v u → t v σ H Q →
    wpAny (model X.prog X.w) X.A (assign target X.env u) (fun _ s' => ∃ σ' H', Inv X pins σ' H' s' ∧ Q σ' H') X.xe s
section
variable {X : Cx} {pos : Pos}
def gName (i : Nat) : TG := fun v σ H Q => Q (σ.set i (some v)) H
theorem pg_name {i : Nat} {x : Str} (hN : X.N.Nodup) (hi : X.N[i]? = some x) (hx : Loc X.env.scope x) (hf : X.fn x = true ∨ X.env.scope.names.lookup x = some .local := by first | exact .inl rfl | exact .inr rfl | assumption) : PG X (.Name x pos) (gName i) := by
  intro pins s σ H v u Q I r h
  exact wpAny_assign_Name (store_ok I hN hi hx r (fun s' I' => ⟨_, H, I', h⟩) hf)
/-- target = value -/
def tAsg (te : TE) (g : TG) : TS := fun D σ H => te σ H fun x H1 => g x σ H1 D.nx
/-- name = value -/
theorem ps_set {i : Nat} {x : Str} {e : Expr} {te : TE} {pos' : Pos} (hN : X.N.Nodup) (hi : X.N[i]? = some x) (hx : Loc X.env.scope x) (he : PE X e te) (hs : swapsWith e (some (.Name x pos')) pos.line X.env = pure false := by rfl) (hf : X.fn x = true ∨ X.env.scope.names.lookup x = some .local := by first | exact .inl rfl | exact .inr rfl | assumption) :
    PS X (.Assign [.Name x pos'] e pos) (tAsg te (gName i)) := by
  intro pins s σ H D I h
  refine wpAny_Assign_Name (thn (he pins s σ H _ I h) fun v s1 ⟨y, H1, I1, r1, q1⟩ => ?_) hs
  exact store_ok I1 hN hi hx r1 (fun s2 I2 => ⟨_, H1, I2, q1⟩) hf
end

/-! ### while -/
section
variable {X : Cx} {pos : Pos}
/-- the invariant W with its measure -/
def tWhile (c : TT) (tb : TS) : TS := fun D σ H => ∃ W : Nat → St → Hp → Prop, (∃ m, W m σ H) ∧ ∀ m σ H, W m σ H →
  c σ H fun b H1 => if b = true then ∃ N : St → Hp → Prop, (∀ σ' H', N σ' H' → ∃ m', m' < m ∧ W m' σ' H') ∧ tb { D with nx := N, ct := N, bk := D.nx } σ H1 else D.nx σ H1
theorem ps_while {c : Expr} {body : List Stmt} {tc : TT} {tb : TS} (hp : PassesOwn (model X.prog X.w) X.A X.env X.xe) (hc : PT X c tc) (hb : PSs X body tb) : PS X (.While c body [] pos) (tWhile tc tb) := by
  intro pins s σ H D I h
  obtain ⟨W, ⟨m0, w0⟩, turn⟩ := h
  refine wpAny_While (codeAny_whileLoop (fun n s' => ∃ σ' H', Inv X pins σ' H' s' ∧ W n σ' H') ?_ m0 ⟨σ, H, I, w0⟩)
  rintro n s1 ⟨σ1, H1, I1, w1⟩
  refine wpAny_passesOwn hp (thn (hc pins s1 σ1 H1 _ I1 (turn n σ1 H1 w1)) fun b s2 ⟨H2, I2, q2⟩ => ?_)
  cases b with
  | true =>
    obtain ⟨N, hN, q2⟩ := q2
    rw [if_pos rfl]
    refine wpAny_passesOwn hp (thn (hb pins s2 σ1 H2 _ I2 q2) fun f s3 q3 => ?_)
    cases f with
    | next =>
      obtain ⟨σ3, H3, I3, n3⟩ := q3
      obtain ⟨m', hm, w3⟩ := hN σ3 H3 n3
      exact ⟨m', hm, σ3, H3, I3, w3⟩
    | cont =>
      obtain ⟨σ3, H3, I3, n3⟩ := q3
      obtain ⟨m', hm, w3⟩ := hN σ3 H3 n3
      exact ⟨m', hm, σ3, H3, I3, w3⟩
    | brk => exact q3
    | ret v => exact q3
  | false =>
    rw [if_neg Bool.false_ne_true]
    exact wpAny_execs_nil ⟨σ1, H2, I2, q2⟩
end

/-! ### what a loop or a comprehension walks -/
/-- at turn i: it yields x (the heap may grow), or it stops -/
structure It where
  go : Nat → Hp → Prop
  yld : Nat → Hp → V → Hp → Prop
  stop : Nat → Hp → Prop
/-- the iterator's own objects may turn: they are not the frame's, not pinned, younger than the entry (or a comprehension's own) -/
def FpOk (X : Cx) (pins : List (Addr × Obj)) (H : Hp) (b : Addr) : Prop :=
  H b = none ∧ b ≠ X.env.locals ∧ b ∉ X.fs ∧ (b ∈ X.ex ∨ X.s₀.heap.objs.size ≤ b) ∧ (∀ x c, X.env.cells.lookup x = some c → c ≠ b) ∧ ∀ p ∈ X.pn ++ pins, p.1 ≠ b
theorem Inv.fpOk {X : Cx} {pins : List (Addr × Obj)} {σ : St} {H H' : Hp} {s : Shared} {b : Addr} (I : Inv X pins σ H s) (hb : s.heap.objs.size ≤ b) (hn : H' b = none) : FpOk X pins H' b := by
  refine ⟨hn, Nat.ne_of_gt (Nat.lt_of_lt_of_le I.lt hb), I.nofs hb, .inr (Nat.le_trans I.sz hb), fun x c e z => ?_, fun p hp z => ?_⟩
  · obtain ⟨v, q⟩ := I.cell x c e
    exact absurd (Nat.lt_of_lt_of_le q.lt (by rw [z]; exact hb)) (Nat.lt_irrefl _)
  · exact absurd (Nat.lt_of_lt_of_le (Heap.lt_size (I.pin p hp).1) (by rw [z]; exact hb)) (Nat.lt_irrefl _)
structure Turn (P : Program) (w : World) (K : PySem.W.Frag) (tg : Expr) (J : It) (fp : List Addr) (it : Addr) (tn : Nat → Heap → Prop) : Prop where
  mem : it ∈ fp
  obj : ∀ i h, tn i h → ∀ b ∈ fp, ∃ o, h.get? b = some o ∧ ∀ v, o.data ≠ .cell v
  keep : ∀ i h h', tn i h → (∀ b ∈ fp, ∀ o, h.get? b = some o → h'.get? b = some o) → tn i h'
  item : ∀ (X : Cx), X.prog = P → X.w = w → X.K = K → X.calm = true → ∀ (i : Nat) (pins : List (Addr × Obj)) (s : Shared) (σ : St) (H : Hp) (E : Value → Shared → Prop), Inv X pins σ H s → (∀ b ∈ fp, FpOk X pins H b) → tn i s.heap → J.go i H →
    wpAny (model P w) X.A (pyNext (.ref it)) (fun r s1 => ∃ u, r = some u ∧
      wpAny (model P w) X.A (letOwnedTupleGo tg (.ref it) u) (fun _ s2 => ∃ x H', Inv X pins σ H' s2 ∧ RelV x u ∧ J.yld i H x H' ∧ tn (i + 1) s2.heap ∧ ∀ b ∈ fp, H' b = none) E s1) E s
  done : ∀ (X : Cx), X.prog = P → X.w = w → X.K = K → X.calm = true → ∀ (i : Nat) (pins : List (Addr × Obj)) (s : Shared) (σ : St) (H : Hp) (E : Value → Shared → Prop), Inv X pins σ H s → (∀ b ∈ fp, FpOk X pins H b) → tn i s.heap → J.stop i H →
    wpAny (model P w) X.A (pyNext (.ref it)) (fun r s1 => r = none ∧ Inv X pins σ H s1) E s
  self : ∀ (A : Around) (i : Nat) (s : Shared) (Q : Value → Shared → Prop) (E : Value → Shared → Prop), tn i s.heap → Q (.ref it) s → wpAny (model P w) A (pyIter (.ref it)) Q E s
abbrev TI := St → Hp → (It → Hp → Prop) → Prop
/-- an iterator has come -/
def PIE (X : Cx) (pins : List (Addr × Obj)) (σ : St) (tg : Expr) (R : It → Hp → Prop) (itv : Value) (s2 : Shared) : Prop :=
  ∃ (it : Addr) (fp : List Addr) (tn : Nat → Heap → Prop) (J : It) (H' : Hp), itv = .ref it ∧ Inv X pins σ H' s2 ∧ Turn X.prog X.w X.K tg J fp it tn ∧ tn 0 s2.heap ∧ (∀ b ∈ fp, FpOk X pins H' b) ∧ R J H'
def PI (X : Cx) (tg iter : Expr) (wi : TI) : Prop :=
  ∀ (pins : List (Addr × Obj)) (s : Shared) (σ : St) (H : Hp) (R : It → Hp → Prop), Inv X pins σ H s → wi σ H R →
    wpAny (model X.prog X.w) X.A (eval iter X.env) (fun v s1 => wpAny (model X.prog X.w) X.A (pyIter v) (PIE X pins σ tg R) X.xe s1) X.xe s

/-- the step ahead of the store is nothing for an iterator that keeps no tuple -/
theorem go_of {M : Model} {A : Around} {E : Value → Shared → Prop} {s : Shared} {tg : Expr} {it : Addr} {u : Value} {o : Obj} {n : String} {vs : Array Value} {Q : Unit → Shared → Prop} (ho : s.heap.get? it = some o) (hc : o.cls = .type n) (hd : o.data = .fields vs)
    (hn : ["enumerate", "zip", "dict_itemiterator", "dict_reverseitemiterator", "odict_iterator", "itertools.zip_longest", "itertools.pairwise"].contains n = false) (hQ : Q () s) : wpAny M A (letOwnedTupleGo tg (.ref it) u) Q E s := by
  unfold letOwnedTupleGo
  cases tg <;> first
    | exact wpAny_pure hQ
    | (cases u <;> first
        | exact wpAny_pure hQ
        | (refine wpAny_bind (wpAny_load ho ?_)
           rw [hc, hd]
           show wpAny M A (if (["enumerate", "zip", "dict_itemiterator", "dict_reverseitemiterator", "odict_iterator", "itertools.zip_longest", "itertools.pairwise"].contains n && vs[0]? == some (rawInt _)) = true then _ else _) Q E s
           rw [if_neg (by intro h; rw [hn, Bool.false_and] at h; cases h)]
           exact wpAny_pure hQ))

/-- the list at a, as it stands at each turn (a loop may append to it) -/
def Itl (K : PySem.W.Frag) (a : Addr) : It :=
  ⟨fun i H => ∃ xs x, SqL K H a xs ∧ xs[i]? = some x, fun i H x H' => H' = H ∧ ∀ xs, SqL K H a xs → xs[i]? = some x, fun i H => ∃ xs, SqL K H a xs ∧ xs.length ≤ i⟩
/-- lo, lo + 1, .. (n of them) -/
def Itr (lo : Int) (n : Nat) : It := ⟨fun i _ => i < n, fun i H x H' => H' = H ∧ x = .int (lo + i), fun i _ => n ≤ i⟩
theorem turn_list {P : Program} {w : World} {K : PySem.W.Frag} {tg : Expr} (a it : Addr) : Turn P w K tg (Itl K a) [it] it (fun i h => h.IsListIter it a i) where
  mem := by simp
  obj := fun i h st b hb => by
    have e : b = it := by simpa using hb
    subst e
    obtain ⟨o, e, c, d⟩ := st
    exact ⟨o, e, fun v z => by rw [d] at z; cases z⟩
  keep := fun i h h' st k => st.at fun o e => k it (by simp) o e
  item := by
    intro X hP hw hK hc i pins s σ H E I hf st hg
    subst hP hw hK
    obtain ⟨xs, x, hq, hx⟩ := hg
    obtain ⟨its, rv, p, hz⟩ := I.list hq
    obtain ⟨u, hu, ru⟩ := rv.get hx
    obtain ⟨f0, f1, f2, f3, f4, f5⟩ := hf it (by simp)
    refine wpAny_pyNext_list_item st p.isList (x := u) (by simpa using hu) fun h' st' sb => ?_
    have I1 : Inv X pins σ H { s with heap := h' } := I.turned (t' := s.toks) (fun b o hb e => (sb.2 b hb).trans e) f0 f1 f3 f4 f5
    obtain ⟨o, e, c, d⟩ := id st'
    exact ⟨u, rfl, go_of (s := { s with heap := h' }) e c d (by decide) ⟨x, H, I1, ru, ⟨rfl, fun ys hy => by rw [I.list_inj hy hq]; exact hx⟩, st', fun b hb => (hf b hb).1⟩⟩
  done := by
    intro X hP hw hK hc i pins s σ H E I hf st hg
    subst hP hw hK
    obtain ⟨xs, hq, hx⟩ := hg
    obtain ⟨its, rv, p, hz⟩ := I.list hq
    obtain ⟨f0, f1, f2, f3, f4, f5⟩ := hf it (by simp)
    have hl := rv.length
    exact wpAny_pyNext_list_end (I.ok.hd hc) st p.isList (by simp; omega) fun h' eb => ⟨rfl, I.turned (t' := s.toks) (fun b o hb e => eb b o hb e) f0 f1 f3 f4 f5⟩
  self := fun _ _ _ _ _ st h => wpAny_pyIter_listiter st h
theorem turn_range {P : Program} {w : World} {K : PySem.W.Frag} {tg : Expr} (it : Addr) (lo : Int) (n : Nat) : Turn P w K tg (Itr lo n) [it] it (fun i h => IsRangeIter h it (lo + (i : Nat) * 1) ((n : Int) - (i : Nat)) 1) where
  mem := by simp
  obj := fun i h st b hb => by
    have e : b = it := by simpa using hb
    subst e
    exact ⟨_, st, fun v z => by
      have z' : Data.fields _ = Data.cell v := z
      cases z'⟩
  keep := fun i h h' st k => k it (by simp) _ st
  item := by
    intro X hP hw hK hc i pins s σ H E I hf st hg
    subst hP hw hK
    obtain ⟨f0, f1, f2, f3, f4, f5⟩ := hf it (by simp)
    have W := Walks.range (prog := X.prog) (w := X.w) (I.ok.hd hc) it lo 1 n
    refine W.item i s _ _ hg st fun v h' tk hv st' kk => ?_
    obtain ⟨t, rfl⟩ := hv
    have I1 : Inv X pins σ H { s with heap := h', toks := tk } := I.turned (fun b o hb e => kk b o (by simpa using hb) e) f0 f1 f3 f4 f5
    refine ⟨_, rfl, go_of (s := { s with heap := h', toks := tk }) (n := "range_iterator") st' rfl rfl (by decide) ⟨.int (lo + i), H, I1, ⟨t, ?_⟩, ⟨rfl, rfl⟩, st', fun b hb => (hf b hb).1⟩⟩
    rw [Int.mul_one]
  done := by
    intro X hP hw hK hc i pins s σ H E I hf st hg
    subst hP hw hK
    obtain ⟨f0, f1, f2, f3, f4, f5⟩ := hf it (by simp)
    exact wpAny_pyNext_range_end (I.ok.hd hc) st (by have : n ≤ i := hg; omega) fun h' eb => ⟨rfl, I.turned (t' := s.toks) (fun b o hb e => eb b o hb e) f0 f1 f3 f4 f5⟩
  self := fun _ _ _ _ _ st h => wpAny_pyIter_rangeiter st h
end L2

namespace L2
open PySem PySem.Spec PyProof.Rows
section
variable {X : Cx} {tg : Expr}
def iList (K : PySem.W.Frag) (tl : TE) : TI := fun σ H R => tl σ H fun x H1 => ∃ a, x = .ref a ∧ (∃ xs, SqL K H1 a xs) ∧ R (Itl K a) H1
theorem pi_list {l : Expr} {tl : TE} (hl : PE X l tl) : PI X tg l (iList X.K tl) := by
  intro pins s σ H R I h
  refine thn (hl pins s σ H _ I h) fun v s1 ⟨x, H1, I1, r1, q1⟩ => ?_
  obtain ⟨a, e, ⟨xs, hq⟩, q⟩ := q1
  subst e
  cases r1
  obtain ⟨its, rv, p, hz⟩ := I1.list hq
  refine wpAny_pyIter_list p.isList ?_
  refine ⟨s1.heap.objs.size, [s1.heap.objs.size], _, _, H1, rfl, I1.kept (t' := s1.toks) fun b o e => Heap.get?_push_of_some _ e, turn_list a _, ⟨_, Heap.get?_push_size _ rfl, rfl, rfl⟩, fun b hb => ?_, q⟩
  have e : b = s1.heap.objs.size := by simpa using hb
  subst e
  exact I1.fpOk (Nat.le_refl _) (I1.hok.fresh (Nat.le_refl _))
/-- a range object just made, walked -/
theorem range_it {pins : List (Addr × Obj)} {σ : St} {H : Hp} {s : Shared} {R : It → Hp → Prop} {E : Value → Shared → Prop} {lo hi : Int} {t u v : Tok} {tk : Nat} (I : Inv X pins σ H s) (h1 : -(2 ^ 62) ≤ lo) (h2 : lo < 2 ^ 62) (h3 : -(2 ^ 62) ≤ hi) (h4 : hi < 2 ^ 62)
    (q : R (Itr lo (hi - lo).toNat) H) : wpAny (model X.prog X.w) X.A (pyIter (.ref s.heap.objs.size)) (PIE X pins σ tg R) E { s with heap := s.heap.push { cls := .type "range", data := .fields #[.int lo t, .int hi u, .int 1 v] }, toks := tk } := by
  refine wpAny_pyIter_range (IsRange.new ..) (small_one h1 h2 h3 h4) ?_
  have I1 : Inv X pins σ H { s with heap := s.heap.push { cls := .type "range", data := .fields #[.int lo t, .int hi u, .int 1 v] }, toks := tk } := I.kept fun b o e => Heap.get?_push_of_some _ e
  refine ⟨(s.heap.push { cls := .type "range", data := .fields #[.int lo t, .int hi u, .int 1 v] }).objs.size, [(s.heap.push { cls := .type "range", data := .fields #[.int lo t, .int hi u, .int 1 v] }).objs.size], _, _, H, rfl,
    I1.kept (t' := tk) fun b o e => Heap.get?_push_of_some _ e, turn_range _ lo (hi - lo).toNat, ?_, fun b hb => ?_, q⟩
  · have e1 : lo + ((0 : Nat) : Int) * 1 = lo := by simp
    have e2 : (((hi - lo).toNat : Nat) : Int) - ((0 : Nat) : Int) = Builtin.Range.rangeSize lo hi 1 := by rw [rangeSize_one]; split <;> omega
    show IsRangeIter _ _ (lo + ((0 : Nat) : Int) * 1) ((((hi - lo).toNat : Nat) : Int) - ((0 : Nat) : Int)) 1
    rw [e1, e2]
    exact Heap.get?_push_size _ rfl
  · have e : b = (s.heap.push { cls := .type "range", data := .fields #[.int lo t, .int hi u, .int 1 v] }).objs.size := by simpa using hb
    subst e
    exact I1.fpOk (Nat.le_refl _) (I1.hok.fresh (Nat.le_refl _))
def iRng1 (ta : TA) : TI := fun σ H R => ta σ H fun vs H1 => ∃ j : Int, vs = [.int j] ∧ -(2 ^ 62) ≤ j ∧ j < 2 ^ 62 ∧ R (Itr 0 j.toNat) H1
theorem pi_range1 {a : Expr} {ta : TA} {p pos : Pos} (hg : Gl X "range") (hm : X.mg "range" = none) (ha : PA X [a] ta) (hs : starEach [a] X.env = [(false, eval a X.env)] := by rfl) : PI X tg (.Call (.Name "range" p) [a] [] pos) (iRng1 ta) := by
  intro pins s σ H R I h
  refine Call_ (ld_blt I hg hm boot_range (PyProof.Rows.callWith_type1 (thn (ha pos pins s σ H _ I h) fun us s1 ⟨vs, H1, I1, r1, q1⟩ => ?_) hs rfl))
  obtain ⟨j, e, q1, q2, q⟩ := q1
  subst e
  cases r1 with
  | cons r rr =>
    cases rr
    obtain ⟨t, rfl⟩ := r
    exact call_range_1 (range_it I1 (by omega) (by omega) q1 q2 (by simpa using q))

/-! ### for -/
/-- W: the invariant by the turn and a measure; N: what the body is to reach -/
def tFor (wi : TI) (g : TG) (tb : TS) : TS := fun D σ H => wi σ H fun J H1 => ∃ W : Nat → Nat → St → Hp → Prop, (∃ m, W 0 m σ H1) ∧ ∀ i m σ H, W i m σ H →
  (J.stop i H ∧ D.nx σ H) ∨ (J.go i H ∧ ∃ N : St → Hp → Prop, (∀ σ' H', N σ' H' → ∃ m', m' < m ∧ W (i + 1) m' σ' H') ∧ ∀ x H', J.yld i H x H' → g x σ H' fun σ2 H2 => tb { D with nx := N, ct := N, bk := D.nx } σ2 H2)
/-- the records at fp as they stand -/
def pinsAt (fp : List Addr) (h : Heap) : List (Addr × Obj) := fp.filterMap fun b => (h.get? b).map fun o => (b, o)
theorem mem_pinsAt {fp : List Addr} {h : Heap} {b : Addr} {o : Obj} (hb : b ∈ fp) (e : h.get? b = some o) : (b, o) ∈ pinsAt fp h := List.mem_filterMap.mpr ⟨b, hb, by rw [e]; rfl⟩
theorem of_pinsAt {fp : List Addr} {h : Heap} {p : Addr × Obj} (hp : p ∈ pinsAt fp h) : p.1 ∈ fp ∧ h.get? p.1 = some p.2 := by
  obtain ⟨b, hb, e⟩ := List.mem_filterMap.mp hp
  cases q : h.get? b with
  | none => rw [q] at e; cases e
  | some o =>
    rw [q] at e
    have e' : (b, o) = p := Option.some.inj e
    subst e'
    exact ⟨hb, q⟩
theorem Inv.pinned {pins : List (Addr × Obj)} {σ : St} {H : Hp} {s : Shared} {fp : List Addr} (I : Inv X pins σ H s) (hf : ∀ b ∈ fp, FpOk X pins H b) (ho : ∀ b ∈ fp, ∃ o, s.heap.get? b = some o ∧ ∀ v, o.data ≠ .cell v) : Inv X (pins ++ pinsAt fp s.heap) σ H s :=
  I.pins_of fun p hp => (List.mem_append.mp hp).elim (fun z => I.pin p (List.mem_append_right _ z)) fun z => by
    obtain ⟨hb, e⟩ := of_pinsAt z
    obtain ⟨f0, f1, f2, _⟩ := hf p.1 hb
    obtain ⟨o, e', d⟩ := ho p.1 hb
    rw [e] at e'; cases e'
    exact ⟨e, f0, f1, f2, d⟩
theorem Inv.unpinned {pins pl : List (Addr × Obj)} {σ : St} {H : Hp} {s : Shared} (I : Inv X (pins ++ pl) σ H s) : Inv X pins σ H s := I.pins_of fun p hp => I.pin p (List.mem_append_right _ (List.mem_append_left _ hp))
theorem ps_for {iter : Expr} {body : List Stmt} {wi : TI} {g : TG} {tb : TS} {pos : Pos} (hp : PassesOwn (model X.prog X.w) X.A X.env X.xe) (hc : X.calm = true) (hi : PI X tg iter wi) (hg : PG X tg g) (hb : PSs X body tb)
    (hs : ∀ x, foldedSetIterable iter X.env x = pure x := by intro _; rfl) : PS X (.For tg iter body [] pos) (tFor wi g tb) := by
  intro pins s σ H D I h
  refine wpAny_For (thn (hi pins s σ H _ I h) fun v s1 h1 => thn h1 fun itv s2 h2 => ?_) hs
  obtain ⟨it, fp, tn, J, H2, e, I2, T, st2, f2, W, ⟨m0, w0⟩, turn⟩ := h2
  subst e
  -- what stays true of the iterator's objects through the loop
  have stat : ∀ {H' : Hp}, (∀ b ∈ fp, H' b = none) → ∀ b ∈ fp, FpOk X pins H' b := fun hn b hb => ⟨hn b hb, (f2 b hb).2⟩
  refine codeAny_forLoop_any (fun n s' => ∃ i σ' H', Inv X pins σ' H' s' ∧ tn i s'.heap ∧ (∀ b ∈ fp, H' b = none) ∧ W i n σ' H') ?_ m0 ⟨0, σ, H2, I2, st2, fun b hb => (f2 b hb).1, w0⟩
  rintro n s3 ⟨i, σ3, H3, I3, st3, fr3, w3⟩
  rcases turn i n σ3 H3 w3 with ⟨stop, qn⟩ | ⟨go, N, hN, step⟩
  · refine wpAny_passesOwn hp (thn (T.done X rfl rfl rfl hc i pins s3 σ3 H3 X.xe I3 (stat fr3) st3 stop) fun r s4 ⟨hr, I4⟩ => ?_)
    subst hr
    exact wpAny_execs_nil ⟨σ3, H3, I4, qn⟩
  · refine wpAny_passesOwn hp (thn (T.item X rfl rfl rfl hc i pins s3 σ3 H3 X.xe I3 (stat fr3) st3 go) fun r s4 ⟨u, hr, h4⟩ => ?_)
    subst hr
    refine wpAny_passesOwn hp (thn h4 fun _ s5 ⟨x, H5, I5, r5, y5, st5, fr5⟩ => ?_)
    have I5' := I5.pinned (stat fr5) (T.obj _ _ st5)
    refine wpAny_passesOwn hp (thn (hg _ s5 σ3 H5 x u _ I5' r5 (step x H5 y5)) fun _ s6 ⟨σ6, H6, I6, q6⟩ => ?_)
    refine wpAny_passesOwn hp (thn (hb _ s6 σ6 H6 _ I6 q6) fun f s7 q7 => ?_)
    have again : ∀ {σ7 : St} {H7 : Hp}, Inv X (pins ++ pinsAt fp s5.heap) σ7 H7 s7 → N σ7 H7 → ∃ m, m < n ∧ ∃ i σ' H', Inv X pins σ' H' s7 ∧ tn i s7.heap ∧ (∀ b ∈ fp, H' b = none) ∧ W i m σ' H' := fun {σ7 H7} I7 n7 => by
      obtain ⟨m', hm, w7⟩ := hN σ7 H7 n7
      refine ⟨m', hm, i + 1, σ7, H7, I7.unpinned, T.keep _ _ _ st5 fun b hb o e => (I7.pin (b, o) (List.mem_append_right _ (List.mem_append_right _ (mem_pinsAt hb e)))).1, fun b hb => ?_, w7⟩
      obtain ⟨o, e, d⟩ := T.obj _ _ st5 b hb
      exact (I7.pin (b, o) (List.mem_append_right _ (List.mem_append_right _ (mem_pinsAt hb e)))).2.1
    cases f with
    | next => obtain ⟨σ7, H7, I7, n7⟩ := q7; exact again I7 n7
    | cont => obtain ⟨σ7, H7, I7, n7⟩ := q7; exact again I7 n7
    | brk => obtain ⟨σ7, H7, I7, q7⟩ := q7; exact ⟨σ7, H7, I7.unpinned, q7⟩
    | ret v => obtain ⟨x7, σ7, H7, I7, r7, q7⟩ := q7; exact ⟨x7, σ7, H7, I7.unpinned, r7, q7⟩
end

/-! ### the forms one uses -/
theorem for_range {lo : Int} {n : Nat} {g : TG} {tb : TS} {D : Ends} {σ : St} {H : Hp} (Pv : Nat → St → Hp → Prop) (h0 : Pv 0 σ H)
    (hs : ∀ i σ H, i < n → Pv i σ H → g (.int (lo + i)) σ H fun σ2 H2 => tb { D with nx := Pv (i + 1), ct := Pv (i + 1), bk := D.nx } σ2 H2) (hd : ∀ σ H, Pv n σ H → D.nx σ H) :
    ∃ W : Nat → Nat → St → Hp → Prop, (∃ m, W 0 m σ H) ∧ ∀ i m σ H, W i m σ H →
      ((Itr lo n).stop i H ∧ D.nx σ H) ∨ ((Itr lo n).go i H ∧ ∃ N : St → Hp → Prop, (∀ σ' H', N σ' H' → ∃ m', m' < m ∧ W (i + 1) m' σ' H') ∧ ∀ x H', (Itr lo n).yld i H x H' → g x σ H' fun σ2 H2 => tb { D with nx := N, ct := N, bk := D.nx } σ2 H2) := by
  refine ⟨fun i m σ H => m = n - i ∧ i ≤ n ∧ Pv i σ H, ⟨n, by simp, Nat.zero_le _, h0⟩, ?_⟩
  rintro i m σ H ⟨rfl, hi, p⟩
  by_cases hlt : i < n
  · refine .inr ⟨hlt, Pv (i + 1), fun σ' H' p' => ⟨n - (i + 1), by omega, rfl, hlt, p'⟩, fun x H' y => ?_⟩
    obtain ⟨e, y⟩ := y
    subst e y
    exact hs i σ _ hlt p
  · have e : i = n := by omega
    subst e
    exact .inl ⟨Nat.le_refl _, hd σ H p⟩
end L2

namespace L2
open PySem PySem.Spec PyProof.Rows

abbrev R2 := V → V → Hp → VK → Prop
/-- a two-place operation on values: f is binaryOp op, inplaceOp op or compareOp op -/
def OpR (X : Cx) (f : Value → Value → Sem Value) (r : R2) : Prop :=
  ∀ (pins : List (Addr × Obj)) (s : Shared) (σ : St) (H : Hp) (x y : V) (v u : Value) (Q : VK), Inv X pins σ H s → RelV x v → RelV y u → r x y H Q →
    wpAny (model X.prog X.w) X.A (f v u) (EP X pins σ Q) X.xe s
/-- a call of a value that is known (a builtin, a type) with values -/
def CallR (X : Cx) (f : Value) (r : List V → Hp → VK → Prop) : Prop :=
  ∀ (pins : List (Addr × Obj)) (s : Shared) (σ : St) (H : Hp) (xs : List V) (us : List Value) (Q : VK), Inv X pins σ H s → Vals xs us → r xs H Q →
    wpAny (model X.prog X.w) X.A (call f us) (EP X pins σ Q) X.xe s
/-- a value's truth -/
def TruR (X : Cx) (r : V → Hp → (Bool → Hp → Prop) → Prop) : Prop :=
  ∀ (pins : List (Addr × Obj)) (s : Shared) (σ : St) (H : Hp) (x : V) (v : Value) (Q : Bool → Hp → Prop), Inv X pins σ H s → RelV x v → r x H Q →
    wpAny (model X.prog X.w) X.A (truthy v) (TP X pins σ Q) X.xe s

def tOp (r : R2) (ta tb : TE) : TE := fun σ H Q => ta σ H fun x H1 => tb σ H1 fun y H2 => r x y H2 Q
/-- ints in, under C, and a value out -/
def rI (C : Int → Int → Prop) (g : Int → Int → V) : R2 := fun x y H Q => ∃ i j, x = .int i ∧ y = .int j ∧ C i j ∧ Q (g i j) H
def rI0 (g : Int → Int → V) : R2 := fun x y H Q => ∃ i j, x = .int i ∧ y = .int j ∧ Q (g i j) H

section
variable {X : Cx} {a b c : Expr} {ta tb tc : TE} {pos : Pos}

theorem binT (ha : PE X a ta) (hb : PE X b tb) {pins : List (Addr × Obj)} {s : Shared} {σ : St} {H : Hp} {R : V → V → Hp → Prop} (I : Inv X pins σ H s)
    (h : ta σ H fun x H1 => tb σ H1 fun y H2 => R x y H2) {Q : Value → Shared → Prop} {f : Value → Value → Sem Value}
    (hf : ∀ v u s2 x y H2, Inv X pins σ H2 s2 → RelV x v → RelV y u → R x y H2 → wpAny (model X.prog X.w) X.A (f v u) Q X.xe s2) :
    wpAny (model X.prog X.w) X.A (eval a X.env) (fun v s₁ => wpAny (model X.prog X.w) X.A (eval b X.env) (fun u s₂ => wpAny (model X.prog X.w) X.A (f v u) Q X.xe s₂) X.xe s₁) X.xe s := by
  refine thn (ha pins s σ H _ I h) fun v s1 ⟨x, H1, I1, r1, q1⟩ => ?_
  refine thn (hb pins s1 σ H1 _ I1 q1) fun u s2 ⟨y, H2, I2, r2, q2⟩ => ?_
  exact hf v u s2 x y H2 I2 r1 r2 q2

theorem pe_op {op : Operator} {r : R2} (ho : OpR X (binaryOp op) r) (ha : PE X a ta) (hb : PE X b tb) : PE X (.BinOp a op b pos) (tOp r ta tb) := by
  intro pins s σ H Q I h
  exact wpAny_BinOp (binT ha hb I h fun v u s2 x y H2 I2 rx ry q => ho pins s2 σ H2 x y v u Q I2 rx ry q)

/-! ### ints -/
theorem opI {f : Value → Value → Sem Value} {C : Int → Int → Prop} {g : Int → Int → Int}
    (rule : ∀ (i j : Int) (t u : Tok) (s : Shared) (Q : Value → Shared → Prop) (E : Value → Shared → Prop), C i j → Q (.int (g i j) s.toks) { s with toks := s.toks + 1 } → wpAny (model X.prog X.w) X.A (f (.int i t) (.int j u)) Q E s) :
    OpR X f (rI C fun i j => .int (g i j)) := by
  intro pins s σ H x y v u Q I rx ry h
  obtain ⟨i, j, rfl, rfl, hc, q⟩ := h
  obtain ⟨t, rfl⟩ := rx
  obtain ⟨t', rfl⟩ := ry
  exact rule i j t t' s _ _ hc ⟨.int (g i j), H, I.tok _, ⟨_, rfl⟩, q⟩
theorem opI0 {f : Value → Value → Sem Value} {g : Int → Int → Int}
    (rule : ∀ (i j : Int) (t u : Tok) (s : Shared) (Q : Value → Shared → Prop) (E : Value → Shared → Prop), Q (.int (g i j) s.toks) { s with toks := s.toks + 1 } → wpAny (model X.prog X.w) X.A (f (.int i t) (.int j u)) Q E s) :
    OpR X f (rI0 fun i j => .int (g i j)) := by
  intro pins s σ H x y v u Q I rx ry h
  obtain ⟨i, j, rfl, rfl, q⟩ := h
  obtain ⟨t, rfl⟩ := rx
  obtain ⟨t', rfl⟩ := ry
  exact rule i j t t' s _ _ ⟨.int (g i j), H, I.tok _, ⟨_, rfl⟩, q⟩
theorem opB0 {f : Value → Value → Sem Value} {g : Int → Int → Bool}
    (rule : ∀ (i j : Int) (t u : Tok) (s : Shared) (Q : Value → Shared → Prop) (E : Value → Shared → Prop), Q (.bool (g i j)) s → wpAny (model X.prog X.w) X.A (f (.int i t) (.int j u)) Q E s) :
    OpR X f (rI0 fun i j => .bl (g i j)) := by
  intro pins s σ H x y v u Q I rx ry h
  obtain ⟨i, j, rfl, rfl, q⟩ := h
  obtain ⟨t, rfl⟩ := rx
  obtain ⟨t', rfl⟩ := ry
  exact rule i j t t' s _ _ ⟨.bl (g i j), H, I, rfl, q⟩

def CDiv (i j : Int) : Prop := 0 < j ∧ j < 1073741824
def CPow (i j : Int) : Prop := 0 ≤ j ∧ j ≤ 1000000 ∧ i.natAbs < 2 ^ 64

theorem op_add : OpR X (binaryOp .Add) (rI0 fun i j => .int (i + j)) := opI0 fun _ _ _ _ _ _ _ q => add_int q
theorem op_sub : OpR X (binaryOp .Sub) (rI0 fun i j => .int (i - j)) := opI0 fun _ _ _ _ _ _ _ q => sub_int q
/-- // by a positive divisor -/
theorem op_fdiv : OpR X (binaryOp .FloorDiv) (rI CDiv fun i j => .int (i / j)) := opI fun i j _ _ _ _ _ hc q => by
  have h1 : (0 : Int) < j := hc.1
  have h2 : j < 1073741824 := hc.2
  exact floordiv_int (by omega) (by rw [Int.fdiv_eq_ediv_of_nonneg i (by omega)]; exact q) (.inl (PyProof.noPylong_small (by omega)))
/-- % by a positive divisor of any size -/
theorem op_mod : OpR X (binaryOp .Mod) (rI (fun _ j => 0 < j) fun i j => .int (i % j)) := opI fun i j _ _ _ _ _ hc q => by
  have h1 : (0 : Int) < j := hc
  exact mod_int' (by omega) (by rw [Int.fmod_eq_emod_of_nonneg i (by omega)]; exact q)
theorem op_pow : OpR X (binaryOp .Pow) (rI CPow fun i j => .int (i ^ j.toNat)) := opI fun _ _ _ _ _ _ _ hc q => pow_int_small hc.1 hc.2.1 hc.2.2 q



/-! ### bools among ints: n += (a < b) -/
end

/-! ### comparisons -/
/-- the scalars that == tells apart as data does -/
def scal : V → V → Bool
  | .non, .non => true | .non, .int _ => true | .int _, .non => true | .non, .bl _ => true | .bl _, .non => true | .non, .str _ => true | .str _, .non => true
  | .int _, .int _ => true | .bl _, .bl _ => true | .str _, .str _ => true | .byt _, .byt _ => true
  | .int _, .str _ => true | .str _, .int _ => true | .bl _, .str _ => true | .str _, .bl _ => true
  | _, _ => false
def rEq : R2 := fun x y H Q => scal x y = true ∧ Q (.bl (decide (x = y))) H
def rNe : R2 := fun x y H Q => scal x y = true ∧ Q (.bl (!decide (x = y))) H

theorem dec_int {i j : Int} : decide (V.int i = V.int j) = (i == j) := by
  rw [Bool.eq_iff_iff]
  simp
theorem dec_bl {i j : Bool} : decide (V.bl i = V.bl j) = (i == j) := by
  rw [Bool.eq_iff_iff]
  simp
theorem dec_str {i j : Str} : decide (V.str i = V.str j) = (i == j) := by
  rw [Bool.eq_iff_iff]
  simp
theorem dec_byt {i j : Array UInt8} : decide (V.byt i = V.byt j) = (i.toList == j.toList) := by
  rw [Bool.eq_iff_iff]
  cases i
  cases j
  simp

section
variable {X : Cx} {a b c : Expr} {ta tb tc : TE} {pos : Pos}
theorem fin_bl {pins : List (Addr × Obj)} {σ : St} {H : Hp} {s : Shared} {Q : VK} {k k' : Bool} (I : Inv X pins σ H s) (q : Q (.bl k) H) (e : k = k') : EP X pins σ Q (.bool k') s := by
  subst e
  exact ⟨.bl k, H, I, rfl, q⟩
theorem op_eq : OpR X (compareOp .Eq) rEq := by
  intro pins s σ H x y v u Q I rx ry h
  obtain ⟨hs, q⟩ := h
  cases x with
  | non =>
    cases rx
    cases y with
    | non => cases ry; exact PySem.EqNone.eq_none_none (fin_bl I q (by simp))
    | bl j => cases ry; exact PySem.EqNone.eq_none_bool (fin_bl I q (by simp))
    | int j => obtain ⟨t', rfl⟩ := ry; exact PySem.EqNone.eq_none_int (fin_bl I q (by simp))
    | str j => obtain ⟨t', rfl⟩ := ry; exact PySem.EqNone.eq_none_str (fin_bl I q (by simp))
    | _ => exact absurd (show false = true from hs) Bool.false_ne_true
  | bl i =>
    cases rx
    cases y with
    | non => cases ry; exact PySem.EqNone.eq_bool_none (fin_bl I q (by simp))
    | bl j => cases ry; exact eq_bool (fin_bl I q dec_bl)
    | str j => obtain ⟨t', rfl⟩ := ry; exact PySem.EqMixed.eq_bool_str (fin_bl I q (by simp))
    | _ => exact absurd (show false = true from hs) Bool.false_ne_true
  | int i =>
    obtain ⟨t, rfl⟩ := rx
    cases y with
    | non => cases ry; exact PySem.EqNone.eq_int_none (fin_bl I q (by simp))
    | int j => obtain ⟨t', rfl⟩ := ry; exact eq_int (fin_bl I q dec_int)
    | str j => obtain ⟨t', rfl⟩ := ry; exact PySem.EqMixed.eq_int_str (fin_bl I q (by simp))
    | _ => exact absurd (show false = true from hs) Bool.false_ne_true
  | str i =>
    obtain ⟨t, rfl⟩ := rx
    cases y with
    | non => cases ry; exact PySem.EqNone.eq_str_none (fin_bl I q (by simp))
    | bl j => cases ry; exact PySem.EqMixed.eq_str_bool (fin_bl I q (by simp))
    | int j => obtain ⟨t', rfl⟩ := ry; exact PySem.EqMixed.eq_str_int (fin_bl I q (by simp))
    | str j => obtain ⟨t', rfl⟩ := ry; exact eq_str (fin_bl I q dec_str)
    | _ => exact absurd (show false = true from hs) Bool.false_ne_true
  | byt i =>
    obtain ⟨t, rfl⟩ := rx
    cases y with
    | byt j => obtain ⟨t', rfl⟩ := ry; exact PySem.W.eq_bytes (fin_bl I q dec_byt)
    | _ => exact absurd (show false = true from hs) Bool.false_ne_true
  | _ => cases y <;> exact absurd (show false = true from hs) Bool.false_ne_true
theorem op_ne : OpR X (compareOp .NotEq) rNe := by
  intro pins s σ H x y v u Q I rx ry h
  obtain ⟨hs, q⟩ := h
  cases x with
  | non =>
    cases rx
    cases y with
    | non => cases ry; exact PySem.EqNone.ne_none_none (fin_bl I q (by simp))
    | bl j => cases ry; exact PySem.EqNone.ne_none_bool (fin_bl I q (by simp))
    | int j => obtain ⟨t', rfl⟩ := ry; exact PySem.EqNone.ne_none_int (fin_bl I q (by simp))
    | str j => obtain ⟨t', rfl⟩ := ry; exact PySem.EqNone.ne_none_str (fin_bl I q (by simp))
    | _ => exact absurd (show false = true from hs) Bool.false_ne_true
  | bl i =>
    cases rx
    cases y with
    | non => cases ry; exact PySem.EqNone.ne_bool_none (fin_bl I q (by simp))
    | bl j => cases ry; exact ne_bool (fin_bl I q (congrArg not dec_bl))
    | str j => obtain ⟨t', rfl⟩ := ry; exact PySem.EqMixed.ne_bool_str (fin_bl I q (by simp))
    | _ => exact absurd (show false = true from hs) Bool.false_ne_true
  | int i =>
    obtain ⟨t, rfl⟩ := rx
    cases y with
    | non => cases ry; exact PySem.EqNone.ne_int_none (fin_bl I q (by simp))
    | int j => obtain ⟨t', rfl⟩ := ry; exact ne_int (fin_bl I q (congrArg not dec_int))
    | str j => obtain ⟨t', rfl⟩ := ry; exact PySem.EqMixed.ne_int_str (fin_bl I q (by simp))
    | _ => exact absurd (show false = true from hs) Bool.false_ne_true
  | str i =>
    obtain ⟨t, rfl⟩ := rx
    cases y with
    | non => cases ry; exact PySem.EqNone.ne_str_none (fin_bl I q (by simp))
    | bl j => cases ry; exact PySem.EqMixed.ne_str_bool (fin_bl I q (by simp))
    | int j => obtain ⟨t', rfl⟩ := ry; exact PySem.EqMixed.ne_str_int (fin_bl I q (by simp))
    | str j => obtain ⟨t', rfl⟩ := ry; exact ne_str (fin_bl I q (congrArg not dec_str))
    | _ => exact absurd (show false = true from hs) Bool.false_ne_true
  | byt i =>
    obtain ⟨t, rfl⟩ := rx
    cases y with
    | byt j => obtain ⟨t', rfl⟩ := ry; exact PySem.W.ne_bytes (fin_bl I q (congrArg not dec_byt))
    | _ => exact absurd (show false = true from hs) Bool.false_ne_true
  | _ => cases y <;> exact absurd (show false = true from hs) Bool.false_ne_true

theorem op_lt : OpR X (compareOp .Lt) (rI0 fun i j => .bl (decide (i < j))) := opB0 fun _ _ _ _ _ _ _ q => lt_int q
theorem op_gt : OpR X (compareOp .Gt) (rI0 fun i j => .bl (decide (j < i))) := opB0 fun _ _ _ _ _ _ _ q => gt_int q




theorem nomark (b : Expr) {op : CmpOp} (h : op ≠ .In := by decide) (h2 : op ≠ .NotIn := by decide) : behindInMarks op b = false := by
  have e1 : (op == CmpOp.In) = false := by cases op <;> first | rfl | exact absurd rfl h
  have e2 : (op == CmpOp.NotIn) = false := by cases op <;> first | rfl | exact absurd rfl h2
  cases b <;> simp [behindInMarks, e1, e2]
/-- a comparison as a value; hm: nomark b, or (for in, not in) by with_unfolding_all rfl -/
theorem pe_cmpR {op : CmpOp} {r : R2} (ho : OpR X (compareOp op) r) (ha : PE X a ta) (hb : PE X b tb) (hm : behindInMarks op b = false) : PE X (.Compare a [op] [b] pos) (tOp r ta tb) := by
  intro pins s σ H Q I h
  exact wpAny_Compare1 (binT ha hb I h fun v u s2 x y H2 I2 rx ry q => ho pins s2 σ H2 x y v u Q I2 rx ry q) hm
/-- a reading of a value as a test -/
def tTest (t : TE) : TT := fun σ H Q => t σ H fun x H' => ∃ k, x = .bl k ∧ Q k H'
theorem pt_cmpR {op : CmpOp} {r : R2} (ho : OpR X (compareOp op) r) (ha : PE X a ta) (hb : PE X b tb) (hm : behindInMarks op b = false) : PT X (.Compare a [op] [b] pos) (tTest (tOp r ta tb)) := by
  intro pins s σ H Q I h
  refine wpAny_isTrue_Compare1 (thn (ha pins s σ H _ I h) fun v s1 ⟨x, H1, I1, r1, q1⟩ => thn (hb pins s1 σ H1 _ I1 q1) fun u s2 ⟨y, H2, I2, r2, q2⟩ =>
    thn (ho pins s2 σ H2 x y v u _ I2 r1 r2 q2) fun c s3 ⟨z, H3, I3, r3, k, e, q3⟩ => ?_) hm
  subst e
  cases r3
  exact wpAny_truthy_bool ⟨H3, I3, q3⟩
/-- a op1 b op2 c -/
def tChain (r r' : R2) (ta tb tc : TE) : TE := fun σ H Q => ta σ H fun x H1 => tb σ H1 fun y H2 => r x y H2 fun z H3 => ∃ k, z = .bl k ∧
  (if k = true then tc σ H3 fun w' H4 => r' y w' H4 Q else Q (.bl false) H3)
theorem pt_chain {op op' : CmpOp} {r r' : R2} (ho : OpR X (compareOp op) r) (ho' : OpR X (compareOp op') r') (ha : PE X a ta) (hb : PE X b tb) (hc : PE X c tc)
    (hm : lastMarks [op, op'] [b, c] = false := by with_unfolding_all rfl) : PT X (.Compare a [op, op'] [b, c] pos) (tTest (tChain r r' ta tb tc)) := by
  intro pins s σ H Q I h
  refine isTrue_chain (thn (ha pins s σ H _ I h) fun v s1 ⟨x, H1, I1, r1, q1⟩ => test_link (thn (hb pins s1 σ H1 _ I1 q1) fun u s2 ⟨y, H2, I2, r2, q2⟩ =>
    thn (ho pins s2 σ H2 x y v u _ I2 r1 r2 q2) fun d s3 ⟨z, H3, I3, r3, k, e, q3⟩ => ?_)) hm
  subst e
  cases r3
  refine wpAny_truthy_bool ?_
  cases k with
  | false =>
    obtain ⟨k', e', q'⟩ := q3
    cases e'
    exact ite_ff ⟨H3, I3, q'⟩
  | true =>
    refine ite_tt (test_last (thn (hc pins s3 σ H3 _ I3 q3) fun w' s4 ⟨z', H4, I4, r4, q4⟩ => thn (ho' pins s4 σ H4 y z' u w' _ I4 r2 r4 q4) fun d' s5 ⟨z2, H5, I5, r5, k2, e2, q5⟩ => ?_))
    subst e2
    cases r5
    exact wpAny_truthy_bool ⟨H5, I5, q5⟩

/-! ### truth -/
/-- a value's truth by the abstract heap -/
def TruV (K : PySem.W.Frag) (x : V) (H : Hp) (k : Bool) : Prop :=
  match x with
  | .non => k = false
  | .bl b => k = b
  | .int i => k = (i != 0)
  | .str y => y.length ≤ sizeLine ∧ k = ((y.length : Int) != 0)
  | .byt y => y.size ≤ sizeLine ∧ k = ((y.size : Int) != 0)
  | .ref p => (∃ xs, SqL K H p xs ∧ k = !xs.isEmpty) ∨ (∃ xs, SqT K H p xs ∧ k = !xs.isEmpty) ∨ ∃ kvs, H p = some (.dK kvs) ∧ k = !kvs.isEmpty
  | _ => False
theorem isEmpty_kv {κ : Type} {kvs : List (κ × V)} {vs : List (κ × Value)} (r : KV kvs vs) : (!vs.isEmpty) = !kvs.isEmpty := by
  cases r <;> rfl
theorem isEmpty_of {xs : List V} {its : List Value} (r : Vals xs its) : (!its.toArray.isEmpty) = !xs.isEmpty := by
  cases r <;> simp
theorem line63 : (sizeLine : Nat) < 2 ^ 63 := by rw [sizeLine_eq]; decide
theorem tru_ok : TruR X (fun x H Q => ∃ k, TruV X.K x H k ∧ Q k H) := by
  intro pins s σ H x v Q I rx h
  obtain ⟨k, e, q⟩ := h
  have hl := line63
  have hs : sizeLine = 16777216 := sizeLine_eq
  cases x with
  | non =>
    cases rx
    have e' : k = false := e
    subst e'
    exact truthy_none ⟨H, I, q⟩
  | bl b =>
    cases rx
    have e' : k = b := e
    subst e'
    exact wpAny_truthy_bool ⟨H, I, q⟩
  | int i =>
    obtain ⟨t, rfl⟩ := rx
    have e' : k = (i != 0) := e
    subst e'
    exact PySem.P.truthy_int ⟨H, I, q⟩
  | str y =>
    obtain ⟨t, rfl⟩ := rx
    obtain ⟨hy, e'⟩ : y.length ≤ sizeLine ∧ k = ((y.length : Int) != 0) := e
    subst e'
    exact PySem.P.truthy_str (by omega) ⟨H, I.tok _, q⟩
  | byt y =>
    obtain ⟨t, rfl⟩ := rx
    obtain ⟨hy, e'⟩ : y.size ≤ sizeLine ∧ k = ((y.size : Int) != 0) := e
    subst e'
    exact PySem.W.truthy_bytes (by omega) ⟨H, I.tok _, q⟩
  | ref p =>
    cases rx
    have e' : (∃ xs, SqL X.K H p xs ∧ k = !xs.isEmpty) ∨ (∃ xs, SqT X.K H p xs ∧ k = !xs.isEmpty) ∨ ∃ kvs, H p = some (.dK kvs) ∧ k = !kvs.isEmpty := e
    rcases e' with ⟨xs, hx, e'⟩ | ⟨xs, hx, e'⟩ | ⟨kvs, hx, e'⟩
    · subst e'
      obtain ⟨its, r, pl, hz⟩ := I.list hx
      have hlen := r.length
      exact wpAny_truthy_list pl.isList (by simp only [List.size_toArray]; omega) ⟨H, I.tok _, by rw [isEmpty_of r]; exact q⟩
    · subst e'
      obtain ⟨its, r, pl, hz⟩ := I.tuple hx
      have hlen := r.length
      exact truthy_tuple pl (by simp only [List.size_toArray]; omega) ⟨H, I.tok _, by rw [isEmpty_of r]; exact q⟩
    · subst e'
      obtain ⟨hz, hS, vs, r, m⟩ : kvs.length ≤ sizeLine ∧ (p == sysModules) = false ∧ ∃ vs, KV kvs vs ∧ s.heap.DictOf (mixKind X.prog X.w) p vs := I.hok p _ hx
      have hlen : kvs.length = vs.length := Paired.length r
      exact wpAny_truthy_dict hS m (by omega) ⟨H, I.tok _, by rw [isEmpty_kv r]; exact q⟩
  | _ => exact (show False from e).elim
/-- any expression whose test is its value's truth (a name, a call, a subscript, a field ..: he by fun _ => rfl) -/
theorem pt_truth (ha : PE X a ta) (he : ∀ whole, isTrue a X.env whole = (do let v ← whole; standAt a.pos; holding [v] (truthy v))) :
    PT X a (fun σ H Q => ta σ H fun x H' => ∃ k, TruV X.K x H' k ∧ Q k H') := by
  intro pins s σ H Q I h
  exact isTrue_plain (thn (ha pins s σ H _ I h) fun v s1 ⟨x, H1, I1, r1, q1⟩ => tru_ok pins s1 σ H1 x v Q I1 r1 q1) (he _)

/-! ### strs and bytes -/
theorem op_add_str : OpR X (binaryOp .Add) (fun x y H Q => ∃ i j, x = .str i ∧ y = .str j ∧ i.length + j.length ≤ sizeLine ∧ Q (.str (i ++ j)) H) := by
  intro pins s σ H x y v u Q I rx ry h
  obtain ⟨i, j, rfl, rfl, hz, q⟩ := h
  obtain ⟨t, rfl⟩ := rx
  obtain ⟨t', rfl⟩ := ry
  exact add_str (fun t' tk => ⟨.str (i ++ j), H, I.tok _, ⟨_, rfl⟩, q⟩) hz


/-! ### scalar builtins, by CallR -/
theorem vals1 {x : V} {us : List Value} (r : Vals [x] us) : ∃ u, us = [u] ∧ RelV x u := by
  cases r with
  | cons r1 r2 => cases r2; exact ⟨_, rfl, r1⟩
theorem vals2 {x y : V} {us : List Value} (r : Vals [x, y] us) : ∃ u w', us = [u, w'] ∧ RelV x u ∧ RelV y w' := by
  cases r with
  | cons r1 r2 =>
    cases r2 with
    | cons r3 r4 => cases r4; exact ⟨_, _, rfl, r1, r3⟩
theorem call_abs : CallR X (.builtin "abs") (fun xs H Q => ∃ i, xs = [.int i] ∧ Q (.int (if i < 0 then -i else i)) H) := by
  intro pins s σ H xs us Q I r h
  obtain ⟨i, rfl, q⟩ := h
  obtain ⟨u, rfl, t, rfl⟩ := vals1 r
  exact call_abs_int fun u tk => ⟨.int (if i < 0 then -i else i), H, I.tok _, ⟨_, rfl⟩, q⟩
theorem call_max2 (hc : X.calm = true) : CallR X (.builtin "max") (fun xs H Q => ∃ i j, xs = [.int i, .int j] ∧ Q (.int (if j > i then j else i)) H) := by
  intro pins s σ H xs us Q I r h
  obtain ⟨i, j, rfl, q⟩ := h
  obtain ⟨u, w', rfl, ⟨t, rfl⟩, ⟨t', rfl⟩⟩ := vals2 r
  refine max_two_ints (I.ok.hd hc) fun h' tk k => ⟨_, H, I.kept k, ?_, q⟩
  by_cases hj : j > i
  · rw [if_pos hj, if_pos hj]; exact ⟨_, rfl⟩
  · rw [if_neg hj, if_neg hj]; exact ⟨_, rfl⟩
theorem call_min2 (hc : X.calm = true) : CallR X (.builtin "min") (fun xs H Q => ∃ i j, xs = [.int i, .int j] ∧ Q (.int (if j < i then j else i)) H) := by
  intro pins s σ H xs us Q I r h
  obtain ⟨i, j, rfl, q⟩ := h
  obtain ⟨u, w', rfl, ⟨t, rfl⟩, ⟨t', rfl⟩⟩ := vals2 r
  refine min_two_ints (I.ok.hd hc) fun h' tk k => ⟨_, H, I.kept k, ?_, q⟩
  by_cases hj : j < i
  · rw [if_pos hj, if_pos hj]; exact ⟨_, rfl⟩
  · rw [if_neg hj, if_neg hj]; exact ⟨_, rfl⟩
theorem call_int1 : CallR X (.type "int") (fun xs H Q => (∃ i, xs = [.int i] ∧ Q (.int i) H) ∨ ∃ k, xs = [.bl k] ∧ Q (.int (if k then 1 else 0)) H) := by
  intro pins s σ H xs us Q I r h
  rcases h with ⟨i, rfl, q⟩ | ⟨k, rfl, q⟩
  · obtain ⟨u, rfl, t, rfl⟩ := vals1 r
    exact call_int_int ⟨.int i, H, I, ⟨_, rfl⟩, q⟩
  · obtain ⟨u, rfl, r1⟩ := vals1 r
    cases r1
    exact call_int_bool ⟨.int (if k then 1 else 0), H, I.tok _, ⟨_, rfl⟩, q⟩
/-- len of a str, a bytes, a list, a tuple -/
def LenV (K : PySem.W.Frag) (x : V) (H : Hp) (n : Nat) : Prop :=
  match x with
  | .str y => y.length ≤ sizeLine ∧ n = y.length
  | .byt y => y.size ≤ sizeLine ∧ n = y.size
  | .ref p => (∃ xs, SqL K H p xs ∧ n = xs.length) ∨ ∃ xs, SqT K H p xs ∧ n = xs.length
  | _ => False
theorem call_len : CallR X (.builtin "len") (fun xs H Q => ∃ x n, xs = [x] ∧ LenV X.K x H n ∧ Q (.int n) H) := by
  intro pins s σ H xs us Q I r h
  obtain ⟨x, n, rfl, e, q⟩ := h
  obtain ⟨u, rfl, rx⟩ := vals1 r
  have hl := line63
  have hs : sizeLine = 16777216 := sizeLine_eq
  cases x with
  | str y =>
    obtain ⟨t, rfl⟩ := rx
    obtain ⟨hy, e'⟩ : y.length ≤ sizeLine ∧ n = y.length := e
    subst e'
    exact len_str (by omega) ⟨.int _, H, I.tok _, ⟨_, rfl⟩, q⟩
  | byt y =>
    obtain ⟨t, rfl⟩ := rx
    obtain ⟨hy, e'⟩ : y.size ≤ sizeLine ∧ n = y.size := e
    subst e'
    exact PySem.W.len_bytes (by omega) ⟨.int _, H, I.tok _, ⟨_, rfl⟩, q⟩
  | ref p =>
    cases rx
    have e' : (∃ xs, SqL X.K H p xs ∧ n = xs.length) ∨ ∃ xs, SqT X.K H p xs ∧ n = xs.length := e
    rcases e' with ⟨xs, hx, e'⟩ | ⟨xs, hx, e'⟩
    · subst e'
      obtain ⟨its, r', pl, hz⟩ := I.list hx
      have hlen := r'.length
      exact Calls.call_len_list pl.isList (by simp only [List.size_toArray]; omega) ⟨.int xs.length, H, I.tok _, ⟨_, by simp only [List.size_toArray]; rw [hlen]⟩, q⟩
    · subst e'
      obtain ⟨its, r', pl, hz⟩ := I.tuple hx
      have hlen := r'.length
      exact len_tuple pl (by simp only [List.size_toArray]; omega) ⟨.int xs.length, H, I.tok _, ⟨_, by simp only [List.size_toArray]; rw [hlen]⟩, q⟩
  | _ => exact (show False from e).elim
end
end L2

namespace L2
open PySem PySem.Spec PyProof.Rows

/-! ### an instance, its attributes a map -/
structure ObjM (h : Heap) (x dx C : Addr) (mA : Str → Option Value) : Prop where
  obj : h.get? x = some (PySem.W.instObj C dx)
  ns : h.Ns1 dx mA
  ne : dx ≠ x

theorem lookIn_ns {h : Heap} {dx : Addr} {mA : Str → Option Value} (n : h.Ns1 dx mA) : ∃ od, h.get? dx = some od ∧ ∀ name, PySem.W.lookIn name od = some (mA name) := by
  obtain ⟨o, es, ep, ho, hd, hk, _, hm⟩ := n
  refine ⟨o, ho, fun name => ?_⟩
  have e := hm name
  unfold nsFind findBy at e
  rw [← Array.find?_toList] at e
  unfold PySem.W.lookIn
  rw [hd]
  dsimp only
  split
  · rename_i y q
    rw [q] at e
    exact congrArg some e
  · rename_i q
    rw [q] at e
    have a : es.toList.any (·.refKey) = false := by
      rw [List.any_eq_false]
      intro y hy
      obtain ⟨z, t, hkey⟩ := hk y (Array.mem_toList_iff.mp hy)
      simp [DictEntry.refKey, hkey]
    have a' : ¬ es.toList.any (·.refKey) = true := by rw [a]; exact Bool.false_ne_true
    rw [if_neg a']
    exact congrArg some e

theorem ObjM.look {h : Heap} {x dx C : Addr} {mA : Str → Option Value} (I : ObjM h x dx C mA) : ∃ od, PySem.W.InstAt h x (PySem.W.instObj C dx) C (some od) ∧ ∀ name, PySem.W.lookIn name od = some (mA name) :=
  let ⟨od, ho, hl⟩ := lookIn_ns I.ns
  ⟨od, ⟨I.obj, rfl, rfl, ho⟩, hl⟩

section
variable {prog : Program} {w : World} {A : Around} {E : Value → Shared → Prop} {s : Shared} {K : PySem.W.Frag} {x dx C f : Addr} {mA : Str → Option Value} {name : Str} {v : Value}

theorem get_map {expr : Bool} {Q : Value → Shared → Prop} (X : K.In s.heap) (I : ObjM s.heap x dx C mA) (hg : PySem.W.plainGet K C name = true) (hh : PySem.W.hasDictIn K C = true)
    (ha : PySem.W.findIn K (.ref C) name = some none) (hv : mA name = some v) (hv' : PySem.W.handedIn v = true) (h : Q v { s with toks := s.toks + 1 }) :
    wpAny (model prog w) A (getAttr (.ref x) name expr) Q E s := by
  obtain ⟨od, J, hl⟩ := I.look
  exact PySem.W.get_value X J (PySem.W.plainGet_of hg).1 (PySem.W.findObj_own hh ha rfl (by rw [hl, hv])) hv' h


theorem get_meth {pl : Sem Bool} {Q : Value × List Value → Shared → Prop} (X : K.In s.heap) (I : ObjM s.heap x dx C mA) (hg : PySem.W.plainGet K C name = true)
    (hf : PySem.W.findIn K (.ref C) name = some (some (.ref f))) (ht : PySem.W.isFn K (.ref f) = true) (hv : mA name = none) (h : Q (.ref f, [.ref x]) s) :
    wpAny (model prog w) A (getMethod (.ref x) name pl) Q E s := by
  obtain ⟨od, J, hl⟩ := I.look
  exact PySem.W.method_fn X J (PySem.W.plainGet_of hg).1 (PySem.W.plainGet_of hg).2 hf (beq_iff_eq.mp ht) (by show (PySem.W.lookIn name od).map (·.isSome) = some false; rw [hl, hv]; rfl) h

theorem set_map {ns : List Str} {Q : Unit → Shared → Prop} (X : K.In s.heap) (I : ObjM s.heap x dx C mA)
    (hs : PySem.W.findIn K (.ref C) "__setattr__" = some (some (.builtin "object.__setattr__"))) (hp : PySem.W.plainOver K C = true) (ht : PySem.W.takerIn K C name = some none) (hh : PySem.W.hasDictIn K C = true)
    (hw : PySem.Within mA ns) (hsz : ns.length ≤ sizeLine)
    (h : ∀ h', ObjM h' x dx C (fun y => if y = name then some v else mA y) → Heap.SameBut dx s.heap h' → Q () { s with heap := h', toks := s.toks + 2 }) :
    wpAny (model prog w) A (setAttr (.ref x) name v) Q E s := by
  obtain ⟨od, J, hl⟩ := I.look
  refine PySem.W.set_plain X J hs (PySem.W.osa_open (s := { s with toks := s.toks + 1 }) (r := none) X J hp ht fun b => ?_)
  obtain ⟨cd, hc, hd'⟩ := PySem.W.any_some hh
  have hx : s.heap.get? x = some ⟨.ref C, some dx, .plain, #[]⟩ := I.obj
  refine wpAny_bind (wpAny_pure (wpAny_bind (wpAny_bind (wpAny_loadPart hx (wpAny_bind (PySem.W.Looks.here (s := { s with toks := s.toks + 1 }) (PySem.W.looks_clsIn X hc) ?_))))))
  rw [hd']
  refine wpAny_pure (a := some dx) (wpAny_bind (wpAny_pure (wpAny_bind ?_)))
  refine wpAny_nsSet1 (s := { s with toks := s.toks + 1 }) I.ns fun h' hn2 hs2 => ?_
  obtain ⟨oD, esD, epD, hoD, hdD, hcD⟩ := hn2.count (PySem.Within.cons name v hw)
  refine wpAny_bind (wpAny_lookBehind hoD (by rw [hdD]; exact pastItsLine_dict (Nat.le_trans hcD (by rw [List.length_cons]; omega))) ?_)
  exact wpAny_pure (h _ ⟨(hs2.2 _ (Ne.symm I.ne)).trans I.obj, hn2, I.ne⟩ hs2)

/-- C(..): the dict at the heap's end, the instance behind it; then its __init__ -/
theorem make_map {R : Result → Shared → Prop} {vs : List Value} {kw : List (Str × Value)} (X : K.In s.heap) (hm : PySem.W.makesIn K C = true)
    (hi : PySem.W.findIn K (.ref C) "__init__" = some (some (.ref f))) (hf : PySem.W.typeIn K (.ref f) = some (.type "function"))
    (h : codeAny (model prog w) (A.under (.builtin "type.__call__" ⟨.ref C :: vs, kw⟩)) (.call (.ref f) ⟨.ref (s.heap.objs.size + 1) :: vs, kw⟩) (PySem.W.InitBack (s.heap.objs.size + 1) R)
      { s with heap := (s.heap.push PySem.W.emptyDict).push (PySem.W.instObj C s.heap.objs.size) }) :
    codeAny (model prog w) A (.call (.ref C) ⟨vs, kw⟩) R s := by
  obtain ⟨hh, g, d, t, os⟩ := s
  exact PySem.W.make_core (PySem.W.makes_of X hm) (PySem.W.looks_findIn X hi) (fun self => PySem.W.bind_fn X self hf) (.inl rfl) h
/-- C() where there is no __init__ but object's -/
theorem make_map0 {R : Result → Shared → Prop} (X : K.In s.heap) (hm : PySem.W.makesIn K C = true)
    (hi : PySem.W.findIn K (.ref C) "__init__" = some (some (.builtin "object.__init__")))
    (hb : ∀ self, PySem.W.Looks (model prog w) s.heap (bindSpecial (.builtin "object.__init__") self) (.builtin "object.__init__", [self]))
    (h : codeAny (model prog w) (A.under (.builtin "type.__call__" ⟨[.ref C], []⟩)) (.call (.builtin "object.__init__") ⟨[.ref (s.heap.objs.size + 1)], []⟩) (PySem.W.InitBack (s.heap.objs.size + 1) R)
      { s with heap := (s.heap.push PySem.W.emptyDict).push (PySem.W.instObj C s.heap.objs.size) }) :
    codeAny (model prog w) A (.call (.ref C) ⟨[], []⟩) R s := by
  obtain ⟨hh, g, d, t, os⟩ := s
  exact PySem.W.make_core (PySem.W.makes_of X hm) (PySem.W.looks_findIn X hi) hb (.inr ⟨rfl, rfl⟩) h
end

/-! ### the attributes as a list of pairs -/
def putF (f : Str) (v : V) : List (Str × V) → List (Str × V)
  | [] => [(f, v)]
  | (g, x) :: r => if g = f then (g, v) :: r else (g, x) :: putF f v r
theorem lookup_putF (f g : Str) (v : V) : ∀ fs : List (Str × V), (putF f v fs).lookup g = if g = f then some v else fs.lookup g
  | [] => by
    show List.lookup g [(f, v)] = _
    by_cases h : g = f
    · have hb : (g == f) = true := beq_iff_eq.mpr h
      simp only [List.lookup, hb, if_pos h]
    · have hb : (g == f) = false := beq_eq_false_iff_ne.mpr h
      simp only [List.lookup, hb, if_neg h]
  | (k, x) :: r => by
    have ih := lookup_putF f g v r
    rw [show putF f v ((k, x) :: r) = (if k = f then (k, v) :: r else (k, x) :: putF f v r) from rfl]
    by_cases hk : k = f
    · rw [if_pos hk]
      by_cases h : g = k
      · have hb : (g == k) = true := beq_iff_eq.mpr h
        simp only [List.lookup, hb, if_pos (h.trans hk)]
      · have hb : (g == k) = false := beq_eq_false_iff_ne.mpr h
        simp only [List.lookup, hb, if_neg (fun e : g = f => h (e.trans hk.symm))]
    · rw [if_neg hk]
      by_cases h : g = k
      · have hb : (g == k) = true := beq_iff_eq.mpr h
        simp only [List.lookup, hb, if_neg (fun e : g = f => hk (h.symm.trans e))]
      · have hb : (g == k) = false := beq_eq_false_iff_ne.mpr h
        simp only [List.lookup, hb]
        exact ih
theorem keys_putF (f : Str) (v : V) : ∀ fs : List (Str × V), f ∈ (putF f v fs).map (·.1) ∧ ∀ g, g ∈ fs.map (·.1) → g ∈ (putF f v fs).map (·.1)
  | [] => ⟨by simp [putF], fun g h => by simp at h⟩
  | (k, x) :: r => by
    obtain ⟨i1, i2⟩ := keys_putF f v r
    rw [show putF f v ((k, x) :: r) = (if k = f then (k, v) :: r else (k, x) :: putF f v r) from rfl]
    by_cases hk : k = f
    · rw [if_pos hk]
      subst hk
      exact ⟨by simp, fun g h => by simpa using h⟩
    · rw [if_neg hk]
      refine ⟨?_, fun g h => ?_⟩
      · rw [List.map_cons]
        exact List.mem_cons_of_mem _ i1
      · rw [List.map_cons] at h ⊢
        rcases List.mem_cons.mp h with e | e
        · exact List.mem_cons.mpr (.inl e)
        · exact List.mem_cons_of_mem _ (i2 g e)
theorem length_putF (f : Str) (v : V) : ∀ fs : List (Str × V), (putF f v fs).length ≤ fs.length + 1
  | [] => by simp [putF]
  | (k, x) :: r => by
    have ih := length_putF f v r
    rw [show putF f v ((k, x) :: r) = (if k = f then (k, v) :: r else (k, x) :: putF f v r) from rfl]
    by_cases hk : k = f
    · rw [if_pos hk, List.length_cons, List.length_cons]; omega
    · rw [if_neg hk, List.length_cons, List.length_cons]; omega

theorem RelO.some_of {v : V} {o : Option Value} (r : RelO (some v) o) : ∃ u, o = some u ∧ RelV v u := by
  cases o with
  | none => exact (show False from r).elim
  | some u => exact ⟨u, rfl, r⟩
theorem RelO.none_of {o : Option Value} (r : RelO none o) : o = none := by
  cases o with
  | none => rfl
  | some u => exact (show False from r).elim
theorem handed_of {v : V} {u : Value} (r : RelV v u) : PySem.W.handedIn u = true := by
  cases v with
  | non => cases (show u = Value.none from r); rfl
  | bl b => cases (show u = Value.bool b from r); rfl
  | int i => obtain ⟨t, e⟩ := (show ∃ t, u = Value.int i t from r); cases e; rfl
  | str x => obtain ⟨t, e⟩ := (show ∃ t, u = Value.str x t from r); cases e; rfl
  | byt b => obtain ⟨t, e⟩ := (show ∃ t, u = Value.bytes b t from r); cases e; rfl
  | flt b => obtain ⟨t, e⟩ := (show ∃ t, u = Value.float b t from r); cases e; rfl
  | ref a => cases (show u = Value.ref a from r); rfl
  | ty n => cases (show u = Value.type n from r); rfl

section
variable {P : Program} {w : World} {H H' : Hp} {h h' : Heap} {a C dx : Addr} {fs fs' : List (Str × V)}
theorem ins_get (hok : HOk P w H h) (e : H a = some (.ins C dx fs)) : ∃ mA, ObjM h a dx C mA ∧ (∀ f, RelO (fs.lookup f) (mA f)) ∧ PySem.Within mA (fs.map (·.1)) ∧ fs.length ≤ 1000 ∧ H dx = some (.own a) := by
  obtain ⟨d, z, ne, ob, mA, n, r, q⟩ := (show ObjOk P w H h a (.ins C dx fs) from hok a _ e)
  exact ⟨mA, ⟨ob, n, ne⟩, r, q, z, d⟩
end

/-! ### what of the text a class must have -/
structure Cls (K : PySem.W.Frag) (C : Addr) : Prop where
  pg : PySem.W.plainGet K C Str.empty = true
  hd : PySem.W.hasDictIn K C = true
  po : PySem.W.plainOver K C = true
  sa : PySem.W.findIn K (.ref C) "__setattr__" = some (some (.builtin "object.__setattr__"))
theorem Cls.get {K : PySem.W.Frag} {C : Addr} (c : Cls K C) (f : Str) : PySem.W.plainGet K C f = true := c.pg
/-- no class of it has the name -/
def NoAttr (K : PySem.W.Frag) (C : Addr) (f : Str) : Prop := PySem.W.findIn K (.ref C) f = some none
theorem NoAttr.taker {K : PySem.W.Frag} {C : Addr} {f : Str} (n : NoAttr K C f) : PySem.W.takerIn K C f = some none := by
  unfold PySem.W.takerIn
  rw [show PySem.W.findIn K (.ref C) f = some none from n]
  rfl
/-- a method: a plain def of the class or of one above it -/
structure Meth (K : PySem.W.Frag) (C : Addr) (m : Str) (f : Addr) : Prop where
  at_ : PySem.W.findIn K (.ref C) m = some (some (.ref f))
  fn : PySem.W.isFn K (.ref f) = true
  kp : PySem.W.keepIn K (.ref f) = true

section
variable {X : Cx} {pins : List (Addr × Obj)} {σ : St} {H : Hp} {s : Shared} {a C dx : Addr} {fs : List (Str × V)} {f : Str} {v : V} {A : Around} {E : Value → Shared → Prop}

theorem getattr_ok {b : Bool} {Q : Value → Shared → Prop} (I : Inv X pins σ H s) (e : H a = some (.ins C dx fs)) (c : Cls X.K C) (n : NoAttr X.K C f) (l : fs.lookup f = some v)
    (h : ∀ u s', Inv X pins σ H s' → RelV v u → Q u s') : wpAny (model X.prog X.w) A (getAttr (.ref a) f b) Q E s := by
  obtain ⟨mA, O, r, _, _, _⟩ := ins_get I.hok e
  obtain ⟨u, hu, ru⟩ := RelO.some_of (v := v) (o := mA f) (by rw [← l]; exact r f)
  exact get_map I.kIn O (c.get f) c.hd n hu (handed_of ru) (h u _ (I.tok _) ru)


theorem getmeth_ok {m : Str} {g : Addr} {pl : Sem Bool} {Q : Value × List Value → Shared → Prop} (I : Inv X pins σ H s) (e : H a = some (.ins C dx fs)) (c : Cls X.K C) (k : Meth X.K C m g) (l : fs.lookup m = none)
    (h : Q (.ref g, [.ref a]) s) : wpAny (model X.prog X.w) A (getMethod (.ref a) m pl) Q E s := by
  obtain ⟨mA, O, r, _, _, _⟩ := ins_get I.hok e
  have hn : mA m = none := RelO.none_of (by rw [← l]; exact r m)
  exact get_meth I.kIn O (c.get m) k.at_ k.fn hn h

theorem setattr_ok {y : V} {u : Value} {Q : Unit → Shared → Prop} (I : Inv X pins σ H s) (e : H a = some (.ins C dx fs)) (c : Cls X.K C) (n : NoAttr X.K C f) (hl : fs.length < 1000) (ry : RelV y u)
    (h : ∀ s', Inv X pins σ (upd H a (.ins C dx (putF f y fs))) s' → Q () s') : wpAny (model X.prog X.w) A (setAttr (.ref a) f u) Q E s := by
  obtain ⟨mA, O, r, wi, _, ho⟩ := ins_get I.hok e
  have hz : (fs.map (·.1)).length ≤ sizeLine := by rw [List.length_map, sizeLine_eq]; omega
  refine set_map I.kIn O c.sa c.po n.taker c.hd wi hz fun h' O' sb => h _ ?_
  have hd : ∃ o, h'.get? dx = some o := let ⟨o, _, _, e', _⟩ := O'.ns; ⟨o, e'⟩
  refine I.write (x := a) (e := dx) (by rw [e]; exact True.intro) (.inr ho) (fun b q hb z => (sb.2 b hb).trans z) hd ?_
  refine ⟨by rw [upd_ne O.ne]; exact ho, ?_, O.ne, O'.obj, _, O'.ns, fun g => ?_, fun g hg => ?_⟩
  · have := length_putF f y fs; omega
  · show RelO ((putF f y fs).lookup g) (if g = f then some u else mA g)
    rw [lookup_putF]
    by_cases q : g = f
    · rw [if_pos q, if_pos q]; exact ry
    · rw [if_neg q, if_neg q]; exact r g
  · by_cases q : g = f
    · rw [q]; exact (keys_putF f y fs).1
    · refine (keys_putF f y fs).2 g (wi g fun z => hg ?_)
      show (if g = f then some u else mA g) = none
      rw [if_neg q]; exact z

/-- a new instance, tracked, without attributes -/
theorem Inv.made (I : Inv X pins σ H s) : Inv X pins σ (upd (upd H s.heap.objs.size (.own (s.heap.objs.size + 1))) (s.heap.objs.size + 1) (.ins C s.heap.objs.size []))
    { s with heap := (s.heap.push PySem.W.emptyDict).push (PySem.W.instObj C s.heap.objs.size) } := by
  have e1 : (s.heap.push PySem.W.emptyDict).get? s.heap.objs.size = some PySem.W.emptyDict := Heap.get?_push_size s.heap rfl
  have e2 : ((s.heap.push PySem.W.emptyDict).push (PySem.W.instObj C s.heap.objs.size)).get? (s.heap.objs.size + 1) = some (PySem.W.instObj C s.heap.objs.size) := by
    have := Heap.get?_push_size (s.heap.push PySem.W.emptyDict) (o := PySem.W.instObj C s.heap.objs.size) rfl
    rwa [Heap.size_push] at this
  have e3 : (s.heap.push PySem.W.emptyDict).Ns s.heap.objs.size (fun _ => none) := ⟨PySem.W.emptyDict, #[], _, e1, rfl, (fun e he => absurd he (by simp)), fun _ => rfl⟩
  have I1 := I.laid (a := s.heap.objs.size) (o := .own (s.heap.objs.size + 1)) (h' := s.heap.push PySem.W.emptyDict) (t' := s.toks) (fun b u q => Heap.get?_push_of_some _ q) (Nat.le_refl _) ⟨_, e1⟩
  refine I1.laid (a := s.heap.objs.size + 1) (o := .ins C s.heap.objs.size []) (t' := s.toks) (fun b u q => Heap.get?_push_of_some _ q) (Nat.le_of_eq (Heap.size_push _ _)) ?_
  have ne : s.heap.objs.size ≠ s.heap.objs.size + 1 := Nat.ne_of_lt (Nat.lt_succ_self _)
  refine ⟨by rw [upd_ne ne, upd_same], Nat.zero_le _, ne, e2, fun _ => none, (Heap.Ns1.of_empty e3).at fun o q => Heap.get?_push_of_some _ q, fun _ => True.intro, fun y hy => absurd rfl hy⟩

/-- e.f where nothing but the object is asked: through attributeBase (super) and the last hold -/
theorem attr_of {prog : Program} {w : World} {env : Env} {e : Expr} {f : Str} {pos : Pos} {s : Shared} {Q : Value → Shared → Prop} (hb : attributeBase e f env (eval e env) = eval e env)
    (h : wpAny (model prog w) A (eval e env) (fun o s₁ => wpAny (model prog w) A (getAttr o f true) Q E s₁) E s) : wpAny (model prog w) A (eval (.Attribute e f pos) env) Q E s :=
  Attribute_any_ h (by rw [arm_eval_Attribute, hb])
end

/-! ### readings and rules -/
/-- e.f, an attribute of the instance -/
def tFld (K : PySem.W.Frag) (ta : TE) (f : Str) : TE := fun σ H Q => ta σ H fun x H1 => ∃ a C dx fs v, x = .ref a ∧ H1 a = some (.ins C dx fs) ∧ Cls K C ∧ NoAttr K C f ∧ fs.lookup f = some v ∧ Q v H1
/-- e.f = value -/
def sFld (K : PySem.W.Frag) (ta tv : TE) (f : Str) : TS := fun D σ H => tv σ H fun y H1 => ta σ H1 fun x H2 => ∃ a C dx fs, x = .ref a ∧ H2 a = some (.ins C dx fs) ∧ Cls K C ∧ NoAttr K C f ∧ fs.length < 1000 ∧
  D.nx σ (upd H2 a (.ins C dx (putF f y fs)))

section
variable {X : Cx} {o e value : Expr} {f : Str} {pos pos' tpos : Pos} {ta tv : TE}
theorem pe_fld (he : PE X e ta) (hb : attributeBase e f X.env (eval e X.env) = eval e X.env) : PE X (.Attribute e f pos) (tFld X.K ta f) := by
  intro pins s σ H Q I h
  refine attr_of hb (thn (he pins s σ H _ I h) fun u s1 ⟨x, H1, I1, rx, a, C, dx, fs, v, ex, ea, c, n, l, q⟩ => ?_)
  subst ex
  obtain rfl : u = Value.ref a := rx
  exact getattr_ok I1 ea c n l fun u' s2 I2 ru => ⟨v, H1, I2, ru, q⟩
theorem ps_fld (ha : PE X o ta) (hv : PE X value tv) (hs : swapsWith value (some (.Attribute o f pos')) pos.line X.env = pure false) : PS X (.Assign [.Attribute o f pos'] value pos) (sFld X.K ta tv f) := by
  intro pins s σ H D I h
  refine plainObj_wpAny_Assign_Attribute (thn (hv pins s σ H _ I h) fun u s1 ⟨y, H1, I1, ry, q⟩ => thn (ha pins s1 σ H1 _ I1 q) fun ov s2 ⟨x, H2, I2, rx, a, C, dx, fs, ex, ea, c, n, l, q2⟩ => ?_) hs
  subst ex
  obtain rfl : ov = Value.ref a := rx
  exact setattr_ok I2 ea c n l ry fun s3 I3 => ⟨σ, _, I3, q2⟩

end

/-! ### isinstance -/
section
variable {X : Cx} {pins : List (Addr × Obj)} {σ : St} {H : Hp} {s : Shared} {A : Around} {E : Value → Shared → Prop} {Q : Value → Shared → Prop} {c : Value} {b : Bool}
/-- the type of a value, as the fragment's deciders take it; for an instance its class -/
inductive TyOf (K : PySem.W.Frag) (H : Hp) : V → Value → Prop where
  | non : TyOf K H .non (.type "NoneType")
  | bl (x : Bool) : TyOf K H (.bl x) (.type "bool")
  | int (i : Int) : TyOf K H (.int i) (.type "int")
  | str (x : Str) : TyOf K H (.str x) (.type "str")
  | flt (x : UInt64) : TyOf K H (.flt x) (.type "float")
  | lst {a : Addr} {xs : List V} (e : H a = some (.lst xs)) : TyOf K H (.ref a) (.type "list")
  | frz {a : Addr} {o : Obj} {xs : List V} (e : H a = some (.frz o (.lst xs))) : TyOf K H (.ref a) (.type "list")
  | tup {a : Addr} {xs : List V} (e : H a = some (.tup xs)) : TyOf K H (.ref a) (.type "tuple")
  | dK {a : Addr} {kvs : List (Key × V)} (e : H a = some (.dK kvs)) : TyOf K H (.ref a) (.type "dict")
  | dT {a : Addr} {kvs : List (List Key × V)} (e : H a = some (.dT kvs)) : TyOf K H (.ref a) (.type "dict")
  | ins {a C dx : Addr} {fs : List (Str × V)} (e : H a = some (.ins C dx fs)) (cl : Cls K C) (ha : PySem.W.findIn K (.ref C) "__class__" = some (some (.builtin "object.__class__")))
      (hn : PySem.W.specialIn K (.builtin "object.__class__") "__get__" = some (some (.builtin "getset_descriptor.__get__"))) (htk : PySem.W.takesIn K (.builtin "object.__class__") = some true)
      (hm : PySem.W.mroIn K C (.type "object") = some true) : TyOf K H (.ref a) (.ref C)
/-- isinstance(x, c) for one class c, a built-in or an own one: kitOne's answer -/
theorem isinst_ok {x : V} {u t : Value} (I : Inv X pins σ H s) (rx : RelV x u) (ty : TyOf X.K H x t) (e : PySem.W.kitOne X.K t c = some b) (h : ∀ tk, Q (.bool b) { s with toks := tk }) :
    wpAny (model X.prog X.w) A (call (.builtin "isinstance") [u, c]) Q E s := by
  cases ty with
  | non => cases (show u = Value.none from rx); exact PySem.W.kia_one PySem.W.kitx_none I.kIn True.intro e (fun z => nomatch z) h
  | bl y => cases (show u = Value.bool y from rx); exact PySem.W.kia_one PySem.W.kitx_bool I.kIn True.intro e (fun z => nomatch z) h
  | int i => obtain ⟨t, q⟩ := (show ∃ t, u = Value.int i t from rx); cases q; exact PySem.W.kia_one PySem.W.kitx_int I.kIn True.intro e (fun z => nomatch z) h
  | str y => obtain ⟨t, q⟩ := (show ∃ t, u = Value.str y t from rx); cases q; exact PySem.W.kia_one PySem.W.kitx_str I.kIn True.intro e (fun z => nomatch z) h
  | flt y => obtain ⟨t, q⟩ := (show ∃ t, u = Value.float y t from rx); cases q; exact PySem.W.kia_one PySem.W.kitx_float I.kIn True.intro e (fun z => nomatch z) h
  | @lst a xs ea =>
    cases (show u = Value.ref a from rx)
    obtain ⟨_, _, n, _, h1⟩ := (show ObjOk X.prog X.w H s.heap a (.lst xs) from I.hok a _ ea)
    exact PySem.W.kia_one PySem.W.kitx_list I.kIn ⟨_, h1, rfl⟩ e (fun z => nomatch z) h
  | @frz a ob xs ea =>
    cases (show u = Value.ref a from rx)
    obtain ⟨_, _, _, n, _, h1⟩ := (show ObjOk X.prog X.w H s.heap a (.frz ob (.lst xs)) from I.hok a _ ea)
    exact PySem.W.kia_one PySem.W.kitx_list I.kIn ⟨_, h1, rfl⟩ e (fun z => nomatch z) h
  | @tup a xs ea =>
    cases (show u = Value.ref a from rx)
    obtain ⟨_, _, _, p⟩ := (show ObjOk X.prog X.w H s.heap a (.tup xs) from I.hok a _ ea)
    obtain ⟨o, h1, h2, _⟩ := p
    exact PySem.W.kia_one PySem.W.kitx_tuple I.kIn ⟨o, h1, h2⟩ e (fun z => nomatch z) h
  | @dK a kvs ea =>
    cases (show u = Value.ref a from rx)
    obtain ⟨_, _, vs, _, p⟩ := (show ObjOk X.prog X.w H s.heap a (.dK kvs) from I.hok a _ ea)
    obtain ⟨o, es, ep, h1, h2, _⟩ := p
    exact PySem.W.kia_one PySem.W.kitx_dict I.kIn ⟨o, h1, h2.1⟩ e (fun z => nomatch z) h
  | @dT a kvs ea =>
    cases (show u = Value.ref a from rx)
    obtain ⟨_, _, xs, _, o, es, ep, h1, h2, _⟩ := (show ObjOk X.prog X.w H s.heap a (.dT kvs) from I.hok a _ ea)
    exact PySem.W.kia_one PySem.W.kitx_dict I.kIn ⟨o, h1, h2.1⟩ e (fun z => nomatch z) h
  | @ins a C dx fs ea cl ha hn htk hm =>
    cases (show u = Value.ref a from rx)
    obtain ⟨mA, O, _⟩ := ins_get I.hok ea
    obtain ⟨od, J, _⟩ := O.look
    exact PySem.W.kia_one (PySem.W.kitx_own (cl.get _) cl.hd ha hn htk hm) I.kIn J e (fun z => nomatch z) h
end
end L2

namespace L2
open PySem PySem.Spec PyProof.Rows

/-! ### room -/
structure Room (k : Nat) (A : Around) : Prop where
  hd : A.handled = none
  dp : A.depth + 3 * k + 5 < recursionLimit
  un : A.units + 16 * k + 200 < cLine
theorem Room.mono {j k : Nat} {A : Around} (r : Room k A) (h : j ≤ k) : Room j A := ⟨r.hd, by have := r.dp; omega, by have := r.un; omega⟩
theorem Room.deeper {k : Nat} {A : Around} (r : Room (k + 1) A) (env : Env) : Room k (A.deeper env) :=
  ⟨r.hd, by have := r.dp; show A.depth + 1 + 3 * k + 5 < _; omega, by have := r.un; show A.units + 3 + 16 * k + 200 < _; omega⟩
theorem make_depth {A : Around} {C : Addr} {us : List Value} {kw : List (Str × Value)} : (A.under (.builtin "type.__call__" ⟨.ref C :: us, kw⟩)).depth = A.depth + 1 := by
  first | rfl | simp [Around.under, Code.weight, Code.isCreation, Code.isGuard, Code.isCaller, Code.frames, Code.isFrame, guardIds]
theorem make_units {A : Around} {C : Addr} {us : List Value} {kw : List (Str × Value)} : (A.under (.builtin "type.__call__" ⟨.ref C :: us, kw⟩)).units = A.units + 1 := by
  first | rfl | simp [Around.under, Code.cUnits, Code.frames, Code.isFrame]
theorem Room.make {k : Nat} {A : Around} (r : Room (k + 1) A) (C : Addr) (us : List Value) (kw : List (Str × Value)) : Room k (A.under (.builtin "type.__call__" ⟨.ref C :: us, kw⟩)) :=
  ⟨r.hd, by have := r.dp; rw [make_depth]; omega, by have := r.un; rw [make_units]; omega⟩
theorem Room.depth {k : Nat} {A : Around} (r : Room k A) : A.depth < recursionLimit := by have := r.dp; omega
theorem Room.units {k : Nat} {A : Around} (r : Room k A) : A.units + 64 < cLine := by have := r.un; omega

/-! ### argument lists and displays -/
def tNil : TA := fun _ H Q => Q [] H
def tCons (ta : TE) (tr : TA) : TA := fun σ H Q => ta σ H fun x H1 => tr σ H1 fun xs H2 => Q (x :: xs) H2
section
variable {X : Cx} {e : Expr} {es : List Expr} {te : TE} {t : TA} {pos : Pos}
theorem pa_nil : PA X [] tNil := fun _ _ _ _ H Q I h => Calls.spliced_nil ⟨[], H, I, .nil, h⟩
theorem pa_cons (ha : PE X e te) (hr : PA X es t) (hs : starEach (e :: es) X.env = (false, eval e X.env) :: starEach es X.env := by rfl) : PA X (e :: es) (tCons te t) := by
  intro pos pins s σ H Q I h
  rw [hs]
  show wpAny _ _ (spliced ((false, eval e X.env) :: backTo pos (starEach es X.env))) _ _ s
  refine Calls.spliced_cons (thn (ha pins s σ H _ I h) fun u s1 ⟨x, H1, I1, r1, q1⟩ => ?_)
  exact thn (hr pos pins s1 σ H1 _ I1 q1) fun us s2 ⟨xs, H2, I2, r2, q2⟩ => ⟨x :: xs, H2, I2, .cons r1 r2, q2⟩

/-- a tuple, a list of written items -/
def tTup (t : TA) : TE := fun σ H Q => t σ H fun xs H1 => xs.length ≤ sizeLine ∧ ∀ p, H1 p = none → Q (.ref p) (upd H1 p (.tup xs))
def tLst (t : TA) : TE := fun σ H Q => t σ H fun xs H1 => xs.length ≤ sizeLine ∧ ∀ p, H1 p = none → Q (.ref p) (upd H1 p (.lst xs))
theorem pe_tup {x1} (h : PA X es t) : PE X (.Tuple es x1 pos) (tTup t) := by
  intro pins s σ H Q I hq
  refine wpAny_Tuple_spliced (thn (h pos pins s σ H _ I hq) fun us s1 ⟨xs, H1, I1, r, z, q⟩ => ⟨by rw [← r.length]; exact z, ?_⟩)
  have hf : H1 s1.heap.objs.size = none := I1.hok.fresh (Nat.le_refl _)
  refine ⟨.ref s1.heap.objs.size, upd H1 s1.heap.objs.size (.tup xs), I1.laid (t' := s1.toks) (fun b u e => Heap.get?_push_of_some _ e) (Nat.le_refl _) ?_, rfl, q _ hf⟩
  exact ⟨z, us, r, ⟨_, Heap.get?_push_size _ rfl, rfl, _, rfl⟩⟩
theorem pe_lst (h : PA X es t) : PE X (.List es pos) (tLst t) := by
  intro pins s σ H Q I hq
  refine wpAny_List_spliced (thn (h pos pins s σ H _ I hq) fun us s1 ⟨xs, H1, I1, r, z, q⟩ => ⟨by rw [← r.length]; exact z, ?_⟩)
  have hf : H1 s1.heap.objs.size = none := I1.hok.fresh (Nat.le_refl _)
  refine ⟨.ref s1.heap.objs.size, upd H1 s1.heap.objs.size (.lst xs), I1.laid (t' := s1.toks) (fun b u e => Heap.get?_push_of_some _ e) (Nat.le_refl _) ?_, rfl, q _ hf⟩
  exact ⟨z, us, 0, r, Heap.get?_push_size _ rfl⟩
end

/-! ### what a def promises -/
/-- a def's promise: the bound arguments in the parameters' order, the heap, the wanted end, the wanted exception -/
abbrev Sp := List V → Hp → VK → XK → Prop
/-- how an exception lies behind a call (file 08 gives it): the callers' frames, abstract heap and state ahead of the call, the wish, the exception, the state -/
abbrev CXT := List Env → Hp → Shared → XK → Value → Shared → Prop

/-- the state at a call -/
structure Env0 (P : Program) (w : World) (K : PySem.W.Frag) (mg : Str → Option Value) (base : Heap) (A : Around) (outer : List Env) (s : Shared) (H : Hp) : Prop where
  frames : A.frames = some outer
  mod : Mod K mg base
  bs : ∀ b o, base.get? b = some o → s.heap.get? b = some o ∧ H b = none
  bsz : base.objs.size ≤ s.heap.objs.size
  funs : s.heap.FunFrames base outer
  frf : ∀ b ∈ frs outer, H b = none
  hok : HOk P w H s.heap
  bare : AllBare s.gens
/-- a call's end -/
def CE (outer : List Env) (P : Program) (w : World) (H : Hp) (s : Shared) (Q : VK) (u : Value) (s' : Shared) : Prop :=
  ∃ v H', s'.os = s.os ∧ AllBare s'.gens ∧ Un (frs outer) [] H H' s.heap s'.heap ∧ HOk P w H' s'.heap ∧ RelV v u ∧ Q v H'
def CR (CX : CXT) (outer : List Env) (P : Program) (w : World) (H : Hp) (s : Shared) (Q : VK) (E : XK) (r : Result) (s' : Shared) : Prop :=
  match r with
  | .ok (.ret u) => CE outer P w H s Q u s'
  | .ok _ => False
  | .error e => CX outer H s E e s'
structure FnOk (P : Program) (w : World) (K : PySem.W.Frag) (mg : Str → Option Value) (base : Heap) (CX : CXT) (k : Nat) (f : Addr) (fd : FuncData) (ps : List Str) (sp : Sp) : Prop where
  len : ∀ vs H Q E, sp vs H Q E → vs.length = ps.length
  run : ∀ (A : Around) (outer : List Env) (s : Shared) (H : Hp) (args : Args) (us : List Value) (vs : List V) (Q : VK) (E : XK), Room k A → Env0 P w K mg base A outer s H → BindsTo s fd args (ps.zip us) → Vals vs us → sp vs H Q E →
    codeAny (model P w) A (.call (.ref f) args) (CR CX outer P w H s Q E) s

theorem Env0.make {P : Program} {w : World} {K : PySem.W.Frag} {mg : Str → Option Value} {base : Heap} {A : Around} {outer : List Env} {s : Shared} {H : Hp} (e : Env0 P w K mg base A outer s H) (C : Addr) (us : List Value) (kw : List (Str × Value)) :
    Env0 P w K mg base (A.under (.builtin "type.__call__" ⟨.ref C :: us, kw⟩)) outer s H := ⟨by first | exact e.frames | (simpa [Around.under, Code.envs, Code.isFrame, pushEnvs] using e.frames), e.mod, e.bs, e.bsz, e.funs, e.frf, e.hok, e.bare⟩

section
variable {X : Cx} {pins : List (Addr × Obj)} {σ : St} {H : Hp} {s s' : Shared}
/-- from a body: what a callee wants -/
theorem Inv.env0 (I : Inv X pins σ H s) : Env0 X.prog X.w X.K X.mg X.base X.A X.stack s H :=
  ⟨I.ok.frames, I.ok.mod, I.bs, Nat.le_trans I.ok.bsz I.sz, I.stack, I.stkFree, I.hok, I.bare⟩
/-- behind a call -/
theorem Inv.after {Q : VK} {u : Value} (I : Inv X pins σ H s) (h : CE X.stack X.prog X.w H s Q u s') : EP X pins σ Q u s' := by
  obtain ⟨v, H', os, bare, un, hok, r, q⟩ := h
  obtain ⟨hh, g, d, t, os'⟩ := s'
  obtain rfl : os' = s.os := os
  exact ⟨v, H', I.call (h' := hh) (g' := g) (d' := d) (t' := t) (ch := []) un hok bare (fun b z => absurd z (by simp)), r, q⟩
end

/-! ### calls -/
/-- f(..): the written arguments, then the defaults dvs; E: what is wanted of an exception -/
def tCall (sp : Sp) (dvs : List V) (E : XK) (t : TA) : TE := fun σ H Q => t σ H fun vs H1 => sp (vs ++ dvs) H1 Q E
/-- C(..): a new instance and its dict, then __init__ -/
def tMake (C : Addr) (sp : Sp) (dvs : List V) (E : XK) (t : TA) : TE := fun σ H Q => t σ H fun vs H1 => ∀ x dx, H1 x = none → H1 dx = none → dx ≠ x →
  sp (.ref x :: (vs ++ dvs)) (upd (upd H1 dx (.own x)) x (.ins C dx [])) (fun v H2 => v = .non ∧ Q (.ref x) H2) E

/-- how the parameters are bound: us the positional arguments, kw the keywords' values by name, ds the defaults that fill up -/
def Binds (K : PySem.W.Frag) (fd : FuncData) (ps : List Str) (ds : List Value) : Prop :=
  ∀ (s : Shared) (us : List Value), K.In s.heap → (us ++ ds).length = ps.length → BindsTo s fd ⟨us, []⟩ (ps.zip (us ++ ds))
/-- every parameter is given -/
theorem Binds.all {K : PySem.W.Frag} {fd : FuncData} {ps : List Str} (h : ∀ us : List Value, us.length = ps.length → bindArgs fd ⟨us, []⟩ = pure (ps.zip us)) : Binds K fd ps [] := fun s us _ hl => by
  rw [List.append_nil] at hl ⊢
  exact .of_eq (h us hl)

/-- an exception of a callee reaches what this body wants of exceptions -/
def Passes (CX : CXT) (X : Cx) (E : XK) : Prop := ∀ (pins : List (Addr × Obj)) (σ : St) (H : Hp) (s : Shared) (e : Value) (s' : Shared), Inv X pins σ H s → CX X.stack H s E e s' → X.xe e s'

section
variable {X : Cx} {CX : CXT} {k : Nat} {f C : Addr} {fd : FuncData} {ps : List Str} {sp : Sp} {dvs : List V} {ds : List Value} {E : XK} {x m : Str} {p pos apos : Pos} {e o : Expr} {es : List Expr} {ta : TE} {t : TA}

/-- the callee runs -/
theorem run_fn {pins : List (Addr × Obj)} {σ : St} {H : Hp} {s : Shared} {Q : VK} {us : List Value} {vs : List V} (F : FnOk X.prog X.w X.K X.mg X.base CX k f fd ps sp) (hr : Room k X.A) (hb : Binds X.K fd ps ds) (hd : Vals dvs ds) (hx : Passes CX X E)
    (I : Inv X pins σ H s) (r : Vals vs us) (h : sp (vs ++ dvs) H Q E) : wpAny (model X.prog X.w) X.A (call (.ref f) us) (EP X pins σ Q) X.xe s := by
  have r2 : Vals (vs ++ dvs) (us ++ ds) := r.append hd
  have hl : (us ++ ds).length = ps.length := by rw [← r2.length]; exact F.len _ _ _ _ h
  refine wpAny_call (codeAny_mono (F.run X.A X.stack s H ⟨us, []⟩ (us ++ ds) (vs ++ dvs) Q E hr I.env0 (hb s us I.kIn hl) r2 h) fun r s' hq => ?_)
  cases r with
  | error e => exact hx pins σ H s e s' I hq
  | ok fl =>
    cases fl with
    | ret u => exact I.after hq
    | next => exact False.elim hq
    | brk => exact False.elim hq
    | cont => exact False.elim hq

theorem pe_call (F : FnOk X.prog X.w X.K X.mg X.base CX k f fd ps sp) (hr : Room k X.A) (hg : Gl X x) (hm : X.mg x = some (.ref f)) (hk : PySem.W.keepIn X.K (.ref f) = true) (hb : Binds X.K fd ps ds) (hd : Vals dvs ds) (hx : Passes CX X E)
    (ha : PA X (e :: es) t) (hdb : (x == ("__debug__" : Str)) = false := by decide) (he : starEach (e :: es) X.env = (false, eval e X.env) :: starEach es X.env := by rfl) (hpl : (backTo pos (starEach es X.env)).any (·.1) = false := by rfl) :
    PE X (.Call (.Name x p) (e :: es) [] pos) (tCall sp dvs E t) := by
  intro pins s σ H Q I h
  refine wpAny_Call_Name_kw (ld_glob I hg hm ?_ hdb)
  refine PySem.W.callWith_K (h₀ := X.base) I.ok.mod.kin hk (thn (ha pos pins s σ H _ I h) fun us s1 ⟨vs, H1, I1, r, q⟩ => ⟨I1.kIn, ?_⟩) he hpl
  exact run_fn F hr hb hd hx I1 r q


/-- what a class must have to be made -/
structure Mk (K : PySem.W.Frag) (C f : Addr) : Prop where
  makes : PySem.W.makesIn K C = true
  init : PySem.W.findIn K (.ref C) "__init__" = some (some (.ref f))
  fn : PySem.W.isFn K (.ref f) = true
  kp : PySem.W.keepIn K (.ref C) = true

theorem run_make {pins : List (Addr × Obj)} {σ : St} {H : Hp} {s : Shared} {Q : VK} {us : List Value} {vs : List V} (M : Mk X.K C f) (F : FnOk X.prog X.w X.K X.mg X.base CX k f fd ps sp) (hr : Room (k + 1) X.A) (hb : Binds X.K fd ps ds) (hd : Vals dvs ds)
    (hx : Passes CX X E) (I : Inv X pins σ H s) (r : Vals vs us)
    (h : ∀ x dx, H x = none → H dx = none → dx ≠ x → sp (.ref x :: (vs ++ dvs)) (upd (upd H dx (.own x)) x (.ins C dx [])) (fun v H2 => v = .non ∧ Q (.ref x) H2) E) :
    wpAny (model X.prog X.w) X.A (call (.ref C) us) (EP X pins σ Q) X.xe s := by
  have hq := h (s.heap.objs.size + 1) s.heap.objs.size (I.hok.fresh (Nat.le_succ _)) (I.hok.fresh (Nat.le_refl _)) (Nat.ne_of_lt (Nat.lt_succ_self _))
  have I2 := Inv.made (C := C) I
  have r2 : Vals (V.ref (s.heap.objs.size + 1) :: (vs ++ dvs)) (Value.ref (s.heap.objs.size + 1) :: (us ++ ds)) := .cons rfl (r.append hd)
  have hl : (Value.ref (s.heap.objs.size + 1) :: us ++ ds).length = ps.length := by
    have e := r2.length
    rw [F.len _ _ _ _ hq] at e
    exact e.symm
  refine wpAny_call (make_map (f := f) I.kIn M.makes M.init (beq_iff_eq.mp M.fn) (codeAny_mono (F.run _ X.stack _ _ ⟨Value.ref (s.heap.objs.size + 1) :: us, []⟩ (Value.ref (s.heap.objs.size + 1) :: (us ++ ds)) _ _ E (hr.make C us [])
    (I2.env0.make C us []) (hb _ (Value.ref (s.heap.objs.size + 1) :: us) I2.kIn hl) r2 hq) fun r s' hq' => ?_))
  cases r with
  | error e => exact hx pins σ _ _ e s' I2 hq'
  | ok fl =>
    cases fl with
    | ret u =>
      obtain ⟨v, H', I3, rv, ev, q3⟩ := I2.after hq'
      subst ev
      exact ⟨rv, ⟨V.ref (s.heap.objs.size + 1), H', I3, rfl, q3⟩⟩
    | next => exact False.elim hq'
    | brk => exact False.elim hq'
    | cont => exact False.elim hq'
theorem pe_make (M : Mk X.K C f) (F : FnOk X.prog X.w X.K X.mg X.base CX k f fd ps sp) (hr : Room (k + 1) X.A) (hg : Gl X x) (hm : X.mg x = some (.ref C)) (hb : Binds X.K fd ps ds) (hd : Vals dvs ds) (hx : Passes CX X E)
    (ha : PA X (e :: es) t) (hdb : (x == ("__debug__" : Str)) = false := by decide) (he : starEach (e :: es) X.env = (false, eval e X.env) :: starEach es X.env := by rfl) (hpl : (backTo pos (starEach es X.env)).any (·.1) = false := by rfl) :
    PE X (.Call (.Name x p) (e :: es) [] pos) (tMake C sp dvs E t) := by
  intro pins s σ H Q I h
  refine wpAny_Call_Name_kw (ld_glob I hg hm ?_ hdb)
  refine PySem.W.callWith_K (h₀ := X.base) I.ok.mod.kin M.kp (thn (ha pos pins s σ H _ I h) fun us s1 ⟨vs, H1, I1, r, q⟩ => ⟨I1.kIn, ?_⟩) he hpl
  exact run_make M F hr hb hd hx I1 r q
end

/-! ### keywords -/
section
variable {X : Cx} {CX : CXT} {k : Nat} {f C : Addr} {fd : FuncData} {ps ks : List Str} {sp : Sp} {E : XK} {x m : Str} {p pos apos kpos : Pos} {e o : Expr} {es : List Expr} {kws : List Keyword} {te ta : TE} {t tk : TA} {nm : Option Str}

variable {g : List Value → List Value → List Value} {gV : List V → List V → List V}
end

/-! ### a def's body keeps its promise -/
/-- names: the parameters first -/
structure FnScope (N P : List Str) (sc : Scope) : Prop where
  kind : sc.kind = .function
  co : sc.isCoroutine = false
  gen : sc.isGenerator = false
  nd : N.Nodup
  pre : N.take P.length = P
  par : ∀ x ∈ P, sc.names.lookup x = some .local ∨ sc.names.lookup x = some .cell
  nofree : ∀ y ∈ sc.names, y.2 ≠ .free

theorem bindL_out {kindOf : Str → Option NameKind} {x : Str} : ∀ {binds : List (Str × Value)} {m : Str → Option Value}, (∀ v, (x, v) ∉ binds) → bindL kindOf binds m x = m x
  | [], _, _ => rfl
  | (n, v) :: r, m, h => by
    unfold bindL
    rw [bindL_out fun w hw => h w (List.mem_cons_of_mem _ hw)]
    split
    · have : x ≠ n := by rintro rfl; exact h v List.mem_cons_self
      simp [this]
    · rfl
theorem bindC_out {kindOf : Str → Option NameKind} {x : Str} : ∀ {binds : List (Str × Value)} {m : Str → Option Value}, (∀ v, (x, v) ∉ binds) → bindC kindOf binds m x = m x
  | [], _, _ => rfl
  | (n, v) :: r, m, h => by
    unfold bindC
    rw [bindC_out fun w hw => h w (List.mem_cons_of_mem _ hw)]
    split
    · rfl
    · have : x ≠ n := by rintro rfl; exact h v List.mem_cons_self
      simp [this]
theorem bindL_get {kindOf : Str → Option NameKind} {x : Str} {v : Value} : ∀ {P : List Str} {vs : List Value} {i : Nat} {m : Str → Option Value}, P.Nodup → P[i]? = some x → vs[i]? = some v → kindOf x = some .local →
    bindL kindOf (P.zip vs) m x = some v
  | [], _, _, _, _, h, _, _ => by simp at h
  | _ :: _, [], _, _, _, _, h, _ => by simp at h
  | p :: P, w :: vs, 0, m, nd, h1, h2, hk => by
    simp at h1 h2; subst h1; subst h2
    show bindL kindOf ((p, w) :: P.zip vs) m p = _
    unfold bindL
    rw [bindL_out fun v hv => (List.nodup_cons.mp nd).1 (List.of_mem_zip hv).1, if_pos hk]
    simp
  | p :: P, w :: vs, i + 1, m, nd, h1, h2, hk => by
    show bindL kindOf ((p, w) :: P.zip vs) m x = _
    unfold bindL
    exact bindL_get (i := i) (List.nodup_cons.mp nd).2 (by simpa using h1) (by simpa using h2) hk
theorem bindC_get {kindOf : Str → Option NameKind} {x : Str} {v : Value} : ∀ {P : List Str} {vs : List Value} {i : Nat} {m : Str → Option Value}, P.Nodup → P[i]? = some x → vs[i]? = some v → kindOf x ≠ some .local →
    bindC kindOf (P.zip vs) m x = some v
  | [], _, _, _, _, h, _, _ => by simp at h
  | _ :: _, [], _, _, _, _, h, _ => by simp at h
  | p :: P, w :: vs, 0, m, nd, h1, h2, hk => by
    simp at h1 h2; subst h1; subst h2
    show bindC kindOf ((p, w) :: P.zip vs) m p = _
    unfold bindC
    rw [bindC_out fun v hv => (List.nodup_cons.mp nd).1 (List.of_mem_zip hv).1, if_neg hk]
    simp
  | p :: P, w :: vs, i + 1, m, nd, h1, h2, hk => by
    show bindC kindOf ((p, w) :: P.zip vs) m x = _
    unfold bindC
    exact bindC_get (i := i) (List.nodup_cons.mp nd).2 (by simpa using h1) (by simpa using h2) hk

/-- the names' values at the entry -/
def start (N : List Str) (vs : List V) : St := vs.map some ++ List.replicate (N.length - vs.length) none

/-- the context of a def's body, at its entry; an exception leaves the frame, then lies as CX says -/
def cxOf (CX : CXT) (P : Program) (w : World) (K : PySem.W.Frag) (mg : Str → Option Value) (base : Heap) (N : List Str) (qual : Str) (scope : Scope) (f : Addr) (cd : Value) (A : Around) (outer : List Env) (s : Shared) (H : Hp) (E : XK) : Cx where
  prog := P
  w := w
  K := K
  mg := mg
  base := base
  A := A.deeper (envOfC qual scope s.heap.objs.size f cd)
  N := N
  s₀ := s
  H₀ := H
  env := envOfC qual scope s.heap.objs.size f cd
  outer := outer
  stack := envOfC qual scope s.heap.objs.size f cd :: outer
  ex := []
  calm := true
  fn := fun _ => true
  pn := []
  xe := fun e s' => wpAny (model P w) (A.deeper (envOfC qual scope s.heap.objs.size f cd)) (leaving (envOfC qual scope s.heap.objs.size f cd) e) (fun _ s'' => CX outer H s E e s'') (fun e' s'' => CX outer H s E e' s'') s'

theorem cell_has {sc : Scope} {n : Nat} {x : Str} (h : sc.names.lookup x = some .cell) : ∃ c, (cellsFrom n sc.names []).lookup x = some c := by
  have q := PySem.W.cellsFrom_some sc.names n [] (.inl h)
  exact Option.isSome_iff_exists.mp q

theorem inv_start {CX : CXT} {P : Program} {w : World} {K : PySem.W.Frag} {mg : Str → Option Value} {base : Heap} {N ps : List Str} {qual : Str} {scope : Scope} {f : Addr} {cd : Value} {A : Around} {outer : List Env} {s s1 : Shared} {H : Hp} {E : XK} {us : List Value} {vs : List V}
    (S : FnScope N ps scope) (hd : A.handled = none) (e0 : Env0 P w K mg base A outer s H) (hl : vs.length = ps.length) (r : Vals vs us)
    (x : InCallC s s.heap.objs.size (bindL (envOfC qual scope s.heap.objs.size f cd).kindOf (ps.zip us) fun _ => none) (cellsFrom (s.heap.objs.size + 1) scope.names []) (bindC (envOfC qual scope s.heap.objs.size f cd).kindOf (ps.zip us) fun _ => none) s1) :
    Inv (cxOf CX P w K mg base N qual scope f cd A outer s H E) [] (start N vs) H s1 := by
  have hpl : ps.length ≤ N.length := by have := congrArg List.length S.pre; rw [List.length_take] at this; omega
  obtain ⟨h1, tk, rfl, hk⟩ := x.done
  have noA : ∀ b : Addr, b ∉ (cxOf CX P w K mg base N qual scope f cd A outer s H E).ex := fun b z => absurd (show b ∈ ([] : List Addr) from z) (by simp)
  refine ⟨⟨e0.mod, S.kind, rfl, rfl, Nat.le_refl _, fun y z c h1 h2 => ?_, fun y hy => ?_, fun y c _ h => ?_, fun _ => hd, Around.frames_deeper e0.frames, .inr ⟨rfl, rfl⟩, fun b z => absurd z (noA b), e0.bs, e0.bsz, fun b _ _ => noA b, fun b z => absurd z (noA b), e0.funs, e0.frf⟩,
    rfl, e0.bare, Un.kept hk, ⟨_, x.toInCall.ns, fun i y v h1 h2 h3 => ?_⟩, fun y c h => ⟨_, x.cell y c h⟩, e0.hok.fresh (Nat.le_refl _), fun y c h => ?_, fun p hp => absurd (show p ∈ ([] : List (Addr × Obj)) from hp) (by simp), e0.hok.kept hk, ?_⟩
  · exact name_of_addr x.apart (PySem.mem_of_lookup h1) (PySem.mem_of_lookup h2)
  · have hy : scope.names.lookup y = some .cell ∨ scope.names.lookup y = some .free := hy
    rcases hy with hy | hy
    · exact cell_has hy
    · exact absurd rfl (S.nofree _ (PySem.mem_of_lookup hy))
  · exact Nat.le_of_lt (x.above y c (PySem.mem_of_lookup h))
  · have hi : i < vs.length := by
      unfold start at h2
      by_cases hi : i < vs.length
      · exact hi
      · rw [List.getElem?_append_right (by simpa using hi)] at h2
        rw [List.getElem?_replicate] at h2
        split at h2 <;> cases h2
    have ha : vs[i]? = some v := by
      unfold start at h2
      rw [List.getElem?_append_left (by simpa using hi), List.getElem?_map] at h2
      cases e : vs[i]? with
      | none => rw [e] at h2; cases h2
      | some a => rw [e] at h2; cases h2; rfl
    obtain ⟨u, hu, rv⟩ := r.get ha
    have hp : ps[i]? = some y := by
      rw [← S.pre, List.getElem?_take_of_lt (by omega)]; exact h1
    have ndP : ps.Nodup := by rw [← S.pre]; exact S.nd.sublist (List.take_sublist _ _)
    refine ⟨u, rv, ?_⟩
    rcases S.par y (List.mem_of_getElem? hp) with k | k
    · exact .inl ⟨k, bindL_get ndP hp hu k⟩
    · obtain ⟨c, e⟩ := cell_has (n := s.heap.objs.size + 1) k
      refine .inr ⟨.inl k, c, e, ?_⟩
      have q := x.cell y c e
      rw [bindC_get ndP hp hu (by show scope.names.lookup y ≠ _; rw [k]; decide)] at q
      exact q
  · exact e0.hok.fresh (Nat.le_of_lt (x.above y c (PySem.mem_of_lookup h)))
  · unfold start
    show _ = N.length
    rw [List.length_append, List.length_map, List.length_replicate]
    omega

/-- THE RULE: a def (or a method) of the text, by its body. The body's reading t is chosen for each entry; it is run at the parameters' values -/
theorem fn_of {CX : CXT} {P : Program} {w : World} {K : PySem.W.Frag} {mg : Str → Option Value} {base : Heap} {k : Nat} {f : Addr} {name qual : Str} {params : Arguments} {body : List Stmt} {scope : Scope} {dV kV doc pm cdv ct oc : Value} {an od : Option Addr}
    {osl : Array (Option Value)} {N ps : List Str} {sp : Sp} (lk : K.lookup f = some ⟨oc, od, .func (PySem.W.fnOf name qual params body scope dV kV doc pm an cdv ct), osl⟩) (hcd : PySem.W.codeIn K cdv qual = true) (S : FnScope N ps scope)
    (len : ∀ vs H Q E, sp vs H Q E → vs.length = ps.length)
    (hbody : ∀ (A : Around) (outer : List Env) (s : Shared) (H : Hp) (vs : List V) (Q : VK) (E : XK), Room k (A.deeper (envOfC qual scope s.heap.objs.size f cdv)) → sp vs H Q E →
      ∃ t, PSs (cxOf CX P w K mg base N qual scope f cdv A outer s H E) body t ∧ t { nx := fun _ H' => Q .non H', rt := Q } (start N vs) H) :
    FnOk P w K mg base CX (k + 1) f (PySem.W.fnOf name qual params body scope dV kV doc pm an cdv ct) ps sp := by
  refine ⟨len, fun A outer s H args us vs Q E hr e0 hb r hsp => ?_⟩
  have hl := len _ _ _ _ hsp
  have KX : K.In s.heap := e0.mod.kin.keeps fun b o e => (e0.bs b o e).1
  have lim : s.heap.NoLimit := e0.mod.nolimit.keeps fun b o e => (e0.bs b o e).1
  have hkind : ∀ y ∈ ps.zip us, scope.names.lookup y.1 = some .local ∨ (scope.names.lookup y.1 = some .cell ∧ ((cellsFrom (s.heap.objs.size + 1) scope.names []).lookup y.1).isSome = true) := fun ⟨n, v⟩ hy => by
    rcases S.par n (List.of_mem_zip hy).1 with q | q
    · exact .inl q
    · exact .inr ⟨q, PySem.W.cellsFrom_some _ _ _ (.inl q)⟩
  refine codeAny_call_function hr.depth (KX _ _ lk) rfl S.co S.gen rfl (PySem.W.codeRec_of KX hcd) (hb _ _ _ _ ?_)
  refine wpAny_newFunctionEnv_cells S.kind hkind fun env he s1 x => ?_
  subst he
  refine ⟨lim.keeps x.toInCall.keep, codeAny_func ?_⟩
  obtain ⟨t, ht, hq⟩ := hbody A outer s H vs Q E (hr.deeper _) hsp
  have I : Inv (cxOf CX P w K mg base N qual scope f cdv A outer s H E) [] (start N vs) H s1 := inv_start S hr.hd e0 hl r x
  refine wpAny_mono (ht [] s1 (start N vs) H _ I hq) (fun fl s' hs => ?_) fun e s' hs => hs
  have fin : ∀ {σ' : St} {H' : Hp} {v : V} {u : Value}, Inv (cxOf CX P w K mg base N qual scope f cdv A outer s H E) [] σ' H' s' → RelV v u → Q v H' → CE outer P w H s Q u s' :=
    fun {σ' H' v u} J rv q => ⟨v, H', J.os, J.bare, J.base, J.hok, rv, q⟩
  cases fl with
  | ret u =>
    obtain ⟨v, σ', H', J, rv, q⟩ := hs
    exact fin J rv q
  | next =>
    obtain ⟨σ', H', J, q⟩ := hs
    exact fin (v := V.non) (u := Value.none) J rfl q
  | brk =>
    obtain ⟨_, _, _, q⟩ := hs
    exact False.elim q
  | cont =>
    obtain ⟨_, _, _, q⟩ := hs
    exact False.elim q
end L2

namespace L2
open PySem PySem.Spec PyProof.Rows
section
variable {X : Cx} {x : Str} {p pos : Pos} {e : Expr} {es : List Expr} {t : TA} {id T : String} {r : List V → Hp → VK → Prop}

def tCB (r : List V → Hp → VK → Prop) (t : TA) : TE := fun σ H Q => t σ H fun vs H1 => r vs H1 Q
/-- f(e, ..), f a built-in function -/
theorem pe_callB (hc : CallR X (.builtin id) r) (hg : Gl X x) (hm : X.mg x = none) (hv : bootBuiltins x = some (.builtin id)) (ha : PA X (e :: es) t) (hn : x ≠ "__name__" := by decide) (hdb : (x == ("__debug__" : Str)) = false := by decide)
    (he : starEach (e :: es) X.env = (false, eval e X.env) :: starEach es X.env := by rfl) (hpl : (backTo pos (starEach es X.env)).any (·.1) = false := by rfl) : PE X (.Call (.Name x p) (e :: es) [] pos) (tCB r t) := by
  intro pins s σ H Q I h
  refine wpAny_Call_Name_kw (ld_blt I hg hm hv ?_ hn hdb)
  exact PyProof.Rows.callWith_builtin1 (thn (ha pos pins s σ H _ I h) fun us s1 ⟨vs, H1, I1, r1, q1⟩ => hc pins s1 σ H1 vs us Q I1 r1 q1) he hpl
/-- T(e, ..), T a built-in type -/
theorem pe_callTy (hc : CallR X (.type T) r) (hg : Gl X x) (hm : X.mg x = none) (hv : bootBuiltins x = some (.type T)) (ha : PA X (e :: es) t) (hn : x ≠ "__name__" := by decide) (hdb : (x == ("__debug__" : Str)) = false := by decide)
    (he : starEach (e :: es) X.env = (false, eval e X.env) :: starEach es X.env := by rfl) (hpl : (backTo pos (starEach es X.env)).any (·.1) = false := by rfl) : PE X (.Call (.Name x p) (e :: es) [] pos) (tCB r t) := by
  intro pins s σ H Q I h
  refine wpAny_Call_Name_kw (ld_blt I hg hm hv ?_ hn hdb)
  exact PyProof.Rows.callWith_type1 (thn (ha pos pins s σ H _ I h) fun us s1 ⟨vs, H1, I1, r1, q1⟩ => hc pins s1 σ H1 vs us Q I1 r1 q1) he hpl
end
end L2

namespace HT
open PySem PyProof.Rows



section
open PySem.SeqAt
open PySem.AutoSeq1 (wpAny_loadPart')
open PySem.MeetsSeq PySem.MeetsSeq2 PySem.MeetsSeq3

end

section
variable {prog : Program} {w : World} {A : Around} {E : Value → Shared → Prop} {s : Shared}



/-! ### t[a:b], not the whole -/
/-- a slice's bound as a place among n (d where it is left out) -/
def sIx (n d : Nat) : Option Int → Nat
  | none => d
  | some v => if v < 0 then (v + (n : Int)).toNat else min v.toNat n

end
end HT

namespace L2
open PySem PySem.Spec PyProof.Rows

/-! ### the parts of a slice -/
abbrev TO := St → Hp → (Option Int → Hp → Prop) → Prop
/-- a slice's part (left out, or an int) -/
def PO (X : Cx) (e : Option Expr) (t : TO) : Prop :=
  ∀ (pins : List (Addr × Obj)) (s : Shared) (σ : St) (H : Hp) (Q : Option Int → Hp → Prop), Inv X pins σ H s → t σ H Q →
    wpAny (model X.prog X.w) X.A (evalPart e X.env) (fun u s' => ∃ o H', Inv X pins σ H' s' ∧ IsPart u o ∧ Q o H') X.xe s
def tNoPart : TO := fun _ H Q => Q none H
def tPart (t : TE) : TO := fun σ H Q => t σ H fun x H1 => ∃ i, x = .int i ∧ Q (some i) H1


section
variable {X : Cx} {e : Expr} {te : TE} {lo hi : Option Expr} {tl th : TO} {pos p2 : Pos}

theorem po_none : PO X none tNoPart := by
  intro pins s σ H Q I h
  rw [evalPart_none]
  exact wpAny_pure ⟨none, H, I, .none, h⟩
theorem po_some (h : PE X e te) : PO X (some e) (tPart te) := by
  intro pins s σ H Q I hw
  rw [evalPart_some]
  refine thn (h pins s σ H _ I hw) fun u s1 ⟨x, H1, I1, r1, q1⟩ => ?_
  obtain ⟨i, rfl, q⟩ := q1
  obtain ⟨t, rfl⟩ := r1
  exact ⟨some i, H1, I1, .int i t, q⟩

/-- what a slice of a value is, by values: the slice object stands at sl -/
def SlR (X : Cx) (r : V → Option Int → Option Int → Hp → VK → Prop) : Prop :=
  ∀ (pins : List (Addr × Obj)) (s : Shared) (σ : St) (H : Hp) (x : V) (v vl vu : Value) (lo hi : Option Int) (sl : Addr) (Q : VK), Inv X pins σ H s → RelV x v → s.heap.IsSliceOf sl vl vu .none → IsPart vl lo → IsPart vu hi → r x lo hi H Q →
    ∃ T id, typeLookup (.type T) "__getitem__" = pure (some (.builtin id)) ∧ s.TypeIs v T ∧ wpAny (model X.prog X.w) X.A (getItem v (.ref sl)) (EP X pins σ Q) X.xe s
def tSl (r : V → Option Int → Option Int → Hp → VK → Prop) (te : TE) (tl th : TO) : TE := fun σ H Q => te σ H fun x H1 => tl σ H1 fun l H2 => th σ H2 fun u H3 => r x l u H3 Q
/-- a[lo:hi], any a -/
theorem pe_slice {r : V → Option Int → Option Int → Hp → VK → Prop} (hr : SlR X r) (he : PE X e te) (hl : PO X lo tl) (hu : PO X hi th) : PE X (.Subscript e (.Slice lo hi none p2) pos) (tSl r te tl th) := by
  intro pins s σ H Q I h
  refine Subscript_ (thn (he pins s σ H _ I h) fun v s1 ⟨x, H1, I1, r1, q1⟩ => ?_)
  refine wpAny_Slice (thn (hl pins s1 σ H1 _ I1 q1) fun vl s2 ⟨l, H2, I2, pl, q2⟩ => thn (hu pins s2 σ H2 _ I2 q2) fun vu s3 ⟨u, H3, I3, pu, q3⟩ => ?_)
  rw [evalPart_none]
  refine wpAny_pure ?_
  have I4 : Inv X pins σ H3 { s3 with heap := s3.heap.push { cls := .type "slice", data := .fields #[vl, vu, .none] } } := I3.kept (t' := s3.toks) fun b ob q => Heap.get?_push_of_some _ q
  obtain ⟨T, id, hT, ht, hg⟩ := hr pins { s3 with heap := s3.heap.push { cls := .type "slice", data := .fields #[vl, vu, .none] } } σ H3 x v vl vu l u s3.heap.objs.size Q I4 r1 (Heap.IsSliceOf.new ..) pl pu q3
  show wpAny (model X.prog X.w) X.A (subscriptTail e (.Slice lo hi none p2) v (.ref s3.heap.objs.size)) (EP X pins σ Q) X.xe { s3 with heap := s3.heap.push { cls := .type "slice", data := .fields #[vl, vu, .none] } }
  exact tail_any (ops := [.ref s3.heap.objs.size, v]) ht hT hg (by with_unfolding_all rfl)

/-- the items of xs[lo:hi] -/
def cutV (xs : List V) (lo hi : Option Int) : List V := (xs.drop (HT.sIx xs.length 0 lo)).take (HT.sIx xs.length xs.length hi - HT.sIx xs.length 0 lo)
theorem cutV_length (xs : List V) (lo hi : Option Int) : (cutV xs lo hi).length ≤ xs.length := by
  unfold cutV
  rw [List.length_take, List.length_drop]
  omega

/-! ### t < u, t + u -/
end
end L2

namespace L2
open PySem PySem.Spec PyProof.Rows

/-! ### places -/
/-- the place that an index of any sign means -/
def ixN (n : Nat) (i : Int) : Option Nat := if 0 ≤ i then (if i < n then some i.toNat else none) else if -(n : Int) ≤ i then some (i + n).toNat else none
def atI {α : Type} (xs : List α) (i : Int) : Option α := (ixN xs.length i).bind fun j => xs[j]?
theorem ixN_seq {n : Nat} {i : Int} {j : Nat} (h : ixN n i = some j) : seqIndex? i n = some j ∧ j < n ∧ -(n : Int) ≤ i ∧ i < n := by
  unfold ixN at h
  by_cases h0 : 0 ≤ i
  · rw [if_pos h0] at h
    by_cases h1 : i < n
    · rw [if_pos h1] at h
      have e : i.toNat = j := Option.some.inj h
      exact ⟨by rw [seqIndex_of h0 h1, e], by omega, by omega, h1⟩
    · rw [if_neg h1] at h; cases h
  · rw [if_neg h0] at h
    by_cases h1 : -(n : Int) ≤ i
    · rw [if_pos h1] at h
      have e : (i + n).toNat = j := Option.some.inj h
      exact ⟨by rw [seqIndex_neg (by omega) h1, e], by omega, h1, by omega⟩
    · rw [if_neg h1] at h; cases h
theorem atI_get {α : Type} {xs : List α} {i : Int} {v : α} (h : atI xs i = some v) : ∃ j, seqIndex? i xs.length = some j ∧ xs[j]? = some v ∧ j < xs.length ∧ -(xs.length : Int) ≤ i ∧ i < xs.length := by
  unfold atI at h
  cases e : ixN xs.length i with
  | none => rw [e] at h; cases h
  | some j =>
    rw [e] at h
    obtain ⟨h1, h2, h3, h4⟩ := ixN_seq e
    exact ⟨j, h1, h, h2, h3, h4⟩
theorem atI_nat {α : Type} {xs : List α} {j : Nat} {v : α} (h : xs[j]? = some v) : atI xs (j : Int) = some v := by
  have hj : j < xs.length := (List.getElem?_eq_some_iff.mp h).1
  have e : ixN xs.length (j : Int) = some j := by
    unfold ixN
    rw [if_pos (by omega), if_pos (by omega)]; simp
  unfold atI; rw [e]; exact h

/-! ### what may be subscripted -/
/-- what stands as an index of a plain subscript -/
def PlainIx (b : Expr) : Prop := ∀ o i, subscripted b false o i = operate [o, i] (getItem o i)
/-- a subscript by values -/
def IxR (X : Cx) (r : R2) : Prop :=
  ∀ (value slice : Expr) (pins : List (Addr × Obj)) (s : Shared) (σ : St) (H : Hp) (x y : V) (v u : Value) (Q : VK), Inv X pins σ H s → RelV x v → RelV y u → r x y H Q →
    subscripted slice false v u = operate [v, u] (getItem v u) → wpAny (model X.prog X.w) X.A (subscriptTail value slice v u) (EP X pins σ Q) X.xe s
/-- a call of a builtin's method by values: the receiver, the arguments -/
def MtR (X : Cx) (id : String) (r : V → List V → Hp → VK → Prop) : Prop :=
  ∀ (pins : List (Addr × Obj)) (s : Shared) (σ : St) (H : Hp) (x : V) (xs : List V) (v : Value) (us : List Value) (Q : VK), Inv X pins σ H s → RelV x v → Vals xs us → r x xs H Q →
    wpAny (model X.prog X.w) X.A (call (.builtin id) (v :: us)) (EP X pins σ Q) X.xe s
section
variable {X : Cx} {a b : Expr} {ta tb : TE} {pos : Pos}
/-- a[b] -/
theorem pe_ix {r : R2} (hr : IxR X r) (ha : PE X a ta) (hb : PE X b tb) (hs : PlainIx b) : PE X (.Subscript a b pos) (tOp r ta tb) := by
  intro pins s σ H Q I h
  exact Subscript_ (binT ha hb I h fun v u s2 x y H2 I2 rx ry q => hr a b pins s2 σ H2 x y v u Q I2 rx ry q (hs _ _))

def rIxL (K : PySem.W.Frag) : R2 := fun x y H Q => ∃ p xs i v, x = .ref p ∧ y = .int i ∧ SqL K H p xs ∧ atI xs i = some v ∧ Q v H
def rIxT (K : PySem.W.Frag) : R2 := fun x y H Q => ∃ p xs i v, x = .ref p ∧ y = .int i ∧ SqT K H p xs ∧ atI xs i = some v ∧ Q v H
theorem ix_list : IxR X (rIxL X.K) := by
  intro value slice pins s σ H x y v u Q I rx ry h hs
  obtain ⟨p, xs, i, z, rfl, rfl, hq, he, q⟩ := h
  cases rx
  obtain ⟨t, rfl⟩ := ry
  obtain ⟨its, r, pl, hz⟩ := I.list hq
  obtain ⟨j, h1, h2, h3, h4, h5⟩ := atI_get he
  obtain ⟨w, ew, rw'⟩ := r.get h2
  have hl := r.length
  have hn := line63
  have fin : EP X pins σ Q w s := ⟨z, H, I, rw', q⟩
  by_cases h0 : 0 ≤ i
  · have hj : i.toNat = j := by
      rw [seqIndex_of h0 h5] at h1
      exact Option.some.inj h1
    exact item_listR pl.isList h0 (by omega) (by rw [hj]; simpa using ew) fin hs
  · have hj : (i + (its.toArray.size : Int)).toNat = j := by
      rw [seqIndex_neg (by omega) h4] at h1
      rw [List.size_toArray, ← hl]
      exact Option.some.inj h1
    exact subscriptTail_builtinR (x := w) pl.isList.typeIs slot_list_getitem.lookup
      (wpAny_getItem_list_neg (Q := fun r s' => r = w ∧ EP X pins σ Q r s') pl.isList (by omega) (by rw [List.size_toArray] <;> omega) (by omega) (by rw [hj]; simpa using ew) ⟨rfl, fin⟩) hs
theorem ix_tup : IxR X (rIxT X.K) := by
  intro value slice pins s σ H x y v u Q I rx ry h hs
  obtain ⟨p, xs, i, z, rfl, rfl, hq, he, q⟩ := h
  cases rx
  obtain ⟨t, rfl⟩ := ry
  obtain ⟨its, r, pl, hz⟩ := I.tuple hq
  obtain ⟨j, h1, h2, h3, h4, h5⟩ := atI_get he
  obtain ⟨w, ew, rw'⟩ := r.get h2
  have hl := r.length
  have hn := line63
  have fin : EP X pins σ Q w s := ⟨z, H, I, rw', q⟩
  exact subscriptTail_builtinR (x := w) pl.typeIs slot_tuple_getitem.lookup
    (getItem_tuple (j := j) (Q := fun r s' => r = w ∧ EP X pins σ Q r s') pl (by omega) (by omega) (by rw [List.size_toArray, ← hl]; exact h1) (by simpa using ew) ⟨rfl, fin⟩) hs

/-! ### xs[i] = v, any sign -/

/-! ### slices -/
theorem slice_bounds (lo hi : Option Int) (n : Nat) : (sliceBounds lo hi none n).1 = ((HT.sIx n 0 lo : Nat) : Int) ∧ (sliceBounds lo hi none n).2.1 = ((HT.sIx n n hi : Nat) : Int) ∧ (sliceBounds lo hi none n).2.2 = 1 := by
  refine ⟨?_, ?_, rfl⟩
  · cases lo with
    | none => simp [sliceBounds, HT.sIx]
    | some i =>
      simp only [sliceBounds, HT.sIx, Option.getD_none, show (1 : Int) > 0 by decide, if_true]
      by_cases h : i < 0
      · simp only [h, if_true] <;> omega
      · simp only [h, if_false] <;> omega
  · cases hi with
    | none => simp [sliceBounds, HT.sIx]
    | some i =>
      simp only [sliceBounds, HT.sIx, Option.getD_none, show (1 : Int) > 0 by decide, if_true]
      by_cases h : i < 0
      · simp only [h, if_true] <;> omega
      · simp only [h, if_false] <;> omega
theorem slicePick_cut (its : List Value) (lo hi : Option Int) : slicePick its.toArray lo hi none = ((its.drop (HT.sIx its.length 0 lo)).take (HT.sIx its.length its.length hi - HT.sIx its.length 0 lo)).toArray := by
  obtain ⟨h1, h2, h3⟩ := slice_bounds lo hi its.toArray.size
  unfold slicePick
  rw [h1, h2, h3]
  simp only [sliceRange_one, pick_run, List.size_toArray] <;> rfl
/-- xs[lo:hi] of a list: a new list -/
def rSlL (K : PySem.W.Frag) : V → Option Int → Option Int → Hp → VK → Prop := fun x lo hi H Q => ∃ a xs, x = .ref a ∧ SqL K H a xs ∧ ∀ p, H p = none → Q (.ref p) (upd H p (.lst (cutV xs lo hi)))
theorem sl_list : SlR X (rSlL X.K) := by
  intro pins s σ H x v vl vu lo hi sl Q I rx hs pl pu h
  obtain ⟨a, xs, rfl, hx, q⟩ := h
  cases rx
  obtain ⟨its, r, ht, hz⟩ := I.list hx
  have hlen := r.length
  refine ⟨"list", _, slot_list_getitem.lookup, ht.isList.typeIs, ?_⟩
  refine wpAny_getItem_list_slice ht.isList hs pl pu .none (by simp) ?_ (by rw [List.size_toArray] <;> omega)
  rw [slicePick_cut, ← hlen]
  refine ⟨.ref s.heap.objs.size, _, I.laid (t' := s.toks) (o := .lst (cutV xs lo hi)) (fun b ob q => Heap.get?_push_of_some _ q) (Nat.le_refl _) ?_, rfl, q _ (I.hok.fresh (Nat.le_refl _))⟩
  exact ⟨Nat.le_trans (cutV_length xs lo hi) hz, _, 0, (r.drop (HT.sIx xs.length 0 lo)).take (HT.sIx xs.length xs.length hi - HT.sIx xs.length 0 lo), Heap.get?_push_size _ rfl⟩

/-! ### in, not in: flat items -/
def flatV : V → Bool
  | .non => true
  | .bl _ => true
  | .int _ => true
  | .str _ => true
  | _ => false
/-- == of flat values -/
def eqV : V → V → Bool
  | .non, .non => true
  | .bl a, .bl b => a == b
  | .bl a, .int b => (if a then 1 else 0) == b
  | .int a, .bl b => a == (if b then 1 else 0)
  | .int a, .int b => a == b
  | .str a, .str b => a == b
  | _, _ => false
theorem eqAt_V {A : Around} {s : Shared} {y x : V} {u v : Value} (ry : RelV y u) (rx : RelV x v) (fy : flatV y = true) (fx : flatV x = true) : SeqAt.EqAt A s u v (eqV y x) := by
  cases y with
  | non =>
    cases ry
    cases x with
    | non => cases rx; exact SeqAt.EqAt.same _
    | bl b => cases rx; exact SeqAt.EqAt.none_bool b
    | int b => obtain ⟨t, rfl⟩ := rx; exact SeqAt.EqAt.none_int b t
    | str b => obtain ⟨t, rfl⟩ := rx; exact SeqAt.EqAt.none_str b t
    | _ => exact absurd (show false = true from fx) Bool.false_ne_true
  | bl a =>
    cases ry
    cases x with
    | non => cases rx; exact SeqAt.EqAt.bool_none a
    | bl b => cases rx; exact SeqAt.EqAt.bool_bool a b
    | int b => obtain ⟨t, rfl⟩ := rx; exact SeqAt.EqAt.bool_int a b t
    | str b => obtain ⟨t, rfl⟩ := rx; exact SeqAt.EqAt.bool_str a b t
    | _ => exact absurd (show false = true from fx) Bool.false_ne_true
  | int a =>
    obtain ⟨t', rfl⟩ := ry
    cases x with
    | non => cases rx; exact SeqAt.EqAt.int_none a t'
    | bl b => cases rx; exact SeqAt.EqAt.int_bool a t' b
    | int b => obtain ⟨t, rfl⟩ := rx; exact SeqAt.EqAt.int_int a t' b t
    | str b => obtain ⟨t, rfl⟩ := rx; exact SeqAt.EqAt.int_str a t' b t
    | _ => exact absurd (show false = true from fx) Bool.false_ne_true
  | str a =>
    obtain ⟨t', rfl⟩ := ry
    cases x with
    | non => cases rx; exact SeqAt.EqAt.str_none a t'
    | bl b => cases rx; exact SeqAt.EqAt.str_bool a t' b
    | int b => obtain ⟨t, rfl⟩ := rx; exact SeqAt.EqAt.str_int a t' b t
    | str b => obtain ⟨t, rfl⟩ := rx; exact SeqAt.EqAt.str_str a t' b t
    | _ => exact absurd (show false = true from fx) Bool.false_ne_true
  | _ => exact absurd (show false = true from fy) Bool.false_ne_true
/-- the items' answers, read off the values (a value's own answer does not lean on its token) -/
def eqU (x : V) (u : Value) : Bool := match u with
  | .none => eqV .non x
  | .bool b => eqV (.bl b) x
  | .int i _ => eqV (.int i) x
  | .str z _ => eqV (.str z) x
  | _ => false
theorem eqU_of {x y : V} {u : Value} (r : RelV y u) (f : flatV y = true) : eqU x u = eqV y x := by
  cases y with
  | non => cases r; rfl
  | bl b => cases r; rfl
  | int i => obtain ⟨t, rfl⟩ := r; rfl
  | str z => obtain ⟨t, rfl⟩ := r; rfl
  | _ => exact absurd (show false = true from f) Bool.false_ne_true
theorem any_eqU {x : V} : ∀ {xs : List V} {us : List Value}, Vals xs us → xs.all flatV = true → us.any (eqU x) = xs.any fun y => eqV y x
  | _, _, .nil, _ => rfl
  | y :: xs, u :: us, .cons r t, f => by
    rw [List.all_cons, Bool.and_eq_true] at f
    rw [List.any_cons, List.any_cons, eqU_of r f.1, any_eqU t f.2]
theorem mem_eqAt {A : Around} {s : Shared} {x : V} {v : Value} (rx : RelV x v) (fx : flatV x = true) : ∀ {xs : List V} {us : List Value}, Vals xs us → xs.all flatV = true → ∀ u ∈ us, SeqAt.EqAt A s u v (eqU x u)
  | _, _, .nil, _ => fun u hu => by cases hu
  | y :: xs, u :: us, .cons r t, f => fun u' hu => by
    rw [List.all_cons, Bool.and_eq_true] at f
    rcases List.mem_cons.mp hu with rfl | hu
    · rw [eqU_of r f.1]; exact eqAt_V r rx f.1 fx
    · exact mem_eqAt rx fx t f.2 u' hu
def inV (x : V) (xs : List V) : Bool := xs.any fun y => eqV y x
/-- x in a list or tuple of flat items -/
def rIn (K : PySem.W.Frag) (neg : Bool) : R2 := fun x y H Q => ∃ p xs, y = .ref p ∧ (SqL K H p xs ∨ SqT K H p xs) ∧ flatV x = true ∧ xs.all flatV = true ∧ Q (.bl (if neg then !inV x xs else inV x xs)) H
theorem op_in_seq : OpR X (compareOp .In) (rIn X.K false) := by
  intro pins s σ H x y v u Q I rx ry h
  obtain ⟨p, xs, rfl, hq, fx, fs, q⟩ := h
  cases ry
  rcases hq with hq | hq
  · obtain ⟨its, r, pl, hz⟩ := I.list hq
    refine SeqAt.in_listAt (eqU x) pl.isList (fun w hw => mem_eqAt rx fx r fs w (by simpa using hw)) ⟨.bl _, H, I, rfl, ?_⟩
    rw [show its.toArray.any (eqU x) = its.any (eqU x) by simp, any_eqU r fs]
    exact q
  · obtain ⟨its, r, pl, hz⟩ := I.tuple hq
    refine SeqAt.in_tupleAt (eqU x) pl (fun w hw => mem_eqAt rx fx r fs w (by simpa using hw)) ⟨.bl _, H, I, rfl, ?_⟩
    rw [show its.toArray.any (eqU x) = its.any (eqU x) by simp, any_eqU r fs]
    exact q

/-! ### len, list(x), tuple(x) of any list or tuple that is read -/

/-! ### the call of a builtin's method: o.m(..) -/
/-- the value is of that builtin type -/
def tyV (K : PySem.W.Frag) (T : String) (x : V) (H : Hp) : Prop := match x with
  | .str _ => T = "str"
  | .int _ => T = "int"
  | .ref p => (T = "list" ∧ ∃ xs, SqL K H p xs) ∨ (T = "tuple" ∧ ∃ o, K.lookup p = some o ∧ o.cls = .type "tuple" ∧ o.dict = none) ∨
      (T = "dict" ∧ ((∃ kvs, H p = some (.dK kvs)) ∨ ∃ kvs, H p = some (.dT kvs))) ∨ (T = "set" ∧ ∃ S n, H p = some (.set S n))
  | _ => False
theorem tyV_is {pins : List (Addr × Obj)} {σ : St} {H : Hp} {s : Shared} {T : String} {x : V} {v : Value} (I : Inv X pins σ H s) (r : RelV x v) (ty : tyV X.K T x H) :
    s.TypeIs v T ∧ ∀ a, v = .ref a → ∃ ob, s.heap.get? a = some ob ∧ ob.dict = none := by
  cases x with
  | str z =>
    obtain ⟨t, rfl⟩ := r
    cases (show T = "str" from ty)
    exact ⟨typeIs_str s z t, fun _ e => nomatch e⟩
  | int i =>
    obtain ⟨t, rfl⟩ := r
    cases (show T = "int" from ty)
    exact ⟨typeIs_int s i t, fun _ e => nomatch e⟩
  | ref p =>
    cases r
    rcases ty with ⟨rfl, xs, hq⟩ | ⟨rfl, o, hk, hc, hd⟩ | ⟨rfl, hk⟩ | ⟨rfl, S, n, hk⟩
    · obtain ⟨its, _, pl, _⟩ := I.list hq
      refine ⟨pl.isList.typeIs, fun a e => ?_⟩
      cases e
      obtain ⟨o, n, e, c, hd, _⟩ := pl
      exact ⟨o, e, hd⟩
    · refine ⟨⟨o, I.kIn p o hk, hc⟩, fun a e => ?_⟩
      cases e
      exact ⟨o, I.kIn _ o hk, hd⟩
    · have z : ∃ o, s.heap.get? p = some o ∧ o.ExactDict := by
        rcases hk with ⟨kvs, hk⟩ | ⟨kvs, hk⟩
        · obtain ⟨_, _, _, _, o, _, _, e, ex, _⟩ := I.hok p _ hk
          exact ⟨o, e, ex⟩
        · obtain ⟨_, _, _, _, o, _, _, e, ex, _⟩ := I.hok p _ hk
          exact ⟨o, e, ex⟩
      obtain ⟨o, e, ex⟩ := z
      refine ⟨⟨o, e, ex.1⟩, fun a e2 => ?_⟩
      cases e2
      exact ⟨o, e, ex.2.1⟩
    · obtain ⟨o, _, _, _, e, ex, _⟩ := I.hok p _ hk
      refine ⟨⟨o, e, ex.1⟩, fun a e2 => ?_⟩
      cases e2
      exact ⟨o, e, ex.2.1⟩
  | _ => exact False.elim ty
def tBM0 (K : PySem.W.Frag) (T : String) (r : V → List V → Hp → VK → Prop) (to : TE) : TE := fun σ H Q => to σ H fun x H1 => tyV K T x H1 ∧ r x [] H1 Q
def tBM (K : PySem.W.Frag) (T : String) (r : V → List V → Hp → VK → Prop) (to : TE) (t : TA) : TE := fun σ H Q => to σ H fun x H1 => tyV K T x H1 ∧ t σ H1 fun xs H2 => r x xs H2 Q
variable {o e : Expr} {es : List Expr} {to : TE} {t : TA} {name : Str} {apos cpos : Pos} {T id : String} {r : V → List V → Hp → VK → Prop}
theorem pe_bm0 (pa : PlainAttrs T) (slot : Slot T name id) (hty : typeOf (.builtin id) = pure (.type "method_descriptor")) (hm : MtR X id r) (ho : PE X o to)
    (hbase : attributeBase o name X.env (eval o X.env) = eval o X.env := by rfl) (hline : (apos.endLine == cpos.line) = true := by rfl) : PE X (.Call (.Attribute o name apos) [] [] cpos) (tBM0 X.K T r to) := by
  intro pins s σ H Q I h
  refine wpAny_Call_method0_late hbase hline (thn (ho pins s σ H _ I h) fun v s1 ⟨x, H1, I1, r1, ty, q1⟩ => ?_)
  obtain ⟨h1, h2⟩ := tyV_is I1 r1 ty
  exact ⟨T, id, pa, slot, hty, h1, h2, Calls.callWith_builtin rfl (PySem.evalArgs_none (hm pins s1 σ H1 x [] v [] Q I1 r1 .nil q1))⟩
theorem pe_bm (pa : PlainAttrs T) (slot : Slot T name id) (hty : typeOf (.builtin id) = pure (.type "method_descriptor")) (hm : MtR X id r) (ho : PE X o to) (ha : PA X (e :: es) t)
    (hbase : attributeBase o name X.env (eval o X.env) = eval o X.env := by rfl)
    (hfew : ((backTo cpos (starEach (e :: es) X.env)).all (fun x => !x.1) && (backToKw cpos (keywordEach [] X.env)).all (fun x => x.1.isSome)
      && decide ((e :: es).length + ([] : List Keyword).length + (if ([] : List Keyword).isEmpty then 0 else 1) < 30)) = true := by rfl)
    (hline : (apos.endLine == cpos.line) = true := by rfl) (hs : starEach (e :: es) X.env = (false, eval e X.env) :: starEach es X.env := by rfl) (hplain : (backTo cpos (starEach es X.env)).any (·.1) = false := by rfl) :
    PE X (.Call (.Attribute o name apos) (e :: es) [] cpos) (tBM X.K T r to t) := by
  intro pins s σ H Q I h
  refine wpAny_Call_method_late hbase hfew hline rfl (thn (ho pins s σ H _ I h) fun v s1 ⟨x, H1, I1, r1, ty, q1⟩ => ?_)
  obtain ⟨h1, h2⟩ := tyV_is I1 r1 ty
  refine ⟨T, id, pa, slot, hty, h1, h2, ?_⟩
  have hA := ha cpos pins s1 σ H1 _ I1 q1
  rw [hs] at hA ⊢
  refine Calls.callWith_builtin (by show (false || (backTo cpos (starEach es X.env)).any (·.1)) = false; rw [hplain] <;> rfl) (Calls.evalArgs_plain ?_)
  exact thn hA fun us s2 ⟨vs, H2, I2, r2, q2⟩ => hm pins s2 σ H2 x vs v us Q I2 r1 r2 q2
/- xs.append(e), list.index on a module's tuple .. are MtR facts of 06m -/
end
end L2

namespace L2
open PySem PySem.Spec PyProof.Rows

def MtM (X : Cx) (id : String) (r : V → List V → Hp → VK → Prop) : Prop :=
  ∀ (pins : List (Addr × Obj)) (s : Shared) (σ : St) (H : Hp) (x : V) (xs : List V) (v : Value) (us : List Value) (Q : VK), Inv X pins σ H s → RelV x v → Vals xs us → r x xs H Q →
    wpAny (model X.prog X.w) X.A (call (.builtin id) (v :: us)) (EP X pins σ Q) X.xe s

/-! ### lists of values -/
theorem Vals.one : ∀ {x : V} {us : List Value}, Vals [x] us → ∃ u, us = [u] ∧ RelV x u
  | _, _, .cons r .nil => ⟨_, rfl, r⟩
theorem Vals.zero : ∀ {us : List Value}, Vals [] us → us = []
  | _, .nil => rfl
theorem Vals.dropLast {xs : List V} {us : List Value} (h : Vals xs us) : Vals xs.dropLast us.dropLast := by
  induction h with
  | nil => exact .nil
  | cons r t ih =>
    cases t with
    | nil => exact .nil
    | cons q t' => exact .cons r ih
theorem Vals.eraseIdx : ∀ {xs : List V} {us : List Value} (i : Nat), Vals xs us → Vals (xs.eraseIdx i) (us.eraseIdx i)
  | _, _, _, .nil => .nil
  | _, _, 0, .cons _ t => t
  | _, _, i + 1, .cons r t => .cons r (Vals.eraseIdx i t)
theorem Vals.reverse {xs : List V} {us : List Value} (h : Vals xs us) : Vals xs.reverse us.reverse := by
  induction h with
  | nil => exact .nil
  | cons r t ih => rw [List.reverse_cons, List.reverse_cons]; exact Vals.append ih (.cons r .nil)
theorem erase_last {α : Type} (l : List α) : l.eraseIdx (l.length - 1) = l.dropLast := by
  induction l with
  | nil => rfl
  | cons a r ih =>
    cases r with
    | nil => rfl
    | cons b r =>
      have e : (a :: b :: r).length - 1 = ((b :: r).length - 1) + 1 := by
        have h1 : (a :: b :: r).length = r.length + 2 := rfl
        have h2 : (b :: r).length = r.length + 1 := rfl
        omega
      rw [e, List.eraseIdx_cons_succ, ih]
      all_goals rfl
theorem len_erase {α : Type} : ∀ (l : List α) (i : Nat), (l.eraseIdx i).length ≤ l.length
  | [], _ => Nat.le_refl _
  | _ :: _, 0 => Nat.le_succ _
  | _ :: r, i + 1 => Nat.succ_le_succ (len_erase r i)

section
variable {X : Cx} {pins : List (Addr × Obj)} {σ : St} {H : Hp} {s : Shared} {l b : Addr} {xs ys zs : List V}

/-! ### the two steps: a tracked list is rewritten, a new list is laid -/
theorem Inv.lset {its its' : List Value} {n : Nat} {f : Array Value → Array Value} {t' : Nat} (I : Inv X pins σ H s) (hH : H l = some (.lst xs))
    (e : s.heap.get? l = some { cls := .type "list", data := .seq its.toArray n }) (hf : f its.toArray = its'.toArray) (hv : Vals ys its') (hz : ys.length ≤ sizeLine) :
    Inv X pins σ (upd H l (.lst ys)) { s with heap := s.heap.update l (Obj.mapSeq f), toks := t' } := by
  have q := PySem.IsL.update e f
  rw [hf] at q
  refine I.write (x := l) (e := l) (by rw [hH]; exact trivial) (.inl rfl) (fun b' u hb hu => (Heap.get?_update_other s.heap (Obj.mapSeq f) (Ne.symm hb)).trans hu) ⟨_, q⟩ ?_
  exact ⟨hz, its', _, hv, q⟩
theorem Inv.lnew {its : List Value} {t' : Nat} (I : Inv X pins σ H s) (hv : Vals ys its) (hz : ys.length ≤ sizeLine) :
    Inv X pins σ (upd H s.heap.objs.size (.lst ys)) { s with heap := s.heap.push { cls := .type "list", data := .seq its.toArray }, toks := t' } :=
  I.laid (fun _ _ q => Heap.get?_push_of_some _ q) (Nat.le_refl _) ⟨hz, its, 0, hv, Heap.get?_push_size _ rfl⟩
theorem Inv.fresh (I : Inv X pins σ H s) : H s.heap.objs.size = none := I.hok.fresh (Nat.le_refl _)
theorem Inv.lstM (I : Inv X pins σ H s) (hH : H l = some (.lst xs)) : xs.length ≤ sizeLine ∧ ∃ (its : List Value) (n : Nat), Vals xs its ∧ xs.length = its.length ∧ s.heap.get? l = some { cls := .type "list", data := .seq its.toArray n } := by
  obtain ⟨z, its, n, r, e⟩ := I.hok l _ hH
  exact ⟨z, its, n, r, r.length, e⟩

theorem notLongL {n : Nat} (h : n ≤ sizeLine) : Builtin.List.listTooLong n = false := by
  unfold Builtin.List.listTooLong
  exact decide_eq_false (by omega)
end

section
variable {X : Cx}

/-! ### methods -/
def rAppend : V → List V → Hp → VK → Prop := fun x vs H Q => ∃ l xs y, x = .ref l ∧ vs = [y] ∧ H l = some (.lst xs) ∧ xs.length < sizeLine ∧ Q .non (upd H l (.lst (xs ++ [y])))
theorem mt_append : MtM X "list.append" rAppend := by
  intro pins s σ H x vs v us Q I rx rv h
  obtain ⟨l, xs, y, rfl, rfl, hH, hz, q⟩ := h
  cases rx
  obtain ⟨u, rfl, ru⟩ := rv.one
  obtain ⟨z, its, n, r, hl, e⟩ := I.lstM hH
  refine call_meets F.slot_list_append ⟨_, e, rfl⟩ F.entry_list_append (F.args_list_append_2 _ _) (PySem.list_append l its.toArray n u (by rw [List.size_toArray]; omega)) ⟨e, ?_⟩
  refine ⟨.non, _, I.lset (its' := its ++ [u]) hH e (by simp) (r.append (.cons ru .nil)) ?_, rfl, q⟩
  rw [List.length_append, List.length_singleton]
  omega

def rExtend : V → List V → Hp → VK → Prop := fun x vs H Q => ∃ l b xs zs, x = .ref l ∧ vs = [.ref b] ∧ H l = some (.lst xs) ∧ H b = some (.lst zs) ∧ xs.length + zs.length ≤ sizeLine ∧ Q .non (upd H l (.lst (xs ++ zs)))
theorem mt_extend : MtM X "list.extend" rExtend := by
  intro pins s σ H x vs v us Q I rx rv h
  obtain ⟨l, b, xs, zs, rfl, rfl, hH, hB, hz, q⟩ := h
  cases rx
  obtain ⟨u, rfl, ru⟩ := rv.one
  cases ru
  obtain ⟨z, its, n, r, hl, e⟩ := I.lstM hH
  obtain ⟨z2, its2, n2, r2, hl2, e2⟩ := I.lstM hB
  have hsz : its.toArray.size + its2.toArray.size ≤ sizeLine := by rw [List.size_toArray, List.size_toArray]; omega
  have hlong : ¬ (!its.toArray.isEmpty && Builtin.List.listTooLong (its.toArray.size + its2.toArray.size)) = true := by
    rw [notLongL hsz, Bool.and_false]
    exact Bool.false_ne_true
  refine call_meets F.slot_list_extend ⟨_, e, rfl⟩ F.entry_list_extend (F.args_list_extend_2 _ _)
    (AutoSeq1.list_extend_list_list_0 l its.toArray n b its2.toArray n2 hlong (by rw [List.size_toArray]; omega) (by omega)) ⟨e, e2, ?_⟩
  refine ⟨.non, _, I.lset (its' := its ++ its2) hH e (by simp) (r.append r2) ?_, rfl, q⟩
  rw [List.length_append]
  omega

def rPop : V → List V → Hp → VK → Prop := fun x vs H Q => ∃ l xs y, x = .ref l ∧ vs = [] ∧ H l = some (.lst xs) ∧ xs[xs.length - 1]? = some y ∧ Q y (upd H l (.lst xs.dropLast))
theorem mt_pop : MtM X "list.pop" rPop := by
  intro pins s σ H x vs v us Q I rx rv h
  obtain ⟨l, xs, y, rfl, rfl, hH, hy, q⟩ := h
  cases rx
  have hus := rv.zero
  subst hus
  obtain ⟨z, its, n, r, hl, e⟩ := I.lstM hH
  obtain ⟨u, hu, ru⟩ := r.get hy
  have hy' : its.toArray[its.toArray.size - 1]? = some u := by
    show its.toArray[its.length - 1]? = some u
    rw [← Array.getElem?_toList, ← hl]
    exact hu
  refine call_meets F.slot_list_pop ⟨_, e, rfl⟩ F.entry_list_pop (F.args_list_pop_1 _) (MeetsSeq.list_pop_last l its.toArray n u hy' (by rw [List.size_toArray]; omega)) ⟨e, ?_⟩
  refine ⟨y, _, I.lset (its' := its.dropLast) hH e ?_ r.dropLast ?_, ru, q⟩
  · show its.toArray.eraseIdxIfInBounds (its.toArray.size - 1) = its.dropLast.toArray
    rw [List.size_toArray, List.eraseIdxIfInBounds_toArray, erase_last]
  · rw [List.length_dropLast]
    omega

def rPopAt : V → List V → Hp → VK → Prop := fun x vs H Q => ∃ l xs i k y, x = .ref l ∧ vs = [.int i] ∧ H l = some (.lst xs) ∧ -(2 ^ 63) ≤ i ∧ i < 2 ^ 63 ∧ seqIndex? i xs.length = some k ∧ xs[k]? = some y ∧ Q y (upd H l (.lst (xs.eraseIdx k)))
theorem mt_popAt : MtM X "list.pop" rPopAt := by
  intro pins s σ H x vs v us Q I rx rv h
  obtain ⟨l, xs, i, k, y, rfl, rfl, hH, h1, h2, hk, hy, q⟩ := h
  cases rx
  obtain ⟨u, rfl, ru⟩ := rv.one
  obtain ⟨t, rfl⟩ := ru
  obtain ⟨z, its, n, r, hl, e⟩ := I.lstM hH
  obtain ⟨w, hw, rw'⟩ := r.get hy
  refine call_meets F.slot_list_pop ⟨_, e, rfl⟩ F.entry_list_pop (F.args_list_pop_2 _ _)
    (MeetsSeq.list_pop_at l its.toArray n i t k w (fitsIndex_both h1 h2) (by rw [List.size_toArray, ← hl]; exact hk) (by rw [← Array.getElem?_toList]; exact hw) (by rw [List.size_toArray]; omega)) ⟨e, ?_⟩
  refine ⟨y, _, I.lset (its' := its.eraseIdx k) hH e ?_ (r.eraseIdx k) ?_, rw', q⟩
  · show its.toArray.eraseIdxIfInBounds k = (its.eraseIdx k).toArray
    rw [List.eraseIdxIfInBounds_toArray]
  · have := len_erase xs k
    omega

def rReverse : V → List V → Hp → VK → Prop := fun x vs H Q => ∃ l xs, x = .ref l ∧ vs = [] ∧ H l = some (.lst xs) ∧ Q .non (upd H l (.lst xs.reverse))
theorem mt_reverse : MtM X "list.reverse" rReverse := by
  intro pins s σ H x vs v us Q I rx rv h
  obtain ⟨l, xs, rfl, rfl, hH, q⟩ := h
  cases rx
  have hus := rv.zero
  subst hus
  obtain ⟨z, its, n, r, hl, e⟩ := I.lstM hH
  refine call_meets F.slot_list_reverse ⟨_, e, rfl⟩ F.entry_list_reverse (F.args_list_reverse_1 _) (AutoSeq1.list_reverse_list_0 l its.toArray n (by rw [List.size_toArray]; omega)) ⟨e, ?_⟩
  refine ⟨.non, _, I.lset (its' := its.reverse) hH e (by simp) r.reverse ?_, rfl, q⟩
  rw [List.length_reverse]
  omega

def rClear : V → List V → Hp → VK → Prop := fun x vs H Q => ∃ l xs, x = .ref l ∧ vs = [] ∧ H l = some (.lst xs) ∧ Q .non (upd H l (.lst []))
theorem mt_clear : MtM X "list.clear" rClear := by
  intro pins s σ H x vs v us Q I rx rv h
  obtain ⟨l, xs, rfl, rfl, hH, q⟩ := h
  cases rx
  have hus := rv.zero
  subst hus
  obtain ⟨z, its, n, r, hl, e⟩ := I.lstM hH
  refine call_meets F.slot_list_clear ⟨_, e, rfl⟩ F.entry_list_clear (F.args_list_clear_1 _) (AutoSeq1.list_clear_list_0 l its.toArray n (by rw [List.size_toArray]; omega)) ⟨e, ?_⟩
  exact ⟨.non, _, I.lset (its' := []) (ys := []) hH e rfl .nil (Nat.zero_le _), rfl, q⟩

/-! ### list + list, list += list, list * int -/

/-! ### del xs[i] -/
end

/-! ### xs[a:b] = ys -/
section
variable {prog : Program} {w : World} {A : Around} {E : Value → Shared → Prop} {s : Shared}
set_option maxRecDepth 100000 in
end

section
variable {X : Cx}
end
end L2

namespace Att
open PySem PySem.W PySem.Calls PyProof.Rows

/-! ### the script -/
theorem ints_of_wellAll {P : Params} {h : Heap} : ∀ (ns : List Int) (vs : List Value), WellAll P h vs (ns.map WData.int) → IntsAre vs ns := by
  intro ns
  induction ns with
  | nil =>
    intro vs w
    rw [List.map_nil] at w
    cases w
    exact .nil
  | cons n ns ih =>
    intro vs w
    rw [List.map_cons] at w
    cases w with
    | cons a b =>
      cases a
      exact .cons _ _ (ih _ b)

theorem script_of {l : OpenLaw} {n : Nat} (hn : l.most = some n) {P : Params} {h : Heap} {args : List WData} {vals : List Value}
    (hpre : l.row.toRowW.claim.pre args = true) (hwl : WellAll P h vals args) :
    ∃ a vs ns, vals = [Value.ref a] ∧ args = [WData.list (ns.map WData.int)] ∧ h.get? a = some { cls := .type "list", data := .seq vs.toArray } ∧ IntsAre vs ns ∧ ns.length ≤ n := by
  have hsh : WShape.hasAll [] args [.list .int] = true := (pre_splitW hpre).1
  have hc : l.pre.holds [] { args := args } = true := (pre_splitW hpre).2
  obtain ⟨d, r, rfl, h1, h2⟩ := hasAllW_cons hsh
  obtain rfl := hasAllW_nil h2
  obtain ⟨xs, rfl, h3⟩ := hasW_list h1
  obtain ⟨ns, rfl⟩ := items_int h3
  have hlen : ns.length ≤ n := by
    unfold OpenLaw.pre at hc
    have h4 : (WTm.not (.lt (.lit (.int (n : Int))) (.len (.arg 0)))).holds [] { args := [.list (ns.map .int)] } = true := by
      have h4 := (holds_andW hc).1
      rw [hn] at h4
      exact h4
    have h5 := condW_of h4 (w_not (w_lt w_lit (w_len_list (w_arg rfl))))
    rw [List.length_map] at h5
    refine Nat.le_of_not_lt fun q => ?_
    have q' : (n : Int) < ((ns.length : Nat) : Int) := by omega
    first
      | (rw [decide_eq_true q'] at h5; exact absurd h5 (by decide))
      | (simp at h5; omega)
  cases hwl with
  | cons w1 w2 =>
    cases w2
    cases w1 with
    | list ho hall => exact ⟨_, _, ns, rfl, rfl, ho, ints_of_wellAll ns _ hall, hlen⟩

theorem post_true (l : OpenLaw) (args : List WData) : l.row.toRowW.claim.post args (.bool true) args = true :=
  postW_of (r := l.row.toRowW) (X := (true == true))
    (show WShape.has [] (.bool true) .bool = true by first | rfl | decide | simp [WShape.has, WShape.arms, WShape.armsAll])
    (show (WTm.eq .res (.lit (.bool true))).value [] { args := args, res := some (.bool true), after := args } = some (.bool (true == true)) from w_eq_bool (w_res rfl) w_lit) rfl

/-! ### the attachment: holds_open's last premise (the goal 'hc' behind k_head) from a wpAny of the law's body -/



/-! ### rules over ANY heap (no ledger) from facts about the written part K: the library's own take a ledger (News) for what they write -/
section
variable {prog : Program} {w : World} {A : Around} {E : Value → Shared → Prop} {s : Shared} {K : Frag}





/-! the whole heap as the ledger: makes every rule that writes through a ledger a rule over any heap -/

end
end Att

namespace L2
open PySem PySem.Spec PyProof.Rows

theorem vals_ints : ∀ {vs : List Value} {ns : List Int}, IntsAre vs ns → Vals (ns.map V.int) vs
  | _, _, .nil => .nil
  | _, _, .cons n t h => .cons ⟨t, rfl⟩ (vals_ints h)

/-- nothing is tracked but the script, known to the object (or it is an object of the module) -/
def Only (H : Hp) : Prop := ∀ b, H b = none ∨ ∃ o xs, H b = some (.frz o (.lst xs))

/-- THE HEAD: the law's promise, at the heap behind the top. F, the promise of the law's def, may use that base is part of the heap (so K.In base, base.Ns mainGlobals mg stand in Mod) -/
theorem law_call {P : Program} {w : World} {K : PySem.W.Frag} {mg mb : Str → Option Value} {CX : CXT} {k : Nat} {fa a : Addr} {fd : FuncData} {x : Str} {sp : Sp} {s₁ : Shared} {vs : List Value} {ns : List Int}
    (KX : K.In s₁.heap) (hns : s₁.heap.Ns mainGlobals mg) (hb : s₁.heap.Ns builtinsNs mb) (hbb : ∀ x : Str, x ≠ "__name__" → mb x = bootBuiltins x) (hlim : s₁.heap.NoLimit) (hg : s₁.gens = #[])
    (ha : s₁.heap.get? a = some { cls := .type "list", data := .seq vs.toArray }) (hi : IntsAre vs ns) (hl : ns.length ≤ sizeLine) (hr : Room k callerA)
    (F : ∀ base : Heap, K.In base → base.Ns mainGlobals mg → FnOk P w K mg base CX k fa fd [x] sp) (hbind : ∀ (s : Shared) (u : Value), BindsTo s fd ⟨[u], []⟩ [(x, u)])
    (hsp : ∀ H : Hp, Only H → SqL K H a (ns.map V.int) → sp [.ref a] H (fun v _ => v = .bl true) fun _ _ _ => False)
    (hCX : ∀ H e s', CX [] H s₁ (fun _ _ _ => False) e s' → False) :
    codeAny (model P w) callerA (.call (.ref fa) ⟨[.ref a], []⟩) (fun r s' => r = .ok (.ret (.bool true)) ∧ OldK s₁.heap s'.heap ∧ s'.os = s₁.os ∧ AllBare s'.gens) s₁ := by
  have rv := vals_ints hi
  have lenV := hi.length
  -- from an abstract heap in which nothing but the script may be tracked
  have core : ∀ H : Hp, Only H → SqL K H a (ns.map V.int) → HOk P w H s₁.heap → (∀ b, H b ≠ none → b = a) → (H a ≠ none → K.lookup a = none) →
      codeAny (model P w) callerA (.call (.ref fa) ⟨[.ref a], []⟩) (fun r s' => r = .ok (.ret (.bool true)) ∧ OldK s₁.heap s'.heap ∧ s'.os = s₁.os ∧ AllBare s'.gens) s₁ := by
    intro H hO hS hok hA hK
    have base_of : ∀ {b : Addr} {o : Obj}, s₁.heap.get? b = some o → H b = none → (hidT s₁.heap H).get? b = some o := fun e n => hidT_get e n
    have noA : ∀ {b : Addr} {o : Obj} {es : Array DictEntry} {ep : Nat}, s₁.heap.get? b = some o → o.data = .dict es ep → H b = none := fun {b o es ep} e d => by
      cases q : H b with
      | none => rfl
      | some u =>
        have e' : b = a := hA b (by rw [q]; simp)
        subst e'
        rw [ha] at e; cases e
        have d' : Data.seq vs.toArray _ = Data.dict es ep := d
        cases d'
    have nsK : ∀ {b : Addr} {m : Str → Option Value}, s₁.heap.Ns b m → (hidT s₁.heap H).Ns b m := fun {b m} ⟨o, es, ep, e, d, r⟩ => ⟨o, es, ep, base_of e (noA e d), d, r⟩
    have hKb : K.In (hidT s₁.heap H) := fun b o e => base_of (KX b o e) (by
      cases q : H b with
      | none => rfl
      | some u =>
        have e' : b = a := hA b (by rw [q]; simp)
        subst e'
        rw [hK (by rw [q]; simp)] at e; cases e)
    have hM : Mod K mg (hidT s₁.heap H) := ⟨hKb, nsK hns, ⟨mb, nsK hb, hbb⟩, let ⟨mc, h1, h2⟩ := hlim; ⟨mc, nsK h1, h2⟩⟩
    have e0 : Env0 P w K mg (hidT s₁.heap H) callerA [] s₁ H := ⟨rfl, hM, fun b o e => of_hidT e, Nat.le_of_eq (hidT_size _ _), trivial, fun b hb => absurd (show b ∈ ([] : List Addr) from hb) (by simp), hok, .of_eq hg⟩
    refine codeAny_mono ((F _ hKb (nsK hns)).run callerA [] s₁ H ⟨[.ref a], []⟩ [.ref a] [.ref a] _ _ hr e0 (hbind s₁ (.ref a)) (.cons rfl .nil) (hsp H hO hS)) fun r s' h => ?_
    cases r with
    | error e => exact (hCX H e s' h).elim
    | ok fl =>
      cases fl with
      | next => exact False.elim h
      | brk => exact False.elim h
      | cont => exact False.elim h
      | ret u =>
        obtain ⟨v, H', os, bare, un, hok', r', q⟩ := h
        have q' : v = .bl true := q
        subst q'
        obtain rfl : u = Value.bool true := r'
        refine ⟨rfl, OldK.of_keep fun b o e => ?_, os, bare⟩
        cases q : H b with
        | none => exact un.keep b o e q (by intro z; exact absurd (show b ∈ ([] : List Addr) from z) (by simp)) (by simp)
        | some u =>
          rcases hO b with z | ⟨ob, xs, z⟩
          · rw [q] at z; cases z
          · have z2 := un.frzs b ob _ z
            obtain ⟨e1, _⟩ := hok b _ z
            obtain ⟨e2, _⟩ := hok' b _ z2
            rw [e] at e1; cases e1
            exact e2
  cases hk : K.lookup a with
  | some o =>
    -- the script is one of the module's own objects
    have e := KX a o hk
    rw [ha] at e
    cases e
    refine core (fun _ => none) (fun _ => .inl rfl) (.inr ⟨_, vs.toArray, _, hk, rfl, rfl, rfl, by rw [List.size_toArray, lenV]; exact hl, by simpa using rv⟩) (fun b u z => by have z' : (none : Option HO) = some u := z; cases z') (fun b z => absurd rfl z) fun z => absurd rfl z
  | none =>
    refine core (fun b => if b = a then some (.frz { cls := .type "list", data := .seq vs.toArray } (.lst (ns.map V.int))) else none) (fun b => ?_) (.inl (.inr ⟨{ cls := .type "list", data := .seq vs.toArray }, if_pos rfl⟩)) (fun b u z => ?_) (fun b z => ?_) fun _ => hk
    · by_cases hb : b = a
      · exact .inr ⟨_, _, if_pos hb⟩
      · exact .inl (if_neg hb)
    · by_cases hb : b = a
      · have z' := (if_pos hb).symm.trans z
        cases z'
        subst hb
        exact ⟨ha, by rw [List.length_map]; exact hl, vs, _, rv, ha⟩
      · have z' := (if_neg hb).symm.trans z
        cases z'
    · by_cases hb : b = a
      · exact hb
      · exact absurd (if_neg hb) z
end L2

namespace L2
open PySem PySem.Spec PyProof.Rows

abbrev KOf {K : PySem.W.Frag} {h : Heap} (_ : K.In h) : PySem.W.Frag := K

end L2

/- THE LAST THEOREM (shape; LID, My.* are yours):
   My.Adr: a structure of the addresses that your layer names (classes, functions); My.Txt K t: a structure (Prop) of the equations over K;
   My.txt_mk : {K} {implicit addresses ..} (e1 : nsIn K mainGlobals "law" = some (some (.ref f))) (e2 : K.lookup f = some ⟨oc, od, .func (fnOf "law" "law" params body scope dV kV doc pm an cdv ct), sl⟩) (e3 : codeIn K cdv "law" = true) .. : ∃ t, My.Txt K t

set_option maxRecDepth 100000 in
set_option maxHeartbeats 0 in
theorem PySem.Challenge.cw_LID_holds : PySem.Challenge.rw_LID.Holds := by
  w_on; o_law; k_head; (case hw => w_witness2)
  k_fill
  refine L2.walk_of (l := PySem.Challenge.rw_LID) (n := 63) (k := 40) (x := "script") (CX := fun w => ..) (sp := fun _ => My.sp_law) rfl (by decide) rfl ⟨rfl, by decide, by decide⟩ (fun w h Y => PySem.W.kIn_of Y) ?F ?S ?C
  case F =>
    intro w mg fa h KX G hmg
    have T : ∃ t, My.Txt (L2.KOf KX) t := by
      dsimp only [L2.KOf]                          -- K must stand as «<heap const> w.params» for k_is
      refine' My.txt_mk ?e1 ?e2 ?e3 ..
      (case e1 => PySem.W.k_is)                    -- in the order: a name -> its address -> its object -> its parts
      (case e2 => PySem.W.k_is)
      ..
    obtain ⟨t, T⟩ := T
    have e0 := hmg.symm.trans (PySem.W.mg_of KX G T.law)
    cases e0                                       -- fa is the law's own address
    exact ⟨_, fun s u => .of_eq rfl, fun base kb nb => My.law_fn T kb nb⟩     -- if «.of_eq rfl» comes too early: refine' ⟨_, ?b, fun base kb nb => My.law_fn T kb nb⟩; exact fun s u => .of_eq rfl
  case S => exact fun w H a ns hl hO hS => ..
  case C => exact ..
(the tactic k_is has no namespace: write k_is) -/

/-! SHORT WORDS over the layer: a def of the text, its body, what a loop and a test want. -/
namespace L2
open PySem PySem.Spec PyProof.Rows

/-! ### the text by places -/
/-- the j-th statement of a class's body -/
def inClass (s : Stmt) (j : Nat) : Stmt := match s with
  | .ClassDef _ _ _ body _ _ _ _ _ _ _ => body.getD j (.Pass ⟨0, 0, 0, 0⟩)
  | _ => .Pass ⟨0, 0, 0, 0⟩
def defArgs (s : Stmt) : Arguments := match s with
  | .FunctionDef _ a _ _ _ _ _ _ _ _ => a
  | _ => { posonlyargs := [], args := [], vararg := none, kwonlyargs := [], kw_defaults := [], kwarg := none, defaults := [] }
def defBody (s : Stmt) : List Stmt := match s with
  | .FunctionDef _ _ b _ _ _ _ _ _ _ => b
  | _ => []
def defScope (s : Stmt) : Scope := match s with
  | .FunctionDef _ _ _ _ _ _ sc _ _ _ => sc
  | _ => { kind := .function, names := [], isGenerator := false, isCoroutine := false }

/-! ### no exception leaves a def -/
abbrev CX0 : CXT := fun _ _ _ _ _ _ => False
abbrev E0 : XK := fun _ _ _ => False
theorem pass0 {X : Cx} : Passes CX0 X E0 := fun _ _ _ _ _ _ _ h => h.elim

/-! ### a def (or method) of the text as it stands behind the top -/
structure Fun (K : PySem.W.Frag) (x qual : Str) (st : Stmt) (f : Addr) (fd : FuncData) : Prop where
  ex : ∃ (oc : Value) (od : Option Addr) (kV doc pm : Value) (an : Option Addr) (cdv ct : Value) (osl : Array (Option Value)),
    fd = PySem.W.fnOf x qual (defArgs st) (defBody st) (defScope st) .none kV doc pm an cdv ct ∧ K.lookup f = some ⟨oc, od, .func fd, osl⟩ ∧ PySem.W.codeIn K cdv qual = true
  kp : PySem.W.keepIn K (.ref f) = true
section
variable {P : Program} {w : World} {K : PySem.W.Frag} {mg : Str → Option Value} {base : Heap}
/-- THE RULE for a def: its body as a term of rules, and the reading of that term -/
theorem Fun.ok {x qual : Str} {st : Stmt} {f : Addr} {fd : FuncData} {N ps : List Str} {k : Nat} {sp : Sp} (F : Fun K x qual st f fd) (S : FnScope N ps (defScope st)) (len : ∀ vs H Q E, sp vs H Q E → vs.length = ps.length)
    (hbody : ∀ (cdv : Value) (A : Around) (outer : List Env) (s : Shared) (H : Hp) (vs : List V) (Q : VK) (E : XK), Room k (A.deeper (envOfC qual (defScope st) s.heap.objs.size f cdv)) → sp vs H Q E →
      ∃ t, PSs (cxOf CX0 P w K mg base N qual (defScope st) f cdv A outer s H E).nox (defBody st) t ∧ t { nx := fun _ H' => Q .non H', rt := Q } (start N vs) H) : FnOk P w K mg base CX0 (k + 1) f fd ps sp := by
  obtain ⟨oc, od, kV, doc, pm, an, cdv, ct, osl, rfl, lk, hcd⟩ := F.ex
  refine fn_of lk hcd S len fun A outer s H vs Q E hr hsp => ?_
  obtain ⟨t, h, q⟩ := hbody cdv A outer s H vs Q E hr hsp
  exact ⟨t, h.nox, q⟩
/-- how its arguments bind (no defaults): h is «fun _ _ _ _ _ _ us hl => match us, hl with | [_, _], _ => rfl», one _ a parameter -/
theorem Fun.binds {x qual : Str} {st : Stmt} {f : Addr} {fd : FuncData} {ps : List Str} (F : Fun K x qual st f fd)
    (h : ∀ (kV doc pm : Value) (an : Option Addr) (cdv ct : Value) (us : List Value), us.length = ps.length → bindArgs (PySem.W.fnOf x qual (defArgs st) (defBody st) (defScope st) .none kV doc pm an cdv ct) ⟨us, []⟩ = pure (ps.zip us)) : Binds K fd ps [] := by
  obtain ⟨oc, od, kV, doc, pm, an, cdv, ct, osl, rfl, lk, hcd⟩ := F.ex
  exact .all (h kV doc pm an cdv ct)
theorem fun_mk {x qual : Str} {st : Stmt} {f : Addr} {oc : Value} {od an : Option Addr} {osl : Array (Option Value)} {kV doc pm cdv ct : Value} (l : K.lookup f = some ⟨oc, od, .func (PySem.W.fnOf x qual (defArgs st) (defBody st) (defScope st) .none kV doc pm an cdv ct), osl⟩)
    (c : PySem.W.codeIn K cdv qual = true) (k : PySem.W.keepIn K (.ref f) = true) : Fun K x qual st f (PySem.W.fnOf x qual (defArgs st) (defBody st) (defScope st) .none kV doc pm an cdv ct) := ⟨⟨oc, od, kV, doc, pm, an, cdv, ct, osl, rfl, l, c⟩, k⟩
end

/-! ### expressions in short: the name that stands in the i-th slot -/
section
variable {X : Cx}
theorem pv (i : Nat) {x : Str} {pos : Pos} (hN : X.N[i]? = some x := by rfl) (hv : Vis X.env.scope x := by first | exact Or.inl rfl | exact Or.inr (Or.inl rfl) | exact Or.inr (Or.inr rfl)) (hd : (x == ("__debug__" : Str)) = false := by decide)
    (hcd : (x == ("__classdict__" : Str)) = false := by decide) : PE X (.Name x pos) (tVar i) := pe_var hN hv hd hcd
end

/-! ### tests -/
theorem iteF {A B : Prop} (h : B) : if false = true then A else B := by
  rw [if_neg Bool.false_ne_true]
  exact h
theorem iteT {A B : Prop} (h : A) : if true = true then A else B := by
  rw [if_pos rfl]
  exact h
theorem ite2 {c A B : Prop} [Decidable c] (h1 : c → A) (h2 : ¬ c → B) : if c then A else B := by
  by_cases h : c
  · rw [if_pos h]
    exact h1 h
  · rw [if_neg h]
    exact h2 h

/-! ### heaps -/
/-- all that was tracked is as it was -/
def Same (H H' : Hp) : Prop := ∀ b o, H b = some o → H' b = some o
theorem Same.refl (H : Hp) : Same H H := fun _ _ h => h
theorem Same.trans {H H1 H2 : Hp} (a : Same H H1) (b : Same H1 H2) : Same H H2 := fun c o h => b c o (a c o h)
theorem Same.free {H H' : Hp} (e : Same H H') {l : Addr} (h : H' l = Option.none) : H l = Option.none := by
  cases q : H l with
  | none => rfl
  | some o =>
    rw [e l o q] at h
    cases h
theorem Same.seq {K : PySem.W.Frag} {H H' : Hp} {a : Addr} {xs : List V} (e : Same H H') (h : SqL K H a xs) : SqL K H' a xs := by
  rcases h with (h | ⟨o, h⟩) | h
  · exact .inl (.inl (e _ _ h))
  · exact .inl (.inr ⟨o, e _ _ h⟩)
  · exact .inr h

end L2

set_option Elab.async false
set_option linter.all false
set_option maxRecDepth 100000
set_option maxHeartbeats 4000000
namespace L2
open PySem PySem.Spec PyProof.Rows

/-! ### a list comprehension: its block as a context of its own -/
/-- the context of the block: s, H the state behind the new list; fp the iterator's records -/
def cxComp (X : Cx) (scope : Scope) (cl : List (Str × Addr)) (N : List Str) (s : Shared) (H : Hp) (fp : List Addr) : Cx :=
  { prog := X.prog, w := X.w, K := X.K, mg := X.mg, base := X.base, A := X.A, N := N, s₀ := s, H₀ := H, env := compEnvC scope cl s.heap.objs.size X.env,
    outer := X.stack, stack := X.stack, ex := fp, fn := fun _ => false, calm := X.calm, pn := [], xe := fun _ _ => False }
/-- the names that the block sees: its own one, then those of the def at the places js -/
def cNames (X : Cx) (x : Str) (js : List Nat) : List Str := x :: js.map fun j => X.N.getD j ""
def cVals (js : List Nat) (σ : St) : St := js.map fun j => (σ[j]?).getD none
/-- each place holds a name that is a cell of the def's and free in the block -/
structure FreeAt (X : Cx) (scope : Scope) (js : List Nat) : Prop where
  all : ∀ j ∈ js, ∃ y, X.N[j]? = some y ∧ (X.env.kindOf y = some .cell ∨ X.env.kindOf y = some .free) ∧ (y, NameKind.free) ∈ scope.names ∧
    ((relabel scope X.env).names.lookup y = some .cell ∨ (relabel scope X.env).names.lookup y = some .free)
theorem fa_nil {X : Cx} {scope : Scope} : FreeAt X scope [] := ⟨fun _ h => nomatch h⟩
theorem fa_cons {X : Cx} {scope : Scope} {j : Nat} {js : List Nat} {y : Str} (h1 : X.N[j]? = some y) (h2 : X.env.kindOf y = some .cell ∨ X.env.kindOf y = some .free) (h3 : (y, NameKind.free) ∈ scope.names)
    (h4 : (relabel scope X.env).names.lookup y = some .cell ∨ (relabel scope X.env).names.lookup y = some .free) (r : FreeAt X scope js) : FreeAt X scope (j :: js) :=
  ⟨fun k hk => by
    rcases List.mem_cons.mp hk with e | e
    · subst e; exact ⟨y, h1, h2, h3, h4⟩
    · exact r.all k e⟩

theorem lookup_relabel {env : Env} : ∀ {names : List (Str × NameKind)} {y : Str} {k : NameKind},
    (names.map fun (n, k) => if (k == NameKind.free && env.scope.kind == .function && env.kindOf n == some .cell) then (n, NameKind.cell) else (n, k)).lookup y = some k →
    ∃ k', (y, k') ∈ names ∧ (k' = k ∨ (k = .cell ∧ k' = .free))
  | [], _, _, h => by simp at h
  | (n, k0) :: r, y, k, h => by
    by_cases hc : (k0 == NameKind.free && env.scope.kind == .function && env.kindOf n == some .cell) = true
    · rw [List.map_cons] at h
      dsimp only at h
      rw [if_pos hc] at h
      simp only [List.lookup_cons] at h
      have hf : k0 = .free := by
        rw [Bool.and_eq_true, Bool.and_eq_true] at hc
        exact beq_iff_eq.mp hc.1.1
      cases hx : y == n with
      | true =>
        rw [hx] at h
        have e := beq_iff_eq.mp hx
        subst e
        have e2 := Option.some.inj h
        exact ⟨k0, List.mem_cons_self, .inr ⟨e2.symm, hf⟩⟩
      | false =>
        rw [hx] at h
        obtain ⟨k', m, q⟩ := lookup_relabel h
        exact ⟨k', List.mem_cons_of_mem _ m, q⟩
    · rw [List.map_cons] at h
      dsimp only at h
      rw [if_neg hc] at h
      simp only [List.lookup_cons] at h
      cases hx : y == n with
      | true =>
        rw [hx] at h
        have e := beq_iff_eq.mp hx
        subst e
        have e2 := Option.some.inj h
        exact ⟨k0, List.mem_cons_self, .inl e2⟩
      | false =>
        rw [hx] at h
        obtain ⟨k', m, q⟩ := lookup_relabel h
        exact ⟨k', List.mem_cons_of_mem _ m, q⟩

section
variable {X : Cx} {pins : List (Addr × Obj)} {σ : St} {H : Hp} {s : Shared} {scope : Scope} {cl : List (Str × Addr)} {x : Str} {js : List Nat} {fp : List Addr}

theorem comp_ok (I : Inv X pins σ H s) (hk : scope.kind = .function) (hcell : ∀ y ∈ scope.names, y.2 ≠ .cell)
    (hcl1 : ∀ y c, cl.lookup y = some c → X.env.cells.lookup y = some c) (hcl2 : ∀ y, (y, NameKind.free) ∈ scope.names → ∃ c, cl.lookup y = some c)
    (hf : ∀ b ∈ fp, FpOk X pins H b) (hlt : ∀ b ∈ fp, b < s.heap.objs.size) : (cxComp X scope cl (cNames X x js) s H fp).Ok where
  mod := I.ok.mod
  kind := hk
  glob := I.ok.glob
  blt := I.ok.blt
  above := Nat.le_refl _
  inj := fun y z c h1 h2 => I.ok.inj y z c (hcl1 y c h1) (hcl1 z c h2)
  has := fun y hy => by
    have hy' : (relabel scope X.env).names.lookup y = some .cell ∨ (relabel scope X.env).names.lookup y = some .free := hy
    rcases hy' with h | h
    · obtain ⟨k', m, q⟩ := lookup_relabel h
      rcases q with q | ⟨_, q⟩
      · exact absurd q (hcell _ m)
      · subst q; exact hcl2 y m
    · obtain ⟨k', m, q⟩ := lookup_relabel h
      rcases q with q | ⟨q, _⟩
      · subst q; exact hcl2 y m
      · cases q
  cab := fun y c h _ => by cases h
  hd := I.ok.hd
  frames := I.ok.frames
  stk := .inl rfl
  exf := fun b hb => ⟨Nat.ne_of_lt (hlt b hb), fun y c h => (hf b hb).2.2.2.2.1 y c (hcl1 y c h)⟩
  bs := I.bs
  bsz := Nat.le_trans I.ok.bsz I.sz
  noex := fun b o e hb => by
    rcases (hf b hb).2.2.2.1 with z | z
    · exact I.ok.noex b o e z
    · exact absurd (Nat.lt_of_lt_of_le (Heap.lt_size e) (Nat.le_trans I.ok.bsz z)) (Nat.lt_irrefl _)
  exfs := fun b hb hz => (List.mem_cons.mp (I.stkSub b hz)).elim (hf b hb).2.1 (hf b hb).2.2.1
  funs := I.stack
  frf := I.stkFree

theorem comp_start {h₁ : Heap} {tk : Nat} (I : Inv X pins σ H s) (hk : scope.kind = .function) (hcell : ∀ y ∈ scope.names, y.2 ≠ .cell)
    (hcl1 : ∀ y c, cl.lookup y = some c → X.env.cells.lookup y = some c) (hcl2 : ∀ y, (y, NameKind.free) ∈ scope.names → ∃ c, cl.lookup y = some c) (hjs : FreeAt X scope js)
    (hf : ∀ b ∈ fp, FpOk X pins H b) (hlt : ∀ b ∈ fp, b < s.heap.objs.size) {m : Str → Option Value} (hn : h₁.Ns s.heap.objs.size m) (hkeep : ∀ b o, s.heap.get? b = some o → h₁.get? b = some o) :
    Inv (cxComp X scope cl (cNames X x js) s H fp) [] (none :: cVals js σ) H { s with heap := h₁, toks := tk } where
  ok := comp_ok I hk hcell hcl1 hcl2 hf hlt
  os := rfl
  bare := I.bare
  base := Un.kept hkeep
  loc := by
    refine ⟨m, hn, fun i y v h1 h2 h3 => ?_⟩
    cases i with
    | zero =>
      have z : (some none : Option (Option V)) = some (some v) := h2
      cases z
    | succ k =>
      have h1' : (js.map fun j => X.N.getD j "")[k]? = some y := h1
      have h2' : (js.map fun j => (σ[j]?).getD none)[k]? = some (some v) := h2
      rw [List.getElem?_map] at h1' h2'
      cases hj : js[k]? with
      | none => rw [hj] at h1'; cases h1'
      | some j =>
        rw [hj] at h1' h2'
        have e1 : X.N.getD j "" = y := Option.some.inj h1'
        have e2 : (σ[j]?).getD none = some v := Option.some.inj h2'
        obtain ⟨y', n1, n2, n3, n4⟩ := hjs.all j (List.mem_of_getElem? hj)
        have e3 : y' = y := by rw [← e1, List.getD_eq_getElem?_getD, n1]; rfl
        subst e3
        have e4 : σ[j]? = some (some v) := by
          cases q : σ[j]? with
          | none => rw [q] at e2; cases e2
          | some a => rw [q] at e2; exact congrArg some e2
        obtain ⟨m0, _, hl⟩ := I.loc
        obtain ⟨u, r, l⟩ := hl j y' v n1 e4 (n2.elim (fun z => Or.inr (Or.inl z)) fun z => Or.inr (Or.inr z))
        refine ⟨u, r, .inr ⟨n4, ?_⟩⟩
        rcases l with ⟨l, _⟩ | ⟨_, c, hc, hi⟩
        · exfalso
          rcases n2 with z | z <;> (rw [z] at l; cases l)
        · obtain ⟨c', hc'⟩ := hcl2 y' n3
          have e5 := hcl1 y' c' hc'
          rw [hc] at e5
          have e6 := Option.some.inj e5
          subst e6
          obtain ⟨o, ho, hd⟩ := hi
          exact ⟨c, hc', o, hkeep c o ho, hd⟩
  cell := fun y c h => by
    obtain ⟨v, o, ho, hd⟩ := I.cell y c (hcl1 y c h)
    exact ⟨v, o, hkeep c o ho, hd⟩
  free := I.hok.fresh (Nat.le_refl _)
  freeC := fun y c h => I.freeC y c (hcl1 y c h)
  pin := fun p hp => absurd (show p ∈ ([] : List (Addr × Obj)) from hp) (by simp)
  hok := I.hok.kept hkeep
  len := by
    show (none :: cVals js σ).length = (cNames X x js).length
    simp [cVals, cNames]
end

/-- the tests of a clause -/
def PIf (X : Cx) (ifs : List Expr) (t : TT) : Prop :=
  ∀ (pins : List (Addr × Obj)) (s : Shared) (σ : St) (H : Hp) (Q : Bool → Hp → Prop), Inv X pins σ H s → t σ H Q →
    wpAny (model X.prog X.w) X.A (forIn ifs true fun c r => if r = true then do let ok ← isTrue c X.env (eval c X.env); pure (ForInStep.yield ok) else pure (ForInStep.yield r)) (TP X pins σ Q) X.xe s
theorem pif_one {X : Cx} {c : Expr} {t : TT} (h : PT X c t) : PIf X [c] t := fun pins s σ H Q I q => wpAny_tests_one (h pins s σ H Q I q)

/-- [elt for x in iter if ..]: W an invariant by the turn and a measure; the list grows at D -/
def tComp (wi : TI) (tc : TT) (te : TE) (js : List Nat) : TE := fun σ H Q => wi σ H fun J H1 => ∀ D, H1 D = none →
  ∃ W : Nat → Nat → Hp → Prop, (∃ m, W 0 m (upd H1 D (.lst []))) ∧ ∀ i m H2, W i m H2 → (J.stop i H2 ∧ Q (.ref D) H2) ∨
    (J.go i H2 ∧ ∀ v H3, J.yld i H2 v H3 → tc (some v :: cVals js σ) H3 fun b H4 => if b = true then te (some v :: cVals js σ) H4 fun y H5 =>
      ∃ ys, H5 D = some (.lst ys) ∧ ys.length < sizeLine ∧ ∃ m', m' < m ∧ W (i + 1) m' (upd H5 D (.lst (ys ++ [y]))) else ∃ m', m' < m ∧ W (i + 1) m' H4)

section
variable {X : Cx} {elt iter : Expr} {x : Str} {px pos : Pos} {ifs : List Expr} {scope : Scope} {cl : List (Str × Addr)} {wi : TI} {tc : TT} {te : TE} {js : List Nat}

theorem comp_core {use : Option (Value → Sem Unit)} {Qv : Value → Shared → Prop} {pins : List (Addr × Obj)} {s : Shared} {σ : St} {H : Hp} {Q : VK}
    (hc : X.calm = true) (hi : PI X (.Name x px) iter wi) (hk : scope.kind = .function) (hcell : ∀ y ∈ scope.names, y.2 ≠ .cell) (hx : (relabel scope X.env).names.lookup x = some .local)
    (hcl1 : ∀ y c, cl.lookup y = some c → X.env.cells.lookup y = some c) (hcl2 : ∀ y, (y, NameKind.free) ∈ scope.names → ∃ c, cl.lookup y = some c) (hjs : FreeAt X scope js) (hnd : (cNames X x js).Nodup)
    (ht : ∀ s' H' fp, PIf (cxComp X scope cl (cNames X x js) s' H' fp) ifs tc) (he : ∀ s' H' fp, PE (cxComp X scope cl (cNames X x js) s' H' fp) elt te)
    (I : Inv X pins σ H s) (h : tComp wi tc te js σ H Q)
    (fin : ∀ (D C : Addr) (H' : Hp) (s' : Shared), Inv X pins σ H' s' → FpOk X pins H' C → (∃ m, s'.heap.Ns C m) → Q (.ref D) H' → compPost (model X.prog X.w) X.A X.xe use Qv (.ref D) C (.ok .next) s') :
    wpAny (model X.prog X.w) X.A (eval iter X.env) (fun xv s₁ => wpAny (model X.prog X.w) X.A (pyIter xv) (fun it s₂ => wpAny (model X.prog X.w) X.A (newList []) (fun acc s₃ =>
      wpAny (model X.prog X.w) X.A (newFunctionEnv scope X.env.globals cl [] X.env.qual none .none (some X.env)) (fun cenv s₄ =>
        codeAny (model X.prog X.w) X.A (.compStart (.ListComp elt [⟨.Name x px, iter, ifs, 0⟩] scope pos) 0 it acc { cenv with scope := relabel scope X.env })
          (compPost (model X.prog X.w) X.A X.xe use Qv acc cenv.locals) s₄) X.xe s₃) X.xe s₂) X.xe s₁) X.xe s := by
  refine thn (hi pins s σ H _ I h) fun v s1 h1 => thn h1 fun itv s2 h2 => ?_
  obtain ⟨it, fp, tn, J, H2, e, I2, T, st2, f2, hW⟩ := h2
  subst e
  obtain ⟨W, ⟨m0, w0⟩, turn⟩ := hW s2.heap.objs.size (I2.hok.fresh (Nat.le_refl _))
  have hlt2 : ∀ b ∈ fp, b < s2.heap.objs.size := fun b hb => let ⟨_, e, _⟩ := T.obj _ _ st2 b hb; Heap.lt_size e
  have I3 : Inv X pins σ (upd H2 s2.heap.objs.size (.lst [])) { s2 with heap := s2.heap.push { cls := .type "list", data := .seq ([] : List Value).toArray } } :=
    I2.lnew (t' := s2.toks) (its := []) .nil (Nat.zero_le _)
  refine wpAny_newObj_type ?_
  have k23 : ∀ b o, s2.heap.get? b = some o → (s2.heap.push { cls := .type "list", data := .seq ([] : List Value).toArray }).get? b = some o := fun b o e => Heap.get?_push_of_some _ e
  have sz3 : (s2.heap.push { cls := .type "list", data := .seq ([] : List Value).toArray }).objs.size = s2.heap.objs.size + 1 := Heap.size_push ..
  generalize hs3 : ({ s2 with heap := s2.heap.push { cls := .type "list", data := .seq ([] : List Value).toArray } } : Shared) = s3 at I3
  have hs3' : s3.heap = s2.heap.push { cls := .type "list", data := .seq ([] : List Value).toArray } := by rw [← hs3]
  have hlt3 : ∀ b ∈ fp, b < s3.heap.objs.size := fun b hb => by rw [hs3', sz3]; exact Nat.lt_succ_of_lt (hlt2 b hb)
  have f3 : ∀ b ∈ fp, FpOk X pins (upd H2 s2.heap.objs.size (.lst [])) b := fun b hb => ⟨by rw [upd_ne (Nat.ne_of_lt (hlt2 b hb))]; exact (f2 b hb).1, (f2 b hb).2⟩
  refine wpAny_newFunctionEnv hcell (by intro y hy; simp at hy) (fun h₁ hns hsb => ?_) hk
  have k34 : ∀ b o, s3.heap.get? b = some o → h₁.get? b = some o := fun b o e => hsb.extBut b o (Nat.ne_of_lt (Heap.lt_size e)) (Heap.get?_push_of_some _ e)
  have I4 := comp_start (x := x) (js := js) (tk := s3.toks + ([] : List (Str × Value)).length) I3 hk hcell hcl1 hcl2 hjs f3 hlt3 hns k34
  have st4 : tn 0 h₁ := T.keep 0 _ _ st2 fun b hb o e => k34 b o (by rw [hs3']; exact k23 b o e)
  -- the iterator's records stay what they are
  have stat : ∀ {H' : Hp}, (∀ b ∈ fp, H' b = none) → ∀ b ∈ fp, FpOk (cxComp X scope cl (cNames X x js) s3 (upd H2 s2.heap.objs.size (.lst [])) fp) [] H' b := fun hn b hb =>
    ⟨hn b hb, Nat.ne_of_lt (hlt3 b hb), fun hz => (List.mem_cons.mp (I3.stkSub b hz)).elim (f2 b hb).2.1 (f2 b hb).2.2.1, .inl hb, fun y c q => (f2 b hb).2.2.2.2.1 y c (hcl1 y c q), fun p hp => absurd (show p ∈ ([] : List (Addr × Obj)) from hp) (by simp)⟩
  have back : ∀ {σ' : St} {H' : Hp} {s' : Shared}, Inv (cxComp X scope cl (cNames X x js) s3 (upd H2 s2.heap.objs.size (.lst [])) fp) [] σ' H' s' → Inv X pins σ H' s' := fun {σ' H' s'} J' =>
    I3.call' (ch := fp) J'.os J'.base J'.hok J'.bare fun b hb => ⟨(f2 b hb).2.2.2.1, (f2 b hb).2.1, (f2 b hb).2.2.2.2.1, (f2 b hb).2.2.2.2.2⟩
  have loop : codeAny (model X.prog X.w) X.A (.compLoop (.ListComp elt [⟨.Name x px, iter, ifs, 0⟩] scope pos) 0 (.ref it) (.ref s2.heap.objs.size) (compEnvC scope cl s3.heap.objs.size X.env))
      (compPost (model X.prog X.w) X.A X.xe use Qv (.ref s2.heap.objs.size) s3.heap.objs.size) { s3 with heap := h₁, toks := s3.toks + ([] : List (Str × Value)).length } := by
    refine codeAny_compLoop_tests (fun n s' => ∃ i o H', Inv (cxComp X scope cl (cNames X x js) s3 (upd H2 s2.heap.objs.size (.lst [])) fp) [] (o :: cVals js σ) H' s' ∧ tn i s'.heap ∧ (∀ b ∈ fp, H' b = none) ∧ W i n H') ?_ m0
      ⟨0, none, _, I4, st4, fun b hb => (f3 b hb).1, w0⟩
    rintro n s5 ⟨i, o, H5, I5, st5, fr5, w5⟩
    rcases turn i n H5 w5 with ⟨stop, q⟩ | ⟨go, step⟩
    · refine thn (T.done (cxComp X scope cl (cNames X x js) s3 (upd H2 s2.heap.objs.size (.lst [])) fp) rfl rfl rfl hc i [] s5 _ H5 _ I5 (stat fr5) st5 stop) fun r s6 ⟨hr, I6⟩ => ?_
      subst hr
      exact fin _ _ H5 s6 (back I6) (I3.fpOk (Nat.le_refl _) I6.free) (let ⟨m, hm, _⟩ := I6.loc; ⟨m, hm⟩) q
    · refine thn (T.item (cxComp X scope cl (cNames X x js) s3 (upd H2 s2.heap.objs.size (.lst [])) fp) rfl rfl rfl hc i [] s5 _ H5 _ I5 (stat fr5) st5 go) fun r s6 ⟨u, hr, h6⟩ => ?_
      subst hr
      show wpAny _ _ (assign (.Name x px) _ u) _ _ s6
      intro Γ p hΓ
      have h6' := h6 Γ p hΓ
      obtain ⟨v, H6, I6, r6, y6, st6, fr6⟩ := h6'
      refine (?_ : wpAny _ _ _ _ _ s6) Γ p hΓ
      have I6' := I6.pinned (stat fr6) (T.obj _ _ st6)
      have hg : PG (cxComp X scope cl (cNames X x js) s3 (upd H2 s2.heap.objs.size (.lst [])) fp) (.Name x px) (gName 0) := pg_name (i := 0) hnd rfl (Or.inl hx) (.inr hx)
      refine wpAny_mono (hg _ s6 _ H6 v u (fun σ' H' => σ' = some v :: cVals js σ ∧ H' = H6) I6' r6 ⟨rfl, rfl⟩) (fun _ s7 q7 => ?_) (fun _ _ f => False.elim f)
      obtain ⟨σ7, H7, I7, e7, e8⟩ := q7
      subst e7 e8
      refine wpAny_mono (ht s3 _ fp _ s7 _ H7 _ I7 (step v H7 y6)) (fun ok s8 q8 => ?_) (fun _ _ f => False.elim f)
      obtain ⟨H8, I8, q8⟩ := q8
      have again : ∀ {s9 : Shared} {σ9 : St} {H9 : Hp} {m' : Nat}, Inv (cxComp X scope cl (cNames X x js) s3 (upd H2 s2.heap.objs.size (.lst [])) fp) ([] ++ pinsAt fp s6.heap) (some v :: cVals js σ) H9 s9 → m' < n → W (i + 1) m' H9 →
          ∃ m, m < n ∧ ∃ i o H', Inv (cxComp X scope cl (cNames X x js) s3 (upd H2 s2.heap.objs.size (.lst [])) fp) [] (o :: cVals js σ) H' s9 ∧ tn i s9.heap ∧ (∀ b ∈ fp, H' b = none) ∧ W i m H' := fun {s9 σ9 H9 m'} I9 hm w9 => by
        refine ⟨m', hm, i + 1, some v, H9, I9.unpinned, T.keep _ _ _ st6 fun b hb o e => (I9.pin (b, o) (List.mem_append_right _ (List.mem_append_right _ (mem_pinsAt hb e)))).1, fun b hb => ?_, w9⟩
        obtain ⟨o, e, d⟩ := T.obj _ _ st6 b hb
        exact (I9.pin (b, o) (List.mem_append_right _ (List.mem_append_right _ (mem_pinsAt hb e)))).2.1
      cases ok with
      | false =>
        rw [if_neg Bool.false_ne_true] at q8 ⊢
        obtain ⟨m', hm, w9⟩ := q8
        exact again (σ9 := []) I8 hm w9
      | true =>
        rw [if_pos rfl] at q8 ⊢
        refine wpAny_mono (he s3 _ fp _ s8 _ H8 _ I8 q8) (fun y s9 q9 => ?_) (fun _ _ f => False.elim f)
        obtain ⟨yv, H9, I9, r9, ys, hD, hl, m', hm, w9⟩ := q9
        refine wpAny_mono (mt_append (X := cxComp X scope cl (cNames X x js) s3 (upd H2 s2.heap.objs.size (.lst [])) fp) _ s9 _ H9 (.ref s2.heap.objs.size) [yv] (.ref s2.heap.objs.size) [y] (fun _ H' => H' = upd H9 s2.heap.objs.size (.lst (ys ++ [yv]))) I9 rfl (.cons r9 .nil) ⟨_, ys, yv, rfl, rfl, hD, hl, rfl⟩) (fun _ s10 q10 => ?_) (fun _ _ f => False.elim f)
        obtain ⟨_, H10, I10, _, e10⟩ := q10
        subst e10
        exact again (σ9 := []) I10 hm w9
  exact codeAny_compStart_list loop (T.self _ 0 _ _ _ st4 loop)

/-- the comprehension as an expression -/
theorem pe_comp (hc : X.calm = true) (hi : PI X (.Name x px) iter wi) (hk : scope.kind = .function) (hcell : ∀ y ∈ scope.names, y.2 ≠ .cell) (hnames : ∀ y ∈ scope.names, y.2 = .local → scope.names.lookup y.1 = some .local) (hx : (relabel scope X.env).names.lookup x = some .local)
    (hclos : closureFor scope X.env = pure cl) (hcl1 : ∀ y c, cl.lookup y = some c → X.env.cells.lookup y = some c) (hcl2 : ∀ y, (y, NameKind.free) ∈ scope.names → ∃ c, cl.lookup y = some c) (hjs : FreeAt X scope js) (hnd : (cNames X x js).Nodup)
    (ht : ∀ s' H' fp, PIf (cxComp X scope cl (cNames X x js) s' H' fp) ifs tc) (he : ∀ s' H' fp, PE (cxComp X scope cl (cNames X x js) s' H' fp) elt te)
    (hs : ∀ x, foldedSetIterable iter X.env x = pure x := by intro _; rfl) : PE X (.ListComp elt [⟨.Name x px, iter, ifs, 0⟩] scope pos) (tComp wi tc te js) := by
  intro pins s σ H Q I h
  rw [eval_ListComp]
  refine wpAny_comprehension_free (use := none) rfl hs hclos hk hnames (comp_core hc hi hk hcell hx hcl1 hcl2 hjs hnd ht he I h fun D C H' s' I' fC hC q => ?_)
  obtain ⟨m, hm⟩ := hC
  refine ⟨m, hm, fun h' sb => ?_⟩
  obtain ⟨f0, f1, f2, f3, f4, f5⟩ := fC
  exact ⟨.ref D, H', I'.turned (t' := s'.toks) (fun b o hb e => (sb.2 b hb).trans e) f0 f1 f3 f4 f5, rfl, q⟩

/-- y = [..] -/
def tAsgC (i : Nat) (te : TE) : TS := fun D σ H => te σ H fun v H1 => D.nx (σ.set i (some v)) H1
theorem ps_setC {y : Str} {i : Nat} {py spos : Pos} (hN : X.N.Nodup) (hy : X.N[i]? = some y) (hyl : Loc X.env.scope y) (hyf : X.fn y = true ∨ X.env.scope.names.lookup y = some .local)
    (hsw : swapsWith (.ListComp elt [⟨.Name x px, iter, ifs, 0⟩] scope pos) (some (.Name y py)) spos.line X.env = pure true)
    (hc : X.calm = true) (hi : PI X (.Name x px) iter wi) (hk : scope.kind = .function) (hcell : ∀ y ∈ scope.names, y.2 ≠ .cell) (hnames : ∀ y ∈ scope.names, y.2 = .local → scope.names.lookup y.1 = some .local) (hx : (relabel scope X.env).names.lookup x = some .local)
    (hclos : closureFor scope X.env = pure cl) (hcl1 : ∀ y c, cl.lookup y = some c → X.env.cells.lookup y = some c) (hcl2 : ∀ y, (y, NameKind.free) ∈ scope.names → ∃ c, cl.lookup y = some c) (hjs : FreeAt X scope js) (hnd : (cNames X x js).Nodup)
    (ht : ∀ s' H' fp, PIf (cxComp X scope cl (cNames X x js) s' H' fp) ifs tc) (he : ∀ s' H' fp, PE (cxComp X scope cl (cNames X x js) s' H' fp) elt te)
    (hs : ∀ x, foldedSetIterable iter X.env x = pure x := by intro _; rfl) :
    PS X (.Assign [.Name y py] (.ListComp elt [⟨.Name x px, iter, ifs, 0⟩] scope pos) spos) (tAsgC i (tComp wi tc te js)) := by
  intro pins s σ H D I h
  rw [exec_Assign_Name_used _ _ _ _ hsw]
  refine wpAny_bind (wpAny_standAt (wpAny_bind ?_))
  show wpAny _ _ (do let _ ← comprehension (.ListComp elt [⟨.Name x px, iter, ifs, 0⟩] scope pos) scope X.env _ (newList []) false (eval iter X.env) (some (assign (.Name y py) X.env))) _ _ s
  refine wpAny_bind (wpAny_mono (wpAny_comprehension_free (use := some (assign (.Name y py) X.env)) (Q := fun _ s' => SP X pins D .next s') rfl hs hclos hk hnames
    (comp_core hc hi hk hcell hx hcl1 hcl2 hjs hnd ht he I h fun D' C H' s' I' fC hC q => ?_)) (fun _ s' hq => wpAny_pure (wpAny_pure hq)) fun _ _ e => e)
  obtain ⟨m, o, es, ep, ho, hd, hr⟩ := hC
  obtain ⟨f0, f1, f2, f3, f4, f5⟩ := fC
  have Ip : Inv X (pins ++ [(C, o)]) σ H' s' := I'.pins_of fun p hp => (List.mem_append.mp hp).elim (fun z => I'.pin p (List.mem_append_right _ z)) fun z => by
    have e : p = (C, o) := by simpa using z
    subst e
    exact ⟨ho, f0, f1, f2, fun v z => by rw [hd] at z; cases z⟩
  have hg : PG X (.Name y py) (gName i) := pg_name hN hy hyl hyf
  refine thn (hg _ s' σ H' (.ref D') (.ref D') (fun σ' H'' => σ' = σ.set i (some (.ref D')) ∧ H'' = H') Ip rfl ⟨rfl, rfl⟩) fun _ s'' q'' => ?_
  obtain ⟨σ'', H'', I'', e1, e2⟩ := q''
  subst e1 e2
  have hp := (I''.pin (C, o) (by simp)).1
  refine ⟨m, ⟨o, es, ep, hp, hd, hr⟩, fun h' sb => ?_⟩
  exact ⟨_, _, (I''.unpinned).turned (t' := s''.toks) (fun b o hb e => (sb.2 b hb).trans e) f0 f1 f3 f4 f5, q⟩
end
end L2


set_option Elab.async false
set_option linter.all false
set_option maxRecDepth 100000
set_option maxHeartbeats 4000000
namespace L2
open PySem PySem.Spec PyProof.Rows

/-! ### a def of the text: where it stands, what it promises -/
/-- the def st stands at the top by the name x -/
structure TopDef (K : PySem.W.Frag) (mg : Str → Option Value) (x : Str) (st : Stmt) : Prop where
  ex : ∃ (f : Addr) (fd : FuncData), Fun K x x st f fd ∧ mg x = some (.ref f)
theorem top_mk {K : PySem.W.Frag} {h : Heap} {mg : Str → Option Value} {x : Str} {st : Stmt} {f : Addr} {oc kV doc pm cdv ct : Value} {od an : Option Addr} {osl : Array (Option Value)} (X : K.In h) (G : h.Ns mainGlobals mg)
    (a : PySem.W.nsIn K mainGlobals x = some (some (.ref f)))
    (l : K.lookup f = some ⟨oc, od, .func (PySem.W.fnOf x x (defArgs st) (defBody st) (defScope st) .none kV doc pm an cdv ct), osl⟩)
    (c : PySem.W.codeIn K cdv x = true) (k : PySem.W.keepIn K (.ref f) = true) : TopDef K mg x st :=
  ⟨_, _, fun_mk l c k, PySem.W.mg_of X G a⟩
/-- the def by the name x keeps sp, within n calls of one another -/
structure Def (P : Program) (w : World) (K : PySem.W.Frag) (mg : Str → Option Value) (base : Heap) (n : Nat) (x : Str) (ps : List Str) (sp : Sp) : Prop where
  ex : ∃ (f : Addr) (fd : FuncData), FnOk P w K mg base CX0 n f fd ps sp ∧ Binds K fd ps [] ∧ PySem.W.keepIn K (.ref f) = true ∧ mg x = some (.ref f)
section
variable {P : Program} {w : World} {K : PySem.W.Frag} {mg : Str → Option Value} {base : Heap}
theorem def_of {x : Str} {st : Stmt} {N ps : List Str} {k : Nat} {sp : Sp} (T : TopDef K mg x st) (S : FnScope N ps (defScope st))
    (bd : ∀ (kV doc pm : Value) (an : Option Addr) (cdv ct : Value) (us : List Value), us.length = ps.length → bindArgs (PySem.W.fnOf x x (defArgs st) (defBody st) (defScope st) .none kV doc pm an cdv ct) ⟨us, []⟩ = pure (ps.zip us))
    (len : ∀ vs H Q E, sp vs H Q E → vs.length = ps.length)
    (body : ∀ (f : Addr) (cdv : Value) (A : Around) (outer : List Env) (s : Shared) (H : Hp) (vs : List V) (Q : VK) (E : XK), Room k (A.deeper (envOfC x (defScope st) s.heap.objs.size f cdv)) → sp vs H Q E →
      ∃ t, PSs (cxOf CX0 P w K mg base N x (defScope st) f cdv A outer s H E).nox (defBody st) t ∧ t { nx := fun _ H' => Q .non H', rt := Q } (start N vs) H) :
    Def P w K mg base (k + 1) x ps sp := by
  obtain ⟨f, fd, F, m⟩ := T.ex
  exact ⟨f, fd, F.ok S len (body f), F.binds bd, F.kp, m⟩
end
section
variable {X : Cx} {n : Nat} {x : Str} {ps : List Str} {sp : Sp} {e a b : Expr} {es : List Expr} {t : TA} {ta tb : TE} {p pos : Pos}
/-- f(..) of such a def -/
theorem pe_def (D : Def X.prog X.w X.K X.mg X.base n x ps sp) (hr : Room n X.A) (hg : Gl X x) (ha : PA X (e :: es) t) (hdb : (x == ("__debug__" : Str)) = false := by decide)
    (he : starEach (e :: es) X.env = (false, eval e X.env) :: starEach es X.env := by rfl) (hpl : (backTo pos (starEach es X.env)).any (·.1) = false := by rfl) :
    PE X (.Call (.Name x p) (e :: es) [] pos) (tCall sp [] E0 t) := by
  obtain ⟨f, fd, F, b, kp, m⟩ := D.ex
  exact pe_call F hr hg m kp b .nil pass0 ha hdb he hpl

/-! ### ints of any size -/
theorem op_mulK : OpR X (binaryOp .Mult) (rI IntMulOk fun i j => .int (i * j)) := opI fun _ _ _ _ _ _ _ hc q => PyProof.Rows.mul_int q hc

/-! ### isinstance(x, c) -/
theorem call_isi : CallR X (.builtin "isinstance") (fun xs H Q => ∃ (y : V) (c : V) (cv t : Value) (k : Bool), xs = [y, c] ∧ (∀ u, RelV c u → u = cv) ∧ TyOf X.K H y t ∧ PySem.W.kitOne X.K t cv = some k ∧ Q (.bl k) H) := by
  intro pins s σ H xs us Q I r h
  obtain ⟨y, c, cv, t, k, rfl, hc, ty, kt, q⟩ := h
  obtain ⟨u, w', rfl, r1, r2⟩ := vals2 r
  have e := hc _ r2
  subst e
  exact isinst_ok I r1 ty kt fun tk => ⟨.bl k, H, I.tok tk, rfl, q⟩
/-! ### sep.join(a list of texts) -/
theorem strs_of {ys : List Str} : ∀ {us : List Value}, Vals (ys.map V.str) us → StrsAre us ys := by
  induction ys with
  | nil =>
    intro us r
    cases r
    exact .nil
  | cons y r ih =>
    intro us q
    cases q with
    | cons a b =>
      obtain ⟨t, rfl⟩ := a
      exact .cons y t (ih b)
def rJoin (K : PySem.W.Frag) : V → List V → Hp → VK → Prop := fun x vs H Q => ∃ (sep : Str) (l : Addr) (ys : List Str), x = .str sep ∧ vs = [.ref l] ∧ SqL K H l (ys.map V.str) ∧ (ys.map (·.length)).sum + ys.length * sep.length ≤ 16777216 ∧ Q (.str (Txt.join sep ys)) H
theorem mt_join : MtM X "str.join" (rJoin X.K) := by
  intro pins s σ H x vs v us Q I rx rv h
  obtain ⟨sep, l, ys, rfl, rfl, hq, hz, q⟩ := h
  obtain ⟨t, rfl⟩ := rx
  obtain ⟨u, rfl, ru⟩ := rv.one
  cases ru
  obtain ⟨its, r, p, _⟩ := I.list hq
  exact join_list p.isList (by simpa using strs_of r) hz fun t' k => ⟨.str _, H, I.tok k, ⟨_, rfl⟩, q⟩
end
end L2


set_option Elab.async false
set_option linter.all false
set_option maxRecDepth 100000
set_option maxHeartbeats 4000000
namespace L2
open PySem PySem.Spec PySem.Calls PyProof.Rows PySem.W PySem.Builtin.Getset_descriptor
section
variable {prog : Program} {w : World} {A : Around} {E : Value → Shared → Prop} {s : Shared} {K : Frag} {x D : Addr}
end
end L2


set_option Elab.async false
set_option linter.all false
set_option maxRecDepth 100000
set_option maxHeartbeats 4000000
namespace L2
open PySem PySem.Spec PyProof.Rows
section
variable {P : Program} {w : World} {H : Hp} {h : Heap} {a : Addr} {o : HO}
end

/-! ### how an exception lies behind a call: ea the object, C its class; whatever is tracked, or stood ahead of the call, stands in B, which stays -/

/-! ### raise: the exception leaves the def -/
section
variable {P : Program} {w : World} {K : PySem.W.Frag} {mg : Str → Option Value} {base : Heap} {N : List Str} {qual : Str} {scope : Scope} {f : Addr} {cd : Value} {A : Around} {outer : List Env} {s : Shared} {H : Hp} {E : XK}
end
end L2


set_option Elab.async false
set_option linter.all false
set_option maxRecDepth 100000
set_option maxHeartbeats 4000000
namespace L2
open PySem PySem.Spec PyProof.Rows PySem.W

/-! ### raise X(..) of an own class without __init__ -/

section
variable {P : Program} {w : World} {K : Frag} {mg : Str → Option Value} {base : Heap} {N : List Str} {qual : Str} {scope : Scope} {f : Addr} {cd : Value} {A : Around} {outer : List Env} {s : Shared} {H : Hp} {E : XK}
end

/-! ### a def that may raise -/

/-! ### except X -/
end L2


set_option Elab.async false
set_option linter.all false
set_option maxRecDepth 100000
set_option maxHeartbeats 4000000
namespace L2
open PySem PySem.Spec PyProof.Rows PySem.W

section
variable {X : Cx} {pins : List (Addr × Obj)} {σ : St} {H H' : Hp} {s s' : Shared}
end
end L2


set_option Elab.async false
set_option linter.all false
set_option maxRecDepth 100000
set_option maxHeartbeats 4000000
namespace L2
open PySem PySem.Spec PyProof.Rows PySem.W

/-! ### try: f(..) except Y as n: suite -/

/-! ### isinstance(an exception that was caught, c) -/
end L2


set_option Elab.async false
set_option linter.all false
set_option maxRecDepth 100000
set_option maxHeartbeats 4000000
namespace L2
open PySem PySem.Spec PyProof.Rows PySem.W
section
variable {X : Cx}
/-! ### == of two tuples of ints -/

/-! ### a, b = a list -/

/-! ### a comprehension's free names -/
theorem clo_aux {env : Env} : ∀ (names : List (Str × NameKind)) (acc : List (Str × Addr)), (∀ y, (y, NameKind.free) ∈ names → ∃ c, env.cells.lookup y = some c) →
    ∃ cl : List (Str × Addr), (forIn names acc (fun x r => match x with
        | (name, kind) => if (kind == NameKind.free) = true then do let a ← cellOf env name; pure (ForInStep.yield ((name, a) :: r)) else pure (ForInStep.yield r)) : Sem _) = pure cl ∧
      (∀ y c, cl.lookup y = some c → acc.lookup y = some c ∨ env.cells.lookup y = some c) ∧ (∀ y, (y, NameKind.free) ∈ names → ∃ c, cl.lookup y = some c) ∧ ∀ y, (∃ c, acc.lookup y = some c) → ∃ c, cl.lookup y = some c
  | [], acc, _ => ⟨acc, rfl, fun _ _ h => .inl h, (fun _ h => nomatch h), fun _ h => h⟩
  | (nm, kd) :: r, acc, h => by
    by_cases hk : kd = .free
    · subst hk
      obtain ⟨c, hc⟩ := h nm List.mem_cons_self
      obtain ⟨cl, e, p1, p2, p3⟩ := clo_aux r ((nm, c) :: acc) fun y hy => h y (List.mem_cons_of_mem _ hy)
      refine ⟨cl, ?_, fun y d hd => ?_, fun y hy => ?_, fun y hy => ?_⟩
      · rw [List.forIn_cons]
        have z : cellOf env nm = pure c := by unfold cellOf; rw [hc]
        simp only [z, beq_self_eq_true, if_true]
        exact e
      · rcases p1 y d hd with q | q
        · rw [List.lookup_cons] at q
          cases hy : y == nm with
          | true =>
            rw [hy] at q
            have e1 := beq_iff_eq.mp hy
            subst e1
            cases q
            exact .inr hc
          | false => rw [hy] at q; exact .inl q
        · exact .inr q
      · rcases List.mem_cons.mp hy with q | q
        · cases q
          exact p3 nm ⟨c, by rw [List.lookup_cons, beq_self_eq_true]⟩
        · exact p2 y q
      · obtain ⟨d, hd⟩ := hy
        refine p3 y ?_
        rw [List.lookup_cons]
        cases y == nm with
        | true => exact ⟨c, rfl⟩
        | false => exact ⟨d, hd⟩
    · obtain ⟨cl, e, p1, p2, p3⟩ := clo_aux r acc fun y hy => h y (List.mem_cons_of_mem _ hy)
      refine ⟨cl, ?_, p1, fun y hy => ?_, p3⟩
      · rw [List.forIn_cons]
        have z : (kd == NameKind.free) = false := by simpa using hk
        simp only [z, Bool.false_eq_true, if_false]
        exact e
      · rcases List.mem_cons.mp hy with q | q
        · cases q; exact absurd rfl hk
        · exact p2 y q
theorem clo_of {scope : Scope} {env : Env} (h : ∀ y, (y, NameKind.free) ∈ scope.names → ∃ c, env.cells.lookup y = some c) :
    ∃ cl, closureFor scope env = pure cl ∧ (∀ y c, cl.lookup y = some c → env.cells.lookup y = some c) ∧ ∀ y, (y, NameKind.free) ∈ scope.names → ∃ c, cl.lookup y = some c := by
  obtain ⟨cl, e, p1, p2, _⟩ := clo_aux (env := env) scope.names [] h
  refine ⟨cl, ?_, fun y c hc => (p1 y c hc).elim (fun z => by cases z) fun z => z, p2⟩
  unfold closureFor
  show (forIn scope.names [] _ >>= fun s => pure s) = pure cl
  rw [bind_pure]
  exact e
/-- what the block's free names ask: each is one of those at js -/
theorem free_of {scope : Scope} {js : List Nat} {pins : List (Addr × Obj)} {σ : St} {H : Hp} {s : Shared} (I : Inv X pins σ H s) (hf : ∀ y, (y, NameKind.free) ∈ scope.names → X.env.kindOf y = some .cell ∨ X.env.kindOf y = some .free) :
    ∀ y, (y, NameKind.free) ∈ scope.names → ∃ c, X.env.cells.lookup y = some c := fun y hy => I.ok.has y (hf y hy)
variable {elt iter : Expr} {x : Str} {px pos : Pos} {ifs : List Expr} {scope : Scope} {wi : TI} {tc : TT} {te : TE} {js : List Nat}
theorem pe_compF (hc : X.calm = true) (hi : PI X (.Name x px) iter wi) (hk : scope.kind = .function) (hcell : ∀ y ∈ scope.names, y.2 ≠ .cell) (hnames : ∀ y ∈ scope.names, y.2 = .local → scope.names.lookup y.1 = some .local) (hx : (relabel scope X.env).names.lookup x = some .local)
    (hf : ∀ p ∈ scope.names, p.2 = .free → X.env.kindOf p.1 = some .cell ∨ X.env.kindOf p.1 = some .free) (hjs : FreeAt X scope js) (hnd : (cNames X x js).Nodup)
    (ht : ∀ cl s' H' fp, PIf (cxComp X scope cl (cNames X x js) s' H' fp) ifs tc) (he : ∀ cl s' H' fp, PE (cxComp X scope cl (cNames X x js) s' H' fp) elt te)
    (hs : ∀ x, foldedSetIterable iter X.env x = pure x := by intro _; rfl) : PE X (.ListComp elt [⟨.Name x px, iter, ifs, 0⟩] scope pos) (tComp wi tc te js) := by
  intro pins s σ H Q I h
  obtain ⟨cl, e, p1, p2⟩ := clo_of (free_of (js := js) I fun y hy => hf (y, .free) hy rfl)
  exact pe_comp hc hi hk hcell hnames hx e p1 p2 hjs hnd (ht cl) (he cl) hs pins s σ H Q I h
theorem ps_setF {y : Str} {i : Nat} {py spos : Pos} (hN : X.N.Nodup) (hy : X.N[i]? = some y) (hyl : Loc X.env.scope y) (hyf : X.fn y = true ∨ X.env.scope.names.lookup y = some .local)
    (hsw : swapsWith (.ListComp elt [⟨.Name x px, iter, ifs, 0⟩] scope pos) (some (.Name y py)) spos.line X.env = pure true)
    (hc : X.calm = true) (hi : PI X (.Name x px) iter wi) (hk : scope.kind = .function) (hcell : ∀ y ∈ scope.names, y.2 ≠ .cell) (hnames : ∀ y ∈ scope.names, y.2 = .local → scope.names.lookup y.1 = some .local) (hx : (relabel scope X.env).names.lookup x = some .local)
    (hf : ∀ p ∈ scope.names, p.2 = .free → X.env.kindOf p.1 = some .cell ∨ X.env.kindOf p.1 = some .free) (hjs : FreeAt X scope js) (hnd : (cNames X x js).Nodup)
    (ht : ∀ cl s' H' fp, PIf (cxComp X scope cl (cNames X x js) s' H' fp) ifs tc) (he : ∀ cl s' H' fp, PE (cxComp X scope cl (cNames X x js) s' H' fp) elt te)
    (hs : ∀ x, foldedSetIterable iter X.env x = pure x := by intro _; rfl) :
    PS X (.Assign [.Name y py] (.ListComp elt [⟨.Name x px, iter, ifs, 0⟩] scope pos) spos) (tAsgC i (tComp wi tc te js)) := by
  intro pins s σ H D I h
  obtain ⟨cl, e, p1, p2⟩ := clo_of (free_of (js := js) I fun y hy => hf (y, .free) hy rfl)
  exact ps_setC hN hy hyl hyf hsw hc hi hk hcell hnames hx e p1 p2 hjs hnd (ht cl) (he cl) hs pins s σ H D I h
end
end L2


set_option Elab.async false
set_option maxRecDepth 100000
set_option maxHeartbeats 4000000
/-! ### the law's call, with the bound of its ints' bits -/
namespace L2
open PySem PySem.Spec PyProof.Rows PySem.W
theorem weight_mem : ∀ {ns : List Int} {n : Int}, n ∈ ns → WData.weight (.int n) ≤ WData.weightAll (ns.map WData.int)
  | [], _, h => nomatch h
  | m :: r, n, h => by
    show _ ≤ WData.weight (.int m) + 1 + WData.weightAll (r.map WData.int)
    rcases List.mem_cons.mp h with e | e
    · subst e; omega
    · have := weight_mem (ns := r) e
      omega
theorem bits_weight (n : Int) : Builtin.Int.intBits n = WData.weight (.int n) := by
  show _ = if n == 0 then 0 else n.natAbs.log2 + 1
  unfold Builtin.Int.intBits
  by_cases h : n = 0
  · subst h; rfl
  · simp [h]
theorem script_bits {ns : List Int} (h : WData.layableAll [.list (ns.map .int)] = true) : ∀ n ∈ ns, Builtin.Int.intBits n ≤ 1048576 := fun n hn => by
  have h1 : WData.layable (.list (ns.map .int)) = true := by
    simpa [WData.layableAll] using h
  have h2 : WData.weight (.list (ns.map .int)) ≤ 2 ^ 20 := by
    unfold WData.layable at h1
    rw [Bool.and_eq_true, Bool.and_eq_true] at h1
    exact of_decide_eq_true h1.2
  have h3 : WData.weightAll (ns.map WData.int) ≤ 2 ^ 20 := h2
  have h4 := weight_mem hn
  rw [bits_weight]
  omega
theorem walk_bits {l : OpenLaw} {n k : Nat} {q : Program} {loose : List Str} {XP : (Str → Option Value) → Heap → Prop} {YP : World → Heap → Prop} {d : DefRec} {K : Params → Frag} {CX : CXT} {sp : Frag → Sp} {x : Str}
    (hn : l.most = some n) (hn2 : n ≤ sizeLine) (hdf : d.params.defaults = []) (hr : Room k callerA) (hY : ∀ (w : World) (h : Heap), YP w h → (K w.params).In h)
    (F : ∀ (w : World) (mg : Str → Option Value) (fa : Addr) (h : Heap), (K w.params).In h → h.Ns mainGlobals mg → mg d.name = some (.ref fa) →
      ∃ fd : FuncData, (∀ (s : Shared) (u : Value), BindsTo s fd ⟨[u], []⟩ [(x, u)]) ∧ ∀ base : Heap, (K w.params).In base → base.Ns mainGlobals mg → FnOk l.prog w (K w.params) mg base CX k fa fd [x] (sp (K w.params)))
    (hsp : ∀ (K : Frag) (H : Hp) (a : Addr) (ns : List Int), ns.length ≤ n → (∀ m ∈ ns, Builtin.Int.intBits m ≤ 1048576) → Only H → SqL K H a (ns.map V.int) → sp K [.ref a] H (fun v _ => v = .bl true) fun _ _ _ => False)
    (hCX : ∀ (H : Hp) (s : Shared) (e : Value) (s' : Shared), CX [] H s (fun _ _ _ => False) e s' → False) : WalkO q loose XP YP l.row.toRowW d [] (fun f vs => PySem.call f vs) := by
  intro w s₀ s₁ mg mb G Y fa o pm cd doc dV kV ho hd hcd hD hmg hg args vals as hpre hlay hrd hwl hlo
  obtain rfl : dV = .none := Dflts.none hD hdf
  obtain rfl : kV = .none := Dflts.noKw hD
  obtain ⟨a, vs, ns, rfl, rfl, hobj, hints, hlen⟩ := Att.script_of hn hpre hwl
  have KX := hY w _ Y
  obtain ⟨fd, hb, hF⟩ := F w mg fa _ KX G.T.g hmg
  have c := law_call KX G.T.g G.T.b G.T.builtins G.T.nolimit hg hobj hints (Nat.le_trans hlen hn2) hr hF hb (fun H hO hS => hsp (K w.params) H a ns hlen (script_bits hlay) hO hS) fun H e s' => hCX H s₁ e s'
  refine enter_call (codeAny_mono c fun r s' hq => ?_)
  obtain ⟨rfl, h2, h3, h4⟩ := hq
  exact ⟨.inl ⟨.bool true, .bool true, [], rfl, fun _ => rfl, .bool true, Att.post_true l _, fun _ => ⟨List.Pairwise.nil, fun _ hm => (nomatch hm)⟩⟩, h2, h3, h4⟩
end L2


namespace L2
open PySem PySem.Spec PyProof.Rows

/-! ### lists of pairs as tables -/
section
variable {κ : Type} [DecidableEq κ]



end


/-! ### a tracked dict, its keys ints and texts or tuples of these -/


section
variable {P : Program} {w : World} {H : Hp} {h : Heap} {a : Addr}
end



section
variable {X : Cx} {pins : List (Addr × Obj)} {σ : St} {H : Hp} {s : Shared} {a : Addr} {y v : V} {u r : Value} {o : Option V} {A : Around} {E : Value → Shared → Prop}


end

section
variable {X : Cx} {pins : List (Addr × Obj)} {σ : St} {H : Hp} {s : Shared} {a : Addr} {kvs : List (Key × V)} {k : Key} {u : Value} {A : Around} {E : Value → Shared → Prop}
end


/-! ### readings and rules -/



section
variable {X : Cx} {o i e value : Expr} {pos pos' tpos : Pos} {td ty tv : TE}
end


/-! ### displays -/
section
variable {X : Cx} {pos : Pos}
end




/-! ### methods -/


section
variable {X : Cx} {pins : List (Addr × Obj)} {σ : St} {H : Hp} {s : Shared} {a : Addr} {y d : V} {u r : Value} {o : Option V} {A : Around} {E : Value → Shared → Prop}
end

section
variable {X : Cx} {o e f : Expr} {apos cpos : Pos} {td ty tx : TE}
end

/-! ### dict(d): a copy -/
section
variable {X : Cx} {pins : List (Addr × Obj)} {σ : St} {H : Hp} {s : Shared} {a : Addr} {kvs : List (Key × V)} {A : Around} {E : Value → Shared → Prop}
end


section
variable {X : Cx} {pins : List (Addr × Obj)} {σ : St} {H : Hp} {s : Shared} {a : Addr} {y : V} {u : Value} {A : Around} {E : Value → Shared → Prop}
end
end L2


set_option Elab.async false
set_option linter.all false
set_option maxRecDepth 100000
set_option maxHeartbeats 4000000
namespace L2
open PySem PySem.Spec PyProof.Rows
/-! ### list(reversed(a list)) -/
theorem nolen_lri : typeLookup (.type "list_reverseiterator") "__len__" = pure none := by rw [typeLookup_type, builtinLookup_eq_fast]; kernel_rfl
theorem hint_lri : typeLookup (.type "list_reverseiterator") "__length_hint__" = pure (some (.builtin "list_reverseiterator.__length_hint__")) := by rw [typeLookup_type, builtinLookup_eq_fast]; kernel_rfl
section
variable {prog : Program} {w : World} {A : Around} {E : Value → Shared → Prop} {s : Shared} {R : Result → Shared → Prop} {l it S : Addr} {items : Array Value}
theorem ext_rev (hh : A.handled = none) (hne : l ≠ it) (hSl : S ≠ l) (hSi : S ≠ it) {c₀ : Nat} (hit : s.heap.IsRevIter it l ((items.size : Int) - 1)) (hl : s.heap.IsList l items) (hz : items.size ≤ sizeLine)
    (hS : s.heap.get? S = some { cls := .type "list", data := .seq #[] c₀ })
    (fin : ∀ h' tk acc c', (∀ b o, b ≠ S → b ≠ it → s.heap.get? b = some o → h'.get? b = some o) → h'.get? S = some { cls := .type "list", dict := none, data := .seq acc c', slots := #[] } →
      ItemsOf (fun i v => items[items.size - 1 - i]? = some v) acc items.size → R (.ok (.ret .none)) { s with heap := h', toks := tk }) :
    wpAny (model prog w) A.in1 (Builtin.List.listExtendWith (.ref S) (.ref it) .none)
      (fun f s' => match f with | .done z => R (.ok z) s' | .again c' => c'.quiet = true ∧ codeAny (model prog w) A c' R s') (fun e s' => R (.error e) s') s := by
  have WW := (Walks.listRev (prog := prog) (w := w) (A := A.in1) hh it l hne items).toS
  have st0 : (0 : Nat) ≤ items.size ∧ s.heap.IsRevIter it l ((items.size : Int) - 1 - ((0 : Nat) : Int)) ∧ s.heap.IsList l items := ⟨Nat.zero_le _, by simpa using hit, hl⟩
  have out : S ∉ [it, l] := by simp [hSl, hSi]
  unfold Builtin.List.listExtendWith
  refine wpAny_bind (wpAny_typeOf hit.typeIs ?_)
  have e1 : Builtin.List.listSameRef (.ref S) (.ref it) = false := by simp [Builtin.List.listSameRef, hSi]
  rw [if_neg (by rw [e1]; decide)]
  refine wpAny_bind (wpAny_pyIter_revIter hit ?_)
  refine wpAny_bind (wpAny_holding ?_)
  unfold Builtin.List.listLengthHint
  refine wpAny_bind (wpAny_specialOf hit.typeIs nolen_lri ?_)
  show wpAny _ A.in1 (specialOf (Value.ref it) (Str.ofString "__length_hint__") >>= _) _ _ _
  refine wpAny_bind (wpAny_specialOf hit.typeIs hint_lri ?_)
  generalize hid : ("list_reverseiterator.__length_hint__" : String) = id0
  wp_delta
  rw [show splitId id0 = some ("list_reverseiterator", "__length_hint__") from by subst hid; decide +kernel]
  subst hid
  refine wpAny_bind (wpAny_isInstance (b := true) hit.typeIs (by rw [isSubtype_type]; kernel_rfl) ?_)
  refine wpAny_pure ?_
  rw [if_neg (by decide)]
  refine wpAny_pure ⟨plainId_quiet F.plain_extend_loop _, codeAny_extend_loopS WW hz S out _ items.size 0 _ _ _ rfl (Nat.zero_le _) st0 hS (ItemsOf.nil _) fun s' acc c' hm hS' ha => ?_⟩
  rw [Moved.eq_with hm]
  refine fin s'.heap s'.toks acc c' (fun b o h1 h2 e => hm.heap b o (by simp [h1, h2]) e) hS' ha
theorem list_rev (hh : A.handled = none) (hne : l ≠ it) {Q : Value → Shared → Prop} (hit : s.heap.IsRevIter it l ((items.size : Int) - 1)) (hl : s.heap.IsList l items) (hz : items.size ≤ sizeLine)
    (fin : ∀ h' tk c', (∀ b o, b ≠ it → s.heap.get? b = some o → h'.get? b = some o) → h'.get? s.heap.objs.size = some { cls := .type "list", dict := none, data := .seq items.toList.reverse.toArray c', slots := #[] } →
      Q (.ref s.heap.objs.size) { s with heap := h', toks := tk }) : wpAny (model prog w) A (call (.type "list") [.ref it]) Q E s := by
  obtain ⟨oi, hoi, _⟩ := id hit
  obtain ⟨ol, hol, _⟩ := id hl
  have n1 : s.heap.objs.size ≠ it := fun e => Nat.lt_irrefl _ (e ▸ Heap.lt_size hoi)
  have n2 : s.heap.objs.size ≠ l := fun e => Nat.lt_irrefl _ (e ▸ Heap.lt_size hol)
  refine callType_codes (Q₁ := fun obj s₁ => obj = .ref s.heap.objs.size ∧ s₁ = { s with heap := s.heap.push { cls := .type "list", data := .seq #[] } }) F.called_list (F.typeCall_list_1 _) F.entry_list_init (code_list_new _ ⟨rfl, rfl⟩) fun obj s₁ h₁ => ?_
  obtain ⟨rfl, rfl⟩ := h₁
  have hS : (s.heap.push { cls := .type "list", data := .seq #[] }).get? s.heap.objs.size = some { cls := .type "list", data := .seq #[] } := Heap.get?_push_size _ rfl
  refine ⟨⟨_, hS, rfl⟩, F.args_list_init_2 _ _, ?_⟩
  show wpAny _ _ (Builtin.List.listItems (.ref s.heap.objs.size) >>= fun old => Builtin.List.listUpdate (.ref s.heap.objs.size) (fun _ => #[]) >>= fun _ => letGo old.toList.reverse >>= fun _ => Builtin.List.listExtendWith (.ref s.heap.objs.size) (.ref it) .none) _ _ _
  refine wpAny_bind ?_
  unfold Builtin.List.listItems
  refine wpAny_bind (wpAny_seqItems hS rfl (wpAny_pure ?_))
  show wpAny _ _ (updateSeq s.heap.objs.size (fun _ => #[]) >>= fun _ => letGo (#[] : Array Value).toList.reverse >>= fun _ => _) _ _ _
  refine wpAny_bind (wpAny_updateSeq hS rfl ?_)
  have hS₂ := Heap.get?_update_self (Obj.mapSeq (fun _ => (#[] : Array Value))) hS rfl
  have oth : ∀ b o, b ≠ s.heap.objs.size → s.heap.get? b = some o → ((s.heap.push { cls := .type "list", data := .seq #[] }).update s.heap.objs.size (Obj.mapSeq (fun _ => (#[] : Array Value)))).get? b = some o :=
    fun b o hb e => (Heap.get?_update_other _ _ (Ne.symm hb)).trans (Heap.get?_push_of_some _ e)
  refine wpAny_bind (wpAny_letGo ?_)
  refine ext_rev (l := l) (items := items) (R := wants (fun r s₂ => r = .none ∧ Q (.ref s.heap.objs.size) s₂) E) (show A.in1.handled = none from hh) hne n2 n1 (hit.at fun o e => oth _ o (Ne.symm n1) e) (hl.at fun o e => oth _ o (Ne.symm n2) e) hz hS₂ fun h' tk acc c' kp e ha => ?_
  have ea : acc = items.toList.reverse.toArray := by
    apply Array.ext'
    refine List.ext_getElem? fun i => ?_
    rw [Array.getElem?_toList]
    by_cases hi : i < items.size
    · have h1 : acc.size = items.size := ha.1
      have hv : acc[i]? = some (acc[i]'(by omega)) := Array.getElem?_eq_getElem (by omega)
      have pv := ha.2 i _ hv
      rw [hv]
      show some _ = items.toList.reverse[i]?
      rw [List.getElem?_reverse (by simpa using hi), Array.getElem?_toList]
      rw [← pv]
      simp
    · have h1 : acc.size = items.size := ha.1
      rw [Array.getElem?_eq_none (by omega)]
      show none = items.toList.reverse[i]?
      rw [List.getElem?_eq_none (by simpa using Nat.le_of_not_lt hi)]
  subst ea
  exact ⟨rfl, fin h' tk c' (fun b o h1 h2 => kp b o (fun z => by subst z; exact Nat.lt_irrefl _ (Heap.lt_size h2)) h1 (oth b o (fun z => by subst z; exact Nat.lt_irrefl _ (Heap.lt_size h2)) h2)) e⟩
end
end L2


set_option Elab.async false
set_option linter.all false
set_option maxRecDepth 100000
set_option maxHeartbeats 4000000
namespace L2
open PySem PySem.Spec PyProof.Rows
/-! ### a method of whatever class the object is of -/
/-- the method m of the class C keeps sp -/
structure MethOk (P : Program) (w : World) (K : PySem.W.Frag) (mg : Str → Option Value) (base : Heap) (C : Addr) (m : Str) (k : Nat) (ps : List Str) (sp : Sp) : Prop where
  cl : Cls K C
  ex : ∃ (f : Addr) (fd : FuncData), Meth K C m f ∧ FnOk P w K mg base CX0 k f fd ps sp ∧ Binds K fd ps []
section
variable {X : Cx} {o e : Expr} {es : List Expr} {ta te : TE} {t : TA} {m x : Str} {k : Nat} {p pos apos p2 pos2 : Pos} {C : Addr}
def tMethD (X : Cx) (k : Nat) (m : Str) (ta : TE) (t : TA) : TE := fun σ H Q => ta σ H fun x H1 => ∃ (a C dx : Addr) (fs : List (Str × V)) (ps : List Str) (sp : Sp), x = .ref a ∧ H1 a = some (.ins C dx fs) ∧ fs.lookup m = none ∧
  MethOk X.prog X.w X.K X.mg X.base C m k ps sp ∧ t σ H1 fun vs H2 => sp (.ref a :: vs) H2 Q E0
/-- o.m() -/
theorem pe_methD0 {pl : Sem Bool} (he : PE X o ta) (hr : Room k X.A)
    (ht : eval (.Call (.Attribute o m apos) [] [] pos) X.env = (do
      let ov ← eval o X.env
      standAt apos.atName
      let (f, first) ← holding [ov] (getMethod ov m pl)
      callWith pos f first (backTo pos (starEach [] X.env)) (backToKw pos (keywordEach [] X.env))) := by rfl) :
    PE X (.Call (.Attribute o m apos) [] [] pos) (tMethD X k m ta tNil) := by
  intro pins s σ H Q I h
  refine PySem.W.methodCall_KW (pl := pl) (thn (he pins s σ H _ I h) fun u s1 ⟨y, H1, I1, ry, a, C, dx, fs, ps, sp, ey, ea, lo, M, q⟩ => ?_) ht
  subst ey
  have eu : u = Value.ref a := ry
  subst eu
  obtain ⟨f, fd, hm, G, hb⟩ := M.ex
  refine getmeth_ok I1 ea M.cl hm lo ?_
  exact PySem.W.callWith_K0 (first := [.ref a]) I1.kIn hm.kp (run_fn (us := [.ref a]) (vs := [.ref a]) G hr hb .nil pass0 I1 (.cons rfl .nil) q)
/-! ### C(), no __init__ of its own -/
structure Mk0 (K : PySem.W.Frag) (C : Addr) : Prop where
  makes : PySem.W.makesIn K C = true
  init : PySem.W.findIn K (.ref C) "__init__" = some (some (.builtin "object.__init__"))
  kp : PySem.W.keepIn K (.ref C) = true
def tMakeN (C : Addr) : TE := fun _ H Q => ∀ a dx, H a = none → H dx = none → dx ≠ a → Q (.ref a) (upd (upd H dx (.own a)) a (.ins C dx []))
theorem pe_makeN (M : Mk0 X.K C) (hg : Gl X x) (hm : X.mg x = some (.ref C)) (hdb : (x == ("__debug__" : Str)) = false := by decide) : PE X (.Call (.Name x p) [] [] pos) (tMakeN C) := by
  intro pins s σ H Q I h
  refine wpAny_Call_Name_kw (ld_glob I hg hm ?_ hdb)
  refine PySem.W.callWith_K0 I.kIn M.kp (wpAny_call ?_)
  have Y := PySem.W.makes_of (M := model X.prog X.w) I.kIn M.makes
  refine make_map0 I.kIn M.makes M.init (fun self => PySem.W.Looks.of_pure (PySem.W.oi_bind self)) ?_
  have I2 := Inv.made (C := C) I
  have e2 : ((s.heap.push PySem.W.emptyDict).push (PySem.W.instObj C s.heap.objs.size)).get? (s.heap.objs.size + 1) = some (PySem.W.instObj C s.heap.objs.size) := by
    have z := Heap.get?_push_size (s.heap.push PySem.W.emptyDict) (o := PySem.W.instObj C s.heap.objs.size) rfl
    rwa [Heap.size_push] at z
  have t1 : PySem.W.Looks (model X.prog X.w) ((s.heap.push PySem.W.emptyDict).push (PySem.W.instObj C s.heap.objs.size)) (typeOf (.ref (s.heap.objs.size + 1))) (.ref C) := (PySem.W.Looks.ld e2).andThen .now
  have t2 : PySem.W.Looks (model X.prog X.w) ((s.heap.push PySem.W.emptyDict).push (PySem.W.instObj C s.heap.objs.size)) (isInstance (.ref (s.heap.objs.size + 1)) (.type "object")) true :=
    t1.andThen (Y.top.keeps fun b q z => Heap.get?_push_of_some _ (Heap.get?_push_of_some _ z))
  have z := h (s.heap.objs.size + 1) s.heap.objs.size (I.hok.fresh (Nat.le_succ _)) (I.hok.fresh (Nat.le_refl _)) (Nat.ne_of_lt (Nat.lt_succ_self _))
  refine codeAny_call_builtin PySem.W.oi_plain PySem.W.entry_oi (PySem.W.check_slot (i := "object.__init__") (owner := "object") (n := "__init__") (self := .ref (s.heap.objs.size + 1)) (rest := []) (kw := []) PySem.W.oi_kind PySem.W.oi_split t2 (PySem.W.oi_args _) ?_)
  rw [PySem.W.oi_run]
  exact wpAny_pure (And.intro rfl ⟨V.ref (s.heap.objs.size + 1), _, I2, rfl, z⟩)
/-! ### list(reversed(e)) -/
def tLR (te : TE) : TE := fun σ H Q => te σ H fun x H1 => ∃ (l : Addr) (ys : List V), x = .ref l ∧ H1 l = some (.lst ys) ∧ ∀ q, H1 q = none → Q (.ref q) (upd H1 q (.lst ys.reverse))
theorem pe_listRev (hc : X.calm = true) (hg1 : Gl X "list") (hm1 : X.mg "list" = none) (hg2 : Gl X "reversed") (hm2 : X.mg "reversed" = none) (he : PE X e te)
    (hs1 : starEach [.Call (.Name "reversed" p2) [e] [] pos2] X.env = [(false, eval (.Call (.Name "reversed" p2) [e] [] pos2) X.env)] := by rfl)
    (hs2 : starEach [e] X.env = [(false, eval e X.env)] := by rfl) : PE X (.Call (.Name "list" p) [.Call (.Name "reversed" p2) [e] [] pos2] [] pos) (tLR te) := by
  intro pins s σ H Q I h
  have b1 : bootBuiltins "list" = some (.type "list") := by decide +kernel
  have b2 : bootBuiltins "reversed" = some (.type "reversed") := by decide +kernel
  refine wpAny_Call_Name_kw (ld_blt I hg1 hm1 b1 ?_ (by decide) (by decide))
  refine PyProof.Rows.callWith_type1 ?_ hs1 (by rfl)
  rw [hs1]
  refine Calls.spliced_cons ?_
  refine wpAny_Call_Name_kw (ld_blt I hg2 hm2 b2 ?_ (by decide) (by decide))
  refine PyProof.Rows.callWith_type1 ?_ hs2 (by rfl)
  rw [hs2]
  refine Calls.spliced_cons (thn (he pins s σ H _ I h) fun u s1 ⟨y, H1, I1, ry, l, ys, ey, el, q⟩ => ?_)
  subst ey
  have eu : u = Value.ref l := ry
  subst eu
  refine Calls.spliced_nil ?_
  obtain ⟨hz, its, n, rv, hlen, hl⟩ := I1.lstM el
  have hL : s1.heap.IsList l its.toArray := ⟨_, hl, rfl, n, rfl⟩
  refine call_reversed_list hL ?_
  refine Calls.spliced_nil ?_
  have hit : (s1.heap.push (revObj l ((its.toArray.size : Int) - 1))).IsRevIter s1.heap.objs.size l ((its.toArray.size : Int) - 1) := ⟨_, Heap.get?_push_size _ rfl, rfl, rfl⟩
  have hne : l ≠ s1.heap.objs.size := fun z => Nat.lt_irrefl _ (z ▸ Heap.lt_size hl)
  refine list_rev (s := { s1 with heap := s1.heap.push (revObj l ((its.toArray.size : Int) - 1)) }) (I1.ok.hd hc) hne hit (hL.push _) (by rw [List.size_toArray]; omega) fun h' tk c' kp en => ?_
  have hs : (s1.heap.push (revObj l ((its.toArray.size : Int) - 1))).objs.size = s1.heap.objs.size + 1 := Heap.size_push _ _
  rw [hs] at en ⊢
  refine ⟨.ref (s1.heap.objs.size + 1), upd H1 (s1.heap.objs.size + 1) (.lst ys.reverse), I1.laid (h' := h') (t' := tk) (fun b u z => kp b u (Nat.ne_of_lt (Heap.lt_size z)) (Heap.get?_push_of_some _ z)) (Nat.le_succ _) ?_, rfl, q _ (I1.hok.fresh (Nat.le_succ _))⟩
  exact ⟨by rw [List.length_reverse]; exact hz, its.reverse, c', rv.reverse, by simpa using en⟩
/-! ### != of two lists of texts -/
end
end L2


set_option Elab.async false
set_option linter.all false
set_option maxRecDepth 100000
set_option maxHeartbeats 4000000
namespace Mine
open PySem
/-! ### sayings as trees -/
inductive W5 where
  | more | less | greater | lesser | leads
def W5.str : W5 → Str
  | .more => "more" | .less => "less" | .greater => "greater" | .lesser => "lesser" | .leads => "leads"
inductive Tr where
  | never | always | lp | lq
  | no (t : Tr)
  | fold (w : W5) (a b : Tr)
def Tr.size : Tr → Nat
  | .no t => t.size + 1
  | .fold _ a b => a.size + b.size + 1
  | _ => 1
theorem Tr.size_pos : ∀ t : Tr, 1 ≤ t.size
  | .never | .always | .lp | .lq => Nat.le_refl _
  | .no _ => Nat.le_add_left _ _
  | .fold _ _ _ => Nat.le_add_left _ _
def Tr.words : Tr → List Str
  | .never => ["never"]
  | .always => ["always"]
  | .lp => ["p"]
  | .lq => ["q"]
  | .no t => "not" :: t.words
  | .fold w a b => "(" :: (a.words ++ w.str :: (b.words ++ [(")" : Str)]))
def Tr.text : Tr → Str
  | .never => "never"
  | .always => "always"
  | .lp => "p"
  | .lq => "q"
  | .no t => "not " ++ t.text
  | .fold w a b => "( " ++ a.text ++ " " ++ w.str ++ " " ++ b.text ++ " )"
theorem sapp (a b c : Str) : a ++ b ++ c = a ++ (b ++ c) := congrArg Str.mk (Array.append_assoc ..)
theorem words_cons : ∀ t : Tr, ∃ x r, t.words = x :: r
  | .never => ⟨_, _, rfl⟩
  | .always => ⟨_, _, rfl⟩
  | .lp => ⟨_, _, rfl⟩
  | .lq => ⟨_, _, rfl⟩
  | .no _ => ⟨_, _, rfl⟩
  | .fold _ _ _ => ⟨_, _, rfl⟩
theorem sjoin_app (sep : Str) (y : Str) (ys : List Str) : ∀ (x : Str) (xs : List Str), Str.join sep ((x :: xs) ++ (y :: ys)) = Str.join sep (x :: xs) ++ sep ++ Str.join sep (y :: ys)
  | x, [] => rfl
  | x, z :: r => by
    have ih := sjoin_app sep y ys z r
    show x ++ sep ++ Str.join sep ((z :: r) ++ (y :: ys)) = x ++ sep ++ Str.join sep (z :: r) ++ sep ++ Str.join sep (y :: ys)
    rw [ih]
    simp only [sapp]
theorem sjoin_words (sep : Str) (t : Tr) (y : Str) (ys : List Str) : Str.join sep (t.words ++ (y :: ys)) = Str.join sep t.words ++ sep ++ Str.join sep (y :: ys) := by
  obtain ⟨x, r, e⟩ := words_cons t
  rw [e]
  exact sjoin_app sep y ys x r
theorem not_str : ("not " : Str) = "not" ++ " " := by decide +kernel
theorem op_str : ("( " : Str) = "(" ++ " " := by decide +kernel
theorem cl_str : (" )" : Str) = " " ++ ")" := by decide +kernel
theorem text_join : ∀ t : Tr, Str.join " " t.words = t.text
  | .never => rfl
  | .always => rfl
  | .lp => rfl
  | .lq => rfl
  | .no t => by
    have ih := text_join t
    obtain ⟨x, r, e⟩ := words_cons t
    show Str.join " " ("not" :: t.words) = "not " ++ t.text
    rw [not_str, ← ih, e]
    rfl
  | .fold w a b => by
    have ia := text_join a
    have ib := text_join b
    obtain ⟨x, r, e⟩ := words_cons a
    obtain ⟨x2, r2, e2⟩ := words_cons b
    have h1 : Str.join " " ("(" :: (a.words ++ w.str :: (b.words ++ [(")" : Str)]))) = "(" ++ " " ++ Str.join " " (a.words ++ w.str :: (b.words ++ [(")" : Str)])) := by rw [e]; rfl
    have h2 : Str.join " " (w.str :: (b.words ++ [(")" : Str)])) = w.str ++ " " ++ Str.join " " (b.words ++ [(")" : Str)]) := by rw [e2]; rfl
    have h3 : Str.join " " [(")" : Str)] = ")" := rfl
    show Str.join " " ("(" :: (a.words ++ w.str :: (b.words ++ [(")" : Str)]))) = "( " ++ a.text ++ " " ++ w.str ++ " " ++ b.text ++ " )"
    rw [h1, sjoin_words, h2, sjoin_words, h3, ia, ib, op_str, cl_str]
    simp only [sapp]
theorem text_told (t : Tr) : Txt.join " " t.words = t.text := by
  show Builtin.Str.glued " " t.words = t.text
  rw [StrLaws.glued_eq_join]
  exact text_join t
/-! ### a text is of one tree -/
def W5.chars : W5 → List Nat
  | .more => [109, 111, 114, 101]
  | .less => [108, 101, 115, 115]
  | .greater => [103, 114, 101, 97, 116, 101, 114]
  | .lesser => [108, 101, 115, 115, 101, 114]
  | .leads => [108, 101, 97, 100, 115]
theorem W5.chars_str (w : W5) : w.str.cps.toList = w.chars := by cases w <;> decide +kernel
def Tr.chars : Tr → List Nat
  | .never => [110, 101, 118, 101, 114]
  | .always => [97, 108, 119, 97, 121, 115]
  | .lp => [112]
  | .lq => [113]
  | .no t => [110, 111, 116, 32] ++ t.chars
  | .fold w a b => [40, 32] ++ a.chars ++ [32] ++ w.chars ++ [32] ++ b.chars ++ [32, 41]
theorem sapp_cps (a b : Str) : (a ++ b).cps.toList = a.cps.toList ++ b.cps.toList := by
  show (a.cps ++ b.cps).toList = _
  exact Array.toList_append
theorem s_not : ("not " : Str).cps.toList = [110, 111, 116, 32] := by decide +kernel
theorem s_op : ("( " : Str).cps.toList = [40, 32] := by decide +kernel
theorem s_cl : (" )" : Str).cps.toList = [32, 41] := by decide +kernel
theorem s_sp : (" " : Str).cps.toList = [32] := by decide +kernel
theorem chars_text : ∀ t : Tr, t.text.cps.toList = t.chars
  | .never => by decide +kernel
  | .always => by decide +kernel
  | .lp => by decide +kernel
  | .lq => by decide +kernel
  | .no t => by
    show (("not " : Str) ++ t.text).cps.toList = _
    rw [sapp_cps, s_not, chars_text t]
    rfl
  | .fold w a b => by
    show (("( " : Str) ++ a.text ++ " " ++ w.str ++ " " ++ b.text ++ " )").cps.toList = _
    simp only [sapp_cps, s_op, s_cl, s_sp, chars_text a, chars_text b, W5.chars_str]
    rfl
theorem text_len : ∀ t : Tr, t.text.length ≤ 16 * t.size := by
  have key : ∀ t : Tr, t.chars.length ≤ 16 * t.size := by
    intro t
    induction t with
    | no t ih => simp only [Tr.chars, Tr.size, List.length_append, List.length_cons, List.length_nil]; omega
    | fold w a b ia ib =>
      have hw : w.chars.length ≤ 7 := by cases w <;> decide
      simp only [Tr.chars, Tr.size, List.length_append, List.length_cons, List.length_nil]; omega
    | _ => decide
  intro t
  have e : t.text.length = t.chars.length := by
    rw [← chars_text t, Array.length_toList]
    rfl
  rw [e]
  exact key t
theorem words_sum : ∀ t : Tr, (t.words.map (·.length)).sum + t.words.length * (" " : Str).length ≤ 32 * t.size := by
  intro t
  induction t with
  | no t ih =>
    have h1 : ("not" : Str).length = 3 := by decide +kernel
    have h2 : (" " : Str).length = 1 := by decide +kernel
    simp only [Tr.words, Tr.size, List.map_cons, List.sum_cons, List.length_cons, h1, h2, Nat.mul_one] at ih ⊢
    omega
  | fold w a b ia ib =>
    have h1 : ("(" : Str).length = 1 := by decide +kernel
    have h2 : (" " : Str).length = 1 := by decide +kernel
    have h3 : (")" : Str).length = 1 := by decide +kernel
    have h4 : w.str.length ≤ 7 := by cases w <;> decide +kernel
    simp only [Tr.words, Tr.size, List.map_cons, List.sum_cons, List.length_cons, List.map_append, List.sum_append, List.length_append, List.map_nil, List.sum_nil, List.length_nil, h1, h2, h3, Nat.mul_one] at ia ib ⊢
    omega
  | _ => decide +kernel
/-! ### worths, putting in, the parts in their order -/
def Tr.post : Tr → List Tr
  | .no t => t.post ++ [.no t]
  | .fold w a b => a.post ++ b.post ++ [.fold w a b]
  | t => [t]
theorem post_len : ∀ t : Tr, t.post.length = t.size
  | .no t => by simp [Tr.post, Tr.size, post_len t]
  | .fold w a b => by simp [Tr.post, Tr.size, post_len a, post_len b]; omega
  | .never => rfl
  | .always => rfl
  | .lp => rfl
  | .lq => rfl
end Mine


set_option Elab.async false
set_option linter.all false
set_option maxRecDepth 100000
set_option maxHeartbeats 4000000
namespace L2
open PySem PySem.Spec PyProof.Rows

/-! ### data in the heap: ints, truths, texts, None, and tuples of these -/
mutual
def Dat (K : PySem.W.Frag) (H : Hp) : PyData → V → Prop
  | .none, v => v = .non
  | .bool b, v => v = .bl b
  | .int i, v => v = .int i
  | .str x, v => v = .str x
  | .tuple ds, v => ∃ a xs, v = .ref a ∧ SqT K H a xs ∧ DatAll K H ds xs
  | .list _, _ => False
  | .dict _, _ => False
def DatAll (K : PySem.W.Frag) (H : Hp) : List PyData → List V → Prop
  | [], xs => xs = []
  | d :: ds, xs => ∃ x r, xs = x :: r ∧ Dat K H d x ∧ DatAll K H ds r
end
/-- tuples, and what is frozen, stay -/
structure Tst (H H' : Hp) : Prop where
  t : ∀ b xs, H b = some (.tup xs) → H' b = some (.tup xs)
  f : ∀ b o u, H b = some (.frz o u) → H' b = some (.frz o u)
theorem Same.ts {H H' : Hp} (e : Same H H') : Tst H H' := ⟨fun b xs h => e b _ h, fun b o u h => e b _ h⟩
theorem SqT.ts {K : PySem.W.Frag} {H H' : Hp} {a : Addr} {xs : List V} (h : SqT K H a xs) (e : Tst H H') : SqT K H' a xs := by
  rcases h with (h | ⟨o, h⟩) | h
  · exact .inl (.inl (e.t _ _ h))
  · exact .inl (.inr ⟨o, e.f _ _ _ h⟩)
  · exact .inr h
mutual
theorem Dat.ts {K : PySem.W.Frag} {H H' : Hp} (e : Tst H H') : ∀ {d : PyData} {v : V}, Dat K H d v → Dat K H' d v
  | .none, _, h => h
  | .bool _, _, h => h
  | .int _, _, h => h
  | .str _, _, h => h
  | .tuple _, _, ⟨a, xs, h1, h2, h3⟩ => ⟨a, xs, h1, h2.ts e, DatAll.ts e h3⟩
  | .list _, _, h => h
  | .dict _, _, h => h
theorem DatAll.ts {K : PySem.W.Frag} {H H' : Hp} (e : Tst H H') : ∀ {ds : List PyData} {xs : List V}, DatAll K H ds xs → DatAll K H' ds xs
  | [], _, h => h
  | _ :: _, _, ⟨x, r, h1, h2, h3⟩ => ⟨x, r, h1, Dat.ts e h2, DatAll.ts e h3⟩
end
mutual
theorem Dat.reads {X : Cx} {pins : List (Addr × Obj)} {σ : St} {H : Hp} {s : Shared} (I : Inv X pins σ H s) : ∀ (d : PyData) {v : V} {u : Value}, Dat X.K H d v → RelV v u → ∃ as, Reads s.heap u d as
  | .none, _, _, h, r => by
    cases (show _ = V.non from h)
    cases (show _ = Value.none from r)
    exact ⟨[], .none⟩
  | .bool b, _, _, h, r => by
    cases (show _ = V.bl b from h)
    cases (show _ = Value.bool b from r)
    exact ⟨[], .bool b⟩
  | .int i, _, _, h, r => by
    cases (show _ = V.int i from h)
    obtain ⟨t, q⟩ := (show ∃ t, _ = Value.int i t from r)
    cases q
    exact ⟨[], .int i t⟩
  | .str x, _, _, h, r => by
    cases (show _ = V.str x from h)
    obtain ⟨t, q⟩ := (show ∃ t, _ = Value.str x t from r)
    cases q
    exact ⟨[], .str x t⟩
  | .tuple ds, _, _, ⟨a, xs, h1, h2, h3⟩, r => by
    cases h1
    cases (show _ = Value.ref a from r)
    obtain ⟨its, rv, ⟨o, ho, hc, n, hd⟩, _⟩ := I.tuple h2
    obtain ⟨as, ra⟩ := DatAll.reads I ds h3 rv
    exact ⟨as, .tuple ho hc hd (by simpa using ra)⟩
  | .list _, _, _, h, _ => False.elim h
  | .dict _, _, _, h, _ => False.elim h
theorem DatAll.reads {X : Cx} {pins : List (Addr × Obj)} {σ : St} {H : Hp} {s : Shared} (I : Inv X pins σ H s) : ∀ (ds : List PyData) {xs : List V} {us : List Value}, DatAll X.K H ds xs → Vals xs us → ∃ as, ReadsAll s.heap us ds as
  | [], _, _, h, r => by
    cases (show _ = ([] : List V) from h)
    cases r
    exact ⟨[], .nil⟩
  | d :: ds, _, _, ⟨x, t, h1, h2, h3⟩, r => by
    cases h1
    cases r with
    | cons r1 r2 =>
      obtain ⟨as, a1⟩ := Dat.reads I d h2 r1
      obtain ⟨bs, b1⟩ := DatAll.reads I ds h3 r2
      exact ⟨as ++ bs, .cons a1 b1⟩
end
/-- such data, or a list of such data -/
def DatX (K : PySem.W.Frag) (H : Hp) (d : PyData) (v : V) : Prop := Dat K H d v ∨ ∃ ds a xs, d = .list ds ∧ v = .ref a ∧ SqL K H a xs ∧ DatAll K H ds xs
theorem DatX.reads {X : Cx} {pins : List (Addr × Obj)} {σ : St} {H : Hp} {s : Shared} {d : PyData} {v : V} {u : Value} (I : Inv X pins σ H s) (h : DatX X.K H d v) (r : RelV v u) : ∃ as, Reads s.heap u d as := by
  rcases h with h | ⟨ds, a, xs, rfl, rfl, h2, h3⟩
  · exact Dat.reads I d h r
  · cases (show _ = Value.ref a from r)
    obtain ⟨its, rv, ⟨o, n, ho, hc, _, hd⟩, _⟩ := I.list h2
    obtain ⟨as, ra⟩ := DatAll.reads I ds h3 rv
    exact ⟨a :: as, .list ho hc hd (by simpa using ra)⟩
section
variable {X : Cx}
def rNeD (K : PySem.W.Frag) : R2 := fun x y H Q => ∃ d e, DatX K H d x ∧ DatX K H e y ∧ SeqAt.shaped d = true ∧ SeqAt.shaped e = true ∧ Q (.bl (!PyData.eqv d e)) H
theorem op_neD (hu : X.A.units + 64 < cLine) : OpR X (compareOp .NotEq) (rNeD X.K) := by
  intro pins s σ H x y v u Q I rx ry h
  obtain ⟨d, e, hd, he, sd, se, q⟩ := h
  obtain ⟨as, ra⟩ := hd.reads I rx
  obtain ⟨bs, rb⟩ := he.reads I ry
  exact ne_dataH ra rb sd se hu ⟨.bl _, H, I, rfl, q⟩
/-! ### isinstance of a tuple, a list that is read -/
theorem call_isiT : CallR X (.builtin "isinstance") (fun xs H Q => ∃ (a : Addr) (ys : List V) (c : V) (cv : Value) (k : Bool), xs = [.ref a, c] ∧ (∀ u, RelV c u → u = cv) ∧ SqT X.K H a ys ∧ PySem.W.kitOne X.K (.type "tuple") cv = some k ∧ Q (.bl k) H) := by
  intro pins s σ H xs us Q I r h
  obtain ⟨a, ys, c, cv, k, rfl, hc, hq, kt, q⟩ := h
  obtain ⟨u, w', rfl, r1, r2⟩ := vals2 r
  have e := hc _ r2
  subst e
  cases (show u = Value.ref a from r1)
  obtain ⟨its, rv, ⟨o, h1, h2, _⟩, _⟩ := I.tuple hq
  exact PySem.W.kia_one PySem.W.kitx_tuple I.kIn ⟨o, h1, h2⟩ kt (fun z => nomatch z) fun tk => ⟨.bl k, H, I.tok tk, rfl, q⟩
theorem call_isiL : CallR X (.builtin "isinstance") (fun xs H Q => ∃ (a : Addr) (ys : List V) (c : V) (cv : Value) (k : Bool), xs = [.ref a, c] ∧ (∀ u, RelV c u → u = cv) ∧ SqL X.K H a ys ∧ PySem.W.kitOne X.K (.type "list") cv = some k ∧ Q (.bl k) H) := by
  intro pins s σ H xs us Q I r h
  obtain ⟨a, ys, c, cv, k, rfl, hc, hq, kt, q⟩ := h
  obtain ⟨u, w', rfl, r1, r2⟩ := vals2 r
  have e := hc _ r2
  subst e
  cases (show u = Value.ref a from r1)
  obtain ⟨its, rv, ⟨o, n, h1, h2, _⟩, _⟩ := I.list hq
  exact PySem.W.kia_one PySem.W.kitx_list I.kIn ⟨o, h1, h2⟩ kt (fun z => nomatch z) fun tk => ⟨.bl k, H, I.tok tk, rfl, q⟩
/-! ### all, any of a list of truths -/
end
/-! ### the same, where the context's K is named (within a comprehension the reading may not name the context) -/
section
variable {X : Cx} {K : PySem.W.Frag}
theorem call_isiK (e : X.K = K) : CallR X (.builtin "isinstance") (fun xs H Q => ∃ (y : V) (c : V) (cv t : Value) (k : Bool), xs = [y, c] ∧ (∀ u, RelV c u → u = cv) ∧ TyOf K H y t ∧ PySem.W.kitOne K t cv = some k ∧ Q (.bl k) H) := e ▸ call_isi
end
/-! ### what such data say when they are compared -/
/-! ### a tuple, an int that stands at the top -/
end L2


set_option Elab.async false
namespace Mine
namespace Lo
end Lo

/-! ### stretches and lines, as they are told -/
namespace Ln
/-! ### the stretch in which x lies -/
end Ln
end Mine


set_option Elab.async false
set_option linter.all false
set_option maxRecDepth 100000
set_option maxHeartbeats 4000000
namespace Mine
open PySem L2
/-! ### small numbers -/
abbrev bits (x : Int) : Nat := Builtin.Int.intBits x
/-! ### items of the script -/
/-- a script as the law has it: a list of at most 63 ints, each of at most 2 ** 20 bits; it is frozen -/
structure Scr (K : PySem.W.Frag) (H : Hp) (a : Addr) (ns : List Int) : Prop where
  sq : (∃ o, H a = some (.frz o (.lst (ns.map V.int)))) ∨ ∃ (o : Obj) (its : Array Value) (n : Nat), K.lookup a = some o ∧ o.cls = .type "list" ∧ o.dict = none ∧ o.data = .seq its n ∧ its.size ≤ sizeLine ∧ Vals (ns.map V.int) its.toList
  few : ns.length ≤ 63
  bit : ∀ n ∈ ns, bits n ≤ 1048576
theorem Scr.l {K : PySem.W.Frag} {H : Hp} {a : Addr} {ns : List Int} (S : Scr K H a ns) : SqL K H a (ns.map V.int) := S.sq.elim (fun h => .inl (.inr h)) .inr
theorem Scr.ts {K : PySem.W.Frag} {H H' : Hp} {a : Addr} {ns : List Int} (S : Scr K H a ns) (e : Tst H H') : Scr K H' a ns := ⟨S.sq.elim (fun ⟨o, h⟩ => .inl ⟨o, e.f _ _ _ h⟩) .inr, S.few, S.bit⟩
theorem scr_of {K : PySem.W.Frag} {H : Hp} {a : Addr} {ns : List Int} (O : Only H) (h : SqL K H a (ns.map V.int)) (few : ns.length ≤ 63) (bit : ∀ n ∈ ns, bits n ≤ 1048576) : Scr K H a ns := by
  refine ⟨?_, few, bit⟩
  rcases h with (h | h) | h
  · exfalso
    rcases O a with z | ⟨o, xs, z⟩
    · rw [h] at z; cases z
    · rw [h] at z; cases z
  · exact .inl h
  · exact .inr h
theorem same_new {H : Hp} {p : Addr} (h : H p = none) (o : HO) : Same H (upd H p o) := fun b u q => by rw [upd_ne (ne_of_none q h)]; exact q
/-! ### fractions, stretches, lines as data -/
section
variable {K : PySem.W.Frag} {H H' : Hp} {a : Addr} {v e : V} {p q m h : Int} {s : St4} {L : List St4}
end
mutual
theorem eqv_self : ∀ d : PyData, d.canLay0 = true → PyData.eqv d d = true
  | .none, _ => by simp [PyData.eqv]
  | .bool _, _ => by simp [PyData.eqv]
  | .int _, _ => by simp [PyData.eqv]
  | .str _, _ => by simp [PyData.eqv]
  | .list xs, h => by simp only [PyData.eqv]; exact eqvAll_self xs (by simpa [PyData.canLay0] using h)
  | .tuple xs, h => by simp only [PyData.eqv]; exact eqvAll_self xs (by simpa [PyData.canLay0] using h)
  | .dict _, h => by simp [PyData.canLay0] at h
theorem eqvAll_self : ∀ xs : List PyData, PyData.canLayAll0 xs = true → PyData.eqvAll xs xs = true
  | [], _ => by simp [PyData.eqvAll]
  | x :: xs, h => by
    have h' : x.canLay0 = true ∧ PyData.canLayAll0 xs = true := by simpa [PyData.canLayAll0] using h
    simp [PyData.eqvAll, eqv_self x h'.1, eqvAll_self xs h'.2]
end
end Mine


set_option Elab.async false
set_option linter.all false
set_option maxRecDepth 100000
set_option maxHeartbeats 4000000
namespace Mine
open PySem L2
/-! ### what stands in the heap -/
/-- tuples and instances stay -/
def fixO : HO → Bool
  | .tup _ => true
  | .ins _ _ _ => true
  | .own _ => true
  | .frz _ _ => true
  | _ => false
def Kp (H H' : Hp) : Prop := ∀ b o, H b = some o → fixO o = true → H' b = some o
theorem Kp.trans {H H1 H2 : Hp} (a : Kp H H1) (b : Kp H1 H2) : Kp H H2 := fun c o h f => b c o (a c o h f) f
theorem Kp.of {H H' : Hp} (e : Same H H') : Kp H H' := fun b o h _ => e b o h
theorem kp_new {H : Hp} {p : Addr} (h : H p = none) (o : HO) : Kp H (upd H p o) := Kp.of (fun b u z => by rw [upd_ne (ne_of_none z h)]; exact z)
theorem kp_mut {H : Hp} {l : Addr} {o u : HO} (h : H l = some o) (f : fixO o = false) : Kp H (upd H l u) := fun b z hb fz => by
  rw [upd_ne (ne_of hb h fun e => by rw [e, f] at fz; cases fz)]
  exact hb
theorem kit_same {K : PySem.W.Frag} {t : Value} : PySem.W.kitOne K t t = some true := by unfold PySem.W.kitOne; rw [if_pos (beq_self_eq_true t)]
/-- all but c stays -/
def SB (c : V) (H H' : Hp) : Prop := ∀ b o, H b = some o → V.ref b ≠ c → H' b = some o
theorem SB.refl (c : V) (H : Hp) : SB c H H := fun _ _ h _ => h
theorem SB.trans {c : V} {H H1 H2 : Hp} (a : SB c H H1) (b : SB c H1 H2) : SB c H H2 := fun d o h n => b d o (a d o h n) n
theorem SB.of {c : V} {H H' : Hp} (e : Same H H') : SB c H H' := fun b o h _ => e b o h
theorem SB.kp {c : V} {H H' : Hp} (e : SB c H H') (hc : ∀ a o, c = .ref a → H a = some o → fixO o = false) : Kp H H' := fun b o h f => e b o h fun z => by
  rw [hc b o z.symm h] at f
  cases f
theorem sb_upd {a : Addr} (H : Hp) (u : HO) : SB (.ref a) H (upd H a u) := fun b o h n => by
  rw [upd_ne fun z => n (by rw [z])]
  exact h
/-- the law's tuples -/
inductive Tu (H : Hp) : Addr → Tr → Prop where
  | never {a} : H a = some (.tup [.str "never"]) → Tu H a .never
  | always {a} : H a = some (.tup [.str "always"]) → Tu H a .always
  | lp {a} : H a = some (.tup [.str "p"]) → Tu H a .lp
  | lq {a} : H a = some (.tup [.str "q"]) → Tu H a .lq
  | no {a b t} : H a = some (.tup [.str "not", .ref b]) → Tu H b t → Tu H a (.no t)
  | fold {a b d w x y} : H a = some (.tup [.str (W5.str w), .ref b, .ref d]) → Tu H b x → Tu H d y → Tu H a (.fold w x y)
theorem Tu.to {H H' : Hp} {a : Addr} {t : Tr} (h : Tu H a t) (e : Kp H H') : Tu H' a t := by
  induction h with
  | never h => exact .never (e _ _ h rfl)
  | always h => exact .always (e _ _ h rfl)
  | lp h => exact .lp (e _ _ h rfl)
  | lq h => exact .lq (e _ _ h rfl)
  | no h _ ih => exact .no (e _ _ h rfl) ih
  | fold h _ _ i1 i2 => exact .fold (e _ _ h rfl) i1 i2
/-- the program's classes -/
structure CCs where
  (ne al le no mo ls gr lr ld : Addr)
def CCs.fold (c : CCs) : W5 → Addr
  | .more => c.mo | .less => c.ls | .greater => c.gr | .lesser => c.lr | .leads => c.ld
def fName (x : V) : List (Str × V) := [("name", x)]
def fPart (x : V) : List (Str × V) := [("part", x)]
def fTwo (x y : V) : List (Str × V) := [("one", x), ("other", y)]
inductive Ob (c : CCs) (H : Hp) : Addr → Tr → Prop where
  | never {a dx} : H a = some (.ins c.ne dx []) → Ob c H a .never
  | always {a dx} : H a = some (.ins c.al dx []) → Ob c H a .always
  | lp {a dx} : H a = some (.ins c.le dx (fName (.str "p"))) → Ob c H a .lp
  | lq {a dx} : H a = some (.ins c.le dx (fName (.str "q"))) → Ob c H a .lq
  | no {a dx b t} : H a = some (.ins c.no dx (fPart (.ref b))) → Ob c H b t → Ob c H a (.no t)
  | fold {a dx b d w x y} : H a = some (.ins (c.fold w) dx (fTwo (.ref b) (.ref d))) → Ob c H b x → Ob c H d y → Ob c H a (.fold w x y)
theorem Ob.to {c : CCs} {H H' : Hp} {a : Addr} {t : Tr} (h : Ob c H a t) (e : Kp H H') : Ob c H' a t := by
  induction h with
  | never h => exact .never (e _ _ h rfl)
  | always h => exact .always (e _ _ h rfl)
  | lp h => exact .lp (e _ _ h rfl)
  | lq h => exact .lq (e _ _ h rfl)
  | no h _ ih => exact .no (e _ _ h rfl) ih
  | fold h _ _ i1 i2 => exact .fold (e _ _ h rfl) i1 i2
/-- things one by one -/
inductive All2 {α β : Type} (R : α → β → Prop) : List α → List β → Prop where
  | nil : All2 R [] []
  | cons {a b as bs} : R a b → All2 R as bs → All2 R (a :: as) (b :: bs)
theorem All2.imp {α β : Type} {R R' : α → β → Prop} (f : ∀ a b, R a b → R' a b) {as : List α} {bs : List β} (h : All2 R as bs) : All2 R' as bs := by
  induction h with
  | nil => exact .nil
  | cons r _ ih => exact .cons (f _ _ r) ih
theorem All2.app {α β : Type} {R : α → β → Prop} {as cs : List α} {bs ds : List β} (h : All2 R as bs) (k : All2 R cs ds) : All2 R (as ++ cs) (bs ++ ds) := by
  induction h with
  | nil => exact k
  | cons r _ ih => exact .cons r ih
theorem All2.rev {α β : Type} {R : α → β → Prop} {as : List α} {bs : List β} (h : All2 R as bs) : All2 R as.reverse bs.reverse := by
  induction h with
  | nil => exact .nil
  | cons r _ ih => rw [List.reverse_cons, List.reverse_cons]; exact ih.app (.cons r .nil)
theorem All2.len {α β : Type} {R : α → β → Prop} {as : List α} {bs : List β} (h : All2 R as bs) : as.length = bs.length := by
  induction h with
  | nil => rfl
  | cons _ _ ih => rw [List.length_cons, List.length_cons, ih]
theorem All2.get {α β : Type} {R : α → β → Prop} {as : List α} {bs : List β} (h : All2 R as bs) : ∀ (i : Nat) (a : α), as[i]? = some a → ∃ b, bs[i]? = some b ∧ R a b := by
  induction h with
  | nil => intro i a z; cases z
  | cons r _ ih =>
    intro i x z
    cases i with
    | zero => cases z; exact ⟨_, rfl, r⟩
    | succ i => exact ih i x z
/-- the last one apart -/
theorem All2.last {α β : Type} {R : α → β → Prop} {as : List α} {bs : List β} (h : All2 R as bs) (n : as ≠ []) : ∃ as' a bs' b, as = as' ++ [a] ∧ bs = bs' ++ [b] ∧ R a b ∧ All2 R as' bs' := by
  have h' := h.rev
  have n' : as.reverse ≠ [] := fun z => n (List.reverse_eq_nil_iff.mp z)
  have e1 : as = as.reverse.reverse := (List.reverse_reverse _).symm
  have e2 : bs = bs.reverse.reverse := (List.reverse_reverse _).symm
  rw [e1, e2]
  revert h' n'
  generalize as.reverse = u
  generalize bs.reverse = v
  intro h' n'
  cases h' with
  | nil => exact absurd rfl n'
  | cons r k => exact ⟨_, _, _, _, List.reverse_cons, List.reverse_cons, r, k.rev⟩
theorem snoc_last {α : Type} (ys : List α) (a : α) : (ys ++ [a])[(ys ++ [a]).length - 1]? = some a := by simp
/-- objects, each with its tree -/
abbrev ObV (c : CCs) (H : Hp) (v : V) (t : Tr) : Prop := ∃ a, v = .ref a ∧ Ob c H a t
theorem ObV.to {c : CCs} {H H' : Hp} (e : Kp H H') (v : V) (t : Tr) (h : ObV c H v t) : ObV c H' v t := by
  obtain ⟨a, r, o⟩ := h
  exact ⟨a, r, o.to e⟩
/-- what a saying is made of -/
def Tr.kids : Tr → List Tr
  | .no t => [t]
  | .fold _ a b => [a, b]
  | _ => []
def sizes (ts : List Tr) : Nat := (ts.map Tr.size).sum
theorem sizes_app (a b : List Tr) : sizes (a ++ b) = sizes a + sizes b := by simp [sizes]
theorem kids_size (t : Tr) : sizes t.kids + 1 = t.size := by cases t <;> simp [sizes, Tr.kids, Tr.size]
/-- the parts as laid_out meets them -/
theorem post_rev (t : Tr) : t.post.reverse = t :: (t.kids.reverse.flatMap fun x => x.post.reverse) := by
  cases t <;> simp [Tr.post, Tr.kids]
/-- a piece: a word or a saying -/
inductive Pc where
  | w (x : Str)
  | t (t : Tr)
def Pc.flat : Pc → List Str
  | .w x => [x]
  | .t z => z.words
def Pc.wt : Pc → Nat
  | .w _ => 1
  | .t z => 4 * z.size
def Tr.pieces : Tr → List Pc
  | .never => [.w "never"]
  | .always => [.w "always"]
  | .lp => [.w "p"]
  | .lq => [.w "q"]
  | .no t => [.w "not", .t t]
  | .fold w a b => [.w "(", .t a, .w w.str, .t b, .w ")"]
theorem pieces_flat (t : Tr) : t.pieces.flatMap Pc.flat = t.words := by cases t <;> simp [Tr.pieces, Tr.words, Pc.flat]
def wts (ps : List Pc) : Nat := (ps.map Pc.wt).sum
theorem wts_app (a b : List Pc) : wts (a ++ b) = wts a + wts b := by simp [wts]
theorem wts_rev (a : List Pc) : wts a.reverse = wts a := by simp [wts]
theorem pieces_wt (t : Tr) : wts t.pieces < 4 * t.size := by
  cases t <;> simp [wts, Tr.pieces, Pc.wt, Tr.size] <;> omega
inductive PcV (c : CCs) (H : Hp) : V → Pc → Prop where
  | w (x : Str) : PcV c H (.str x) (.w x)
  | t {a : Addr} {t : Tr} : Ob c H a t → PcV c H (.ref a) (.t t)
theorem PcV.to {c : CCs} {H H' : Hp} (e : Kp H H') (v : V) (p : Pc) (h : PcV c H v p) : PcV c H' v p := by
  cases h with
  | w x => exact .w x
  | t h => exact .t (h.to e)
theorem min_is (i j : Int) : (if j < i then j else i) = min i j := by
  rw [Int.min_def]; split <;> split <;> omega
theorem max_is (i j : Int) : (if j > i then j else i) = max i j := by
  rw [Int.max_def]; split <;> split <;> omega
end Mine

namespace L2
open PySem PySem.Spec PyProof.Rows
/-- the method m of the class C is the def st -/
structure MethF (K : PySem.W.Frag) (C : Addr) (m qual : Str) (st : Stmt) : Prop where
  cl : Cls K C
  ex : ∃ (f : Addr) (fd : FuncData), Meth K C m f ∧ Fun K m qual st f fd
section
variable {P : Program} {w : World} {K : PySem.W.Frag} {mg : Str → Option Value} {base : Heap}
theorem meth_of {C : Addr} {m qual : Str} {st : Stmt} {N ps : List Str} {k : Nat} {sp : Sp} (T : MethF K C m qual st) (S : FnScope N ps (defScope st))
    (bd : ∀ (kV doc pm : Value) (an : Option Addr) (cdv ct : Value) (us : List Value), us.length = ps.length → bindArgs (PySem.W.fnOf m qual (defArgs st) (defBody st) (defScope st) .none kV doc pm an cdv ct) ⟨us, []⟩ = pure (ps.zip us))
    (len : ∀ vs H Q E, sp vs H Q E → vs.length = ps.length)
    (body : ∀ (f : Addr) (cdv : Value) (A : Around) (outer : List Env) (s : Shared) (H : Hp) (vs : List V) (Q : VK) (E : XK), Room k (A.deeper (envOfC qual (defScope st) s.heap.objs.size f cdv)) → sp vs H Q E →
      ∃ t, PSs (cxOf CX0 P w K mg base N qual (defScope st) f cdv A outer s H E).nox (defBody st) t ∧ t { nx := fun _ H' => Q .non H', rt := Q } (start N vs) H) :
    MethOk P w K mg base C m (k + 1) ps sp := by
  obtain ⟨f, fd, hm, G⟩ := T.ex
  exact ⟨T.cl, f, fd, hm, G.ok S len (body f), G.binds bd⟩
/-- the class C, by the name x, is made with its __init__ -/
structure MkF (K : PySem.W.Frag) (mg : Str → Option Value) (x : Str) (C : Addr) (qual : Str) (st : Stmt) : Prop where
  cl : Cls K C
  mg_ : mg x = some (.ref C)
  ex : ∃ (f : Addr) (fd : FuncData), Mk K C f ∧ Fun K "__init__" qual st f fd
structure MkOk (P : Program) (w : World) (K : PySem.W.Frag) (mg : Str → Option Value) (base : Heap) (x : Str) (C : Addr) (k : Nat) (ps : List Str) (sp : Sp) : Prop where
  mg_ : mg x = some (.ref C)
  ex : ∃ (f : Addr) (fd : FuncData), Mk K C f ∧ FnOk P w K mg base CX0 k f fd ps sp ∧ Binds K fd ps []
theorem mk_of {C : Addr} {x qual : Str} {st : Stmt} {N ps : List Str} {k : Nat} {sp : Sp} (T : MkF K mg x C qual st) (S : FnScope N ps (defScope st))
    (bd : ∀ (kV doc pm : Value) (an : Option Addr) (cdv ct : Value) (us : List Value), us.length = ps.length → bindArgs (PySem.W.fnOf "__init__" qual (defArgs st) (defBody st) (defScope st) .none kV doc pm an cdv ct) ⟨us, []⟩ = pure (ps.zip us))
    (len : ∀ vs H Q E, sp vs H Q E → vs.length = ps.length)
    (body : ∀ (f : Addr) (cdv : Value) (A : Around) (outer : List Env) (s : Shared) (H : Hp) (vs : List V) (Q : VK) (E : XK), Room k (A.deeper (envOfC qual (defScope st) s.heap.objs.size f cdv)) → sp vs H Q E →
      ∃ t, PSs (cxOf CX0 P w K mg base N qual (defScope st) f cdv A outer s H E).nox (defBody st) t ∧ t { nx := fun _ H' => Q .non H', rt := Q } (start N vs) H) :
    MkOk P w K mg base x C (k + 1) ps sp := by
  obtain ⟨f, fd, hm, G⟩ := T.ex
  exact ⟨T.mg_, f, fd, hm, G.ok S len (body f), G.binds bd⟩
end
section
variable {X : Cx} {x : Str} {C : Addr} {k : Nat} {ps : List Str} {sp : Sp} {e : Expr} {es : List Expr} {t : TA} {p pos : Pos}
theorem pe_mk (M : MkOk X.prog X.w X.K X.mg X.base x C k ps sp) (hr : Room (k + 1) X.A) (hg : Gl X x) (ha : PA X (e :: es) t) (hdb : (x == ("__debug__" : Str)) = false := by decide)
    (he : starEach (e :: es) X.env = (false, eval e X.env) :: starEach es X.env := by rfl) (hpl : (backTo pos (starEach es X.env)).any (·.1) = false := by rfl) :
    PE X (.Call (.Name x p) (e :: es) [] pos) (tMake C sp [] E0 t) := by
  obtain ⟨f, fd, hm, G, hb⟩ := M.ex
  exact pe_make hm G hr hg M.mg_ hb .nil pass0 ha hdb he hpl
end
end L2
namespace Mine
open PySem L2
/-! ### the classes -/
def CCs.of (c : CCs) : Tr → Addr
  | .never => c.ne
  | .always => c.al
  | .lp => c.le
  | .lq => c.le
  | .no _ => c.no
  | .fold w _ _ => c.fold w
theorem look_name (x : V) : (fName x).lookup ("name" : Str) = some x := by unfold fName; rw [List.lookup_cons, beq_self_eq_true]
theorem look_part (x : V) : (fPart x).lookup ("part" : Str) = some x := by unfold fPart; rw [List.lookup_cons, beq_self_eq_true]
theorem look_one (x y : V) : (fTwo x y).lookup ("one" : Str) = some x := by unfold fTwo; rw [List.lookup_cons, beq_self_eq_true]
theorem look_other (x y : V) : (fTwo x y).lookup ("other" : Str) = some y := by
  unfold fTwo
  rw [List.lookup_cons, show (("other" : Str) == ("one" : Str)) = false by decide +kernel]
  show List.lookup ("other" : Str) [("other", y)] = some y
  rw [List.lookup_cons, beq_self_eq_true]
abbrev NoF (m : Str) : Prop := m ≠ "name" ∧ m ≠ "part" ∧ m ≠ "one" ∧ m ≠ "other"
theorem look_none {m a : Str} {x : V} {r : List (Str × V)} (h : m ≠ a) (k : r.lookup m = none) : ((a, x) :: r).lookup m = none := by
  rw [List.lookup_cons, beq_eq_false_iff_ne.mpr h]
  exact k
theorem Ob.cls {c : CCs} {H : Hp} {a : Addr} {t : Tr} (h : Ob c H a t) : ∃ dx fs, H a = some (.ins (c.of t) dx fs) ∧ ∀ m, NoF m → fs.lookup m = none := by
  cases h with
  | never h => exact ⟨_, _, h, fun m _ => rfl⟩
  | always h => exact ⟨_, _, h, fun m _ => rfl⟩
  | lp h => exact ⟨_, _, h, fun m n => look_none n.1 rfl⟩
  | lq h => exact ⟨_, _, h, fun m n => look_none n.1 rfl⟩
  | no h _ => exact ⟨_, _, h, fun m n => look_none n.2.1 rfl⟩
  | fold h _ _ => exact ⟨_, _, h, fun m n => look_none n.2.2.1 (look_none n.2.2.2 rfl)⟩
structure Fx (K : PySem.W.Frag) (c : CCs) : Prop where
  cl : ∀ t, Cls K (c.of t)
  ha : ∀ t, PySem.W.findIn K (.ref (c.of t)) "__class__" = some (some (.builtin "object.__class__"))
  hm : ∀ t, PySem.W.mroIn K (c.of t) (.type "object") = some true
  ks : ∀ t, PySem.W.kitOne K (.ref (c.of t)) (.type "str") = some false
  hn : PySem.W.specialIn K (.builtin "object.__class__") "__get__" = some (some (.builtin "getset_descriptor.__get__"))
  tk : PySem.W.takesIn K (.builtin "object.__class__") = some true
  nName : NoAttr K c.le "name"
  nPart : NoAttr K c.no "part"
  nOne : ∀ w, NoAttr K (c.fold w) "one"
  nOther : ∀ w, NoAttr K (c.fold w) "other"
theorem Fx.ty {K : PySem.W.Frag} {c : CCs} (T : Fx K c) {H : Hp} {a : Addr} {t : Tr} (h : Ob c H a t) : TyOf K H (.ref a) (.ref (c.of t)) := by
  obtain ⟨dx, fs, e, _⟩ := h.cls
  exact .ins e (T.cl t) (T.ha t) T.hn T.tk (T.hm t)
/-- the word of a tuple -/
def Tr.word : Tr → Str
  | .never => "never"
  | .always => "always"
  | .lp => "p"
  | .lq => "q"
  | .no _ => "not"
  | .fold u _ _ => u.str
/-! ### promises -/
def spMade (c : CCs) (t : Tr) : Sp := fun vs H Q _ => ∃ a, vs = [.ref a] ∧ Ob c H a t ∧ ∀ l us, H l = none → All2 (ObV c H) us t.kids → Q (.ref l) (upd H l (.lst us))
def spPieces (c : CCs) (t : Tr) : Sp := fun vs H Q _ => ∃ a, vs = [.ref a] ∧ Ob c H a t ∧ ∀ l us, H l = none → All2 (PcV c H) us t.pieces → Q (.ref l) (upd H l (.lst us))
def spWord (c : CCs) (t : Tr) : Sp := fun vs H Q _ => ∃ a : Addr, vs = [.ref a] ∧ Ob c H a t ∧ Q (.str t.word) H
def spLaid (c : CCs) (t : Tr) : Sp := fun vs H Q _ => ∃ a, vs = [.ref a] ∧ Ob c H a t ∧ t.size ≤ 1000 ∧ ∀ l us H', Same H H' → H l = none → H' l = some (.lst us) → All2 (ObV c H') us t.post → Q (.ref l) H'
def spTold (c : CCs) (t : Tr) : Sp := fun vs H Q _ => ∃ a, vs = [.ref a] ∧ Ob c H a t ∧ t.size ≤ 1000 ∧ ∀ H', Same H H' → Q (.str t.text) H'
def spInit1 (C : Addr) (fl : V → List (Str × V)) : Sp := fun vs H Q _ => ∃ (a dx : Addr) (x : V), vs = [.ref a, x] ∧ H a = some (.ins C dx []) ∧ Q .non (upd H a (.ins C dx (fl x)))
def spInit2 (C : Addr) : Sp := fun vs H Q _ => ∃ (a dx : Addr) (x y : V), vs = [.ref a, x, y] ∧ H a = some (.ins C dx []) ∧ Q .non (upd H a (.ins C dx (fTwo x y)))
theorem putF_two (x y : V) : putF "other" y (putF "one" x []) = fTwo x y := by
  show (if ("one" : Str) = "other" then [(("one" : Str), y)] else (("one" : Str), x) :: putF "other" y []) = _
  rw [if_neg (by decide +kernel)]
  rfl
end Mine

namespace Mine
open PySem L2
def W5.cls : W5 → Str
  | .more => "More" | .less => "Less" | .greater => "Greater" | .lesser => "Lesser" | .leads => "Leads"
theorem upd_none {H : Hp} {l p : Addr} {o : HO} (h : upd H l o p = none) : H p = none := by
  by_cases e : p = l
  · subst e; rw [upd_same] at h; cases h
  · rw [upd_ne e] at h; exact h
/-- a new instance, its attributes stored -/
theorem same_made {H : Hp} {C z dz : Addr} {fs : List (Str × V)} (hz : H z = none) (hd : H dz = none) (ne : dz ≠ z) : Same H (upd (upd (upd H dz (.own z)) z (.ins C dz [])) z (.ins C dz fs)) := fun b o h => by
  rw [upd_ne (ne_of_none h hz), upd_ne (ne_of_none h hz), upd_ne (ne_of_none h hd)]
  exact h
theorem made_fold {c : CCs} {H : Hp} {z dz b d : Addr} {u : W5} {t t' : Tr} {Q : VK} (hz : H z = none) (hd : H dz = none) (ne : dz ≠ z) (o : Ob c H b t) (o' : Ob c H d t') (q : ∀ e H', Same H H' → Ob c H' e (.fold u t t') → Q (.ref e) H') :
    Q (.ref z) (upd (upd (upd H dz (.own z)) z (.ins (c.fold u) dz [])) z (.ins (c.fold u) dz (fTwo (.ref b) (.ref d)))) := by
  have sm := same_made (C := c.fold u) (fs := fTwo (.ref b) (.ref d)) hz hd ne
  exact q z _ sm (.fold upd_same (o.to (Kp.of sm)) (o'.to (Kp.of sm)))

end Mine
namespace Mine
open PySem L2
theorem flat_len : ∀ ts : List Tr, (ts.flatMap fun x => x.post.reverse).length = sizes ts
  | [] => rfl
  | t :: r => by
    rw [List.flatMap_cons, List.length_append, List.length_reverse, post_len, flat_len r]
    simp [sizes]
theorem sizes_rev (ts : List Tr) : sizes ts.reverse = sizes ts := by simp [sizes]
theorem len_sizes : ∀ ts : List Tr, ts.length ≤ sizes ts
  | [] => Nat.le_refl _
  | t :: r => by
    have h := len_sizes r
    have p := t.size_pos
    have e : sizes (t :: r) = t.size + sizes r := by simp [sizes]
    rw [e, List.length_cons]; omega
theorem kids_len (t : Tr) : t.kids.length ≤ 2 := by cases t <;> simp [Tr.kids]
theorem pcs_len (t : Tr) : t.pieces.length ≤ 5 := by cases t <;> simp [Tr.pieces]
theorem len_wts : ∀ ps : List Pc, ps.length ≤ wts ps
  | [] => Nat.le_refl _
  | p :: r => by
    have h := len_wts r
    have e : wts (p :: r) = p.wt + wts r := by simp [wts]
    have q : 1 ≤ p.wt := by
      cases p with
      | w x => exact Nat.le_refl _
      | t t => have := t.size_pos; show 1 ≤ 4 * t.size; omega
    rw [e, List.length_cons]; omega
theorem words_len : ∀ t : Tr, t.words.length ≤ 4 * t.size
  | .no t => by have := words_len t; simp only [Tr.words, Tr.size, List.length_cons]; omega
  | .fold w a b => by have := words_len a; have := words_len b; simp only [Tr.words, Tr.size, List.length_cons, List.length_append, List.length_nil]; omega
  | .never => by decide
  | .always => by decide
  | .lp => by decide
  | .lq => by decide
end Mine


set_option Elab.async false
set_option linter.all false
set_option maxRecDepth 100000
set_option maxHeartbeats 4000000
namespace Mine
open PySem L2
theorem ite_yes {a b : Str} {A B : Prop} (h : a = b) (k : A) : if decide (V.str a = V.str b) = true then A else B := by
  rw [decide_eq_true (congrArg V.str h), if_pos rfl]
  exact k
theorem ite_no {a b : Str} {A B : Prop} (h : a ≠ b) (k : B) : if decide (V.str a = V.str b) = true then A else B := by
  rw [decide_eq_false (fun z => h (V.str.inj z)), if_neg Bool.false_ne_true]
  exact k
theorem in_yes {x : V} {xs : List V} {A B : Prop} (h : inV x xs = true) (k : A) : if (if false = true then !inV x xs else inV x xs) = true then A else B := by
  rw [if_neg Bool.false_ne_true, h, if_pos rfl]
  exact k
theorem in_no {x : V} {xs : List V} {A B : Prop} (h : inV x xs = false) (k : B) : if (if false = true then !inV x xs else inV x xs) = true then A else B := by
  rw [if_neg Bool.false_ne_true, h, if_neg Bool.false_ne_true]
  exact k
/-- a number that a script's cell may be -/
def Cel (m : Int) : Prop := 0 ≤ m ∧ Builtin.Int.intBits m ≤ 1048576
theorem cel0 : Cel 0 := ⟨Int.le_refl _, by decide⟩
theorem bits_abs (z : Int) : Builtin.Int.intBits (if z < 0 then -z else z) = Builtin.Int.intBits z := by
  unfold Builtin.Int.intBits
  by_cases h : z < 0
  · rw [if_pos h]
    simp
  · rw [if_neg h]
theorem cel_abs {z : Int} (h : Builtin.Int.intBits z ≤ 1048576) : Cel (if z < 0 then -z else z) := ⟨by split <;> omega, by rw [bits_abs]; exact h⟩
theorem cel_small {z : Int} (h0 : 0 ≤ z) (h : z < 2 ^ 64) : Cel z := ⟨h0, Nat.le_trans (intBits_le_64 (by omega) h) (by decide)⟩
theorem Scr.to {K : PySem.W.Frag} {H H' : Hp} {a : Addr} {ns : List Int} (h : Scr K H a ns) (e : Same H H') : Scr K H' a ns := h.ts e.ts
/-! ### promises of the law's own defs -/
def spMixed (K : PySem.W.Frag) : Sp := fun vs H Q _ => ∃ (a : Addr) (ns : List Int) (k : Int), vs = [.ref a, .int k] ∧ Scr K H a ns ∧ 0 ≤ k ∧ k ≤ 100 ∧ ∀ (D : Addr) (ms : List Int) (H' : Hp), Same H H' → H D = none → H' D = some (.lst (ms.map V.int)) → (∀ m ∈ ms, Cel m) → Q (.ref D) H'
def spNext : Sp := fun vs H Q _ => ∃ (l : Addr) (ms : List Int), vs = [.ref l] ∧ H l = some (.lst (ms.map V.int)) ∧ (∀ m ∈ ms, Cel m) ∧ ∀ (i : Int) (ms' : List Int) (H' : Hp), Cel i → (∀ m ∈ ms', Cel m) → SB (.ref l) H H' → H' l = some (.lst (ms'.map V.int)) → Q (.int i) H'
def spSaying (n : Nat) : Sp := fun vs H Q _ => ∃ (l : Addr) (ms : List Int) (r : Int) (b : Bool), vs = [.ref l, .int r, .bl b] ∧ H l = some (.lst (ms.map V.int)) ∧ (∀ m ∈ ms, Cel m) ∧ 1 ≤ r ∧ r ≤ n ∧
  ∀ (a : Addr) (t : Tr) (ms' : List Int) (H' : Hp), (t.size : Int) ≤ r → (∀ m ∈ ms', Cel m) → SB (.ref l) H H' → H' l = some (.lst (ms'.map V.int)) → Tu H' a t → Q (.ref a) H'
def spText (n : Nat) : Sp := fun vs H Q _ => ∃ (a : Addr) (t : Tr), vs = [.ref a] ∧ Tu H a t ∧ t.size ≤ n ∧ t.size ≤ 1000 ∧ Q (.str t.text) H
def spWholeL : Sp := fun vs H Q _ => ∃ i : Int, vs = [.int i] ∧ Q (.bl true) H
end Mine
namespace L2
open PySem PySem.Spec PyProof.Rows
/-! ### t[lo:hi], also the whole -/
namespace HT
variable {prog : Program} {w : World} {A : Around} {E : Value → Shared → Prop} {s : Shared}
end HT
section
variable {X : Cx}
end
end L2
namespace Mine
open PySem L2
theorem cut_int (ms : List Int) (lo hi : Option Int) : ∃ ms' : List Int, cutV (ms.map V.int) lo hi = ms'.map V.int ∧ ∀ m ∈ ms', m ∈ ms := by
  refine ⟨(ms.drop (_root_.HT.sIx (ms.map V.int).length 0 lo)).take (_root_.HT.sIx (ms.map V.int).length (ms.map V.int).length hi - _root_.HT.sIx (ms.map V.int).length 0 lo), ?_, fun m h => List.mem_of_mem_drop (List.mem_of_mem_take h)⟩
  unfold cutV
  rw [List.map_take, List.map_drop]
theorem mul_ok_r {a b : Int} (h : Builtin.Int.intBits b ≤ 64) : IntMulOk a b := .of_right h
theorem mul_ok_l {a b : Int} (h : Builtin.Int.intBits a ≤ 64) : IntMulOk a b := .of_left h
abbrev mixNames : List Str := ["_law_script", "_law_least", "_law_as_they_stand", "_law_made", "_law_k", "_law_cell"]
end Mine
namespace Mine
open PySem L2
abbrev sayNames : List Str := ["_law_cells", "_law_room", "_law_two", "_law_cell", "_law_turn", "_law_left", "_law_one", "_law_word"]
theorem word_at (m : Int) (h0 : 0 ≤ m) (h : m < 5) : ∃ u : W5, atI [V.str "more", .str "less", .str "greater", .str "lesser", .str "leads"] m = some (.str u.str) := by
  have hm : m = 0 ∨ m = 1 ∨ m = 2 ∨ m = 3 ∨ m = 4 := by omega
  rcases hm with rfl | rfl | rfl | rfl | rfl
  · exact ⟨.more, rfl⟩
  · exact ⟨.less, rfl⟩
  · exact ⟨.greater, rfl⟩
  · exact ⟨.lesser, rfl⟩
  · exact ⟨.leads, rfl⟩
theorem two_at {x y : V} (m : Int) (h : m = 0 ∨ m = 1) : ∃ z, atI [x, y] m = some z ∧ (z = x ∨ z = y) := by
  rcases h with rfl | rfl
  · exact ⟨x, rfl, .inl rfl⟩
  · exact ⟨y, rfl, .inr rfl⟩
theorem lst_fx {H : Hp} {l : Addr} {xs : List V} (e : H l = some (.lst xs)) : ∀ a o, V.ref l = .ref a → H a = some o → fixO o = false := fun a o z1 z2 => by cases z1; rw [e] at z2; cases z2; rfl
end Mine
namespace Mine
open PySem L2
theorem pq_p : inV (.str "p") [V.str "p", .str "q"] = true := by decide +kernel
theorem pq_q : inV (.str "q") [V.str "p", .str "q"] = true := by decide +kernel
theorem pq_not : inV (.str "not") [V.str "p", .str "q"] = false := by decide +kernel
theorem pq_w (u : W5) : inV (.str u.str) [V.str "p", .str "q"] = false := by cases u <;> decide +kernel
theorem w_ne (u : W5) : u.str ≠ "never" := by cases u <;> decide +kernel
theorem w_al (u : W5) : u.str ≠ "always" := by cases u <;> decide +kernel
theorem same_made0 {H : Hp} {C z dz : Addr} (hz : H z = none) (hd : H dz = none) : Same H (upd (upd H dz (.own z)) z (.ins C dz [])) := fun b o h => by
  rw [upd_ne (ne_of_none h hz), upd_ne (ne_of_none h hd)]
  exact h
end Mine
namespace Mine
open PySem L2
end Mine
namespace L2
open PySem PySem.Spec PyProof.Rows
end L2
namespace Mine
open PySem L2
def spLaw (K : PySem.W.Frag) : Sp := fun vs H Q _ => ∃ (a : Addr) (ns : List Int), vs = [.ref a] ∧ Scr K H a ns ∧ ∀ H', Q (.bl true) H'
/-! ### comprehensions without a test -/
theorem comp_from {wi : TI} {tc : TT} {te : TE} {js : List Nat} {σ : St} {H : Hp} {Q : VK} (h : wi σ H fun J H1 => tComp (fun _ H R => R J H) tc te js σ H1 Q) : tComp wi tc te js σ H Q := h

end Mine
namespace Mine
open PySem L2
theorem w_not (u : W5) : u.str ≠ "not" := by cases u <;> decide +kernel
theorem w_len (u : W5) : u.str.length ≤ 7 := by cases u <;> decide +kernel
end Mine


set_option Elab.async false
set_option linter.all false
set_option maxRecDepth 100000
set_option maxHeartbeats 4000000
namespace Mine
open PySem L2
def W5.ix : W5 → Nat | .more => 0 | .less => 1 | .greater => 2 | .lesser => 3 | .leads => 4
def Tr.kind : Tr → Nat | .never => 0 | .always => 1 | .lp => 2 | .lq => 2 | .no _ => 3 | .fold u _ _ => 4 + u.ix
structure Kt (K : PySem.W.Frag) (c : CCs) (cS : Addr) : Prop where
  s : ∀ t, PySem.W.kitOne K (.ref (c.of t)) (.ref cS) = some true
  k0 : ∀ t, PySem.W.kitOne K (.ref (c.of t)) (.ref c.ne) = some (decide (t.kind = 0))
  k1 : ∀ t, PySem.W.kitOne K (.ref (c.of t)) (.ref c.al) = some (decide (t.kind = 1))
  k2 : ∀ t, PySem.W.kitOne K (.ref (c.of t)) (.ref c.le) = some (decide (t.kind = 2))
  k3 : ∀ t, PySem.W.kitOne K (.ref (c.of t)) (.ref c.no) = some (decide (t.kind = 3))
  k4 : ∀ t, PySem.W.kitOne K (.ref (c.of t)) (.ref c.mo) = some (decide (t.kind = 4))
  k5 : ∀ t, PySem.W.kitOne K (.ref (c.of t)) (.ref c.ls) = some (decide (t.kind = 5))
  k6 : ∀ t, PySem.W.kitOne K (.ref (c.of t)) (.ref c.gr) = some (decide (t.kind = 6))
  k7 : ∀ t, PySem.W.kitOne K (.ref (c.of t)) (.ref c.lr) = some (decide (t.kind = 7))
  k8 : ∀ t, PySem.W.kitOne K (.ref (c.of t)) (.ref c.ld) = some (decide (t.kind = 8))
structure KtA (K : PySem.W.Frag) (mg : Str → Option Value) (c : CCs) (cS cF : Addr) : Prop where
  kt : Kt K c cS
  kf : ∀ t, PySem.W.kitOne K (.ref (c.of t)) (.ref cF) = some (decide (4 ≤ t.kind))
  mS : mg "Saying" = some (.ref cS)
  mF : mg "Fold" = some (.ref cF)
  m0 : mg "Never" = some (.ref c.ne)
  m1 : mg "Always" = some (.ref c.al)
  m2 : mg "Letter" = some (.ref c.le)
  m3 : mg "Not" = some (.ref c.no)
  m4 : mg "More" = some (.ref c.mo)
  m5 : mg "Less" = some (.ref c.ls)
  m6 : mg "Greater" = some (.ref c.gr)
  m7 : mg "Lesser" = some (.ref c.lr)
  m8 : mg "Leads" = some (.ref c.ld)
end Mine


set_option Elab.async false
set_option linter.all false
set_option maxRecDepth 100000
set_option maxHeartbeats 4000000
namespace Mine
open PySem L2
/-! ### rows: a word and numbers of rows ahead -/
end Mine


set_option Elab.async false
set_option linter.all false
set_option maxRecDepth 100000
set_option maxHeartbeats 4000000
namespace L2
open PySem PySem.Spec PyProof.Rows
section
variable {X : Cx} {pins : List (Addr × Obj)} {σ : St} {H H' : Hp} {s s' : Shared} {h' : Heap}
end

/-! ### what yields a new tuple at each turn -/
/-! ### enumerate of a list -/
section
variable {X : Cx}
end
end L2


set_option Elab.async false
set_option linter.all false
set_option maxRecDepth 100000
set_option maxHeartbeats 4000000
namespace L2
open PySem PySem.Spec PyProof.Rows PySem.AutoSeq1
/-! ### enumerate of a tuple -/
section
variable {prog : Program} {w : World} {A : Around} {E : Value → Shared → Prop} {s : Shared}
end
section
variable {X : Cx}
end
end L2


set_option Elab.async false
set_option linter.all false
set_option maxRecDepth 100000
set_option maxHeartbeats 4000000
namespace L2
open PySem PySem.Spec PyProof.Rows
/-! ### zip of two lists -/
section
variable {X : Cx}
end
end L2


set_option Elab.async false
set_option linter.all false
set_option maxRecDepth 100000
set_option maxHeartbeats 4000000
namespace L2
open PySem PySem.Spec PyProof.Rows
/-! ### list.insert at a place that is not below nought -/
section
variable {X : Cx}
end
end L2


set_option Elab.async false
set_option linter.all false
set_option maxRecDepth 100000
set_option maxHeartbeats 4000000
namespace L2
open PySem PySem.Spec PyProof.Rows
/-! ### in and not in, of data in a list -/
section
variable {X : Cx}
end
end L2


set_option Elab.async false
set_option linter.all false
set_option maxRecDepth 100000
set_option maxHeartbeats 4000000
namespace L2
open PySem PySem.Spec PyProof.Rows
section
variable {X : Cx}
/-! ### l.index(x) of data -/
end
end L2


set_option Elab.async false
set_option linter.all false
set_option maxRecDepth 100000
set_option maxHeartbeats 4000000
namespace Mine
open PySem L2
/-! ### rows as data -/
end Mine


set_option Elab.async false
set_option linter.all false
set_option maxRecDepth 100000
set_option maxHeartbeats 4000000
namespace Mine
open PySem L2
/-! ### rows by their kinds -/
inductive Gr where
  | ne | al | p | q
  | no (i : Nat)
  | fold (u : W5) (i j : Nat)
/-! ### each row a saying of letters -/
/-! ### the rows of a tree -/
end Mine


set_option Elab.async false
set_option linter.all false
set_option maxRecDepth 100000
set_option maxHeartbeats 4000000
namespace L2
open PySem PySem.Spec PyProof.Rows
/-! ### for x in reversed(a list) -/
section
variable {X : Cx} {tg : Expr}
end
/-! ### text.split(sep) -/
section
variable {X : Cx}
theorem cat_inj (c : Nat) : ∀ (p q r r' : List Nat), c ∉ p → c ∉ q → p ++ c :: r = q ++ c :: r' → p = q ∧ r = r'
  | [], [], r, r', _, _, h => ⟨rfl, (List.cons.inj h).2⟩
  | [], y :: q, r, r', _, hq, h => absurd (List.cons.inj h).1 (fun z => hq (by rw [z]; simp))
  | x :: p, [], r, r', hp, _, h => absurd (List.cons.inj h).1 (fun z => hp (by rw [← z]; simp))
  | x :: p, y :: q, r, r', hp, hq, h => by
    obtain ⟨e, h'⟩ := List.cons.inj h
    obtain ⟨e1, e2⟩ := cat_inj c p q r r' (fun z => hp (List.mem_cons_of_mem _ z)) (fun z => hq (List.mem_cons_of_mem _ z)) h'
    exact ⟨by rw [e, e1], e2⟩
theorem cat_no (c : Nat) (p q r : List Nat) (hp : c ∉ p) (h : p = q ++ c :: r) : False := hp (by rw [h]; simp)
theorem str_ext {x y : Str} (h : x.cps.toList = y.cps.toList) : x = y := by
  cases x; cases y
  congr 1
  exact Array.toList_inj.mp h
theorem cps_app (a b : Str) : (a ++ b).cps.toList = a.cps.toList ++ b.cps.toList := by
  show (a.cps ++ b.cps).toList = _
  exact Array.toList_append
/-- words without the sign, put together, come apart in one way -/
theorem join_inj (c : Nat) : ∀ (ps qs : List Str), ps ≠ [] → qs ≠ [] → (∀ p ∈ ps, c ∉ p.cps.toList) → (∀ q ∈ qs, c ∉ q.cps.toList) → Str.join ⟨#[c]⟩ ps = Str.join ⟨#[c]⟩ qs → ps = qs
  | [], _, h, _, _, _, _ => absurd rfl h
  | _, [], _, h, _, _, _ => absurd rfl h
  | [p], [q], _, _, hp, hq, h => by
    have h' : p = q := h
    rw [h']
  | [p], q :: q2 :: qs, _, _, hp, hq, h => by
    exfalso
    have h' : p = q ++ ⟨#[c]⟩ ++ Str.join ⟨#[c]⟩ (q2 :: qs) := h
    have e := congrArg (fun s : Str => s.cps.toList) h'
    simp only [cps_app] at e
    exact cat_no c _ q.cps.toList (Str.join ⟨#[c]⟩ (q2 :: qs)).cps.toList (hp p (by simp)) (by rw [e]; simp)
  | p :: p2 :: ps, [q], _, _, hp, hq, h => by
    exfalso
    have h' : p ++ ⟨#[c]⟩ ++ Str.join ⟨#[c]⟩ (p2 :: ps) = q := h
    have e := congrArg (fun s : Str => s.cps.toList) h'
    simp only [cps_app] at e
    exact cat_no c _ p.cps.toList (Str.join ⟨#[c]⟩ (p2 :: ps)).cps.toList (hq q (by simp)) (by rw [← e]; simp)
  | p :: p2 :: ps, q :: q2 :: qs, _, _, hp, hq, h => by
    have h' : p ++ ⟨#[c]⟩ ++ Str.join ⟨#[c]⟩ (p2 :: ps) = q ++ ⟨#[c]⟩ ++ Str.join ⟨#[c]⟩ (q2 :: qs) := h
    have e := congrArg (fun s : Str => s.cps.toList) h'
    simp only [cps_app] at e
    have e' : p.cps.toList ++ c :: (Str.join ⟨#[c]⟩ (p2 :: ps)).cps.toList = q.cps.toList ++ c :: (Str.join ⟨#[c]⟩ (q2 :: qs)).cps.toList := by simpa using e
    obtain ⟨e1, e2⟩ := cat_inj c _ _ _ _ (hp p (by simp)) (hq q (by simp)) e'
    have ih := join_inj c (p2 :: ps) (q2 :: qs) (by simp) (by simp) (fun x hx => hp x (by simp at hx ⊢; right; exact hx)) (fun x hx => hq x (by simp at hx ⊢; right; exact hx)) (str_ext e2)
    rw [str_ext e1, ih]
theorem split_ne (x y : Str) : Txt.split x y ≠ [] := by
  unfold Txt.split
  split
  · simp
  · split
    · simp
    · intro h
      have := congrArg List.length h
      rw [length_partsBetween] at this
      simp at this
theorem split_words {c : Nat} {ws : List Str} (h0 : ws ≠ []) (h : ∀ w ∈ ws, c ∉ w.cps.toList) : Txt.split (Str.join ⟨#[c]⟩ ws) ⟨#[c]⟩ = ws :=
  join_inj c _ _ (split_ne _ _) h0 (StrLaws.split_free _ c) h (StrLaws.join_split _ _)
theorem vals_strs : ∀ (l : List (Str × Tok)), Vals ((l.map (·.1)).map V.str) (strValues l)
  | [] => .nil
  | (x, t) :: r => .cons ⟨t, rfl⟩ (vals_strs r)
theorem len_split (x y : Str) : (Txt.split x y).length ≤ x.length + 2 := by
  unfold Txt.split
  split
  · simp
  · split
    · simp
    · rw [length_partsBetween]
      have := StrLaws.occ_length_le x y 0 x.length (x.length + 1)
      omega
def rSplit : V → List V → Hp → VK → Prop := fun x vs H Q => ∃ (t y : Str), x = .str t ∧ vs = [.str y] ∧ (y.length == 0) = false ∧ t.length ≤ 1000000 ∧ ∀ p, H p = none → Q (.ref p) (upd H p (.lst ((Txt.split t y).map V.str)))
theorem mt_split : MtM X "str.split" rSplit := by
  intro pins s σ H x vs v us Q I rx rv h
  obtain ⟨t, y, rfl, rfl, hy, hz, q⟩ := h
  obtain ⟨tx, rfl⟩ := rx
  obtain ⟨u, rfl, ty, rfl⟩ := rv.one
  have hsz : t.length ≤ sizeLine := Nat.le_trans hz (by decide)
  have hln := len_split t y
  have hl : ((Txt.split t y).map V.str).length ≤ sizeLine := by
    rw [List.length_map]
    exact Nat.le_trans hln (Nat.le_trans (Nat.add_le_add_right hz 2) (by decide))
  cases h1 : (decide (t.length < y.length) || decide (Builtin.Str.strKind t < Builtin.Str.strKind y))
  · cases hf : (Builtin.Str.occurrences t y 0 t.length (t.length + 1)).isEmpty
    · have es : Txt.split t y = Builtin.Str.partsBetween t (Builtin.Str.occurrences t y 0 t.length (t.length + 1)) y.length := by
        unfold Txt.split
        rw [if_neg (ne_true_of_eq_false h1), if_neg (ne_true_of_eq_false hf)]
      refine call_meets F.slot_str_split (typeIs_str _ _ _) F.entry_str_split (F.args_str_split_2 _ _) (meets_str_split_sep t y tx ty h1 hy hf hsz (by rw [← es]; rw [List.length_map] at hl; exact hl)) ?_
      show wants _ _ _ { s with toks := _, heap := s.heap.push { cls := .type "list", data := .seq (strsFrom s.toks (Builtin.Str.partsBetween t (Builtin.Str.occurrences t y 0 t.length (t.length + 1)) y.length)).toArray } }
      rw [strsFrom_eq]
      refine ⟨.ref s.heap.objs.size, _, I.lnew (ys := (Txt.split t y).map V.str) ?_ hl, rfl, q _ I.fresh⟩
      have z := vals_strs (numbered s.toks (Builtin.Str.partsBetween t (Builtin.Str.occurrences t y 0 t.length (t.length + 1)) y.length))
      rw [numbered_texts, ← es] at z
      rw [← es]
      exact z
    · have es : Txt.split t y = [t] := by
        unfold Txt.split
        rw [if_neg (ne_true_of_eq_false h1), if_pos hf]
      rw [es] at q hl
      exact call_meets F.slot_str_split (typeIs_str _ _ _) F.entry_str_split (F.args_str_split_2 _ _) (meets_str_split_not_found t y tx ty h1 hy hf)
        ⟨.ref s.heap.objs.size, _, I.lnew (its := [.str t tx]) (ys := [.str t]) (.cons ⟨_, rfl⟩ .nil) hl, rfl, q _ I.fresh⟩
  · have es : Txt.split t y = [t] := by
      unfold Txt.split
      rw [if_pos h1]
    rw [es] at q hl
    exact call_meets F.slot_str_split (typeIs_str _ _ _) F.entry_str_split (F.args_str_split_2 _ _) (meets_str_split_cannot_occur t y tx ty h1)
      ⟨.ref s.heap.objs.size, _, I.lnew (its := [.str t tx]) (ys := [.str t]) (.cons ⟨_, rfl⟩ .nil) hl, rfl, q _ I.fresh⟩
end
end L2


set_option Elab.async false
set_option linter.all false
set_option maxRecDepth 100000
set_option maxHeartbeats 4000000
namespace Mine
open PySem L2
/-! ### reading texts: no program in it -/
/-! ### made of words, from the end -/
/-- the things made, the words of folds that wait: the last one first -/
inductive MkS : Str → List Tr → List W5 → List Tr → List W5 → Prop where
  | op (a b : Tr) (u : W5) (M : List Tr) (F : List W5) : MkS "(" (a :: b :: M) (u :: F) (.fold u a b :: M) F
  | no (a : Tr) (M : List Tr) (F : List W5) : MkS "not" (a :: M) F (.no a :: M) F
  | fw (u : W5) (M : List Tr) (F : List W5) : MkS u.str M F M (u :: F)
  | cl (M : List Tr) (F : List W5) : MkS ")" M F M F
  | leaf (t : Tr) (h : t.kids = []) (M : List Tr) (F : List W5) : MkS t.word M F (t :: M) F
inductive MkR : List Str → List Tr → List W5 → List Tr → List W5 → Prop where
  | nil (M : List Tr) (F : List W5) : MkR [] M F M F
  | cons {w : Str} {ws : List Str} {M M1 M2 : List Tr} {F F1 F2 : List W5} : MkS w M F M1 F1 → MkR ws M1 F1 M2 F2 → MkR (w :: ws) M F M2 F2
/-- a word without the blank -/
theorem words_free : ∀ t : Tr, ∀ w ∈ t.words, 32 ∉ w.cps.toList := by
  intro t
  induction t with
  | no t ih =>
    intro w h
    rcases List.mem_cons.mp h with rfl | h
    · decide +kernel
    · exact ih w h
  | fold u a b ia ib =>
    intro w h
    have e : w = "(" ∨ w ∈ a.words ∨ w = u.str ∨ w ∈ b.words ∨ w = ")" := by simpa [Tr.words] using h
    rcases e with rfl | h | rfl | h | rfl
    · decide +kernel
    · exact ia w h
    · cases u <;> decide +kernel
    · exact ib w h
    · decide +kernel
  | _ =>
    intro w h
    rw [List.mem_singleton.mp h]
    decide +kernel
theorem blank_is : (" " : Str) = ⟨#[32]⟩ := by decide +kernel
theorem split_text (t : Tr) : Txt.split t.text " " = t.words := by
  rw [← text_join t, blank_is]
  obtain ⟨x, r, e⟩ := words_cons t
  exact split_words (by rw [e]; simp) (words_free t)
end Mine


set_option Elab.async false
set_option linter.all false
set_option maxRecDepth 100000
set_option maxHeartbeats 4000000
namespace L2
open PySem PySem.Spec PyProof.Rows
section
variable {X : Cx}
/-! ### l.count(x) of flat things -/
theorem count_eqU {x : V} : ∀ {xs : List V} {us : List Value}, Vals xs us → xs.all flatV = true → us.countP (eqU x) = xs.countP (fun y => eqV y x)
  | _, _, .nil, _ => rfl
  | _, _, .cons r t, f => by
    rw [List.all_cons, Bool.and_eq_true] at f
    rw [List.countP_cons, List.countP_cons, eqU_of r f.1, count_eqU t f.2]
def rCountF : V → List V → Hp → VK → Prop := fun x vs H Q => ∃ (l : Addr) (ys : List V) (y : V), x = .ref l ∧ vs = [y] ∧ H l = some (.lst ys) ∧ ys.all flatV = true ∧ flatV y = true ∧ Q (.int ((ys.countP fun e => eqV e y : Nat) : Int)) H
theorem mt_countF : MtM X "list.count" rCountF := by
  intro pins s σ H x vs v us Q I rx rv h
  obtain ⟨l, ys, y, rfl, rfl, hH, fl, fy, q⟩ := h
  cases rx
  obtain ⟨u, rfl, ru⟩ := vals1 rv
  obtain ⟨z, its, n, r, hl, e⟩ := I.lstM hH
  have ec : its.toArray.toList.countP (eqU y) = ys.countP (fun e => eqV e y) := count_eqU r fl
  have q' : Q (.int ((its.toArray.toList.countP (eqU y) : Nat) : Int)) H := by rw [ec]; exact q
  exact call_meets F.slot_list_count ⟨_, e, rfl⟩ F.entry_list_count (F.args_list_count_2 _ _)
    (PySem.SeqAt.list_countAt l its.toArray n _ _ u (eqU y)) ⟨e, fun w hw => mem_eqAt ru fy r fl w (by simpa using hw), ⟨.int _, H, I.tok _, ⟨_, rfl⟩, q'⟩⟩
end
end L2
namespace Mine
open PySem L2
/-! ### a comprehension with a test -/
theorem comp_filt {K : PySem.W.Frag} {wi : TI} {tc : TT} {te : TE} {js : List Nat} {σ : St} {H : Hp} {Q : VK} {xs : List V} (p : V → Bool) (g : V → V) (Src : Addr → Hp → Prop)
    (hwi : ∀ R : It → Hp → Prop, (∀ l H, Src l H → R (Itl K l) H) → wi σ H R) (hsrc : ∀ l H', Src l H' → H' l = some (.lst xs) ∧ Same H H') (hx : xs.length ≤ 1000)
    (ht : ∀ (i : Nat) v H' (N : Bool → Hp → Prop), xs[i]? = some v → Same H H' → (∀ H'', Same H' H'' → N (p v) H'') → tc (some v :: cVals js σ) H' N)
    (hs : ∀ (i : Nat) v H' (N : VK), xs[i]? = some v → p v = true → Same H H' → (∀ H'', Same H' H'' → N (g v) H'') → te (some v :: cVals js σ) H' N)
    (hd : ∀ D H', Same H H' → H D = none → H' D = some (.lst ((xs.filter p).map g)) → Q (.ref D) H') : tComp wi tc te js σ H Q := by
  refine hwi _ fun l H1 src => ?_
  intro D hD
  obtain ⟨e, s1⟩ := hsrc l H1 src
  have nl : l ≠ D := ne_of_none e hD
  have hD0 : H D = none := s1.free hD
  refine ⟨fun i m H' => m = xs.length - i ∧ i ≤ xs.length ∧ H' l = some (.lst xs) ∧ Same H H' ∧ H' D = some (.lst (((xs.take i).filter p).map g)), ⟨xs.length, rfl, Nat.zero_le _, by rw [upd_ne nl]; exact e, s1.trans (same_new hD _), upd_same⟩, ?_⟩
  rintro i m H2 ⟨rfl, hi, e2, s2, eD⟩
  by_cases hlt : i < xs.length
  · refine .inr ⟨⟨xs, xs[i], SqL.of e2, by simp [hlt]⟩, fun v H3 y => ?_⟩
    obtain ⟨eh, y⟩ := y
    subst eh
    have hv := y xs (SqL.of e2)
    have tk : xs.take (i + 1) = xs.take i ++ [v] := by rw [List.take_add_one, hv]; rfl
    have hln : ((xs.take i).filter p).length ≤ i := Nat.le_trans (List.length_filter_le _ _) (by rw [List.length_take]; omega)
    refine ht i v _ _ hv s2 fun H4 s4 => ?_
    by_cases hp : p v = true
    · rw [if_pos hp]
      refine hs i v H4 _ hv hp (s2.trans s4) fun H5 s5 => ?_
      have e5 := s5 _ _ (s4 _ _ eD)
      refine ⟨_, e5, by rw [List.length_map]; exact Nat.lt_of_le_of_lt (show _ ≤ 1000 by omega) (by decide), xs.length - (i + 1), by omega, rfl, hlt, ?_, fun d u z => ?_, ?_⟩
      · rw [upd_ne nl]; exact s5 _ _ (s4 _ _ e2)
      · rw [upd_ne (ne_of_none z hD0)]; exact s5 _ _ (s4 _ _ (s2 _ _ z))
      · rw [upd_same, tk, List.filter_append, List.filter_cons_of_pos hp, List.map_append]
        rfl
    · rw [if_neg hp]
      refine ⟨xs.length - (i + 1), by omega, rfl, hlt, s4 _ _ e2, s2.trans s4, ?_⟩
      rw [tk, List.filter_append, List.filter_cons_of_neg hp, List.map_append]
      have z := s4 _ _ eD
      simpa using z
  · have ei : i = xs.length := by omega
    subst ei
    rw [List.take_length] at eD
    exact .inl ⟨⟨xs, SqL.of e2, Nat.le_refl _⟩, hd D H2 s2 hD0 eD⟩
end Mine


set_option Elab.async false
set_option linter.all false
set_option maxRecDepth 100000
set_option maxHeartbeats 4000000
namespace L2
open PySem PySem.Spec PyProof.Rows
/-! ### what is never come to -/
/-! ### sum of a list of ints -/
/-! ### TABLE.get(x) of a dict at a file's top -/
end L2


set_option Elab.async false
set_option linter.all false
set_option maxRecDepth 100000
set_option maxHeartbeats 4000000
namespace L2
open PySem PySem.Spec PyProof.Rows
/-- who made a table, and that not all in it hash by value, stays when a thing is laid in and when it is laid anew -/
def Flg (a b : SetTable) : Prop := a.led = b.led ∧ (b.plain = false → a.plain = false)
theorem Flg.trans {a b c : SetTable} (x : Flg a b) (y : Flg b c) : Flg a c := ⟨x.1.trans y.1, fun z => x.2 (y.2 z)⟩
theorem flg_put (t : SetTable) (j : Nat) : Flg (t.put j).1 t := ⟨rfl, id⟩
theorem flg_stand (t : SetTable) (n : Nat) : Flg (t.standIn n) t := by
  unfold SetTable.standIn
  exact ⟨rfl, fun _ => rfl⟩
theorem flg_orStand (t : SetTable) (n : Nat) : Flg (t.orStandIn n) t := by
  unfold SetTable.orStandIn
  split
  · exact ⟨rfl, id⟩
  · exact flg_stand t n
theorem flg_new (t : SetTable) (es : Array (Int × Value)) (h : Int) (x : Value) : Flg (layNew t es h x).2.1 t := by
  unfold layNew
  split
  · exact (flg_orStand _ _).trans (flg_put _ _)
  · exact flg_stand _ _
theorem flg_laid {m f v : Nat} {l p : Bool} {hs : Array Int} {t : SetTable} {od : Array Nat} (e : SetTable.laid m f v l p hs = some (t, od)) : t.led = l ∧ t.plain = p := by
  unfold SetTable.laid at e
  cases q : SetTable.layClean m hs with
  | none => rw [q] at e; cases e
  | some ow =>
    rw [q] at e
    cases e
    exact ⟨rfl, rfl⟩
theorem flg_relay (t : SetTable) (es : Array (Int × Value)) (n : Nat) : Flg (relayAll t es n).2.1 t := by
  unfold relayAll
  split
  · rename_i t' od e
    dsimp only
    split
    · obtain ⟨h1, h2⟩ := flg_laid e
      exact ⟨h1, fun z => h2.trans z⟩
    · exact flg_stand _ _
  · exact flg_stand _ _
end L2


set_option Elab.async false
set_option linter.all false
set_option maxRecDepth 100000
set_option maxHeartbeats 4000000
namespace L2
open PySem PySem.Spec PyProof.Rows
def keyOf : Value → Str
  | .str k _ => k
  | _ => default
/-- a set of texts, as it lies: each once, who made it, and that it is not plain -/
structure SEs (P : Program) (w : World) (led : Bool) (ks : List Str) (es : Array (Int × Value)) (t : SetTable) : Prop where
  el : ∀ e ∈ es.toList, ∃ k u, e = ((strKind P w).hash k, Value.str k u)
  pm : List.Perm (es.toList.map fun e => keyOf e.2) ks
  ft : t.fits es.size = true
  ld : t.led = led
  pl : es.size ≠ 0 → t.plain = false
def SSet (P : Program) (w : World) (h : Heap) (S : Addr) (led : Bool) (ks : List Str) : Prop :=
  ∃ o es ep t, h.get? S = some o ∧ o.ExactSet ∧ o.data = .set es ep t ∧ SEs P w led ks es t
section
variable {P : Program} {w : World} {A : Around} {E : Value → Shared → Prop} {s : Shared}
theorem SEs.elems {led : Bool} {ks : List Str} {es : Array (Int × Value)} {t : SetTable} (x : SEs P w led ks es t) : ElemsOf (strKind P w) es.toList := fun e he => by
  obtain ⟨k, u, rfl⟩ := x.el e he
  exact ⟨⟨k, strKind_is _ _ _ _, rfl⟩, rfl⟩
theorem SEs.len {led : Bool} {ks : List Str} {es : Array (Int × Value)} {t : SetTable} (x : SEs P w led ks es t) : es.size = ks.length := by
  rw [← x.pm.length_eq, List.length_map, Array.length_toList]
theorem is_key {k j : Str} {u : Tok} : (strKind P w).is k (.str j u) = true ↔ j = k := by
  simp [PySem.strKind, Value.isStrOf]
theorem SEs.mem {led : Bool} {ks : List Str} {es : Array (Int × Value)} {t : SetTable} (x : SEs P w led ks es t) {k : Str} : k ∈ ks ↔ ∃ e ∈ es.toList, (strKind P w).is k e.2 = true := by
  rw [← x.pm.mem_iff, List.mem_map]
  constructor
  · rintro ⟨e, he, q⟩
    refine ⟨e, he, ?_⟩
    obtain ⟨j, u, rfl⟩ := x.el e he
    exact is_key.mpr q
  · rintro ⟨e, he, q⟩
    refine ⟨e, he, ?_⟩
    obtain ⟨j, u, rfl⟩ := x.el e he
    exact is_key.mp q
theorem SEs.perm {led : Bool} {ks : List Str} {es es2 : Array (Int × Value)} {t t2 : SetTable} (x : SEs P w led ks es t) (p : List.Perm es2.toList es.toList) (f : t2.fits es2.size = true) (g : Flg t2 t) : SEs P w led ks es2 t2 :=
  have hl : es2.size = es.size := by rw [← Array.length_toList, p.length_eq, Array.length_toList]
  ⟨fun e he => x.el e (p.mem_iff.mp he), (p.map _).trans x.pm, f, g.1.trans x.ld, fun z => g.2 (x.pl (by rwa [hl] at z))⟩
theorem ss_store {h : Heap} {S : Addr} {o : Obj} {es es1 : Array (Int × Value)} {ep : Nat} {t t1 : SetTable} {led : Bool} {ks : List Str} (ho : h.get? S = some o) (hex : o.ExactSet) (hd : o.data = .set es ep t) (X : SEs P w led ks es1 t1) :
    (h.update S (Obj.putSet es1 t1)).get? S = some { o with data := .set es1 (ep + 1) t1 } ∧ SSet P w (h.update S (Obj.putSet es1 t1)) S led ks := by
  have g := Heap.get?_update_self (Obj.putSet es1 t1) ho (by rw [putSet_of es1 t1 hd]; rfl)
  rw [putSet_of es1 t1 hd] at g
  exact ⟨g, _, es1, ep + 1, t1, g, hex, rfl, X⟩
theorem tail_str {g : Bool → Sem Unit} (hg : ∀ (b : Bool) (s1 : Shared) (Q' : Unit → Shared → Prop), Q' () s1 → wpAny (model P w) A (g b) Q' E s1) {S : Addr} {o : Obj} {es es1 : Array (Int × Value)} {ep : Nat} {t t2 : SetTable} {led wd : Bool} {ks : List Str} {R : Option Bool → Shared → Prop}
    (ho : s.heap.get? S = some o) (hex : o.ExactSet) (hd : o.data = .set es ep t) (X : SEs P w led ks es1 t2) (few : ks.length < 200) (h : ∀ h', Heap.SameBut S s.heap h' → SSet P w h' S led ks → R (some true) { s with heap := h' }) :
    wpAny (model P w) A (do
        storeSet S es1 t2
        if (!wd && t2.tooFull) = true then do
            g (relayAll t2 es1 (SetTable.grown es1.size)).2.2
            storeSet S (relayAll t2 es1 (SetTable.grown es1.size)).1 (relayAll t2 es1 (SetTable.grown es1.size)).2.1
            pure (some true)
          else pure (some true)) R E s := by
  have sb : scanBound = 4096 := rfl
  have l1 := X.len
  obtain ⟨g1, S1⟩ := ss_store ho hex hd X
  have b1 := Heap.SameBut.update s.heap S (Obj.putSet es1 t2)
  refine wpAny_bind (wpAny_storeSet_of ho hd ?_ (fits_of_scanBound (by omega)))
  split
  · have hp := relayAll_perm t2 es1 (SetTable.grown es1.size)
    have hf := relayAll_fits t2 es1 (SetTable.grown es1.size)
    have fl := flg_relay t2 es1 (SetTable.grown es1.size)
    generalize relayAll t2 es1 (SetTable.grown es1.size) = r at hp hf fl ⊢
    obtain ⟨es2, t3, gave⟩ := r
    dsimp only at hp hf fl ⊢
    have X2 := X.perm hp hf fl
    have l2 := X2.len
    obtain ⟨_, S2⟩ := ss_store g1 hex rfl X2
    refine wpAny_bind (hg _ _ _ (wpAny_bind (wpAny_storeSet_of g1 rfl ?_ (fits_of_scanBound (by omega)))))
    exact wpAny_pure (h _ (b1.trans (Heap.SameBut.update _ S _)) S2)
  · exact wpAny_pure (h _ b1 S1)
theorem add_str {S : Addr} {led : Bool} {ks : List Str} {k : Str} {u : Tok} {Q : Bool → Shared → Prop} (hS : SSet P w s.heap S led ks) (few : ks.length < 100)
    (q : ∀ h' b, Heap.SameBut S s.heap h' → SSet P w h' S led (if k ∈ ks then ks else k :: ks) → Q b { s with heap := h', toks := s.toks + 1 }) :
    wpAny (model P w) A (setAdd S (.str k u)) Q E s := by
  obtain ⟨o, es, ep, t, ho, hex, hd, X⟩ := hS
  have sz := X.len
  have hb : es.size < scanBound := by have : scanBound = 4096 := rfl; omega
  unfold setAdd
  refine wpAny_holding (wpAny_bind ((strKind P w).pyHash (strKind_is _ _ _ _) ?_))
  unfold setAddHashed setAddHashedIn
  refine wpAny_holding (wpAny_bind (wpAny_setState_of (s := { s with toks := s.toks + 1 }) ho hd X.ft ?_))
  dsimp only
  rw [byScan_of (x := .str k u) rfl hb X.elems]
  simp only [↓reduceIte]
  unfold setAddByScan
  refine wpAny_bind ?_
  refine wpAny_bind (wpAny_rule ?_)
  refine wpAny_bind (wpAny_setScan_of (s := { s with toks := s.toks + 1 }) (strKind_is _ _ _ _) ho hd X.ft X.elems ?_)
  cases hr : List.findIdx? (fun e => (strKind P w).is k e.2) es.toList with
  | some j =>
    dsimp only
    obtain ⟨hj, hpj, _⟩ := List.findIdx?_eq_some_iff_getElem.mp hr
    have hm : k ∈ ks := X.mem.mpr ⟨_, List.getElem_mem hj, hpj⟩
    refine wpAny_pure (wpAny_pure ?_)
    have := q s.heap false (Heap.SameBut.refl S s.heap) (by rw [if_pos hm]; exact ⟨o, es, ep, t, ho, hex, hd, X⟩)
    exact this
  | none =>
    dsimp only
    have hm : k ∉ ks := fun z => by
      obtain ⟨e, he, hp⟩ := X.mem.mp z
      have := List.findIdx?_eq_none_iff.mp hr e he
      rw [hp] at this
      exact Bool.noConfusion this
    have fl := flg_new t es ((strKind P w).hash k) (.str k u)
    have hperm := layNew_perm t es ((strKind P w).hash k) (.str k u)
    have hfits := layNew_fits t es ((strKind P w).hash k) (.str k u)
    generalize layNew t es ((strKind P w).hash k) (.str k u) = L at fl hperm hfits ⊢
    obtain ⟨es1, t1, wd, gave⟩ := L
    dsimp only at fl hperm hfits ⊢
    rw [Array.toList_push] at hperm
    have sb : scanBound = 4096 := rfl
    have l1 : es1.size = es.size + 1 := by rw [← Array.length_toList, hperm.length_eq, List.length_append, Array.length_toList]; rfl
    have mk : ∀ t2 : SetTable, t2.fits es1.size = true → t2.led = t1.led → t2.plain = false → SEs P w led (k :: ks) es1 t2 := fun t2 f hl hp =>
      ⟨fun e he => by
        rcases List.mem_append.mp (hperm.mem_iff.mp he) with z | z
        · exact X.el e z
        · exact ⟨k, u, List.mem_singleton.mp z⟩, by
        refine (hperm.map _).trans ?_
        rw [List.map_append]
        exact List.perm_append_comm.trans (X.pm.cons k), f, hl.trans (fl.1.trans X.ld), fun _ => hp⟩
    have fin : ∀ h', Heap.SameBut S s.heap h' → SSet P w h' S led (k :: ks) → Q true { s with heap := h', toks := s.toks + 1 } := fun h' a b => q h' true a (by rw [if_neg hm]; exact b)
    have hgw : ∀ (b : Bool) (s1 : Shared) (Q' : Unit → Shared → Prop), Q' () s1 → wpAny (model P w) A (match b with | true => rule "set.scan.the-table-gave-way" | false => pure ()) Q' E s1 := fun b s1 Q' hq => by cases b <;> first | exact wpAny_pure hq | exact wpAny_rule hq
    refine wpAny_bind (hgw _ _ _ ?_)
    split
    · refine wpAny_bind ?_
      rw [hashByValue_scannable 8 (x := .str k u) rfl]
      refine wpAny_pure ?_
      refine tail_str (s := { s with toks := s.toks + 1 }) hgw ho hex hd (mk { t1 with plain := false } (SetTable.fits_plain_off hfits) rfl rfl) (by simp; omega) fun h' a b => ?_
      exact wpAny_pure (fin h' a b)
    · rename_i np
      refine wpAny_bind (wpAny_pure ?_)
      simp only [↓reduceIte]
      refine tail_str (s := { s with toks := s.toks + 1 }) hgw ho hex hd (mk t1 hfits rfl (by simpa using np)) (by simp; omega) fun h' a b => ?_
      exact wpAny_pure (fin h' a b)
end
end L2


set_option Elab.async false
set_option linter.all false
set_option maxRecDepth 100000
set_option maxHeartbeats 4000000
namespace L2
open PySem PySem.Spec PyProof.Rows
section
variable {P : Program} {w : World} {A : Around} {E : Value → Shared → Prop} {s : Shared}
/-- the members after the first i texts have been laid in -/
def inOf : List Str → List Str → List Str
  | ks, [] => ks
  | ks, k :: r => inOf (if k ∈ ks then ks else k :: ks) r
theorem ss_any {h h' : Heap} {S : Addr} {led : Bool} {ks : List Str} (x : SSet P w h S led ks) (st : ∀ o, h.get? S = some o → h'.get? S = some o) : SSet P w h' S led ks := by
  obtain ⟨o, es, ep, t, e, r⟩ := x
  exact ⟨o, es, ep, t, st o e, r⟩
theorem loop_strs {I S l : Addr} {its : Array Value} {led : Bool} {R : Result → Shared → Prop} (hh : A.in1.handled = none) (nI : l ≠ I) (nS : S ≠ I) (nL : S ≠ l) (ts : List Str) (hn : its.size = ts.length) (few : its.size ≤ 60)
    (vals : ∀ (i : Nat) (v : Value), its[i]? = some v → ∃ k u, ts[i]? = some k ∧ v = Value.str k u) :
    ∀ (r i : Nat) (ks : List Str) (s : Shared), its.size - i = r → i ≤ its.size → ks.length ≤ i → s.heap.IsListIter I l i → s.heap.IsList l its → SSet P w s.heap S led ks →
      (∀ h' tk, (∀ b o, b ≠ S → b ≠ I → s.heap.get? b = some o → h'.get? b = some o) → SSet P w h' S led (inOf ks (ts.drop i)) → R (.ok (.ret .none)) { s with heap := h', toks := tk }) →
      codeAny (model P w) A (.builtin "set.update.loop" ⟨[.ref S, .ref I], []⟩) R s := by
  have W := Walks.list (prog := P) (w := w) hh I l nI its
  intro r
  induction r with
  | zero =>
    intro i ks s er hi lk hI hL hU q
    have ei : i = its.size := by omega
    subst ei
    rw [List.drop_of_length_le (by omega)] at q
    refine codeAny_builtin PyProof.Rows.F.entry_set_update_loop ?_
    rw [Around.under_plainId PyProof.Rows.F.plain_set_update_loop _]
    show wpAny _ A.in1 (pyNext (.ref I) >>= _) _ _ s
    refine wpAny_bind (W.done s _ _ ⟨hI, hL⟩ fun h' tk kk => ?_)
    show wpAny _ A.in1 (ret Value.none) _ _ _
    exact wpAny_pure (q h' tk (fun b o _ nb e => kk b o (by simpa using nb) e) (ss_any hU fun o e => kk S o (by simpa using nS) e))
  | succ r ih =>
    intro i ks s er hi lk hI hL hU q
    refine codeAny_builtin PyProof.Rows.F.entry_set_update_loop ?_
    rw [Around.under_plainId PyProof.Rows.F.plain_set_update_loop _]
    show wpAny _ A.in1 (pyNext (.ref I) >>= _) _ _ s
    refine wpAny_bind (W.item i s _ _ (by omega) ⟨hI, hL⟩ fun v h' tk hv st kk => ?_)
    obtain ⟨k, u, ek, rfl⟩ := vals i v hv
    have hU' := ss_any hU fun o e => kk S o (by simpa using nS) e
    have ed : ts.drop i = k :: ts.drop (i + 1) := by
      obtain ⟨hlt, e⟩ := List.getElem?_eq_some_iff.mp ek
      rw [← e]
      exact List.drop_eq_getElem_cons hlt
    rw [ed] at q
    show wpAny _ A.in1 (holding [Value.str k u] (setAdd S (.str k u)) >>= _) _ _ _
    refine wpAny_bind (wpAny_holding (add_str (s := { s with heap := h', toks := tk }) hU' (by omega) fun h2 b sb U2 => ?_))
    have sk : ∀ a o, a ≠ S → h'.get? a = some o → h2.get? a = some o := fun a o ne e => (sb.2 a ne).trans e
    have nf : ∀ a ∈ [I, l], a ≠ S := fun a ha z => by
      subst z
      rcases List.mem_cons.mp ha with z | z
      · exact nS z
      · exact nL (List.mem_singleton.mp z)
    have F := W.frame (i + 1) h' h2 st fun a ha o e => sk a o (nf a ha) e
    refine wpAny_pure ⟨plainId_quiet PyProof.Rows.F.plain_set_update_loop _, ih (i + 1) _ _ (by omega) (by omega) ?_ F.1 F.2 U2 fun h3 tk3 k3 U3 => ?_⟩
    · split
      · omega
      · simp; omega
    · exact q h3 tk3 (fun a o n1 n2 e => k3 a o n1 n2 (sk a o n1 (kk a o (by simpa using n2) e))) U3
def freshSetS (led : Bool) : Obj := { cls := .type "set", dict := none, data := .set #[] 0 (.fresh 0 0 led) }
theorem fresh_ss {h : Heap} {S : Addr} {led : Bool} (e : h.get? S = some (freshSetS led)) : SSet P w h S led [] :=
  ⟨_, #[], 0, _, e, ⟨rfl, rfl, rfl⟩, rfl, ⟨fun e he => by simp at he, .nil, rfl, rfl, fun z => absurd rfl z⟩⟩
end
end L2


set_option Elab.async false
set_option linter.all false
set_option maxRecDepth 100000
set_option maxHeartbeats 4000000
namespace L2
open PySem PySem.Spec PyProof.Rows
section
variable {P : Program} {w : World} {A : Around} {E : Value → Shared → Prop} {s : Shared}
def ledOf (w : World) : Bool := !w.params.followText "set-order"
theorem set_newL (a : Value) {Q : Value → Shared → Prop} (h : Q (.ref s.heap.objs.size) { s with heap := s.heap.push (freshSetS (ledOf w)) }) :
    codeAny (model P w) A (.call (.builtin "set.__new__") ⟨[.type "set", a], []⟩) (wants Q E) s := by
  refine codeAny_of_tree ?_
  show wpAny _ A.in1 (do checkBuiltinCall "set.__new__" ⟨[.type "set", a], []⟩; again (.builtin "set.__new__" ⟨[.type "set", a], []⟩)) _ _ s
  refine wpAny_bind (wpAny_of_eq (PySem.F.newCall_set_1 a) (wpAny_pure ⟨plainId_quiet PySem.F.plain_set_new _, codeAny_builtin PySem.F.entry_set_new ?_⟩))
  rw [Around.under_plainId PySem.F.plain_set_new _]
  unfold Builtin.«set.__new__» Builtin.Frozenset.newClass
  have hsub := sub_set_self
  obtain ⟨hp, g, d, tk, os⟩ := s
  dsimp only
  wp_walk
  refine wpAny_askSetting (wpAny_pure ?_)
  dsimp only
  simp only [newObj]
  exact wpAny_bind (wpAny_alloc (wpAny_pure (wpAny_pure h)))
theorem call_setS {l : Addr} {its : Array Value} {ts : List Str} {Q : Value → Shared → Prop} (hh : A.handled = none) (hl : s.heap.IsList l its) (hn : its.size = ts.length) (few : its.size ≤ 60)
    (vals : ∀ (i : Nat) (v : Value), its[i]? = some v → ∃ k u, ts[i]? = some k ∧ v = Value.str k u)
    (q : ∀ (h' : Heap) (tk : Nat), SSet P w h' s.heap.objs.size (ledOf w) (inOf [] ts) → (∀ b o, s.heap.get? b = some o → h'.get? b = some o) → Q (.ref s.heap.objs.size) { s with heap := h', toks := tk }) :
    wpAny (model P w) A (call (.type "set") [.ref l]) Q E s := by
  have cs := PySem.F.called_set
  obtain ⟨c, tl, hmro⟩ := cs.mro
  have c1 := cs.made
  have c2 := cs.sub
  refine wpAny_call (codeAny_of_tree ?_)
  show wpAny _ _ (callAny (.type "set") _) _ _ _
  refine wpAny_pure ⟨Code.quiet_builtin _ (by decide +kernel), codeAny_builtin PySem.F.entry_type_call ?_⟩
  rw [Around.under_plain (weight_type_call_type "set" [.ref l] []) rfl]
  have c3 := cs.notType
  have c4 := cs.canCreate
  have c5 := PySem.F.typeCall_set_1 (.ref l)
  repeat (any_goals (first | assumption | wp_step))
  refine codeAny_mono (set_newL (.ref l) (E := E) (Q := fun v s1 => v = .ref s.heap.objs.size ∧ s1 = { s with heap := s.heap.push (freshSetS (ledOf w)) }) ⟨rfl, rfl⟩) fun r s1 hr => ?_
  rcases r with e | fl
  · exact hr
  cases fl with
  | ret obj =>
    obtain ⟨rfl, rfl⟩ := hr
    have at1 : (s.heap.push (freshSetS (ledOf w))).get? s.heap.objs.size = some (freshSetS (ledOf w)) := Heap.get?_push_size _ rfl
    have ty : Shared.TypeIs { s with heap := s.heap.push (freshSetS (ledOf w)) } (.ref s.heap.objs.size) "set" := ⟨_, at1, rfl⟩
    have i1 := cs.init.lookup
    have i2 := cs.init.bind (.ref s.heap.objs.size)
    repeat (any_goals (first | assumption | wp_step))
    refine codeAny_mono (codeAny_call_builtin (R := wants (fun v s2 => v = .none ∧ ∃ h' tk, s2 = { s with heap := h', toks := tk } ∧ SSet P w h' s.heap.objs.size (ledOf w) (inOf [] ts) ∧ ∀ b o, s.heap.get? b = some o → h'.get? b = some o) E) cs.init.plain PySem.F.entry_set_init (check_set_init_1 ty ?_)) fun r2 s2 hr2 => ?_
    · obtain ⟨⟨cl, di, da, sl⟩, ol, el, nl, dl⟩ := hl
      have el' : cl = .type "list" := el
      have dl' : da = .seq its nl := dl
      subst el' dl'
      have lS : l < s.heap.objs.size := Heap.lt_size ol
      have ol1 : (s.heap.push (freshSetS (ledOf w))).get? l = some { cls := .type "list", dict := di, data := .seq its nl, slots := sl } := Heap.get?_push_of_some _ ol
      have u1 := PySem.F.sub_list_set
      have u2 := PySem.F.sub_list_frozenset
      have u3 : (Value.type "list" == Value.type "dict") = false := by decide
      have hl1 : (s.heap.push (freshSetS (ledOf w))).IsList l its := ⟨_, ol1, rfl, nl, rfl⟩
      unfold Builtin.«set.__init__» noKeywords Builtin.Frozenset.updateFrom
      generalize hPI : pyIter = PI
      wp_walk
      subst hPI
      refine wpAny_pyIter_list hl1 ?_
      refine wpAny_bind (wpAny_runValue ?_)
      have sz : (s.heap.push (freshSetS (ledOf w))).objs.size = s.heap.objs.size + 1 := Heap.size_push ..
      refine loop_strs (P := P) (w := w) (l := l) (its := its) (S := s.heap.objs.size) (I := (s.heap.push (freshSetS (ledOf w))).objs.size) (by simp [hh]) (by rw [sz]; exact Nat.ne_of_lt (Nat.lt_succ_of_lt lS)) (by rw [sz]; exact Nat.ne_of_lt (Nat.lt_succ_self _)) (Nat.ne_of_gt lS) ts hn few vals
        (its.size - 0) 0 [] _ (by omega) (Nat.zero_le _) (Nat.zero_le _) ⟨_, Heap.get?_push_size _ rfl, rfl, rfl⟩ (hl1.push _) (fresh_ss (Heap.get?_push_of_some _ at1)) fun h' tk kk U => ?_
      show wpAny _ _ _ _ _ _
      refine wpAny_pure ?_
      show wpAny _ _ (ret Value.none) _ _ _
      refine wpAny_pure ⟨rfl, h', tk, rfl, U, fun b o e => ?_⟩
      have bl := Heap.lt_size e
      exact kk b o (Nat.ne_of_lt bl) (by rw [sz]; exact Nat.ne_of_lt (Nat.lt_succ_of_lt bl)) (Heap.get?_push_of_some _ (Heap.get?_push_of_some _ e))
    · rcases r2 with e | f2
      · exact hr2
      cases f2 with
      | ret v =>
        obtain ⟨rfl, h', tk, rfl, U, kk⟩ := hr2
        repeat (any_goals (first | assumption | wp_step))
        exact q _ _ U kk
      | _ => exact hr2.elim
  | _ => exact hr.elim
end
end L2


set_option Elab.async false
set_option linter.all false
set_option maxRecDepth 100000
set_option maxHeartbeats 4000000
namespace L2
open PySem PySem.Spec PyProof.Rows
theorem slot_setit_next : Slot "set_iterator" "__next__" "set_iterator.__next__" :=
  .of (owner := "set_iterator") (n := "__next__") (by rw [typeLookup_type, builtinLookup_eq_fast]; kernel_rfl) (by decide +kernel) (by decide +kernel) (by decide +kernel)
    (by first | exact .inl (by decide +kernel) | exact .inr (by decide +kernel)) (by rw [isSubtype_type]; kernel_rfl)
theorem entry_setit_next : entryFor table "set_iterator.__next__" = some Builtin.«set_iterator.__next__» := entryFor_of_tree (by kernel_rfl)
theorem owner_setit : Manifest.owners.lookup (String.ofList ['r', 'o', 't', 'a', 'r', 'e', 't', 'i', '_', 't', 'e', 's'].reverse) = some Manifest.sig_set_iterator := by kernel_rfl
theorem args_setit_next (a : Value) : argsOk "set_iterator.__next__" ⟨[a], []⟩ := by
  unfold argsOk; rw [signature?_of (id := "set_iterator.__next__") (n := ['_', '_', 't', 'x', 'e', 'n', '_', '_']) (o := ['r', 'o', 't', 'a', 'r', 'e', 't', 'i', '_', 't', 'e', 's']) (by kernel_rfl) owner_setit]; kernel_rfl
theorem slot_setit_iter : Slot "set_iterator" "__iter__" "set_iterator.__iter__" :=
  .of (owner := "set_iterator") (n := "__iter__") (by rw [typeLookup_type, builtinLookup_eq_fast]; kernel_rfl) (by decide +kernel) (by decide +kernel) (by decide +kernel)
    (by first | exact .inl (by decide +kernel) | exact .inr (by decide +kernel)) (by rw [isSubtype_type]; kernel_rfl)
theorem entry_setit_iter : entryFor table "set_iterator.__iter__" = some Builtin.«dict_keyiterator.__iter__» :=
  entryFor_alias (id' := "dict_keyiterator.__iter__") (by kernel_rfl) rfl (by decide +kernel) (by kernel_rfl)
theorem args_setit_iter (a : Value) : argsOk "set_iterator.__iter__" ⟨[a], []⟩ := by
  unfold argsOk; rw [signature?_of (id := "set_iterator.__iter__") (n := ['_', '_', 'r', 'e', 't', 'i', '_', '_']) (o := ['r', 'o', 't', 'a', 'r', 'e', 't', 'i', '_', 't', 'e', 's']) (by kernel_rfl) owner_setit]; kernel_rfl
theorem entry_set_iter : entryFor table "set.__iter__" = some Builtin.«frozenset.__iter__» :=
  entryFor_alias (id' := "frozenset.__iter__") (by kernel_rfl) rfl (by decide +kernel) (by kernel_rfl)
theorem erase_perm {α : Type} : ∀ (l : List α) (i : Nat) (h : i < l.length), List.Perm (l[i] :: l.eraseIdx i) l
  | x :: r, 0, _ => .refl _
  | x :: r, i + 1, h => (List.Perm.swap x _ _).trans ((erase_perm r i (by simpa using h)).cons x)
section
variable {M : Model} {A : Around} {E : Value → Shared → Prop} {s : Shared}
theorem wp_choice {src : Source} {n : Nat} {Q : Nat → Shared → Prop} (hn : n ≠ 0) (h : ∀ i dr, i < n → Q i { s with drawn := dr }) : wpAny M A (choose src n) Q E s := fun Γ p _ => by
  unfold choose
  rw [Sem.wp_choose]
  exact ⟨hn, h _ _ (Nat.mod_lt _ (Nat.pos_of_ne_zero hn))⟩
theorem draw_order {α : Type} {Q : List α → Shared → Prop} : ∀ (n : Nat) (xs : List α) (s : Shared), xs.length = n → (∀ ys dr, List.Perm ys xs → Q ys { s with drawn := dr }) → wpAny M A (drawOrder n xs) Q E s := by
  intro n
  induction n generalizing Q with
  | zero =>
    intro xs s hl q
    obtain rfl := List.eq_nil_of_length_eq_zero hl
    unfold drawOrder
    exact wpAny_pure (q [] s.drawn (.refl _))
  | succ n ih =>
    intro xs s hl q
    cases xs with
    | nil => cases hl
    | cons x r =>
      unfold drawOrder
      refine wpAny_bind (wp_choice (by simp) fun i dr hi => ?_)
      rw [List.getElem?_eq_getElem hi]
      dsimp only
      refine wpAny_bind (ih _ _ ?_ fun ys dr2 hp => wpAny_pure (q _ dr2 ?_))
      · rw [List.length_eraseIdx_of_lt hi]; simpa using hl
      · exact (hp.cons _).trans (erase_perm _ _ hi)
end
theorem pick_go {α : Type} (next : Nat → Nat) : ∀ (f k : Nat) (l : List α) (out : Array α), l.length = f → List.Perm (pickOrder.go next f k l out).toList (out.toList ++ l) := by
  intro f
  induction f with
  | zero =>
    intro k l out hl
    obtain rfl := List.eq_nil_of_length_eq_zero hl
    simp [pickOrder.go]
  | succ f ih =>
    intro k l out hl
    have lt : next k % l.length < l.length := Nat.mod_lt _ (by omega)
    unfold pickOrder.go
    rw [List.getElem?_eq_getElem lt]
    dsimp only
    refine (ih _ _ _ (by rw [List.length_eraseIdx_of_lt lt]; omega)).trans ?_
    rw [Array.toList_push, List.append_assoc]
    exact (erase_perm _ _ lt).append_left _
theorem pick_perm {α : Type} (next : Nat → Nat) (xs : Array α) : List.Perm (pickOrder next xs).toList xs.toList := by
  unfold pickOrder
  refine (pick_go next xs.size 0 xs.toList #[] (by simp)).trans ?_
  simp
end L2


set_option Elab.async false
set_option linter.all false
set_option maxRecDepth 100000
set_option maxHeartbeats 4000000
namespace L2
open PySem PySem.Spec PyProof.Rows
def itO (f : Value) (i : Nat) (S : Addr) (n ep : Nat) : Obj := { cls := .type "set_iterator", dict := none, data := .fields #[f, .int i 0, .ref S, .int n 0, .int ep 0], slots := #[] }
section
variable {P : Program} {w : World} {A : Around} {E : Value → Shared → Prop} {s : Shared}
theorem stop_new {α : Type} {Q : α → Shared → Prop} (hh : A.handled = none) (q : ∀ h' x, (∀ b o, s.heap.get? b = some o → h'.get? b = some o) → Shared.TypeIs { s with heap := h' } (.ref x) "StopIteration" → E (.ref x) { s with heap := h' }) :
    wpAny (model P w) A (newExc (.type "StopIteration") [] >>= fun e => (raiseNew e : Sem α)) Q E s := by
  refine wpAny_bind ?_
  simp only [newExc, newTuple]
  refine wpAny_bind (wpAny_newObj_type ?_ (by size_fits))
  refine wpAny_bind (m := firstArgMember _ _) (wpAny_of_eq (a := Value.none) (by rfl) ?_)
  refine wpAny_newObj_type ?_ (by size_fits)
  simp only [raiseNew]
  refine wpAny_bind (wpAny_handled ?_)
  rw [hh]
  refine wpAny_bind (wpAny_pure (wpAny_throw ?_))
  exact q _ _ (fun b o e => Heap.get?_push_of_some _ (Heap.get?_push_of_some _ e)) ⟨_, Heap.get?_push_size _ rfl, rfl⟩
/-- the iterator's next, by what its own row does -/
theorem setit_next {I S : Addr} {f : Value} {i n ep : Nat} {es : Array (Int × Value)} {t : SetTable} {o : Obj} {Q : Option Value → Shared → Prop} (hi : s.heap.get? I = some (itO f i S n ep)) (ho : s.heap.get? S = some o) (hd : o.data = .set es ep t) (hf : t.fits es.size = true) (hn : es.size = n)
    (q : wpAny (model P w) A.in1 (do
        if let .int slot _ := f then
          match ← setNext S slot.toNat i ep with
          | some (x, next) =>
            setField (.ref I) 0 (rawInt next)
            setField (.ref I) 1 (rawInt ((i : Int) + 1))
            ret x
          | none => setField (.ref I) 2 .none; raiseNew (← newExc (.type "StopIteration") [])
        else
          let some places ← seqItems? f | unsupported "internal:set_iterator"
          match places[i]? with
          | some (.int place _) =>
            let x ← setNextDrawn S place.toNat ep
            setField (.ref I) 1 (rawInt ((i : Int) + 1))
            ret x
          | some _ => unsupported "internal:set_iterator"
          | none => setField (.ref I) 0 (rawInt 0); setField (.ref I) 2 .none; raiseNew (← newExc (.type "StopIteration") []))
      (fun fin s' => ∃ v, fin = .done (.ret v) ∧ Q (some v) s') (fun e s' => ∃ x, e = .ref x ∧ s'.TypeIs (.ref x) "StopIteration" ∧ Q none s') s) :
    wpAny (model P w) A (pyNext (.ref I)) Q E s := by
  have ty : s.TypeIs (.ref I) "set_iterator" := ⟨_, hi, rfl⟩
  unfold pyNext
  refine wpAny_bind (wpAny_attempt (wpAny_callSpecial?_slot (name := Str.ofString "__next__") ty slot_setit_next (wpAny_call_entry slot_setit_next ty entry_setit_next ?_ (args_setit_next _))))
  unfold Builtin.«set_iterator.__next__» slotArgs
  refine wpAny_bind (wpAny_pure ?_)
  refine wpAny_bind (wpAny_fieldsOf hi rfl ?_)
  refine wpAny_bind (wpAny_setEntries_of ho hd hf ?_)
  rw [if_neg (by simp [hn])]
  refine wpAny_mono q (fun fin s' h => ?_) (fun e s' h => ?_)
  · obtain ⟨v, rfl, h⟩ := h
    exact ⟨_, rfl, wpAny_pure h⟩
  · obtain ⟨x, rfl, ty, h⟩ := h
    exact wpAny_bind (wpAny_isInstance (T := "StopIteration") (b := true) ty isSubtype_stop (wpAny_pure h))
theorem setit_self {I S : Addr} {f : Value} {i n ep : Nat} {Q : Value → Shared → Prop} (hi : s.heap.get? I = some (itO f i S n ep)) (h : Q (.ref I) s) : wpAny (model P w) A (pyIter (.ref I)) Q E s := by
  have ty : s.TypeIs (.ref I) "set_iterator" := ⟨_, hi, rfl⟩
  refine wpAny_pyIter_slot ty slot_setit_iter (wpAny_call_entry slot_setit_iter ty entry_setit_iter ?_ (args_setit_iter _))
  show wpAny _ _ (ret (.ref I)) _ _ s
  exact wpAny_pure ⟨_, rfl, "set_iterator", _, ty, slot_setit_next.lookup, h⟩
end
end L2


set_option Elab.async false
set_option linter.all false
set_option maxRecDepth 100000
set_option maxHeartbeats 4000000
namespace L2
open PySem PySem.Spec PyProof.Rows
section
variable {P : Program} {w : World} {A : Around} {E : Value → Shared → Prop} {s : Shared}
theorem range_es (es : Array (Int × Value)) : (List.range es.size).map (fun p => es.getD p (0, .none)) = es.toList := by
  apply List.ext_getElem
  · simp
  · intro i h1 h2
    simp at h1
    simp [Array.getD, h1]
theorem walk_drawn (hh : A.handled = none) {I S T : Addr} (nS : S ≠ I) (nT : T ≠ I) {o : Obj} {es : Array (Int × Value)} {ep : Nat} {t : SetTable} (hd : o.data = .set es ep t) (hf : t.fits es.size = true) {ps : List Nat} (hp : List.Perm ps (List.range es.size)) :
    Walks P w A I [I, S, T] [I] es.size (fun i v => ∃ e, (ps.map fun p => es.getD p (0, .none))[i]? = some e ∧ v = e.2)
      (fun i h => h.get? I = some (itO (.ref T) i S es.size ep) ∧ h.get? S = some o ∧ h.get? T = some (seqObj "tuple" (ps.map fun (p : Nat) => rawInt p).toArray 0)) where
  sub := by simp
  frame := fun i h h' st k => ⟨k I (by simp) _ st.1, k S (by simp) _ st.2.1, k T (by simp) _ st.2.2⟩
  item := fun i s Q E hi st q => by
    obtain ⟨h1, h2, h3⟩ := st
    have pl : ps.length = es.size := by rw [hp.length_eq, List.length_range]
    have il : i < ps.length := by omega
    have pm : ps[i] < es.size := List.mem_range.mp (hp.mem_iff.mp (List.getElem_mem il))
    refine setit_next h1 h2 hd hf rfl ?_
    dsimp only
    refine wpAny_bind (wpAny_seqItems h3 rfl ?_)
    simp only [List.getElem?_toArray, List.getElem?_map, List.getElem?_eq_getElem il, Option.map_some, rawInt]
    unfold setNextDrawn
    refine wpAny_bind (wpAny_bind (wpAny_setState_of h2 hd hf ?_))
    dsimp only
    rw [if_neg (by simp)]
    simp only [Int.toNat_natCast, Array.getElem?_eq_getElem pm]
    refine wpAny_pure ?_
    refine wpAny_bind (wpAny_setField_rec h1 (by simp) fun h' g1 sb => ?_)
    refine wpAny_pure ⟨_, rfl, q _ h' s.toks ⟨es[ps[i]], by simp [List.getElem?_map, il, Array.getD, pm], rfl⟩ ⟨by simpa [itO] using g1, (sb.2 S nS).trans h2, (sb.2 T nT).trans h3⟩ (fun b o hb e => (sb.2 b (by simpa using hb)).trans e)⟩
  done := fun s Q E st q => by
    obtain ⟨h1, h2, h3⟩ := st
    have pl : ps.length = es.size := by rw [hp.length_eq, List.length_range]
    refine setit_next h1 h2 hd hf rfl ?_
    dsimp only
    refine wpAny_bind (wpAny_seqItems h3 rfl ?_)
    simp only [List.getElem?_toArray, List.getElem?_map, List.getElem?_eq_none (Nat.le_of_eq pl), Option.map_none]
    refine wpAny_bind (wpAny_setField_rec h1 (by simp) fun h' g1 sb => ?_)
    refine wpAny_bind (wpAny_setField_rec g1 (by simp) fun h2' g2 sb2 => ?_)
    refine stop_new hh fun h3' x kk ty => ⟨x, rfl, ty, q h3' s.toks fun b o hb e => kk b o ((sb2.2 b (by simpa using hb)).trans ((sb.2 b (by simpa using hb)).trans e))⟩
  self := fun i s Q E st q => setit_self st.1 q
theorem walk_text (hh : A.handled = none) (bt : w.params.followText "set-order" = true) {I S : Addr} (nS : S ≠ I) {o : Obj} {es : Array (Int × Value)} {ep : Nat} {t : SetTable} (hd : o.data = .set es ep t) (hf : t.fits es.size = true) :
    Walks P w A I [I, S] [I] es.size (fun i v => ∃ e, (pickOrder (w.params.setOrder S ep) es).toList[i]? = some e ∧ v = e.2)
      (fun i h => h.get? I = some (itO (.int 0 0) i S es.size ep) ∧ h.get? S = some o) where
  sub := by simp
  frame := fun i h h' st k => ⟨k I (by simp) _ st.1, k S (by simp) _ st.2⟩
  item := fun i s Q E hi st q => by
    obtain ⟨h1, h2⟩ := st
    have pp := pick_perm (w.params.setOrder S ep) es
    have pl : i < (pickOrder (w.params.setOrder S ep) es).size := by rw [← Array.length_toList, pp.length_eq, Array.length_toList]; exact hi
    refine setit_next h1 h2 hd hf rfl ?_
    dsimp only
    unfold setNext setsByText
    refine wpAny_bind (wpAny_bind (wpAny_setState_of h2 hd hf ?_))
    refine wpAny_bind (wpAny_bind (wpAny_askSetting (wpAny_pure ?_)))
    refine wpAny_ite_split (fun _ => ?_) (fun z => absurd bt z)
    dsimp only
    rw [if_neg (by simp)]
    unfold setWalk setsByText
    refine wpAny_bind (wpAny_bind (wpAny_setState_of h2 hd hf ?_))
    refine wpAny_bind (wpAny_bind (wpAny_askSetting (wpAny_pure ?_)))
    refine wpAny_ite_split (fun _ => ?_) (fun z => absurd bt z)
    refine wpAny_bind (wpAny_askSetting (wpAny_pure (wpAny_pure ?_)))
    have e1 : (pickOrder ((Setting.mk (model P w).prog (model P w).w.params).params.setOrder S ep) es)[i]? = some _ := Array.getElem?_eq_getElem pl
    rw [e1]
    dsimp only [Option.map_some]
    refine wpAny_bind (wpAny_setField_rec h1 (by simp) fun h' g1 sb => ?_)
    refine wpAny_bind (wpAny_setField_rec g1 (by simp) fun h2' g2 sb2 => ?_)
    refine wpAny_pure ⟨_, rfl, q _ h2' s.toks ⟨_, by rw [Array.getElem?_toList]; exact Array.getElem?_eq_getElem pl, rfl⟩ ⟨by simpa [itO, rawInt] using g2, (sb2.2 S nS).trans ((sb.2 S nS).trans h2)⟩ (fun b o hb e => (sb2.2 b (by simpa using hb)).trans ((sb.2 b (by simpa using hb)).trans e))⟩
  done := fun s Q E st q => by
    obtain ⟨h1, h2⟩ := st
    have pp := pick_perm (w.params.setOrder S ep) es
    have pl : (pickOrder (w.params.setOrder S ep) es).size ≤ es.size := by rw [← Array.length_toList, pp.length_eq, Array.length_toList]; exact Nat.le_refl _
    refine setit_next h1 h2 hd hf rfl ?_
    dsimp only
    unfold setNext setsByText
    refine wpAny_bind (wpAny_bind (wpAny_setState_of h2 hd hf ?_))
    refine wpAny_bind (wpAny_bind (wpAny_askSetting (wpAny_pure ?_)))
    refine wpAny_ite_split (fun _ => ?_) (fun z => absurd bt z)
    dsimp only
    rw [if_neg (by simp)]
    unfold setWalk setsByText
    refine wpAny_bind (wpAny_bind (wpAny_setState_of h2 hd hf ?_))
    refine wpAny_bind (wpAny_bind (wpAny_askSetting (wpAny_pure ?_)))
    refine wpAny_ite_split (fun _ => ?_) (fun z => absurd bt z)
    refine wpAny_bind (wpAny_askSetting (wpAny_pure (wpAny_pure ?_)))
    have e1 : (pickOrder ((Setting.mk (model P w).prog (model P w).w.params).params.setOrder S ep) es)[es.size]? = none := Array.getElem?_eq_none pl
    rw [e1]
    dsimp only [Option.map_none]
    refine wpAny_bind (wpAny_setField_rec h1 (by simp) fun h' g1 sb => ?_)
    refine stop_new hh fun h3' x kk ty => ⟨x, rfl, ty, q h3' s.toks fun b o hb e => kk b o ((sb.2 b (by simpa using hb)).trans e)⟩
  self := fun i s Q E st q => setit_self st.1 q
def slotAt (t : SetTable) : Nat → Nat
  | 0 => 0
  | _ => t.place.getD 0 0 + 1
theorem below_0 (t : SetTable) : SetTable.below t.place 0 = 0 := by
  have : ∀ f hi, SetTable.below.go t.place 0 f 0 hi = 0 := by
    intro f
    induction f with
    | zero => intro hi; rfl
    | succ f ih =>
      intro hi
      unfold SetTable.below.go
      split
      · rw [if_neg (Nat.not_lt_zero _)]; exact ih _
      · rfl
  exact this _ _
theorem below_1 {t : SetTable} (h : t.place.size = 1) : SetTable.below t.place (t.place.getD 0 0 + 1) = 1 := by
  obtain ⟨j, e⟩ : ∃ j, t.place = #[j] := by
    refine ⟨t.place[0], ?_⟩
    apply Array.ext
    · simp [h]
    · intro i h1 h2
      have : i = 0 := by simpa using h2
      subst this
      rfl
  rw [e]
  unfold SetTable.below
  show SetTable.below.go #[j] (j + 1) 1 0 1 = 1
  unfold SetTable.below.go
  rw [if_pos (by decide)]
  show (if #[j].getD 0 (j + 1) < j + 1 then SetTable.below.go #[j] (j + 1) 0 1 1 else _) = 1
  rw [if_pos (by simp [Array.getD])]
  rfl
theorem walk_led (hh : A.handled = none) (bt : w.params.followText "set-order" = false) {I S : Addr} (nS : S ≠ I) {o : Obj} {es : Array (Int × Value)} {ep : Nat} {t : SetTable} (hd : o.data = .set es ep t) (hf : t.fits es.size = true) (pz : t.place.size = es.size) (ld : t.led = true) (few : es.size ≤ 1) :
    Walks P w A I [I, S] [I] es.size (fun i v => ∃ e, es.toList[i]? = some e ∧ v = e.2)
      (fun i h => h.get? I = some (itO (.int (slotAt t i) 0) i S es.size ep) ∧ h.get? S = some o) where
  sub := by simp
  frame := fun i h h' st k => ⟨k I (by simp) _ st.1, k S (by simp) _ st.2⟩
  item := fun i s Q E hi st q => by
    obtain ⟨h1, h2⟩ := st
    have i0 : i = 0 := by omega
    subst i0
    refine setit_next h1 h2 hd hf rfl ?_
    dsimp only
    unfold setNext setsByText
    refine wpAny_bind (wpAny_bind (wpAny_setState_of h2 hd hf ?_))
    refine wpAny_bind (wpAny_bind (wpAny_askSetting (wpAny_pure ?_)))
    refine wpAny_ite_split (fun z => absurd (bt.symm.trans z) Bool.false_ne_true) (fun _ => ?_)
    dsimp only
    refine wpAny_ite_split (fun z => ?_) (fun _ => ?_)
    · change (!t.plain && decide (es.size > 1)) = true at z
      have : ¬ es.size > 1 := by omega
      simp [this] at z
    refine wpAny_bind (m := if (!t.led && !es.isEmpty) = true then unsupported "set:maker-not-led" else pure ()) ?_
    rw [if_neg (by rw [ld]; simp)]
    refine wpAny_pure (wpAny_pure ?_)
    have e0 : SetTable.below t.place (Int.toNat ((slotAt t 0 : Nat) : Int)) = 0 := below_0 t
    have pz0 : 0 < t.place.size := by omega
    simp only [e0, Array.getElem?_eq_getElem hi, Array.getElem?_eq_getElem pz0]
    refine wpAny_bind (wpAny_setField_rec h1 (by simp) fun h' g1 sb => ?_)
    refine wpAny_bind (wpAny_setField_rec g1 (by simp) fun h2' g2 sb2 => ?_)
    refine wpAny_pure ⟨_, rfl, q _ h2' s.toks ⟨_, by rw [Array.getElem?_toList]; exact Array.getElem?_eq_getElem hi, rfl⟩ ⟨by simpa [itO, rawInt, slotAt, Array.getD, pz0] using g2, (sb2.2 S nS).trans ((sb.2 S nS).trans h2)⟩ (fun b o hb e => (sb2.2 b (by simpa using hb)).trans ((sb.2 b (by simpa using hb)).trans e))⟩
  done := fun s Q E st q => by
    obtain ⟨h1, h2⟩ := st
    refine setit_next h1 h2 hd hf rfl ?_
    dsimp only
    unfold setNext setsByText
    refine wpAny_bind (wpAny_bind (wpAny_setState_of h2 hd hf ?_))
    refine wpAny_bind (wpAny_bind (wpAny_askSetting (wpAny_pure ?_)))
    refine wpAny_ite_split (fun z => absurd (bt.symm.trans z) Bool.false_ne_true) (fun _ => ?_)
    dsimp only
    refine wpAny_ite_split (fun z => ?_) (fun _ => ?_)
    · change (!t.plain && decide (es.size > 1)) = true at z
      have : ¬ es.size > 1 := by omega
      simp [this] at z
    refine wpAny_bind (m := if (!t.led && !es.isEmpty) = true then unsupported "set:maker-not-led" else pure ()) ?_
    rw [if_neg (by rw [ld]; simp)]
    refine wpAny_pure (wpAny_pure ?_)
    have e0 : SetTable.below t.place (Int.toNat ((slotAt t es.size : Nat) : Int)) = es.size := by
      have : es.size = 0 ∨ es.size = 1 := by omega
      rcases this with z | z
      · rw [z]; exact below_0 t
      · rw [z]; exact below_1 (pz.trans z)
    simp only [e0, Array.getElem?_eq_none (Nat.le_refl es.size)]
    refine wpAny_bind (wpAny_setField_rec h1 (by simp) fun h' g1 sb => ?_)
    refine stop_new hh fun h3' x kk ty => ⟨x, rfl, ty, q h3' s.toks fun b o hb e => kk b o ((sb.2 b (by simpa using hb)).trans e)⟩
  self := fun i s Q E st q => setit_self st.1 q
end
end L2


set_option Elab.async false
set_option linter.all false
set_option maxRecDepth 100000
set_option maxHeartbeats 4000000
namespace L2
open PySem PySem.Spec PyProof.Rows
section
variable {P : Program} {w : World} {A : Around} {E : Value → Shared → Prop} {s : Shared}
theorem fits_place {t : SetTable} {n : Nat} (h : t.fits n = true) : t.place.size = n := by
  simp only [SetTable.fits, Bool.and_eq_true, beq_iff_eq, decide_eq_true_eq] at h
  exact h.1
theorem two_of {b n S : Addr} (h : b ∈ [n, S]) : b = S ∨ n ≤ b := by
  rcases List.mem_cons.mp h with z | z
  · exact .inr (by rw [z]; exact Nat.le_refl _)
  · exact .inl (List.mem_singleton.mp z)
theorem three_of {b n S : Addr} (h : b ∈ [n + 1, S, n]) : b = S ∨ n ≤ b := by
  rcases List.mem_cons.mp h with z | z
  · exact .inr (by rw [z]; exact Nat.le_succ _)
  · rcases List.mem_cons.mp z with z | z
    · exact .inl z
    · exact .inr (by rw [List.mem_singleton.mp z]; exact Nat.le_refl _)
theorem set_iter {S : Addr} {o : Obj} {es : Array (Int × Value)} {ep : Nat} {t : SetTable} {Q : Value → Shared → Prop} (ho : s.heap.get? S = some o) (hx : o.ExactSet) (hd : o.data = .set es ep t) (hf : t.fits es.size = true) (ld : t.led = ledOf w) (pl : es.size ≠ 0 → t.plain = false) (few : es.size ≤ 60)
    (q : ∀ (h1 : Heap) (dr : Drawn) (I : Addr) (fp : List Addr) (ord : List (Int × Value)) (St : Nat → Heap → Prop), (∀ b o, s.heap.get? b = some o → h1.get? b = some o) → s.heap.objs.size ≤ I → (∀ b ∈ fp, b = S ∨ s.heap.objs.size ≤ b) →
      (∀ A' : Around, A'.handled = none → Walks P w A' I fp [I] es.size (fun i v => ∃ e, ord[i]? = some e ∧ v = e.2) St) → St 0 h1 → List.Perm ord es.toList → Q (.ref I) { s with heap := h1, drawn := dr }) :
    wpAny (model P w) A (pyIter (.ref S)) Q E s := by
  have ty : s.TypeIs (.ref S) "set" := ⟨o, ho, hx.1⟩
  have sS : S < s.heap.objs.size := Heap.lt_size ho
  refine wpAny_pyIter_slot ty F.slot_set_iter (wpAny_call_entry F.slot_set_iter ty entry_set_iter ?_ (F.args_set_iter_1 _))
  unfold Builtin.«frozenset.__iter__» Builtin.Frozenset.slot0 slotArgs
  simp only [List.isEmpty_nil, Bool.not_true, Bool.false_eq_true, ↓reduceIte, bind_assoc, List.length_nil, bne_self_eq_false]
  unfold Builtin.Frozenset.addrOf Builtin.Frozenset.sizeOf
  refine wpAny_bind (wpAny_pure ?_)
  try dsimp only
  refine wpAny_bind (wpAny_pure ?_)
  refine wpAny_bind (wpAny_bind (wpAny_setEntries_of ho hd hf (wpAny_pure ?_)))
  unfold setDrawn setsByText
  refine wpAny_bind (wpAny_bind (wpAny_setState_of ho hd hf (wpAny_bind (wpAny_bind (wpAny_askSetting (wpAny_pure (wpAny_pure ?_)))))))
  refine wpAny_ite_split (fun z => ?_) (fun z => ?_)
  · change (!w.params.followText "set-order" && (!t.plain && decide (es.size > 1))) = true at z
    refine wpAny_bind (draw_order _ _ _ List.length_range fun ps dr hp => ?_)
    have pl' : ps.length = es.size := by rw [hp.length_eq, List.length_range]
    refine wpAny_bind (wpAny_newTuple ?_ (by rw [List.length_map, pl']; show es.size ≤ sizeLine; rw [sizeLine_eq]; omega))
    unfold setEpoch newFields
    refine wpAny_bind (wpAny_bind (wpAny_setState_of (o := o) (Heap.get?_push_of_some _ ho) hd hf (wpAny_pure ?_)))
    refine wpAny_bind (wpAny_newObj_type ?_ (by size_fits))
    refine wpAny_pure ⟨_, rfl, "set_iterator", _, ⟨_, Heap.get?_push_size _ rfl, rfl⟩, slot_setit_next.lookup, ?_⟩
    dsimp only
    have sz : (s.heap.push { cls := .type "tuple", data := .seq (List.map (fun (i : Nat) => rawInt i) ps).toArray }).objs.size = s.heap.objs.size + 1 := Heap.size_push ..
    rw [sz]
    refine q _ dr _ [s.heap.objs.size + 1, S, s.heap.objs.size] _ _ (fun b o e => Heap.get?_push_of_some _ (Heap.get?_push_of_some _ e)) (Nat.le_succ _) (fun b hb => three_of hb) (fun A' hh => walk_drawn hh (Nat.ne_of_lt (Nat.lt_succ_of_lt sS)) (Nat.ne_of_lt (Nat.lt_succ_self _)) hd hf hp) ⟨?_, Heap.get?_push_of_some _ (Heap.get?_push_of_some _ ho), Heap.get?_push_of_some _ (Heap.get?_push_size _ rfl)⟩ ?_
    · have z2 : ∀ hh : Heap, hh.objs.size = s.heap.objs.size + 1 → (hh.push (itO (.ref s.heap.objs.size) 0 S es.size ep)).get? (s.heap.objs.size + 1) = some (itO (.ref s.heap.objs.size) 0 S es.size ep) := fun hh e => by rw [← e]; exact Heap.get?_push_size _ rfl
      exact z2 _ sz
    · rw [← range_es es]; exact hp.map _
  · change ¬ ((!w.params.followText "set-order" && (!t.plain && decide (es.size > 1))) = true) at z
    refine wpAny_bind (wpAny_pure ?_)
    unfold setEpoch newFields
    refine wpAny_bind (wpAny_bind (wpAny_setState_of ho hd hf (wpAny_pure ?_)))
    refine wpAny_bind (wpAny_newObj_type ?_ (by size_fits))
    refine wpAny_pure ⟨_, rfl, "set_iterator", _, ⟨_, Heap.get?_push_size _ rfl, rfl⟩, slot_setit_next.lookup, ?_⟩
    cases bt : w.params.followText "set-order" with
    | true => exact q _ s.drawn _ [s.heap.objs.size, S] _ _ (fun b o e => Heap.get?_push_of_some _ e) (Nat.le_refl _) (fun b hb => two_of hb) (fun A' hh => walk_text hh bt (Nat.ne_of_lt sS) hd hf) ⟨Heap.get?_push_size _ rfl, Heap.get?_push_of_some _ ho⟩ (pick_perm _ _)
    | false =>
      have one : es.size ≤ 1 := by
        rw [bt] at z
        by_cases e0 : es.size = 0
        · omega
        · rw [pl e0] at z
          simp at z
          omega
      exact q _ s.drawn _ [s.heap.objs.size, S] _ _ (fun b o e => Heap.get?_push_of_some _ e) (Nat.le_refl _) (fun b hb => two_of hb) (fun A' hh => walk_led hh bt (Nat.ne_of_lt sS) hd hf (fits_place hf) (by rw [ld]; simp [ledOf, bt]) one) ⟨Heap.get?_push_size _ rfl, Heap.get?_push_of_some _ ho⟩ (.refl _)
theorem hint_set {r : Addr} {Q : Bool → Shared → Prop} (hT : s.TypeIs (.ref r) "set") (h : Q false s) : wpAny (model P w) A (Builtin.List.listLengthHint (.ref r)) Q E s := by
  unfold Builtin.List.listLengthHint
  refine wpAny_bind (wpAny_specialOf hT PySem.F.slot_set_len.lookup ?_)
  generalize hid : ("set.__len__" : String) = id0
  wp_delta
  rw [show splitId id0 = some ("set", "__len__") from by subst hid; decide +kernel]
  subst hid
  refine wpAny_bind (wpAny_isInstance (T := "set") (b := true) hT (by rw [isSubtype_type]; kernel_rfl) ?_)
  refine wpAny_ite_split (fun hab => absurd hab (by decide)) (fun _ => ?_)
  refine wpAny_ite_split (fun _ => ?_) (fun hab => absurd (by decide +kernel) hab)
  refine wpAny_bind (wpAny_typeOf hT ?_)
  exact wpAny_pure h
theorem set_strs_of {ks : List Str} : ∀ {ord : List (Int × Value)}, (∀ e ∈ ord, ∃ k u, e = ((strKind P w).hash k, Value.str k u)) → StrsAre (ord.map (·.2)) (ord.map fun e => keyOf e.2)
  | [], _ => .nil
  | e :: r, h => by
    obtain ⟨k, u, rfl⟩ := h e (by simp)
    exact .cons k u (set_strs_of (ks := ks) fun e he => h e (by simp [he]))
theorem ss_extend {S L : Addr} {ks : List Str} {R : Result → Shared → Prop} {res : Value} {c₀ : Nat} (x : SSet P w s.heap S (ledOf w) ks) (hh : A.handled = none) (few : ks.length ≤ 60) (nL : L ≠ S) (hL : s.heap.get? L = some { cls := .type "list", data := .seq #[] c₀ })
    (hR : ∀ h' dr tk vs c' ss, (∀ b o, b ≠ L → s.heap.get? b = some o → h'.get? b = some o) → h'.get? L = some { cls := .type "list", dict := none, data := .seq vs c', slots := #[] } → StrsAre vs.toList ss → List.Perm ss ks → R (.ok (.ret res)) { s with heap := h', drawn := dr, toks := tk }) :
    wpAny (model P w) A.in1 (Builtin.List.listExtendWith (.ref L) (.ref S) res)
      (fun fin s' => match fin with | .done f => R (.ok f) s' | .again c' => c'.quiet = true ∧ codeAny (model P w) A c' R s') (fun e s' => R (.error e) s') s := by
  obtain ⟨o, es, ep, t, ho, hx, hd, X⟩ := x
  have el := X.len
  have ty : s.TypeIs (.ref S) "set" := ⟨o, ho, hx.1⟩
  have lL := Heap.lt_size hL
  unfold Builtin.List.listExtendWith
  refine wpAny_bind (wpAny_typeOf (T := "set") ty ?_)
  have h1 : Builtin.List.listSameRef (.ref L) (.ref S) = false := by simp [Builtin.List.listSameRef, nL]
  have h2 : (Value.type "set" == Value.type "list") = false := by decide
  have h3 : (Value.type "set" == Value.type "tuple") = false := by decide
  simp only [h1, h2, h3, Bool.or_false, Bool.false_eq_true, if_false]
  refine wpAny_bind (set_iter ho hx hd X.ft X.ld X.pl (by omega) fun h1 dr I fp ord St kk sI sf W st op => ?_)
  have hL1 := kk _ _ hL
  have Lf : L ∉ fp := fun hb => by rcases sf L hb with z | z; exact nL z; exact Nat.not_le_of_lt lL z
  have nI : L ≠ I := Nat.ne_of_lt (Nat.lt_of_lt_of_le lL sI)
  have key : ∀ (h : Heap) (c₁ tk : Nat), St 0 h → (∀ b o, b ≠ L → s.heap.get? b = some o → h.get? b = some o) →
      h.get? L = some { cls := .type "list", data := .seq #[] c₁ } → codeAny (model P w) A (.builtin "list.extend.loop" ⟨[.ref L, .ref I, res], []⟩) R { s with heap := h, drawn := dr, toks := tk } := by
    intro h c₁ tk hst hk hS₁
    refine codeAny_extend_loopS (W A.in1 hh).toS (by rw [sizeLine_eq]; omega) L Lf res es.size 0 _ #[] c₁ rfl (Nat.zero_le _) hst hS₁ (ItemsOf.nil _) fun s' acc' c' hm hS' hacc => ?_
    rw [Moved.eq_with hm]
    have ol : ord.length = es.size := by rw [op.length_eq, Array.length_toList]
    have ea : acc'.toList = ord.map (·.2) := by
      apply List.ext_getElem
      · simp [hacc.1, ol]
      · intro i i1 i2
        obtain ⟨e, oe, ve⟩ := hacc.2 i acc'[i] (by simp at i1 ⊢)
        obtain ⟨h0, he⟩ := List.getElem?_eq_some_iff.mp oe
        simp [he, ve]
    refine hR s'.heap dr s'.toks acc' c' (ord.map fun e => keyOf e.2) (fun b o hb e => hm.heap b o (fun hmem => ?_) (hk b o hb e)) hS' ?_ ((op.map _).trans X.pm)
    · rcases List.mem_cons.mp hmem with e' | hmem
      · exact hb e'
      · have := Heap.lt_size e
        rw [List.mem_singleton.mp hmem] at this
        exact Nat.not_le_of_lt this sI
    · rw [ea]
      exact set_strs_of (ks := ks) fun e he => X.el e (op.mem_iff.mp he)
  refine wpAny_bind (wpAny_holding (hint_set (s := { s with heap := h1, drawn := dr }) ⟨o, kk _ _ ho, hx.1⟩ ?_))
  refine wpAny_ite_split (fun _ => ?_) (fun _ => wpAny_pure ⟨plainId_quiet PySem.F.plain_extend_loop _, key _ c₀ _ st (fun b o _ e => kk b o e) hL1⟩)
  refine wpAny_bind (wpAny_rule ?_)
  refine wpAny_bind ?_
  show wpAny _ _ (updateSeq L (·.push .none) >>= fun _ => updateSeq L (·.pop)) _ _ _
  refine wpAny_bind (wpAny_updateSeq hL1 rfl ?_)
  have hS₂ := Heap.get?_update_self (Obj.mapSeq (·.push Value.none)) hL1 rfl
  refine wpAny_updateSeq (hz := by seq_fits) hS₂ rfl ?_
  have hS₃ := Heap.get?_update_self (Obj.mapSeq (·.pop)) hS₂ rfl
  refine wpAny_pure ⟨plainId_quiet PySem.F.plain_extend_loop _, key _ _ _ ?_ (fun b o hb e => ?_) hS₃⟩
  · refine (W A.in1 hh).frame 0 _ _ st fun b hb o e => ?_
    have hbS : b ≠ L := fun h => Lf (h ▸ hb)
    exact (Heap.get?_update_other _ _ (Ne.symm hbS)).trans ((Heap.get?_update_other _ _ (Ne.symm hbS)).trans e)
  · exact (Heap.get?_update_other _ _ (Ne.symm hb)).trans ((Heap.get?_update_other _ _ (Ne.symm hb)).trans (kk b o e))
theorem ss_collect {S : Addr} {ks : List Str} {R : List Value → Shared → Prop} (x : SSet P w s.heap S (ledOf w) ks) (hh : A.handled = none) (few : ks.length ≤ 60)
    (h : ∀ h' dr tk vs ss, (∀ b o, s.heap.get? b = some o → h'.get? b = some o) → s.heap.objs.size ≤ h'.objs.size → StrsAre vs ss → List.Perm ss ks → R vs { s with heap := h', drawn := dr, toks := tk }) :
    wpAny (model P w) A (collect (.ref S)) R E s := by
  have lt : S < s.heap.objs.size := by obtain ⟨o, es, ep, t, ho, _⟩ := x; exact Heap.lt_size ho
  unfold collect
  refine wpAny_bind (wpAny_runValue (codeAny_builtin entry_proto_collect' ?_))
  rw [Around.under_plainId PySem.F.plain_proto_collect _]
  show wpAny _ A.in1 (newList [] >>= fun l => again (.builtin "list.__iadd__" ⟨[l, .ref S], []⟩)) _ _ s
  refine wpAny_bind (wpAny_newObj_type ?_)
  refine wpAny_pure ⟨plainId_quiet PySem.F.plain_list_iadd _, codeAny_builtin entry_list_iadd' ?_⟩
  rw [Around.under_plainId PySem.F.plain_list_iadd _]
  have hS₁ : (s.heap.push { cls := .type "list", data := .seq ([] : List Value).toArray }).get? s.heap.objs.size = some { cls := .type "list", data := .seq #[] } := Heap.get?_push_size _ rfl
  show wpAny _ A.in1 (Builtin.List.listExtendWith (.ref s.heap.objs.size) (.ref S) (.ref s.heap.objs.size)) _ _ _
  have key := ss_extend (A := A) (s := { s with heap := s.heap.push { cls := .type "list", data := .seq ([] : List Value).toArray } }) (L := s.heap.objs.size) (res := .ref s.heap.objs.size)
    (R := fun (q : Result) (s' : Shared) => ∃ (h' : Heap) (dr : Drawn) (tk : Nat) (acc' : Array Value) (c' : Nat) (ss : List Str), q = .ok (.ret (.ref s.heap.objs.size)) ∧ s' = { s with heap := h', drawn := dr, toks := tk } ∧
      (∀ b o, s.heap.get? b = some o → h'.get? b = some o) ∧ h'.get? s.heap.objs.size = some { cls := .type "list", dict := none, data := .seq acc' c', slots := #[] } ∧ StrsAre acc'.toList ss ∧ List.Perm ss ks)
    (ss_any x fun o e => Heap.get?_push_of_some _ e) hh few (Nat.ne_of_gt lt) hS₁
    (fun h' dr tk vs c' ss hk hS' a1 a2 => ⟨h', dr, tk, vs, c', ss, rfl, rfl, fun b o e => hk b o (Nat.ne_of_lt (Heap.lt_size e)) (Heap.get?_push_of_some _ e), hS', a1, a2⟩)
  refine wpAny_mono key (fun fin s' y => ?_) fun e s' y => ?_
  · cases fin with
    | done f =>
      obtain ⟨h', dr, tk, acc', c', ss, e, rfl, hk, hS', a1, a2⟩ := y
      cases e
      show wpAny _ A (load s.heap.objs.size >>= _) _ _ _
      refine wpAny_bind (wpAny_load hS' ?_)
      exact wpAny_pure (h h' dr tk _ ss hk (Nat.le_of_lt (Heap.lt_size hS')) a1 a2)
    | again c₁ =>
      refine ⟨y.1, codeAny_mono y.2 fun q s₂ y => ?_⟩
      obtain ⟨h', dr, tk, acc', c', ss, rfl, rfl, hk, hS', a1, a2⟩ := y
      show wpAny _ A (load s.heap.objs.size >>= _) _ _ _
      refine wpAny_bind (wpAny_load hS' ?_)
      exact wpAny_pure (h h' dr tk _ ss hk (Nat.le_of_lt (Heap.lt_size hS')) a1 a2)
  · obtain ⟨_, _, _, _, _, _, e', _⟩ := y
    cases e'
end
end L2


set_option Elab.async false
set_option linter.all false
set_option maxRecDepth 100000
set_option maxHeartbeats 4000000
namespace L2
open PySem PySem.Spec PyProof.Rows
section
variable {P : Program} {w : World} {A : Around} {E : Value → Shared → Prop} {s : Shared}
theorem ss_sorted {S : Addr} {ks : List Str} {Q : Value → Shared → Prop} (x : SSet P w s.heap S (ledOf w) ks) (hh : A.handled = none) (few : ks.length ≤ 60)
    (h : ∀ h' dr tk D vs ss e, (∀ b o, s.heap.get? b = some o → h'.get? b = some o) → s.heap.objs.size ≤ D → h'.get? D = some (seqObj "list" vs e) → StrsAre vs.toList ss → List.Perm ss ks → sortedS ss = true → Q (.ref D) { s with heap := h', drawn := dr, toks := tk }) :
    wpAny (model P w) A (call (.builtin "sorted") [.ref S]) Q E s := by
  refine Calls.call_function_entry kind_sorted plain_sorted entry_sorted (args_sorted1 _) ?_
  unfold Builtin.«sorted»
  refine wpAny_bind (m := checkCount "sorted" 1 1 _) (wpAny_pure ?_)
  refine wpAny_bind (ss_collect (A := A.in1) x hh few fun h' dr tk vs ss kk sz a1 a2 => ?_)
  have vl : vs.length ≤ 60 := by rw [StrsAre.length a1, a2.length_eq]; exact few
  refine wpAny_bind (wpAny_newList ?_ (by rw [sizeLine_eq]; omega))
  have hoL : (h'.push (seqObj "list" vs.toArray 0)).get? h'.objs.size = some (seqObj "list" vs.toArray 0) := Heap.get?_push_size _ rfl
  show wpAny _ _ _ _ _ { s with heap := h'.push (seqObj "list" vs.toArray 0), drawn := dr, toks := tk }
  refine wpAny_bind (wpAny_holding (wpAny_call_entry slot_list_sort ⟨_, hoL, rfl⟩ entry_list_sort (list_sort_treeK strKind_oneLt (s := { s with heap := h'.push (seqObj "list" vs.toArray 0), drawn := dr, toks := tk }) hoL a1.keysOf (fun v₁ v₂ rest e => keyKind_strs (by rw [← e]; exact a1)) (by omega) fun st' p1 p2 => ⟨_, rfl, ?_⟩) (args_list_sort _)))
  obtain ⟨ss', b1, b2, b3⟩ := sorted_out_str a1 p1 p2
  refine wpAny_pure ⟨_, rfl, ?_⟩
  obtain ⟨e, he⟩ := sortedHeap_at (out := (arrOf st').map (·.2)) hoL
  exact h _ dr tk h'.objs.size _ ss' e (fun b o q => by
    have lt := Heap.lt_size (kk b o q)
    rw [sortedHeap_old (Nat.ne_of_lt lt) (by rw [size_push']; exact Nat.lt_succ_of_lt lt)]
    exact Heap.get?_push_of_some _ (kk b o q)) sz he b1 (b2.trans a2) b3
theorem set_strs_vals : ∀ {vs : List Value} {ss : List Str}, StrsAre vs ss → Vals (ss.map V.str) vs
  | _, _, .nil => .nil
  | _, _, .cons x t r => .cons ⟨t, rfl⟩ (set_strs_vals r)
end
/-- a set of texts, made here -/
def SSX (P : Program) (w : World) (d : Addr) (ks : List Str) (h : Heap) : Prop := SSet P w h d (ledOf w) ks
theorem ssx_ok {P : Program} {w : World} {H : Hp} {h : Heap} {a : Addr} {ks : List Str} (x : SSX P w a ks h) : ObjOk P w H h a (.ext (SSX P w a ks)) := ⟨x, let ⟨o, _, _, _, e, _⟩ := x; ⟨o, e⟩, fun _ _ a k => ss_any a k⟩
section
variable {X : Cx}
theorem call_setSX (hc : X.calm = true) : CallR X (.type "set") (fun xs H Q => ∃ (l : Addr) (ts : List Str), xs = [.ref l] ∧ SqL X.K H l (ts.map V.str) ∧ ts.length ≤ 60 ∧ ∀ d, H d = none → Q (.ref d) (upd H d (.ext (SSX X.prog X.w d (inOf [] ts))))) := by
  intro pins s σ H xs us Q I r h
  obtain ⟨l, ts, rfl, hq, few, q⟩ := h
  obtain ⟨u, rfl, rx⟩ := vals1 r
  cases rx
  obtain ⟨its, rv, pl, hz⟩ := I.list hq
  have ln := rv.length
  rw [List.length_map] at ln
  refine call_setS (I.ok.hd hc) pl.isList (by rw [List.size_toArray]; exact ln.symm) (by rw [List.size_toArray]; omega) (fun i v e => ?_) fun h' tk U kk => ?_
  · have e' : its[i]? = some v := by simpa using e
    have il : i < its.length := (List.getElem?_eq_some_iff.mp e').1
    have kl : i < ts.length := by omega
    obtain ⟨u, eu, ru⟩ := rv.get (i := i) (x := V.str ts[i]) (by rw [List.getElem?_map, List.getElem?_eq_getElem kl]; rfl)
    rw [e'] at eu
    cases eu
    obtain ⟨t, rfl⟩ := ru
    exact ⟨ts[i], t, List.getElem?_eq_getElem kl, rfl⟩
  · exact ⟨.ref s.heap.objs.size, _, I.laid (t' := tk) kk (Nat.le_refl _) (ssx_ok U), rfl, q _ (I.hok.fresh (Nat.le_refl _))⟩
theorem call_sortedX (hc : X.calm = true) : CallR X (.builtin "sorted") (fun xs H Q => ∃ (d : Addr) (ks : List Str), xs = [.ref d] ∧ H d = some (.ext (SSX X.prog X.w d ks)) ∧ ks.length ≤ 60 ∧ ∀ D ss, H D = none → List.Perm ss ks → sortedS ss = true → Q (.ref D) (upd H D (.lst (ss.map V.str)))) := by
  intro pins s σ H xs us Q I r h
  obtain ⟨d, ks, rfl, hd, few, q⟩ := h
  obtain ⟨u, rfl, rx⟩ := vals1 r
  cases rx
  obtain ⟨x, _, _⟩ := (show ObjOk X.prog X.w H s.heap d (.ext (SSX X.prog X.w d ks)) from I.hok d _ hd)
  refine ss_sorted x (I.ok.hd hc) few fun h' dr tk D vs ss e kk sz hD a1 a2 a3 => ?_
  have fr := I.hok.fresh sz
  have sl : ss.length ≤ 60 := by rw [a2.length_eq]; exact few
  have ok : ObjOk X.prog X.w (upd H D (.lst (ss.map V.str))) h' D (.lst (ss.map V.str)) := ⟨by rw [List.length_map, sizeLine_eq]; omega, vs.toList, e, set_strs_vals a1, by simpa [seqObj] using hD⟩
  have I2 := I.laid (t' := tk) kk sz ok
  exact ⟨.ref D, _, ⟨I2.ok, I2.os, I2.bare, I2.base, I2.loc, I2.cell, I2.free, I2.freeC, I2.pin, I2.hok, I2.len⟩, rfl, q D ss fr a2 a3⟩
end
end L2


set_option Elab.async false
set_option linter.all false
set_option maxRecDepth 100000
set_option maxHeartbeats 4000000
namespace Mine
open PySem L2
def top (i : Nat) : Stmt := PySem.Challenge.pw_leansay_k03_parts_folds_letters.main.body.getD i (.Pass ⟨0, 0, 0, 0⟩)
abbrev s_Saying_made_of : Stmt := inClass (top 2) 0
abbrev s_Saying_pieces : Stmt := inClass (top 2) 1
abbrev s_Saying_laid_out : Stmt := inClass (top 2) 2
abbrev s_Saying_told : Stmt := inClass (top 2) 3
abbrev s_Saying_parts : Stmt := inClass (top 2) 5
abbrev s_Saying_folds : Stmt := inClass (top 2) 6
abbrev s_Saying_letters : Stmt := inClass (top 2) 7
abbrev s_Never_making_word : Stmt := inClass (top 3) 0
abbrev s_Always_making_word : Stmt := inClass (top 4) 0
abbrev s_Letter_init : Stmt := inClass (top 5) 0
abbrev s_Letter_making_word : Stmt := inClass (top 5) 1
abbrev s_Not_init : Stmt := inClass (top 6) 0
abbrev s_Not_made_of : Stmt := inClass (top 6) 1
abbrev s_Not_making_word : Stmt := inClass (top 6) 2
abbrev s_Not_pieces : Stmt := inClass (top 6) 3
abbrev s_Fold_init : Stmt := inClass (top 7) 0
abbrev s_Fold_made_of : Stmt := inClass (top 7) 1
abbrev s_Fold_pieces : Stmt := inClass (top 7) 2
abbrev s_More_making_word : Stmt := inClass (top 8) 0
abbrev s_Less_making_word : Stmt := inClass (top 9) 0
abbrev s_Greater_making_word : Stmt := inClass (top 10) 0
abbrev s_Lesser_making_word : Stmt := inClass (top 11) 0
abbrev s_Leads_making_word : Stmt := inClass (top 12) 0
abbrev sLaid : Stmt := s_Saying_laid_out
abbrev sTold : Stmt := s_Saying_told
abbrev s_l_mixed : Stmt := top 14
abbrev sMixed : Stmt := top 14
abbrev s_l_next : Stmt := top 15
abbrev sNext : Stmt := top 15
abbrev s_l_saying : Stmt := top 16
abbrev sSaying : Stmt := top 16
abbrev s_l_object : Stmt := top 17
abbrev sObject : Stmt := top 17
abbrev s_l_text : Stmt := top 18
abbrev sText : Stmt := top 18
abbrev s_l_whole : Stmt := top 19
abbrev sWhole : Stmt := top 19
abbrev s_law : Stmt := top 20
abbrev sLaw : Stmt := top 20
end Mine

namespace Mine
open PySem L2
section
variable {P : Program} {w : World} {K : PySem.W.Frag} {mg : Str → Option Value} {base : Heap}
theorem sc_iLetter : FnScope ["self", "name"] ["self", "name"] (defScope s_Letter_init) := ⟨rfl, rfl, rfl, by decide +kernel, rfl, by decide +kernel, by decide +kernel⟩
theorem ok_iLetter {x : Str} {C : Addr} (T : MkF K mg x C "Letter.__init__" s_Letter_init) (n : NoAttr K C "name") : MkOk P w K mg base x C 1 ["self", "name"] (spInit1 C fName) := by
  refine mk_of T sc_iLetter (fun _ _ _ _ _ _ us hl => match us, hl with | [_, _], _ => rfl) (fun vs H Q E h => ?_) (fun f cdv A outer s H vs Q E hr h => ?_)
  · obtain ⟨a, dx, y, rfl, e, q⟩ := h
    rfl
  obtain ⟨a, dx, y, rfl, e, q⟩ := h
  have nd := sc_iLetter.nd
  refine ⟨_, (pss_one (ps_fld (pv 0) (pv 1) rfl)), ?_⟩
  exact ⟨_, rfl, _, rfl, a, C, dx, [], rfl, e, T.cl, n, (by show 0 < 1000; decide), q⟩
theorem sc_iNot : FnScope ["self", "part"] ["self", "part"] (defScope s_Not_init) := ⟨rfl, rfl, rfl, by decide +kernel, rfl, by decide +kernel, by decide +kernel⟩
theorem ok_iNot {x : Str} {C : Addr} (T : MkF K mg x C "Not.__init__" s_Not_init) (n : NoAttr K C "part") : MkOk P w K mg base x C 1 ["self", "part"] (spInit1 C fPart) := by
  refine mk_of T sc_iNot (fun _ _ _ _ _ _ us hl => match us, hl with | [_, _], _ => rfl) (fun vs H Q E h => ?_) (fun f cdv A outer s H vs Q E hr h => ?_)
  · obtain ⟨a, dx, y, rfl, e, q⟩ := h
    rfl
  obtain ⟨a, dx, y, rfl, e, q⟩ := h
  have nd := sc_iNot.nd
  refine ⟨_, (pss_one (ps_fld (pv 0) (pv 1) rfl)), ?_⟩
  exact ⟨_, rfl, _, rfl, a, C, dx, [], rfl, e, T.cl, n, (by show 0 < 1000; decide), q⟩
theorem sc_iFold : FnScope ["self", "one", "other"] ["self", "one", "other"] (defScope s_Fold_init) := ⟨rfl, rfl, rfl, by decide +kernel, rfl, by decide +kernel, by decide +kernel⟩
theorem ok_iFold {x : Str} {C : Addr} (T : MkF K mg x C "Fold.__init__" s_Fold_init) (n : NoAttr K C "one") (n' : NoAttr K C "other") : MkOk P w K mg base x C 1 ["self", "one", "other"] (spInit2 C) := by
  refine mk_of T sc_iFold (fun _ _ _ _ _ _ us hl => match us, hl with | [_, _, _], _ => rfl) (fun vs H Q E h => ?_) (fun f cdv A outer s H vs Q E hr h => ?_)
  · obtain ⟨a, dx, y, z, rfl, e, q⟩ := h
    rfl
  obtain ⟨a, dx, y, z, rfl, e, q⟩ := h
  have nd := sc_iFold.nd
  refine ⟨_, (pss_cons (ps_fld (pv 0) (pv 1) rfl)
    (pss_one (ps_fld (pv 0) (pv 2) rfl))), ?_⟩
  refine ⟨_, rfl, _, rfl, a, C, dx, [], rfl, e, T.cl, n, (by show 0 < 1000; decide), ?_⟩
  refine ⟨_, rfl, _, rfl, a, C, dx, _, rfl, upd_same, T.cl, n', (by show 1 < 1000; decide), ?_⟩
  rw [putF_two, upd_upd]
  exact q
theorem sc_mS : FnScope ["self"] ["self"] (defScope s_Saying_made_of) := ⟨rfl, rfl, rfl, by decide +kernel, rfl, by decide +kernel, by decide +kernel⟩
theorem ok_mS {c : CCs} {C : Addr} {t : Tr} (T : MethF K C "made_of" "Saying.made_of" s_Saying_made_of) (ht : t.kids = []) : MethOk P w K mg base C "made_of" 1 ["self"] (spMade c t) := by
  refine meth_of T sc_mS (fun _ _ _ _ _ _ us hl => match us, hl with | [_], _ => rfl) (fun vs H Q E h => ?_) (fun f cdv A outer s H vs Q E hr h => ?_)
  · obtain ⟨a, rfl, o, q⟩ := h
    rfl
  obtain ⟨a, rfl, o, q⟩ := h
  have nd := sc_mS.nd
  refine ⟨_, (pss_one (ps_ret (pe_lst pa_nil))), ?_⟩
  refine ⟨(by show 0 ≤ sizeLine; decide), fun l hl => q l [] hl ?_⟩
  rw [ht]
  exact .nil
theorem sc_mNot : FnScope ["self"] ["self"] (defScope s_Not_made_of) := ⟨rfl, rfl, rfl, by decide +kernel, rfl, by decide +kernel, by decide +kernel⟩
theorem ok_mNot {c : CCs} {t : Tr} (T : MethF K c.no "made_of" "Not.made_of" s_Not_made_of) (F : Fx K c) : MethOk P w K mg base c.no "made_of" 1 ["self"] (spMade c (.no t)) := by
  refine meth_of T sc_mNot (fun _ _ _ _ _ _ us hl => match us, hl with | [_], _ => rfl) (fun vs H Q E h => ?_) (fun f cdv A outer s H vs Q E hr h => ?_)
  · obtain ⟨a, rfl, o, q⟩ := h
    rfl
  obtain ⟨a, rfl, o, q⟩ := h
  have nd := sc_mNot.nd
  refine ⟨_, (pss_one (ps_ret (pe_lst (pa_cons (pe_fld (pv 0) rfl) pa_nil)))), ?_⟩
  cases o with
  | no e o =>
    refine ⟨_, rfl, a, c.no, _, _, _, rfl, e, T.cl, F.nPart, look_part _, (by show 1 ≤ sizeLine; decide), fun l hl => q l _ hl ?_⟩
    exact .cons ⟨_, rfl, o⟩ .nil
theorem sc_mFold : FnScope ["self"] ["self"] (defScope s_Fold_made_of) := ⟨rfl, rfl, rfl, by decide +kernel, rfl, by decide +kernel, by decide +kernel⟩
theorem ok_mFold {c : CCs} {u : W5} {t t' : Tr} (T : MethF K (c.fold u) "made_of" "Fold.made_of" s_Fold_made_of) (F : Fx K c) : MethOk P w K mg base (c.fold u) "made_of" 1 ["self"] (spMade c (.fold u t t')) := by
  refine meth_of T sc_mFold (fun _ _ _ _ _ _ us hl => match us, hl with | [_], _ => rfl) (fun vs H Q E h => ?_) (fun f cdv A outer s H vs Q E hr h => ?_)
  · obtain ⟨a, rfl, o, q⟩ := h
    rfl
  obtain ⟨a, rfl, o, q⟩ := h
  have nd := sc_mFold.nd
  refine ⟨_, (pss_one (ps_ret (pe_lst (pa_cons (pe_fld (pv 0) rfl) (pa_cons (pe_fld (pv 0) rfl) pa_nil))))), ?_⟩
  cases o with
  | fold e o o' =>
    refine ⟨_, rfl, a, _, _, _, _, rfl, e, T.cl, F.nOne u, look_one _ _, _, rfl, a, _, _, _, _, rfl, e, T.cl, F.nOther u, look_other _ _, (by show 2 ≤ sizeLine; decide), fun l hl => q l _ hl ?_⟩
    exact .cons ⟨_, rfl, o⟩ (.cons ⟨_, rfl, o'⟩ .nil)
theorem sc_wNever : FnScope ["self"] ["self"] (defScope s_Never_making_word) := ⟨rfl, rfl, rfl, by decide +kernel, rfl, by decide +kernel, by decide +kernel⟩
theorem ok_wNever {c : CCs} {C : Addr} (T : MethF K C "making_word" "Never.making_word" s_Never_making_word) : MethOk P w K mg base C "making_word" 1 ["self"] (spWord c .never) := by
  refine meth_of T sc_wNever (fun _ _ _ _ _ _ us hl => match us, hl with | [_], _ => rfl) (fun vs H Q E h => ?_) (fun f cdv A outer s H vs Q E hr h => ?_)
  · obtain ⟨a, rfl, o, q⟩ := h
    rfl
  obtain ⟨a, rfl, o, q⟩ := h
  have nd := sc_wNever.nd
  refine ⟨_, (pss_one (ps_ret pe_str)), ?_⟩
  exact q
theorem sc_wAlways : FnScope ["self"] ["self"] (defScope s_Always_making_word) := ⟨rfl, rfl, rfl, by decide +kernel, rfl, by decide +kernel, by decide +kernel⟩
theorem ok_wAlways {c : CCs} {C : Addr} (T : MethF K C "making_word" "Always.making_word" s_Always_making_word) : MethOk P w K mg base C "making_word" 1 ["self"] (spWord c .always) := by
  refine meth_of T sc_wAlways (fun _ _ _ _ _ _ us hl => match us, hl with | [_], _ => rfl) (fun vs H Q E h => ?_) (fun f cdv A outer s H vs Q E hr h => ?_)
  · obtain ⟨a, rfl, o, q⟩ := h
    rfl
  obtain ⟨a, rfl, o, q⟩ := h
  have nd := sc_wAlways.nd
  refine ⟨_, (pss_one (ps_ret pe_str)), ?_⟩
  exact q
theorem sc_wLp : FnScope ["self"] ["self"] (defScope s_Letter_making_word) := ⟨rfl, rfl, rfl, by decide +kernel, rfl, by decide +kernel, by decide +kernel⟩
theorem ok_wLp {c : CCs} (T : MethF K c.le "making_word" "Letter.making_word" s_Letter_making_word) (F : Fx K c) : MethOk P w K mg base c.le "making_word" 1 ["self"] (spWord c .lp) := by
  refine meth_of T sc_wLp (fun _ _ _ _ _ _ us hl => match us, hl with | [_], _ => rfl) (fun vs H Q E h => ?_) (fun f cdv A outer s H vs Q E hr h => ?_)
  · obtain ⟨a, rfl, o, q⟩ := h
    rfl
  obtain ⟨a, rfl, o, q⟩ := h
  have nd := sc_wLp.nd
  refine ⟨_, (pss_one (ps_ret (pe_fld (pv 0) rfl))), ?_⟩
  cases o with
  | lp e => exact ⟨_, rfl, a, _, _, _, _, rfl, e, T.cl, F.nName, look_name _, q⟩
theorem sc_wLq : FnScope ["self"] ["self"] (defScope s_Letter_making_word) := ⟨rfl, rfl, rfl, by decide +kernel, rfl, by decide +kernel, by decide +kernel⟩
theorem ok_wLq {c : CCs} (T : MethF K c.le "making_word" "Letter.making_word" s_Letter_making_word) (F : Fx K c) : MethOk P w K mg base c.le "making_word" 1 ["self"] (spWord c .lq) := by
  refine meth_of T sc_wLq (fun _ _ _ _ _ _ us hl => match us, hl with | [_], _ => rfl) (fun vs H Q E h => ?_) (fun f cdv A outer s H vs Q E hr h => ?_)
  · obtain ⟨a, rfl, o, q⟩ := h
    rfl
  obtain ⟨a, rfl, o, q⟩ := h
  have nd := sc_wLq.nd
  refine ⟨_, (pss_one (ps_ret (pe_fld (pv 0) rfl))), ?_⟩
  cases o with
  | lq e => exact ⟨_, rfl, a, _, _, _, _, rfl, e, T.cl, F.nName, look_name _, q⟩
theorem sc_wNot : FnScope ["self"] ["self"] (defScope s_Not_making_word) := ⟨rfl, rfl, rfl, by decide +kernel, rfl, by decide +kernel, by decide +kernel⟩
theorem ok_wNot {c : CCs} {C : Addr} {t : Tr} (T : MethF K C "making_word" "Not.making_word" s_Not_making_word) : MethOk P w K mg base C "making_word" 1 ["self"] (spWord c (.no t)) := by
  refine meth_of T sc_wNot (fun _ _ _ _ _ _ us hl => match us, hl with | [_], _ => rfl) (fun vs H Q E h => ?_) (fun f cdv A outer s H vs Q E hr h => ?_)
  · obtain ⟨a, rfl, o, q⟩ := h
    rfl
  obtain ⟨a, rfl, o, q⟩ := h
  have nd := sc_wNot.nd
  refine ⟨_, (pss_one (ps_ret pe_str)), ?_⟩
  exact q
theorem sc_wMore : FnScope ["self"] ["self"] (defScope s_More_making_word) := ⟨rfl, rfl, rfl, by decide +kernel, rfl, by decide +kernel, by decide +kernel⟩
theorem ok_wMore {c : CCs} {C : Addr} {t t' : Tr} (T : MethF K C "making_word" "More.making_word" s_More_making_word) : MethOk P w K mg base C "making_word" 1 ["self"] (spWord c (.fold .more t t')) := by
  refine meth_of T sc_wMore (fun _ _ _ _ _ _ us hl => match us, hl with | [_], _ => rfl) (fun vs H Q E h => ?_) (fun f cdv A outer s H vs Q E hr h => ?_)
  · obtain ⟨a, rfl, o, q⟩ := h
    rfl
  obtain ⟨a, rfl, o, q⟩ := h
  have nd := sc_wMore.nd
  refine ⟨_, (pss_one (ps_ret pe_str)), ?_⟩
  exact q
theorem sc_wLess : FnScope ["self"] ["self"] (defScope s_Less_making_word) := ⟨rfl, rfl, rfl, by decide +kernel, rfl, by decide +kernel, by decide +kernel⟩
theorem ok_wLess {c : CCs} {C : Addr} {t t' : Tr} (T : MethF K C "making_word" "Less.making_word" s_Less_making_word) : MethOk P w K mg base C "making_word" 1 ["self"] (spWord c (.fold .less t t')) := by
  refine meth_of T sc_wLess (fun _ _ _ _ _ _ us hl => match us, hl with | [_], _ => rfl) (fun vs H Q E h => ?_) (fun f cdv A outer s H vs Q E hr h => ?_)
  · obtain ⟨a, rfl, o, q⟩ := h
    rfl
  obtain ⟨a, rfl, o, q⟩ := h
  have nd := sc_wLess.nd
  refine ⟨_, (pss_one (ps_ret pe_str)), ?_⟩
  exact q
theorem sc_wGreater : FnScope ["self"] ["self"] (defScope s_Greater_making_word) := ⟨rfl, rfl, rfl, by decide +kernel, rfl, by decide +kernel, by decide +kernel⟩
theorem ok_wGreater {c : CCs} {C : Addr} {t t' : Tr} (T : MethF K C "making_word" "Greater.making_word" s_Greater_making_word) : MethOk P w K mg base C "making_word" 1 ["self"] (spWord c (.fold .greater t t')) := by
  refine meth_of T sc_wGreater (fun _ _ _ _ _ _ us hl => match us, hl with | [_], _ => rfl) (fun vs H Q E h => ?_) (fun f cdv A outer s H vs Q E hr h => ?_)
  · obtain ⟨a, rfl, o, q⟩ := h
    rfl
  obtain ⟨a, rfl, o, q⟩ := h
  have nd := sc_wGreater.nd
  refine ⟨_, (pss_one (ps_ret pe_str)), ?_⟩
  exact q
theorem sc_wLesser : FnScope ["self"] ["self"] (defScope s_Lesser_making_word) := ⟨rfl, rfl, rfl, by decide +kernel, rfl, by decide +kernel, by decide +kernel⟩
theorem ok_wLesser {c : CCs} {C : Addr} {t t' : Tr} (T : MethF K C "making_word" "Lesser.making_word" s_Lesser_making_word) : MethOk P w K mg base C "making_word" 1 ["self"] (spWord c (.fold .lesser t t')) := by
  refine meth_of T sc_wLesser (fun _ _ _ _ _ _ us hl => match us, hl with | [_], _ => rfl) (fun vs H Q E h => ?_) (fun f cdv A outer s H vs Q E hr h => ?_)
  · obtain ⟨a, rfl, o, q⟩ := h
    rfl
  obtain ⟨a, rfl, o, q⟩ := h
  have nd := sc_wLesser.nd
  refine ⟨_, (pss_one (ps_ret pe_str)), ?_⟩
  exact q
theorem sc_wLeads : FnScope ["self"] ["self"] (defScope s_Leads_making_word) := ⟨rfl, rfl, rfl, by decide +kernel, rfl, by decide +kernel, by decide +kernel⟩
theorem ok_wLeads {c : CCs} {C : Addr} {t t' : Tr} (T : MethF K C "making_word" "Leads.making_word" s_Leads_making_word) : MethOk P w K mg base C "making_word" 1 ["self"] (spWord c (.fold .leads t t')) := by
  refine meth_of T sc_wLeads (fun _ _ _ _ _ _ us hl => match us, hl with | [_], _ => rfl) (fun vs H Q E h => ?_) (fun f cdv A outer s H vs Q E hr h => ?_)
  · obtain ⟨a, rfl, o, q⟩ := h
    rfl
  obtain ⟨a, rfl, o, q⟩ := h
  have nd := sc_wLeads.nd
  refine ⟨_, (pss_one (ps_ret pe_str)), ?_⟩
  exact q
theorem sc_pSay : FnScope ["self"] ["self"] (defScope s_Saying_pieces) := ⟨rfl, rfl, rfl, by decide +kernel, rfl, by decide +kernel, by decide +kernel⟩
theorem ok_pSay {c : CCs} {t : Tr} (T : MethF K (c.of t) "pieces" "Saying.pieces" s_Saying_pieces) (ht : t.pieces = [.w t.word]) (G : MethOk P w K mg base (c.of t) "making_word" 1 ["self"] (spWord c t)) : MethOk P w K mg base (c.of t) "pieces" 2 ["self"] (spPieces c t) := by
  refine meth_of T sc_pSay (fun _ _ _ _ _ _ us hl => match us, hl with | [_], _ => rfl) (fun vs H Q E h => ?_) (fun f cdv A outer s H vs Q E hr h => ?_)
  · obtain ⟨a, rfl, o, q⟩ := h
    rfl
  obtain ⟨a, rfl, o, q⟩ := h
  have nd := sc_pSay.nd
  refine ⟨_, (pss_one (ps_ret (pe_lst (pa_cons (pe_methD0 (k := 1) (pv 0) (hr.mono (by decide))) pa_nil)))), ?_⟩
  obtain ⟨dx, fs, ea, nf⟩ := o.cls
  refine ⟨_, rfl, a, _, _, _, _, _, rfl, ea, nf _ (by decide +kernel), G, a, rfl, o, (by show 1 ≤ sizeLine; decide), fun l hl => q l _ hl ?_⟩
  rw [ht]
  exact .cons (.w _) .nil
theorem sc_pNot : FnScope ["self"] ["self"] (defScope s_Not_pieces) := ⟨rfl, rfl, rfl, by decide +kernel, rfl, by decide +kernel, by decide +kernel⟩
theorem ok_pNot {c : CCs} {t : Tr} (T : MethF K c.no "pieces" "Not.pieces" s_Not_pieces) (F : Fx K c) : MethOk P w K mg base c.no "pieces" 2 ["self"] (spPieces c (.no t)) := by
  refine meth_of T sc_pNot (fun _ _ _ _ _ _ us hl => match us, hl with | [_], _ => rfl) (fun vs H Q E h => ?_) (fun f cdv A outer s H vs Q E hr h => ?_)
  · obtain ⟨a, rfl, o, q⟩ := h
    rfl
  obtain ⟨a, rfl, o, q⟩ := h
  have nd := sc_pNot.nd
  refine ⟨_, (pss_one (ps_ret (pe_lst (pa_cons pe_str (pa_cons (pe_fld (pv 0) rfl) pa_nil))))), ?_⟩
  cases o with
  | no e o => exact ⟨_, rfl, a, _, _, _, _, rfl, e, T.cl, F.nPart, look_part _, (by show 2 ≤ sizeLine; decide), fun l hl => q l _ hl (.cons (.w _) (.cons (.t o) .nil))⟩
theorem sc_pFold : FnScope ["self"] ["self"] (defScope s_Fold_pieces) := ⟨rfl, rfl, rfl, by decide +kernel, rfl, by decide +kernel, by decide +kernel⟩
theorem ok_pFold {c : CCs} {u : W5} {t t' : Tr} (T : MethF K (c.fold u) "pieces" "Fold.pieces" s_Fold_pieces) (F : Fx K c) (G : MethOk P w K mg base (c.fold u) "making_word" 1 ["self"] (spWord c (.fold u t t'))) : MethOk P w K mg base (c.fold u) "pieces" 2 ["self"] (spPieces c (.fold u t t')) := by
  refine meth_of T sc_pFold (fun _ _ _ _ _ _ us hl => match us, hl with | [_], _ => rfl) (fun vs H Q E h => ?_) (fun f cdv A outer s H vs Q E hr h => ?_)
  · obtain ⟨a, rfl, o, q⟩ := h
    rfl
  obtain ⟨a, rfl, o, q⟩ := h
  have nd := sc_pFold.nd
  refine ⟨_, (pss_one (ps_ret (pe_lst (pa_cons pe_str (pa_cons (pe_fld (pv 0) rfl) (pa_cons (pe_methD0 (k := 1) (pv 0) (hr.mono (by decide))) (pa_cons (pe_fld (pv 0) rfl) (pa_cons pe_str pa_nil)))))))), ?_⟩
  cases o with
  | fold e o o' =>
    refine ⟨_, rfl, a, _, _, _, _, rfl, e, T.cl, F.nOne u, look_one _ _, _, rfl, a, _, _, _, _, _, rfl, e, look_none (by decide +kernel) (look_none (by decide +kernel) rfl), G, a, rfl, .fold e o o', ?_⟩
    exact ⟨_, rfl, a, _, _, _, _, rfl, e, T.cl, F.nOther u, look_other _ _, (by show 5 ≤ sizeLine; decide), fun l hl => q l _ hl (.cons (.w _) (.cons (.t o) (.cons (.w _) (.cons (.t o') (.cons (.w _) .nil)))))⟩
end
end Mine




set_option Elab.async false
set_option linter.all false
set_option maxRecDepth 100000
set_option maxHeartbeats 4000000
namespace Mine
open PySem L2
section
variable {P : Program} {w : World} {K : PySem.W.Frag} {mg : Str → Option Value} {base : Heap} {c : CCs}
theorem sc_next : FnScope ["_law_cells"] ["_law_cells"] (defScope sNext) := ⟨rfl, rfl, rfl, by decide +kernel, rfl, by decide +kernel, by decide +kernel⟩
theorem ok_next (T : TopDef K mg "_law_next" sNext) (Z_len : mg "len" = none) : Def P w K mg base 1 "_law_next" ["_law_cells"] spNext := by
  refine def_of T sc_next (fun _ _ _ _ _ _ us hl => match us, hl with | [_], _ => rfl) (fun vs H Q E h => ?_) (fun f cdv A outer s H vs Q E hr h => ?_)
  · obtain ⟨l, ms, rfl, _⟩ := h
    rfl
  obtain ⟨l, ms, rfl, e, hc, q⟩ := h
  have nd := sc_next.nd
  refine ⟨_, (pss_cons (ps_if (pt_cmpR op_eq (pe_callB call_len rfl Z_len (by decide +kernel) (pa_cons (pv 0) pa_nil)) pe_int (nomark _)) (pss_one (ps_ret pe_int)) pss_nil)
    (pss_one (ps_ret (pe_bm PySem.F.plainAttrs_list PySem.F.slot_list_pop PySem.F.type_list_pop mt_popAt (pv 0) (pa_cons pe_int pa_nil))))), ?_⟩
  refine ⟨_, rfl, _, _, rfl, .inl ⟨_, SqL.of e, rfl⟩, rfl, _, rfl, ?_⟩
  refine ite2 (fun z => ?_) (fun z => ?_)
  · exact q 0 ms H cel0 hc (SB.refl _ _) e
  · cases ms with
    | nil => exact absurd (decide_eq_true rfl) z
    | cons m r =>
      refine ⟨_, rfl, .inl ⟨rfl, _, SqL.of e⟩, l, _, 0, 0, V.int m, rfl, rfl, e, by decide, by decide, seqIndex_of (Int.le_refl 0) (by rw [List.length_map, List.length_cons]; omega), rfl, ?_⟩
      exact q m r _ (hc m (by simp)) (fun n hn => hc n (List.mem_cons_of_mem _ hn)) (sb_upd _ _) upd_same
end
end Mine

namespace Mine
open PySem L2
section
variable {P : Program} {w : World} {K : PySem.W.Frag} {mg : Str → Option Value} {base : Heap} {c : CCs}
theorem sc_mixed : FnScope mixNames ["_law_script", "_law_least"] (defScope sMixed) := ⟨rfl, rfl, rfl, by decide +kernel, rfl, by decide +kernel, by decide +kernel⟩
theorem ok_mixed (T : TopDef K mg "_law_mixed" sMixed) (Z_len : mg "len" = none) (Z_max : mg "max" = none) (Z_min : mg "min" = none) (Z_range : mg "range" = none) (Z_abs : mg "abs" = none) (Z_int : mg "int" = none) : Def P w K mg base 1 "_law_mixed" ["_law_script", "_law_least"] (spMixed K) := by
  refine def_of T sc_mixed (fun _ _ _ _ _ _ us hl => match us, hl with | [_, _], _ => rfl) (fun vs H Q E h => ?_) (fun f cdv A outer s H vs Q E hr h => ?_)
  · obtain ⟨a, ns, k, rfl, _⟩ := h
    rfl
  obtain ⟨a, ns, k, rfl, S, k0, k1, q⟩ := h
  have nd := sc_mixed.nd
  have hlen := S.few
  have tail : ∃ t, PSs (cxOf CX0 P w K mg base mixNames "_law_mixed" (defScope sMixed) f cdv A outer s H E).nox ((defBody sMixed).drop 1) t ∧ ∀ b : Bool, t { nx := fun _ H' => Q .non H', rt := Q } [some (.ref a), some (.int k), some (.bl b), none, none, none] H := by
    refine ⟨_, (pss_cons (ps_set (i := 3) nd rfl (Or.inl rfl) (pe_lst pa_nil))
    (pss_cons (ps_for PassesOwn.never rfl (pi_range1 rfl Z_range (pa_cons (pe_callB (call_max2 rfl) rfl Z_max (by decide +kernel) (pa_cons (pe_op op_add (pv 1) pe_int) (pa_cons (pe_callB (call_min2 rfl) rfl Z_min (by decide +kernel) (pa_cons pe_int (pa_cons (pe_callB call_len rfl Z_len (by decide +kernel) (pa_cons (pv 0) pa_nil)) pa_nil))) pa_nil))) pa_nil)) (pg_name (i := 4) nd rfl (Or.inl rfl)) (pss_cons (ps_set (i := 5) nd rfl (Or.inl rfl) pe_int)
    (pss_cons (ps_if (pt_cmpR op_lt (pv 4) (pe_callB call_len rfl Z_len (by decide +kernel) (pa_cons (pv 0) pa_nil)) (nomark _)) (pss_one (ps_set (i := 5) nd rfl (Or.inl rfl) (pe_ix ix_list (pv 0) (pv 4) (fun _ _ => rfl)))) pss_nil)
    (pss_one (ps_if (PW.pt (pw_and (pt_truth (pv 2) (fun _ => rfl)) (pw_and1 (pt_chain op_lt op_lt pe_int (pv 4) (pe_callB call_len rfl Z_len (by decide +kernel) (pa_cons (pv 0) pa_nil)))))) (pss_one (ps_expr (pe_bm PySem.F.plainAttrs_list PySem.F.slot_list_append PySem.F.type_list_append mt_append (pv 3) (pa_cons (pe_callB call_abs rfl Z_abs (by decide +kernel) (pa_cons (pv 5) pa_nil)) pa_nil)))) (pss_one (ps_expr (pe_bm PySem.F.plainAttrs_list PySem.F.slot_list_append PySem.F.type_list_append mt_append (pv 3) (pa_cons (pe_op op_mod (pe_op op_mulK (pe_op op_mod (pe_op op_add (pe_op op_mulK (pe_op op_mod (pv 5) (pe_op op_pow pe_int pe_int)) pe_int) (pe_op op_mulK pe_int (pe_op op_add (pv 4) pe_int))) pe_int) pe_int) pe_int) pa_nil)))))))))
    (pss_one (ps_ret (pe_slice sl_list (pv 3) (po_some (pe_callTy call_int1 rfl Z_int (by decide +kernel) (pa_cons (pv 2) pa_nil))) po_none))))), ?_⟩
    intro b
    refine ⟨(by show 0 ≤ sizeLine; decide), fun D hD => ?_⟩
    refine ⟨_, rfl, _, _, rfl, rfl, _, rfl, _, _, rfl, .inl ⟨_, (same_new hD _).seq S.l, rfl⟩, _, _, rfl, _, _, rfl, _, rfl, ?_, ?_, ?_⟩
    · rw [min_is, max_is, List.length_map]; omega
    · rw [min_is, max_is, List.length_map]; omega
    rw [min_is, max_is, List.length_map]
    have hN : (max (k + 1) (min 63 (ns.length : Int))).toNat ≤ 1000 := by omega
    refine for_range (fun i σ H2 => ∃ (ms : List Int) (o4 o5 : Option V), σ = [some (.ref a), some (.int k), some (.bl b), some (.ref D), o4, o5] ∧ Same H H2 ∧ H2 D = some (.lst (ms.map V.int)) ∧ ms.length = i ∧ ∀ m ∈ ms, Cel m)
      ⟨[], _, _, rfl, same_new hD _, upd_same, rfl, fun _ h => nomatch h⟩ (fun i σ H2 hi h => ?_) (fun σ H2 h => ?_)
    · obtain ⟨ms, o4, o5, rfl, sm, e, hm, hc⟩ := h
      have S2 := S.to sm
      have next : ∀ v : Int, Cel v → ∀ z : Int, ∃ (ms' : List Int) (o4 o5 : Option V), [some (V.ref a), some (.int k), some (.bl b), some (.ref D), some (.int (0 + (i : Int))), some (.int z)] = [some (V.ref a), some (.int k), some (.bl b), some (.ref D), o4, o5] ∧ Same H (upd H2 D (.lst (ms.map V.int ++ [V.int v]))) ∧
          upd H2 D (.lst (ms.map V.int ++ [V.int v])) D = some (.lst (ms'.map V.int)) ∧ ms'.length = i + 1 ∧ ∀ m ∈ ms', Cel m := fun v cv z => by
        refine ⟨ms ++ [v], _, _, rfl, fun d o zz => ?_, by rw [upd_same, List.map_append]; rfl, by rw [List.length_append, hm]; rfl, fun m hm' => ?_⟩
        · rw [upd_ne (ne_of_none zz hD)]; exact sm d o zz
        · rcases List.mem_append.mp hm' with zz | zz
          · exact hc m zz
          · have : m = v := by simpa using zz
            rw [this]; exact cv
      have ml : (ms.map V.int).length < sizeLine := by rw [List.length_map, hm]; exact Nat.lt_of_lt_of_le hi (Nat.le_trans hN (by decide))
      have lenV : ∃ xs, SqL K H2 a xs ∧ (ns.length : Nat) = xs.length := ⟨_, S2.l, (List.length_map _).symm⟩
      refine ⟨_, rfl, _, rfl, _, ns.length, rfl, .inl lenV, _, _, rfl, rfl, _, rfl, ?_⟩
      have cellOk : ∃ z : Int, Builtin.Int.intBits z ≤ 1048576 ∧ (decide ((0 + (i : Int)) < (ns.length : Int)) = true → atI (ns.map V.int) (0 + (i : Int)) = some (V.int z)) ∧ (¬ decide ((0 + (i : Int)) < (ns.length : Int)) = true → z = 0) := by
        by_cases hlt : i < ns.length
        · refine ⟨ns[i], S.bit _ (List.getElem_mem hlt), fun _ => ?_, fun z => absurd (decide_eq_true (by omega)) z⟩
          rw [Int.zero_add]
          exact atI_nat (by rw [List.getElem?_map, List.getElem?_eq_getElem hlt]; rfl)
        · exact ⟨0, by decide, fun z => absurd (of_decide_eq_true z) (by omega), fun _ => rfl⟩
      obtain ⟨z, hz, hz1, hz2⟩ := cellOk
      refine ite2 (fun g => ?a) (fun g => ?b)
      case' a => refine ⟨_, rfl, _, rfl, _, _, _, _, rfl, rfl, S2.l, hz1 g, ?_⟩
      case' b => have ez := hz2 g; subst ez
      all_goals
        cases b with
        | false =>
          refine ⟨_, rfl, false, rfl, iteF (iteF ?_)⟩
          refine ⟨_, rfl, .inl ⟨rfl, _, SqL.of e⟩, _, rfl, _, _, rfl, rfl, ⟨by decide, by decide, by decide⟩, _, _, rfl, rfl, (show (0 : Int) < 10 ^ (Int.toNat 18) by decide +kernel), _, _, rfl, rfl, mul_ok_r (by decide +kernel), _, rfl, _, _, rfl, rfl, _, _, rfl, rfl, mul_ok_l (by decide +kernel), _, _, rfl, rfl, _, _, rfl, rfl, (show (0 : Int) < 2147483647 by decide), _, _, rfl, rfl, mul_ok_r (by decide +kernel), _, _, rfl, rfl, (show (0 : Int) < 2147483629 by decide), D, _, _, rfl, rfl, e, ml, ?_⟩
          exact next _ (cel_small (Int.emod_nonneg _ (by decide)) (Int.lt_trans (Int.emod_lt_of_pos _ (by decide)) (by decide))) _
        | true =>
          refine ⟨_, rfl, true, rfl, iteT ?_⟩
          refine ⟨_, rfl, _, _, rfl, rfl, _, rfl, ?_⟩
          refine ite2 (fun g1 => ?_) (fun g1 => ?_)
          · refine ⟨_, rfl, _, ns.length, rfl, .inl lenV, _, _, rfl, rfl, _, rfl, ?_⟩
            refine ite2 (fun g2 => ?_) (fun g2 => ?_)
            · refine ⟨_, rfl, .inl ⟨rfl, _, SqL.of e⟩, _, rfl, _, rfl, D, _, _, rfl, rfl, e, ml, ?_⟩
              exact next _ (cel_abs hz) _
            · refine ⟨_, rfl, .inl ⟨rfl, _, SqL.of e⟩, _, rfl, _, _, rfl, rfl, ⟨by decide, by decide, by decide⟩, _, _, rfl, rfl, (show (0 : Int) < 10 ^ (Int.toNat 18) by decide +kernel), _, _, rfl, rfl, mul_ok_r (by decide +kernel), _, rfl, _, _, rfl, rfl, _, _, rfl, rfl, mul_ok_l (by decide +kernel), _, _, rfl, rfl, _, _, rfl, rfl, (show (0 : Int) < 2147483647 by decide), _, _, rfl, rfl, mul_ok_r (by decide +kernel), _, _, rfl, rfl, (show (0 : Int) < 2147483629 by decide), D, _, _, rfl, rfl, e, ml, ?_⟩
              exact next _ (cel_small (Int.emod_nonneg _ (by decide)) (Int.lt_trans (Int.emod_lt_of_pos _ (by decide)) (by decide))) _
          · refine ⟨_, rfl, iteF ?_⟩
            refine ⟨_, rfl, .inl ⟨rfl, _, SqL.of e⟩, _, rfl, _, _, rfl, rfl, ⟨by decide, by decide, by decide⟩, _, _, rfl, rfl, (show (0 : Int) < 10 ^ (Int.toNat 18) by decide +kernel), _, _, rfl, rfl, mul_ok_r (by decide +kernel), _, rfl, _, _, rfl, rfl, _, _, rfl, rfl, mul_ok_l (by decide +kernel), _, _, rfl, rfl, _, _, rfl, rfl, (show (0 : Int) < 2147483647 by decide), _, _, rfl, rfl, mul_ok_r (by decide +kernel), _, _, rfl, rfl, (show (0 : Int) < 2147483629 by decide), D, _, _, rfl, rfl, e, ml, ?_⟩
            exact next _ (cel_small (Int.emod_nonneg _ (by decide)) (Int.lt_trans (Int.emod_lt_of_pos _ (by decide)) (by decide))) _
    · obtain ⟨ms, o4, o5, rfl, sm, e, hm, hc⟩ := h
      refine ⟨_, rfl, _, rfl, .inr ⟨b, rfl, _, rfl, D, _, rfl, SqL.of e, fun p hp => ?_⟩⟩
      obtain ⟨ms', em, hm'⟩ := cut_int ms (some (if b then 1 else 0)) none
      rw [em]
      have np : H p = none := sm.free hp
      exact q p ms' _ (fun d o zz => by rw [upd_ne (ne_of_none zz np)]; exact sm d o zz) np upd_same fun m h => hc m (hm' m h)
  obtain ⟨t1, ht1, hq1⟩ := tail
  refine ⟨_, pss_cons (ps_set (i := 2) nd rfl (Or.inl rfl) (pe_and (pe_cmpR op_gt (pe_callB call_len rfl Z_len (by decide +kernel) (pa_cons (pv 0) pa_nil)) pe_int (nomark _)) (pe_one (pe_cmpR op_eq (pe_op op_mod (pe_ix ix_list (pv 0) pe_int (fun _ _ => rfl)) pe_int) pe_int (nomark _))))) ht1, ?_⟩
  refine ⟨_, rfl, _, ns.length, rfl, .inl ⟨_, S.l, (List.length_map _).symm⟩, _, _, rfl, rfl, _, rfl, ?_⟩
  refine ite2 (fun g => ?_) (fun g => ?_)
  · cases ns with
    | nil => exact absurd (of_decide_eq_true g) (by decide)
    | cons n r => exact ⟨_, rfl, _, _, _, _, rfl, rfl, S.l, atI_nat (j := 0) rfl, _, _, rfl, rfl, (show (0 : Int) < 2 by decide), rfl, hq1 _⟩
  · exact hq1 false

end
end Mine

namespace Mine
open PySem L2
section
variable {P : Program} {w : World} {K : PySem.W.Frag} {mg : Str → Option Value} {base : Heap} {c : CCs}
theorem sc_saying : FnScope sayNames ["_law_cells", "_law_room", "_law_two"] (defScope sSaying) := ⟨rfl, rfl, rfl, by decide +kernel, rfl, by decide +kernel, by decide +kernel⟩
theorem ok_saying (T : TopDef K mg "_law_saying" sSaying) (Z_int : mg "int" = none) (D_law_next : Def P w K mg base 1 "_law_next" ["_law_cells"] spNext) : ∀ n : Nat, Def P w K mg base (n + 2) "_law_saying" ["_law_cells", "_law_room", "_law_two"] (spSaying n) := by
  intro n
  induction n with
  | zero =>
    refine def_of T sc_saying (fun _ _ _ _ _ _ us hl => match us, hl with | [_, _, _], _ => rfl) (fun vs H Q E h => ?_) (fun f cdv A outer s H vs Q E hr h => ?_)
    · obtain ⟨l, ms, r, b, rfl, _⟩ := h
      rfl
    · obtain ⟨l, ms, r, b, rfl, _, _, z1, z2, _⟩ := h
      have : (r : Int) ≤ ((0 : Nat) : Int) := z2
      omega
  | succ n D_law_saying =>
    refine def_of T sc_saying (fun _ _ _ _ _ _ us hl => match us, hl with | [_, _, _], _ => rfl) (fun vs H Q E h => ?_) (fun f cdv A outer s H vs Q E hr h => ?_)
    · obtain ⟨l, ms, r, b, rfl, _⟩ := h
      rfl
    obtain ⟨l, ms, r, b, rfl, e, hc, r1, r2, q⟩ := h
    have nd := sc_saying.nd
    have r2' : r ≤ (n : Int) + 1 := by exact_mod_cast r2
    -- a leaf
    have tail4 : ∃ t, PSs (cxOf CX0 P w K mg base sayNames "_law_saying" (defScope sSaying) f cdv A outer s H E).nox ((defBody sSaying).drop 4) t ∧ ∀ (i : Int) (ms1 : List Int) (H1 : Hp), (∀ m ∈ ms1, Cel m) → SB (.ref l) H H1 → H1 l = some (.lst (ms1.map V.int)) →
        t { nx := fun _ H' => Q .non H', rt := Q } [some (.ref l), some (.int r), some (.bl b), some (.int i), some (.int (i / 16)), none, none, none] H1 := by
      refine ⟨_, (pss_cons (ps_if (pt_cmpR op_gt (pe_op op_mod (pv 4) pe_int) pe_int (nomark _)) (pss_one (ps_ret (pe_tup (pa_cons (pe_ix ix_tup (pe_tup (pa_cons pe_str (pa_cons pe_str pa_nil))) (pe_op op_sub (pe_op op_mod (pv 4) pe_int) pe_int) (fun _ _ => rfl)) pa_nil)))) pss_nil)
    (pss_one (ps_ret (pe_tup (pa_cons (pe_ix ix_tup (pe_tup (pa_cons pe_str (pa_cons pe_str pa_nil))) (pe_op op_mulK (pe_op op_mod (pv 4) pe_int) (pe_callTy call_int1 rfl Z_int (by decide +kernel) (pa_cons (pv 2) pa_nil))) (fun _ _ => rfl)) pa_nil))))), ?_⟩
      intro i ms1 H1 hc1 sb1 e1
      have fin : ∀ (p p2 : Addr) (xs : List V) (x : Str) (t : Tr), t.size = 1 → H1 p = none → upd H1 p (.tup xs) p2 = none → Tu (upd (upd H1 p (.tup xs)) p2 (.tup [V.str x])) p2 t → Q (.ref p2) (upd (upd H1 p (.tup xs)) p2 (.tup [V.str x])) := fun p p2 xs x t ht hp hp2 tu => by
        have s1 := same_new hp (.tup xs)
        have s2 := same_new hp2 (.tup [V.str x])
        exact q p2 t ms1 _ (by rw [ht]; exact r1) hc1 (sb1.trans (SB.of (s1.trans s2))) (s2 _ _ (s1 _ _ e1)) tu
      refine ⟨_, rfl, _, _, rfl, rfl, (show (0 : Int) < 9 by decide), _, _, rfl, rfl, _, rfl, ?_⟩
      refine ite2 (fun g => ?_) (fun g => ?_)
      · have g1 : 6 < i / 16 % 9 := of_decide_eq_true g
        have g2 : i / 16 % 9 < 9 := Int.emod_lt_of_pos _ (by decide)
        refine ⟨(by show 2 ≤ sizeLine; decide), fun p hp => ?_⟩
        obtain ⟨z, hz, hzz⟩ := two_at (x := V.str "never") (y := V.str "always") (i / 16 % 9 - 7) (by omega)
        refine ⟨_, rfl, _, _, rfl, rfl, (show (0 : Int) < 9 by decide), _, _, rfl, rfl, _, _, _, _, rfl, rfl, SqT.of upd_same, hz, (by show 1 ≤ sizeLine; decide), fun p2 hp2 => ?_⟩
        rcases hzz with rfl | rfl
        · exact fin p p2 _ _ .never rfl hp hp2 (.never upd_same)
        · exact fin p p2 _ _ .always rfl hp hp2 (.always upd_same)
      · have g2 : i / 16 % 2 < 2 := Int.emod_lt_of_pos _ (by decide)
        have g3 : 0 ≤ i / 16 % 2 := Int.emod_nonneg _ (by decide)
        refine ⟨(by show 2 ≤ sizeLine; decide), fun p hp => ?_⟩
        have hi : i / 16 % 2 * (if b then 1 else 0) = 0 ∨ i / 16 % 2 * (if b then 1 else 0) = 1 := by cases b <;> simp <;> omega
        obtain ⟨z, hz, hzz⟩ := two_at (x := V.str "p") (y := V.str "q") (i / 16 % 2 * (if b then 1 else 0)) hi
        refine ⟨_, rfl, _, _, rfl, rfl, (show (0 : Int) < 2 by decide), _, rfl, .inr ⟨b, rfl, _, _, rfl, rfl, mul_ok_r (by cases b <;> decide +kernel), _, _, _, _, rfl, rfl, SqT.of upd_same, hz, (by show 1 ≤ sizeLine; decide), fun p2 hp2 => ?_⟩⟩
        rcases hzz with rfl | rfl
        · exact fin p p2 _ _ .lp rfl hp hp2 (.lp upd_same)
        · exact fin p p2 _ _ .lq rfl hp hp2 (.lq upd_same)
    obtain ⟨t4, ht4, hq4⟩ := tail4
    have tail3 : ∃ t, PSs (cxOf CX0 P w K mg base sayNames "_law_saying" (defScope sSaying) f cdv A outer s H E).nox ((defBody sSaying).drop 3) t ∧ ∀ (i : Int) (ms1 : List Int) (H1 : Hp), (∀ m ∈ ms1, Cel m) → SB (.ref l) H H1 → H1 l = some (.lst (ms1.map V.int)) →
        t { nx := fun _ H' => Q .non H', rt := Q } [some (.ref l), some (.int r), some (.bl b), some (.int i), some (.int (i / 16)), none, none, none] H1 := by
      refine ⟨_, pss_cons (ps_if (PW.pt (pw_and (pt_cmpR op_gt (pv 1) pe_int (nomark _)) (pw_and1 (pt_cmpR op_lt (pe_op op_mod (pv 3) pe_int) pe_int (nomark _))))) (pss_one (ps_ret (pe_tup (pa_cons pe_str (pa_cons (pe_def D_law_saying (hr.mono (by omega)) rfl (pa_cons (pv 0) (pa_cons (pe_op op_sub (pv 1) pe_int) (pa_cons (pv 2) pa_nil)))) pa_nil))))) pss_nil) ht4, ?_⟩
      intro i ms1 H1 hc1 sb1 e1
      refine ⟨_, rfl, _, _, rfl, rfl, _, rfl, ?_⟩
      refine ite2 (fun g => ?_) (fun g => ?_)
      · have g1 : 1 < r := of_decide_eq_true g
        refine ⟨_, rfl, _, _, rfl, rfl, (show (0 : Int) < 16 by decide), _, _, rfl, rfl, _, rfl, ?_⟩
        refine ite2 (fun g' => ?_) (fun g' => hq4 i ms1 H1 hc1 sb1 e1)
        refine ⟨_, rfl, _, rfl, _, _, rfl, rfl, _, rfl, l, ms1, r - 1, b, rfl, e1, hc1, by omega, by omega, fun a1 t1 ms2 H2 z1 hc2 sb2 e2 tu => ?_⟩
        refine ⟨(by show 2 ≤ sizeLine; decide), fun p hp => ?_⟩
        have s3 := same_new hp (.tup [V.str "not", .ref a1])
        exact q p (.no t1) ms2 _ (by show ((t1.size + 1 : Nat) : Int) ≤ r; omega) hc2 ((sb1.trans sb2).trans (SB.of s3)) (s3 _ _ e2) (.no upd_same (tu.to (Kp.of s3)))
      · exact iteF (hq4 i ms1 H1 hc1 sb1 e1)
    obtain ⟨t3, ht3, hq3⟩ := tail3
    refine ⟨_, pss_cons (ps_set (i := 3) nd rfl (Or.inl rfl) (pe_def D_law_next (hr.mono (by omega)) rfl (pa_cons (pv 0) pa_nil))) (pss_cons (ps_set (i := 4) nd rfl (Or.inl rfl) (pe_op op_fdiv (pv 3) pe_int)) (pss_cons (ps_if (PW.pt (pw_and (pt_cmpR op_gt (pv 1) pe_int (nomark _)) (pw_and1 (pt_cmpR op_gt (pe_op op_mod (pv 3) pe_int) pe_int (nomark _))))) (pss_cons (ps_set (i := 5) nd rfl (Or.inl rfl) (pe_op op_add pe_int (pe_op op_mod (pe_op op_fdiv (pv 4) pe_int) (pe_op op_sub (pv 1) pe_int))))
    (pss_cons (ps_set (i := 6) nd rfl (Or.inl rfl) (pe_def D_law_saying (hr.mono (by omega)) rfl (pa_cons (pv 0) (pa_cons (pv 5) (pa_cons (pv 2) pa_nil)))))
    (pss_cons (ps_set (i := 7) nd rfl (Or.inl rfl) (pe_ix ix_tup (pe_tup (pa_cons pe_str (pa_cons pe_str (pa_cons pe_str (pa_cons pe_str (pa_cons pe_str pa_nil)))))) (pe_op op_mod (pv 4) pe_int) (fun _ _ => rfl)))
    (pss_one (ps_ret (pe_tup (pa_cons (pv 7) (pa_cons (pv 6) (pa_cons (pe_def D_law_saying (hr.mono (by omega)) rfl (pa_cons (pv 0) (pa_cons (pe_op op_sub (pe_op op_sub (pv 1) pe_int) (pv 5)) (pa_cons (pv 2) pa_nil)))) pa_nil))))))))) pss_nil) ht3)), ?_⟩
    refine ⟨_, rfl, l, ms, rfl, e, hc, fun i ms1 H1 ci hc1 sb1 e1 => ?_⟩
    refine ⟨_, rfl, _, _, rfl, rfl, ⟨by decide, by decide⟩, ?_⟩
    refine ⟨_, rfl, _, _, rfl, rfl, _, rfl, ?_⟩
    refine ite2 (fun g => ?_) (fun g => iteF (hq3 i ms1 H1 hc1 sb1 e1))
    have g1 : 2 < r := of_decide_eq_true g
    refine ⟨_, rfl, _, _, rfl, rfl, (show (0 : Int) < 16 by decide), _, _, rfl, rfl, _, rfl, ?_⟩
    refine ite2 (fun g' => ?_) (fun g' => hq3 i ms1 H1 hc1 sb1 e1)
    have b1 : 0 ≤ i / 16 / 5 % (r - 2) := Int.emod_nonneg _ (by omega)
    have b2 : i / 16 / 5 % (r - 2) < r - 2 := Int.emod_lt_of_pos _ (by omega)
    refine ⟨_, rfl, _, _, rfl, rfl, ⟨by decide, by decide⟩, _, rfl, _, _, rfl, rfl, _, _, rfl, rfl, (show (0 : Int) < r - 2 by omega), _, _, rfl, rfl, ?_⟩
    refine ⟨_, rfl, _, rfl, _, rfl, l, ms1, _, b, rfl, e1, hc1, by omega, by omega, fun a1 x1 ms2 H2 z1 hc2 sb2 e2 tu1 => ?_⟩
    refine ⟨(by show 5 ≤ sizeLine; decide), fun p hp => ?_⟩
    obtain ⟨u, hu⟩ := word_at (i / 16 % 5) (Int.emod_nonneg _ (by decide)) (Int.emod_lt_of_pos _ (by decide))
    refine ⟨_, rfl, _, _, rfl, rfl, (show (0 : Int) < 5 by decide), _, _, _, _, rfl, rfl, SqT.of upd_same, hu, ?_⟩
    have s2 := same_new hp (.tup [V.str "more", .str "less", .str "greater", .str "lesser", .str "leads"])
    refine ⟨_, rfl, _, rfl, _, rfl, _, rfl, _, _, rfl, rfl, _, rfl, _, _, rfl, rfl, _, rfl, l, ms2, _, b, rfl, s2 _ _ e2, hc2, by omega, by omega, fun a2 x2 ms3 H3 z2 hc3 sb3 e3 tu2 => ?_⟩
    refine ⟨(by show 3 ≤ sizeLine; decide), fun p2 hp2 => ?_⟩
    have s4 := same_new hp2 (.tup [V.str u.str, .ref a1, .ref a2])
    have k3 : Kp (upd H2 p (.tup [V.str "more", .str "less", .str "greater", .str "lesser", .str "leads"])) H3 := sb3.kp (lst_fx (s2 _ _ e2))
    exact q p2 (.fold u x1 x2) ms3 _ (by show ((x1.size + x2.size + 1 : Nat) : Int) ≤ r; omega) hc3 ((((sb1.trans sb2).trans (SB.of s2)).trans sb3).trans (SB.of s4)) (s4 _ _ e3) (.fold upd_same (tu1.to (((Kp.of s2).trans k3).trans (Kp.of s4))) (tu2.to (Kp.of s4)))
end
end Mine

namespace Mine
open PySem L2
def spObj1 (c : CCs) (n : Nat) : Sp := fun vs H Q _ => ∃ (a : Addr) (t : Tr), vs = [.ref a] ∧ Tu H a t ∧ t.size ≤ n ∧ ∀ x H', Same H H' → Ob c H' x t → Q (.ref x) H'
section
variable {P : Program} {w : World} {K : PySem.W.Frag} {mg : Str → Option Value} {base : Heap} {c : CCs}
theorem sc_obj06 : FnScope ["_law_tree", "_law_one", "_law_other"] ["_law_tree"] (defScope sObject) := ⟨rfl, rfl, rfl, by decide +kernel, rfl, by decide +kernel, by decide +kernel⟩
theorem ok_obj06 (T : TopDef K mg "_law_object" sObject) (N_never : Mk0 K c.ne) (M_never : mg "Never" = some (.ref c.ne)) (N_always : Mk0 K c.al) (M_always : mg "Always" = some (.ref c.al)) (K_letter : MkOk P w K mg base "Letter" c.le 1 ["self", "name"] (spInit1 c.le fName)) (K_not : MkOk P w K mg base "Not" c.no 1 ["self", "part"] (spInit1 c.no fPart)) (K_fold : ∀ u : W5, MkOk P w K mg base u.cls (c.fold u) 1 ["self", "one", "other"] (spInit2 (c.fold u))) : ∀ n : Nat, Def P w K mg base (n + 3) "_law_object" ["_law_tree"] (spObj1 c n) := by
  intro n
  induction n with
  | zero =>
    refine def_of T sc_obj06 (fun _ _ _ _ _ _ us hl => match us, hl with | [_], _ => rfl) (fun vs H Q E h => ?_) (fun f cdv A outer s H vs Q E hr h => ?_)
    · obtain ⟨a, t, rfl, _⟩ := h
      rfl
    · obtain ⟨a, t, rfl, _, z, _⟩ := h
      have := t.size_pos
      omega
  | succ n D_law_object =>
    refine def_of T sc_obj06 (fun _ _ _ _ _ _ us hl => match us, hl with | [_], _ => rfl) (fun vs H Q E h => ?_) (fun f cdv A outer s H vs Q E hr h => ?_)
    · obtain ⟨a, t, rfl, _⟩ := h
      rfl
    obtain ⟨a, t, rfl, tu, hz, q⟩ := h
    have nd := sc_obj06.nd
    refine ⟨_, (pss_cons (ps_if (pt_cmpR op_eq (pe_ix ix_tup (pv 0) pe_int (fun _ _ => rfl)) pe_str (nomark _)) (pss_one (ps_ret (pe_makeN N_never rfl M_never))) pss_nil)
    (pss_cons (ps_if (pt_cmpR op_eq (pe_ix ix_tup (pv 0) pe_int (fun _ _ => rfl)) pe_str (nomark _)) (pss_one (ps_ret (pe_makeN N_always rfl M_always))) pss_nil)
    (pss_cons (ps_if (pt_cmpR op_in_seq (pe_ix ix_tup (pv 0) pe_int (fun _ _ => rfl)) (pe_tup (pa_cons pe_str (pa_cons pe_str pa_nil))) rfl) (pss_one (ps_ret (pe_mk K_letter (hr.mono (by omega)) rfl (pa_cons (pe_ix ix_tup (pv 0) pe_int (fun _ _ => rfl)) pa_nil)))) pss_nil)
    (pss_cons (ps_if (pt_cmpR op_eq (pe_ix ix_tup (pv 0) pe_int (fun _ _ => rfl)) pe_str (nomark _)) (pss_one (ps_ret (pe_mk K_not (hr.mono (by omega)) rfl (pa_cons (pe_def D_law_object (hr.mono (by omega)) rfl (pa_cons (pe_ix ix_tup (pv 0) pe_int (fun _ _ => rfl)) pa_nil)) pa_nil)))) pss_nil)
    (pss_cons (ps_set (i := 1) nd rfl (Or.inl rfl) (pe_def D_law_object (hr.mono (by omega)) rfl (pa_cons (pe_ix ix_tup (pv 0) pe_int (fun _ _ => rfl)) pa_nil)))
    (pss_cons (ps_set (i := 2) nd rfl (Or.inl rfl) (pe_def D_law_object (hr.mono (by omega)) rfl (pa_cons (pe_ix ix_tup (pv 0) pe_int (fun _ _ => rfl)) pa_nil)))
    (pss_cons (ps_if (pt_cmpR op_eq (pe_ix ix_tup (pv 0) pe_int (fun _ _ => rfl)) pe_str (nomark _)) (pss_one (ps_ret (pe_mk (K_fold .more) (hr.mono (by omega)) rfl (pa_cons (pv 1) (pa_cons (pv 2) pa_nil))))) pss_nil)
    (pss_cons (ps_if (pt_cmpR op_eq (pe_ix ix_tup (pv 0) pe_int (fun _ _ => rfl)) pe_str (nomark _)) (pss_one (ps_ret (pe_mk (K_fold .less) (hr.mono (by omega)) rfl (pa_cons (pv 1) (pa_cons (pv 2) pa_nil))))) pss_nil)
    (pss_cons (ps_if (pt_cmpR op_eq (pe_ix ix_tup (pv 0) pe_int (fun _ _ => rfl)) pe_str (nomark _)) (pss_one (ps_ret (pe_mk (K_fold .greater) (hr.mono (by omega)) rfl (pa_cons (pv 1) (pa_cons (pv 2) pa_nil))))) pss_nil)
    (pss_cons (ps_if (pt_cmpR op_eq (pe_ix ix_tup (pv 0) pe_int (fun _ _ => rfl)) pe_str (nomark _)) (pss_one (ps_ret (pe_mk (K_fold .lesser) (hr.mono (by omega)) rfl (pa_cons (pv 1) (pa_cons (pv 2) pa_nil))))) pss_nil)
    (pss_one (ps_ret (pe_mk (K_fold .leads) (hr.mono (by omega)) rfl (pa_cons (pv 1) (pa_cons (pv 2) pa_nil))))))))))))))), ?_⟩
    cases tu with
    | never e =>
      refine ⟨_, rfl, _, _, _, _, rfl, rfl, SqT.of e, rfl, rfl, _, rfl, ite_yes rfl (fun z dz h1 h2 ne => ?_)⟩
      exact q z _ (same_made0 (C := c.ne) h1 h2) (.never upd_same)
    | always e =>
      refine ⟨_, rfl, _, _, _, _, rfl, rfl, SqT.of e, rfl, rfl, _, rfl, ite_no (by decide +kernel) ?_⟩
      refine ⟨_, rfl, _, _, _, _, rfl, rfl, SqT.of e, rfl, rfl, _, rfl, ite_yes rfl (fun z dz h1 h2 ne => ?_)⟩
      exact q z _ (same_made0 (C := c.al) h1 h2) (.always upd_same)
    | lp e =>
      refine ⟨_, rfl, _, _, _, _, rfl, rfl, SqT.of e, rfl, rfl, _, rfl, ite_no (by decide +kernel) ?_⟩
      refine ⟨_, rfl, _, _, _, _, rfl, rfl, SqT.of e, rfl, rfl, _, rfl, ite_no (by decide +kernel) ?_⟩
      refine ⟨_, rfl, _, _, _, _, rfl, rfl, SqT.of e, rfl, (by show 2 ≤ sizeLine; decide), fun p hp => ⟨p, _, rfl, .inr (SqT.of upd_same), rfl, rfl, _, rfl, in_yes pq_p ?_⟩⟩
      have s0 := same_new hp (.tup [V.str "p", .str "q"])
      refine ⟨_, rfl, _, _, _, _, rfl, rfl, SqT.of (s0 _ _ e), rfl, fun z dz h1 h2 ne => ⟨z, dz, _, rfl, upd_same, rfl, ?_⟩⟩
      exact q z _ (s0.trans (same_made (C := c.le) (fs := fName (.str "p")) h1 h2 ne)) (.lp upd_same)
    | lq e =>
      refine ⟨_, rfl, _, _, _, _, rfl, rfl, SqT.of e, rfl, rfl, _, rfl, ite_no (by decide +kernel) ?_⟩
      refine ⟨_, rfl, _, _, _, _, rfl, rfl, SqT.of e, rfl, rfl, _, rfl, ite_no (by decide +kernel) ?_⟩
      refine ⟨_, rfl, _, _, _, _, rfl, rfl, SqT.of e, rfl, (by show 2 ≤ sizeLine; decide), fun p hp => ⟨p, _, rfl, .inr (SqT.of upd_same), rfl, rfl, _, rfl, in_yes pq_q ?_⟩⟩
      have s0 := same_new hp (.tup [V.str "p", .str "q"])
      refine ⟨_, rfl, _, _, _, _, rfl, rfl, SqT.of (s0 _ _ e), rfl, fun z dz h1 h2 ne => ⟨z, dz, _, rfl, upd_same, rfl, ?_⟩⟩
      exact q z _ (s0.trans (same_made (C := c.le) (fs := fName (.str "q")) h1 h2 ne)) (.lq upd_same)
    | @no _ b x e tb =>
      have hz' : x.size + 1 ≤ n + 1 := hz
      refine ⟨_, rfl, _, _, _, _, rfl, rfl, SqT.of e, rfl, rfl, _, rfl, ite_no (by decide +kernel) ?_⟩
      refine ⟨_, rfl, _, _, _, _, rfl, rfl, SqT.of e, rfl, rfl, _, rfl, ite_no (by decide +kernel) ?_⟩
      refine ⟨_, rfl, _, _, _, _, rfl, rfl, SqT.of e, rfl, (by show 2 ≤ sizeLine; decide), fun p hp => ⟨p, _, rfl, .inr (SqT.of upd_same), rfl, rfl, _, rfl, in_no pq_not ?_⟩⟩
      have s0 := same_new hp (.tup [V.str "p", .str "q"])
      refine ⟨_, rfl, _, _, _, _, rfl, rfl, SqT.of (s0 _ _ e), rfl, rfl, _, rfl, ite_yes rfl ?_⟩
      refine ⟨_, rfl, _, _, _, _, rfl, rfl, SqT.of (s0 _ _ e), rfl, b, x, rfl, tb.to (Kp.of s0), by omega, fun y H2 s2 oy => ?_⟩
      have s02 := s0.trans s2
      refine fun z dz h1 h2 ne => ⟨z, dz, _, rfl, upd_same, rfl, ?_⟩
      have sm := same_made (C := c.no) (fs := fPart (.ref y)) h1 h2 ne
      exact q z _ (s02.trans sm) (.no upd_same (oy.to (Kp.of sm)))
    | @fold _ b d u x y e tb td =>
      have hz' : x.size + y.size + 1 ≤ n + 1 := hz
      refine ⟨_, rfl, _, _, _, _, rfl, rfl, SqT.of e, rfl, rfl, _, rfl, ite_no (w_ne u) ?_⟩
      refine ⟨_, rfl, _, _, _, _, rfl, rfl, SqT.of e, rfl, rfl, _, rfl, ite_no (w_al u) ?_⟩
      refine ⟨_, rfl, _, _, _, _, rfl, rfl, SqT.of e, rfl, (by show 2 ≤ sizeLine; decide), fun p hp => ⟨p, _, rfl, .inr (SqT.of upd_same), rfl, rfl, _, rfl, in_no (pq_w u) ?_⟩⟩
      have s0 := same_new hp (.tup [V.str "p", .str "q"])
      refine ⟨_, rfl, _, _, _, _, rfl, rfl, SqT.of (s0 _ _ e), rfl, rfl, _, rfl, ite_no (w_not u) ?_⟩
      refine ⟨_, rfl, _, _, _, _, rfl, rfl, SqT.of (s0 _ _ e), rfl, b, x, rfl, tb.to (Kp.of s0), by omega, fun v1 H2 s2 o1 => ?_⟩
      have s02 := s0.trans s2
      refine ⟨_, rfl, _, _, _, _, rfl, rfl, SqT.of (s02 _ _ e), rfl, d, y, rfl, td.to (Kp.of s02), by omega, fun v2 H3 s3 o2 => ?_⟩
      have s03 := s02.trans s3
      have o1' := o1.to (Kp.of s3)
      have e3 := s03 _ _ e
      have fin : ∀ (z dz : Addr), H3 z = none → H3 dz = none → dz ≠ z → Q (.ref z) (upd (upd (upd H3 dz (.own z)) z (.ins (c.fold u) dz [])) z (.ins (c.fold u) dz (fTwo (.ref v1) (.ref v2)))) := fun z dz h1 h2 ne => made_fold (Q := Q) h1 h2 ne o1' o2 fun e' H' s' o' => q e' H' (s03.trans s') o'
      cases u
      · refine ⟨_, rfl, _, _, _, _, rfl, rfl, SqT.of e3, rfl, rfl, _, rfl, ite_yes rfl ?_⟩
        exact ⟨_, rfl, _, rfl, fun z dz h1 h2 ne => ⟨z, dz, _, _, rfl, upd_same, rfl, fin z dz h1 h2 ne⟩⟩
      · refine ⟨_, rfl, _, _, _, _, rfl, rfl, SqT.of e3, rfl, rfl, _, rfl, ite_no (by decide +kernel) ?_⟩
        refine ⟨_, rfl, _, _, _, _, rfl, rfl, SqT.of e3, rfl, rfl, _, rfl, ite_yes rfl ?_⟩
        exact ⟨_, rfl, _, rfl, fun z dz h1 h2 ne => ⟨z, dz, _, _, rfl, upd_same, rfl, fin z dz h1 h2 ne⟩⟩
      · refine ⟨_, rfl, _, _, _, _, rfl, rfl, SqT.of e3, rfl, rfl, _, rfl, ite_no (by decide +kernel) ?_⟩
        refine ⟨_, rfl, _, _, _, _, rfl, rfl, SqT.of e3, rfl, rfl, _, rfl, ite_no (by decide +kernel) ?_⟩
        refine ⟨_, rfl, _, _, _, _, rfl, rfl, SqT.of e3, rfl, rfl, _, rfl, ite_yes rfl ?_⟩
        exact ⟨_, rfl, _, rfl, fun z dz h1 h2 ne => ⟨z, dz, _, _, rfl, upd_same, rfl, fin z dz h1 h2 ne⟩⟩
      · refine ⟨_, rfl, _, _, _, _, rfl, rfl, SqT.of e3, rfl, rfl, _, rfl, ite_no (by decide +kernel) ?_⟩
        refine ⟨_, rfl, _, _, _, _, rfl, rfl, SqT.of e3, rfl, rfl, _, rfl, ite_no (by decide +kernel) ?_⟩
        refine ⟨_, rfl, _, _, _, _, rfl, rfl, SqT.of e3, rfl, rfl, _, rfl, ite_no (by decide +kernel) ?_⟩
        refine ⟨_, rfl, _, _, _, _, rfl, rfl, SqT.of e3, rfl, rfl, _, rfl, ite_yes rfl ?_⟩
        exact ⟨_, rfl, _, rfl, fun z dz h1 h2 ne => ⟨z, dz, _, _, rfl, upd_same, rfl, fin z dz h1 h2 ne⟩⟩
      · refine ⟨_, rfl, _, _, _, _, rfl, rfl, SqT.of e3, rfl, rfl, _, rfl, ite_no (by decide +kernel) ?_⟩
        refine ⟨_, rfl, _, _, _, _, rfl, rfl, SqT.of e3, rfl, rfl, _, rfl, ite_no (by decide +kernel) ?_⟩
        refine ⟨_, rfl, _, _, _, _, rfl, rfl, SqT.of e3, rfl, rfl, _, rfl, ite_no (by decide +kernel) ?_⟩
        refine ⟨_, rfl, _, _, _, _, rfl, rfl, SqT.of e3, rfl, rfl, _, rfl, ite_no (by decide +kernel) ?_⟩
        exact ⟨_, rfl, _, rfl, fun z dz h1 h2 ne => ⟨z, dz, _, _, rfl, upd_same, rfl, fin z dz h1 h2 ne⟩⟩
end
end Mine

namespace Mine
open PySem L2
section
variable {P : Program} {w : World} {K : PySem.W.Frag} {mg : Str → Option Value} {base : Heap} {c : CCs}
theorem sc_wholeL : FnScope ["_law_found"] ["_law_found"] (defScope sWhole) := ⟨rfl, rfl, rfl, by decide +kernel, rfl, by decide +kernel, by decide +kernel⟩
theorem ok_wholeL (T : TopDef K mg "_law_whole" sWhole) (Z_isinstance : mg "isinstance" = none) (Z_int : mg "int" = none) (Z_bool : mg "bool" = none) (kb : PySem.W.kitOne K (.type "int") (.type "bool") = some false) : Def P w K mg base 1 "_law_whole" ["_law_found"] spWholeL := by
  refine def_of T sc_wholeL (fun _ _ _ _ _ _ us hl => match us, hl with | [_], _ => rfl) (fun vs H Q E h => ?_) (fun f cdv A outer s H vs Q E hr h => ?_)
  · obtain ⟨i, rfl, _⟩ := h
    rfl
  obtain ⟨i, rfl, q⟩ := h
  have nd := sc_wholeL.nd
  refine ⟨_, (pss_one (ps_ret (pe_and (pe_callB call_isi rfl Z_isinstance (by decide +kernel) (pa_cons (pv 0) (pa_cons (pe_bltn (v := V.ty "int") rfl Z_int (by decide +kernel) rfl) pa_nil))) (pe_one (pe_not (pe_callB call_isi rfl Z_isinstance (by decide +kernel) (pa_cons (pv 0) (pa_cons (pe_bltn (v := V.ty "bool") rfl Z_bool (by decide +kernel) rfl) pa_nil)))))))), ?_⟩
  exact ⟨_, rfl, _, _, _, _, true, rfl, (fun _ h => h), TyOf.int _, kit_same, _, rfl, iteT ⟨_, rfl, _, _, _, _, false, rfl, (fun _ h => h), TyOf.int _, kb, _, rfl, q⟩⟩

end
end Mine




set_option Elab.async false
set_option linter.all false
set_option maxRecDepth 100000
set_option maxHeartbeats 4000000
namespace Mine
open PySem L2
structure Ms (P : Program) (w : World) (K : PySem.W.Frag) (mg : Str → Option Value) (base : Heap) (c : CCs) : Prop where
  made : ∀ t, MethOk P w K mg base (c.of t) "made_of" 1 ["self"] (spMade c t)
  word : ∀ t, MethOk P w K mg base (c.of t) "making_word" 1 ["self"] (spWord c t)
  pieces : ∀ t, MethOk P w K mg base (c.of t) "pieces" 2 ["self"] (spPieces c t)
end Mine

namespace Mine
open PySem L2
section
variable {P : Program} {w : World} {K : PySem.W.Frag} {mg : Str → Option Value} {base : Heap} {c : CCs}
theorem sc_laid : FnScope ["self", "laid", "waiting", "part"] ["self"] (defScope sLaid) := ⟨rfl, rfl, rfl, by decide +kernel, rfl, by decide +kernel, by decide +kernel⟩
theorem ok_laid {C : Addr} {t : Tr} (T : MethF K C "laid_out" "Saying.laid_out" sLaid) (M : Ms P w K mg base c) : MethOk P w K mg base C "laid_out" 2 ["self"] (spLaid c t) := by
  refine meth_of T sc_laid (fun _ _ _ _ _ _ us hl => match us, hl with | [_], _ => rfl) (fun vs H Q E h => ?_) (fun f cdv A outer s H vs Q E hr h => ?_)
  · obtain ⟨a, rfl, _⟩ := h
    rfl
  obtain ⟨a, rfl, oa, ht, q⟩ := h
  have nd := sc_laid.nd
  refine ⟨_, (pss_cons (ps_set (i := 1) nd rfl (Or.inl rfl) (pe_lst pa_nil))
    (pss_cons (ps_set (i := 2) nd rfl (Or.inl rfl) (pe_lst (pa_cons (pv 0) pa_nil)))
    (pss_cons (ps_while PassesOwn.never (pt_truth (pv 2) (fun _ => rfl)) (pss_cons (ps_set (i := 3) nd rfl (Or.inl rfl) (pe_bm0 PySem.F.plainAttrs_list PySem.F.slot_list_pop PySem.F.type_list_pop mt_pop (pv 2)))
    (pss_cons (ps_expr (pe_bm PySem.F.plainAttrs_list PySem.F.slot_list_append PySem.F.type_list_append mt_append (pv 1) (pa_cons (pv 3) pa_nil)))
    (pss_one (ps_expr (pe_bm PySem.F.plainAttrs_list PySem.F.slot_list_extend PySem.F.type_list_extend mt_extend (pv 2) (pa_cons (pe_methD0 (k := 1) (pv 3) (hr.mono (by decide))) pa_nil)))))))
    (pss_cons (ps_expr (pe_bm0 PySem.F.plainAttrs_list PySem.F.slot_list_reverse PySem.F.type_list_reverse mt_reverse (pv 1)))
    (pss_one (ps_ret (pv 1))))))), ?_⟩
  refine ⟨(by show 0 ≤ sizeLine; decide), fun l1 h1 => ?_⟩
  refine ⟨_, rfl, (by show 1 ≤ sizeLine; decide), fun l2 h2' => ?_⟩
  have h2 : H l2 = none := upd_none h2'
  have n12 : l1 ≠ l2 := fun e => by subst e; rw [upd_same] at h2'; cases h2'
  have smI : Same H (upd (upd H l1 (.lst [])) l2 (.lst [.ref a])) := fun b o e => by rw [upd_ne (ne_of_none e h2), upd_ne (ne_of_none e h1)]; exact e
  refine ⟨fun m σ H' => ∃ (L W : List V) (Lt Wt : List Tr) (o : Option V), σ = [some (.ref a), some (.ref l1), some (.ref l2), o] ∧ Same H H' ∧ H' l1 = some (.lst L) ∧ H' l2 = some (.lst W) ∧ All2 (ObV c H') L Lt ∧ All2 (ObV c H') W Wt ∧
      Lt ++ (Wt.reverse.flatMap fun x => x.post.reverse) = t.post.reverse ∧ m = sizes Wt,
    ⟨_, [], [.ref a], [], [t], _, rfl, smI, by rw [upd_ne n12, upd_same], upd_same, .nil, .cons ⟨a, rfl, oa.to (Kp.of smI)⟩ .nil, by simp, rfl⟩, ?_⟩
  rintro m σ H' ⟨L, W, Lt, Wt, o, rfl, sm, e1, e2, oL, oW, hp, rfl⟩
  have hlen : Lt.length + sizes Wt = t.size := by
    have z := congrArg List.length hp
    rw [List.length_append, flat_len, sizes_rev, List.length_reverse, post_len] at z
    exact z
  have hLl := oL.len
  by_cases hw : W = []
  · subst hw
    cases oW
    refine ⟨_, rfl, false, .inl ⟨[], SqL.of e2, rfl⟩, iteF ?_⟩
    refine ⟨_, rfl, .inl ⟨rfl, _, SqL.of e1⟩, l1, _, rfl, rfl, e1, ?_⟩
    have eL : Lt = t.post.reverse := by simpa using hp
    have kp := kp_mut (u := .lst L.reverse) e1 rfl
    refine ⟨_, rfl, q l1 L.reverse _ (fun b o z => ?_) h1 upd_same ?_⟩
    · rw [upd_ne (ne_of_none z h1)]; exact sm b o z
    · have := (oL.imp (ObV.to kp)).rev
      rw [eL, List.reverse_reverse] at this
      exact this
  · obtain ⟨W', v, Wt', x, rfl, rfl, ⟨b, rfl, ob⟩, oW'⟩ := oW.last hw
    refine ⟨_, rfl, true, .inl ⟨_, SqL.of e2, by cases W' <;> rfl⟩, iteT ?_⟩
    have sz : sizes (Wt' ++ [x]) = sizes Wt' + x.size := by rw [sizes_app]; simp [sizes]
    refine ⟨fun σ' H'' => ∃ m', m' < sizes (Wt' ++ [x]) ∧ ∃ (L W : List V) (Lt Wt : List Tr) (o : Option V), σ' = [some (.ref a), some (.ref l1), some (.ref l2), o] ∧ Same H H'' ∧ H'' l1 = some (.lst L) ∧ H'' l2 = some (.lst W) ∧ All2 (ObV c H'') L Lt ∧ All2 (ObV c H'') W Wt ∧
      Lt ++ (Wt.reverse.flatMap fun x => x.post.reverse) = t.post.reverse ∧ m' = sizes Wt, fun _ _ z => z, ?_⟩
    refine ⟨_, rfl, .inl ⟨rfl, _, SqL.of e2⟩, l2, _, _, rfl, rfl, e2, snoc_last _ _, ?_⟩
    rw [List.dropLast_concat]
    have e1' : upd H' l2 (.lst W') l1 = some (.lst L) := by rw [upd_ne n12]; exact e1
    refine ⟨_, rfl, .inl ⟨rfl, _, SqL.of e1'⟩, _, rfl, l1, _, _, rfl, rfl, e1', by rw [hLl]; exact Nat.lt_of_le_of_lt (show Lt.length ≤ 1000 by omega) (by decide), ?_⟩
    have k1 : Kp H' (upd (upd H' l2 (.lst W')) l1 (.lst (L ++ [.ref b]))) := (kp_mut e2 rfl).trans (kp_mut e1' rfl)
    have e2' : upd (upd H' l2 (.lst W')) l1 (.lst (L ++ [.ref b])) l2 = some (.lst W') := by rw [upd_ne n12.symm, upd_same]
    have ob1 := ob.to k1
    obtain ⟨dx, fs, eb, nf⟩ := ob1.cls
    refine ⟨_, rfl, .inl ⟨rfl, _, SqL.of e2'⟩, _, rfl, b, _, _, _, _, _, rfl, eb, nf _ (by decide +kernel), M.made x, b, rfl, ob1, fun l us hl ou => ?_⟩
    have nl2 : l2 ≠ l := ne_of_none e2' hl
    have nl1 : l1 ≠ l := ne_of_none (upd_same (H := upd H' l2 (.lst W'))) hl
    have e2'' : upd (upd (upd H' l2 (.lst W')) l1 (.lst (L ++ [.ref b]))) l (.lst us) l2 = some (.lst W') := by rw [upd_ne nl2]; exact e2'
    have hWl := oW'.len
    have hul := ou.len
    have hkl := kids_len x
    have hWs := len_sizes Wt'
    refine ⟨l2, l, _, _, rfl, rfl, e2'', upd_same, by rw [hWl, hul]; exact Nat.le_trans (show _ ≤ 1002 by omega) (by decide), ?_⟩
    have k2 : Kp (upd (upd H' l2 (.lst W')) l1 (.lst (L ++ [.ref b]))) (upd (upd (upd (upd H' l2 (.lst W')) l1 (.lst (L ++ [.ref b]))) l (.lst us)) l2 (.lst (W' ++ us))) := (kp_new hl _).trans (kp_mut e2'' rfl)
    have k3 := k1.trans k2
    have ks := kids_size x
    refine ⟨sizes (Wt' ++ x.kids), by rw [sz, sizes_app]; omega, L ++ [.ref b], W' ++ us, Lt ++ [x], Wt' ++ x.kids, _, rfl, fun d o z => ?_, by rw [upd_ne n12, upd_ne nl1, upd_same], upd_same, (oL.imp (ObV.to k3)).app (.cons ⟨b, rfl, ob.to k3⟩ .nil), (oW'.imp (ObV.to k3)).app (ou.imp (ObV.to k2)), ?_, rfl⟩
    · have z1 : upd (upd H' l2 (.lst W')) l1 (.lst (L ++ [.ref b])) d = some o := by rw [upd_ne (ne_of_none z h1), upd_ne (ne_of_none z h2)]; exact sm d o z
      rw [upd_ne (ne_of_none z h2), upd_ne (ne_of_none z1 hl)]
      exact z1
    · rw [← hp]
      simp only [List.reverse_append, List.flatMap_append, List.reverse_cons, List.reverse_nil, List.nil_append, List.append_assoc, List.flatMap_cons, List.flatMap_nil, List.append_nil, List.singleton_append, post_rev x, List.cons_append]
end
end Mine

namespace Mine
open PySem L2
def spParts (c : CCs) (t : Tr) : Sp := fun vs H Q _ => ∃ a, vs = [.ref a] ∧ Ob c H a t ∧ t.size ≤ 1000 ∧ ∀ H', Same H H' → Q (.int (t.size : Int)) H'
section
variable {P : Program} {w : World} {K : PySem.W.Frag} {mg : Str → Option Value} {base : Heap} {c : CCs}
theorem sc_parts : FnScope ["self"] ["self"] (defScope s_Saying_parts) := ⟨rfl, rfl, rfl, by decide +kernel, rfl, by decide +kernel, by decide +kernel⟩
theorem ok_parts {C : Addr} {t : Tr} (T : MethF K C "parts" "Saying.parts" s_Saying_parts) (Z_len : mg "len" = none) (GL : ∀ t, MethOk P w K mg base (c.of t) "laid_out" 2 ["self"] (spLaid c t)) : MethOk P w K mg base C "parts" 3 ["self"] (spParts c t) := by
  refine meth_of T sc_parts (fun _ _ _ _ _ _ us hl => match us, hl with | [_], _ => rfl) (fun vs H Q E h => ?_) (fun f cdv A outer s H vs Q E hr h => ?_)
  · obtain ⟨a, rfl, _⟩ := h
    rfl
  obtain ⟨a, rfl, oa, ht, q⟩ := h
  have nd := sc_parts.nd
  refine ⟨_, (pss_one (ps_ret (pe_callB call_len rfl Z_len (by decide +kernel) (pa_cons (pe_methD0 (k := 2) (pv 0) (hr.mono (by omega))) pa_nil)))), ?_⟩
  obtain ⟨dx, fs, ea, nf⟩ := oa.cls
  refine ⟨_, rfl, a, _, _, _, _, _, rfl, ea, nf _ (by decide +kernel), GL t, a, rfl, oa, ht, fun l us H' sm hl el ou => ?_⟩
  have e := ou.len
  rw [post_len] at e
  refine ⟨_, _, rfl, .inl ⟨_, SqL.of el, rfl⟩, ?_⟩
  show Q (.int ((us.length : Nat) : Int)) H'
  rw [e]
  exact q H' sm
end
end Mine

namespace Mine
open PySem L2
section
variable {P : Program} {w : World} {K : PySem.W.Frag} {mg : Str → Option Value} {base : Heap} {c : CCs}
theorem sc_told : FnScope ["self", "words", "waiting", "piece"] ["self"] (defScope sTold) := ⟨rfl, rfl, rfl, by decide +kernel, rfl, by decide +kernel, by decide +kernel⟩
theorem ok_told {C : Addr} {t : Tr} (T : MethF K C "told" "Saying.told" sTold) (F : Fx K c) (M : Ms P w K mg base c) (Z_isinstance : mg "isinstance" = none) (Z_str : mg "str" = none) (Z_list : mg "list" = none) (Z_reversed : mg "reversed" = none) :
    MethOk P w K mg base C "told" 3 ["self"] (spTold c t) := by
  refine meth_of T sc_told (fun _ _ _ _ _ _ us hl => match us, hl with | [_], _ => rfl) (fun vs H Q E h => ?_) (fun f cdv A outer s H vs Q E hr h => ?_)
  · obtain ⟨a, rfl, _⟩ := h
    rfl
  obtain ⟨a, rfl, oa, ht, q⟩ := h
  have nd := sc_told.nd
  refine ⟨_, (pss_cons (ps_set (i := 1) nd rfl (Or.inl rfl) (pe_lst pa_nil))
    (pss_cons (ps_set (i := 2) nd rfl (Or.inl rfl) (pe_lst (pa_cons (pv 0) pa_nil)))
    (pss_cons (ps_while PassesOwn.never (pt_truth (pv 2) (fun _ => rfl)) (pss_cons (ps_set (i := 3) nd rfl (Or.inl rfl) (pe_bm0 PySem.F.plainAttrs_list PySem.F.slot_list_pop PySem.F.type_list_pop mt_pop (pv 2)))
    (pss_one (ps_if (pt_val (pe_callB call_isi rfl Z_isinstance (by decide +kernel) (pa_cons (pv 3) (pa_cons (pe_bltn (v := V.ty "str") rfl Z_str (by decide +kernel) rfl) pa_nil)))) (pss_one (ps_expr (pe_bm PySem.F.plainAttrs_list PySem.F.slot_list_append PySem.F.type_list_append mt_append (pv 1) (pa_cons (pv 3) pa_nil)))) (pss_one (ps_expr (pe_bm PySem.F.plainAttrs_list PySem.F.slot_list_extend PySem.F.type_list_extend mt_extend (pv 2) (pa_cons (pe_listRev rfl rfl Z_list rfl Z_reversed (pe_methD0 (k := 2) (pv 3) (hr.mono (by decide)))) pa_nil))))))))
    (pss_one (ps_ret (pe_bm PySem.F.plainAttrs_str PySem.F.slot_str_join PySem.F.type_str_join mt_join pe_str (pa_cons (pv 1) pa_nil))))))), ?_⟩
  refine ⟨(by show 0 ≤ sizeLine; decide), fun l1 h1 => ?_⟩
  refine ⟨_, rfl, (by show 1 ≤ sizeLine; decide), fun l2 h2' => ?_⟩
  have h2 : H l2 = none := upd_none h2'
  have n12 : l1 ≠ l2 := fun e => by subst e; rw [upd_same] at h2'; cases h2'
  have smI : Same H (upd (upd H l1 (.lst [])) l2 (.lst [.ref a])) := fun b o e => by rw [upd_ne (ne_of_none e h2), upd_ne (ne_of_none e h1)]; exact e
  refine ⟨fun m σ H' => ∃ (L : List Str) (W : List V) (Wt : List Pc) (o : Option V), σ = [some (.ref a), some (.ref l1), some (.ref l2), o] ∧ Same H H' ∧ H' l1 = some (.lst (L.map V.str)) ∧ H' l2 = some (.lst W) ∧ All2 (PcV c H') W Wt ∧
      L ++ Wt.reverse.flatMap Pc.flat = t.words ∧ wts Wt ≤ 4 * t.size ∧ m = wts Wt,
    ⟨_, [], [.ref a], [.t t], _, rfl, smI, by rw [upd_ne n12, upd_same]; rfl, upd_same, .cons (.t (oa.to (Kp.of smI))) .nil, by simp [Pc.flat], by simp [wts, Pc.wt], rfl⟩, ?_⟩
  rintro m σ H' ⟨L, W, Wt, o, rfl, sm, e1, e2, oW, hp, hb, rfl⟩
  have hLn : L.length ≤ 4000 := by
    have z := congrArg List.length hp
    rw [List.length_append] at z
    have z2 := words_len t
    omega
  by_cases hw : W = []
  · subst hw
    cases oW
    refine ⟨_, rfl, false, .inl ⟨[], SqL.of e2, rfl⟩, iteF ?_⟩
    have eL : L = t.words := by simpa using hp
    subst eL
    have ws := words_sum t
    refine ⟨rfl, _, rfl, _, l1, t.words, rfl, rfl, SqL.of e1, by omega, ?_⟩
    rw [text_told]
    exact q _ sm
  · obtain ⟨W', v, Wt', x, rfl, rfl, px, oW'⟩ := oW.last hw
    refine ⟨_, rfl, true, .inl ⟨_, SqL.of e2, by cases W' <;> rfl⟩, iteT ?_⟩
    have sz : wts (Wt' ++ [x]) = wts Wt' + x.wt := by rw [wts_app]; simp [wts]
    refine ⟨fun σ' H'' => ∃ m', m' < wts (Wt' ++ [x]) ∧ ∃ (L : List Str) (W : List V) (Wt : List Pc) (o : Option V), σ' = [some (.ref a), some (.ref l1), some (.ref l2), o] ∧ Same H H'' ∧ H'' l1 = some (.lst (L.map V.str)) ∧ H'' l2 = some (.lst W) ∧ All2 (PcV c H'') W Wt ∧
      L ++ Wt.reverse.flatMap Pc.flat = t.words ∧ wts Wt ≤ 4 * t.size ∧ m' = wts Wt, fun _ _ z => z, ?_⟩
    refine ⟨_, rfl, .inl ⟨rfl, _, SqL.of e2⟩, l2, _, _, rfl, rfl, e2, snoc_last _ _, ?_⟩
    rw [List.dropLast_concat]
    have e1' : upd H' l2 (.lst W') l1 = some (.lst (L.map V.str)) := by rw [upd_ne n12]; exact e1
    have k0 : Kp H' (upd H' l2 (.lst W')) := kp_mut e2 rfl
    cases px with
    | w y =>
      refine ⟨_, rfl, _, _, _, _, true, rfl, (fun _ h => h), TyOf.str _, kit_same, _, rfl, iteT ?_⟩
      refine ⟨_, rfl, .inl ⟨rfl, _, SqL.of e1'⟩, _, rfl, l1, _, _, rfl, rfl, e1', by rw [List.length_map]; exact Nat.lt_of_le_of_lt hLn (by decide), ?_⟩
      have k1 := k0.trans (kp_mut (u := .lst (L.map V.str ++ [.str y])) e1' rfl)
      refine ⟨wts Wt', by rw [sz]; exact Nat.lt_succ_self _, L ++ [y], W', Wt', _, rfl, fun d o z => ?_, by rw [upd_same, List.map_append]; rfl, by rw [upd_ne n12.symm, upd_same], oW'.imp (PcV.to k1), ?_, by rw [sz] at hb; omega, rfl⟩
      · rw [upd_ne (ne_of_none z h1), upd_ne (ne_of_none z h2)]; exact sm d o z
      · rw [← hp]
        simp [Pc.flat]
    | @t b x ob =>
      have ob0 := ob.to k0
      refine ⟨_, rfl, _, _, _, _, false, rfl, (fun _ h => h), F.ty ob0, F.ks x, _, rfl, iteF ?_⟩
      obtain ⟨dx, fs, eb, nf⟩ := ob0.cls
      refine ⟨_, rfl, .inl ⟨rfl, _, SqL.of upd_same⟩, _, rfl, b, _, _, _, _, _, rfl, eb, nf _ (by decide +kernel), M.pieces x, b, rfl, ob0, fun l us hl ou => ?_⟩
      refine ⟨l, us, rfl, upd_same, fun l' hl' => ?_⟩
      have nl2 : l2 ≠ l := ne_of_none (upd_same (H := H')) hl
      have nl2' : l2 ≠ l' := ne_of_none (show upd (upd H' l2 (.lst W')) l (.lst us) l2 = some (.lst W') by rw [upd_ne nl2, upd_same]) hl'
      have e2'' : upd (upd (upd H' l2 (.lst W')) l (.lst us)) l' (.lst us.reverse) l2 = some (.lst W') := by rw [upd_ne nl2', upd_ne nl2, upd_same]
      have hWl := oW'.len
      have hul := ou.len
      have hpl := pcs_len x
      have hWs := len_wts Wt'
      refine ⟨l2, l', _, _, rfl, rfl, e2'', upd_same, by rw [hWl, List.length_reverse, hul]; exact Nat.le_trans (show _ ≤ 4005 by rw [sz] at hb; omega) (by decide), ?_⟩
      have k2 : Kp (upd H' l2 (.lst W')) (upd (upd (upd (upd H' l2 (.lst W')) l (.lst us)) l' (.lst us.reverse)) l2 (.lst (W' ++ us.reverse))) := ((kp_new hl _).trans (kp_new hl' _)).trans (kp_mut e2'' rfl)
      have k3 := k0.trans k2
      have pw := pieces_wt x
      have lt : wts (Wt' ++ x.pieces.reverse) < wts (Wt' ++ [Pc.t x]) := by rw [sz, wts_app, wts_rev]; show _ < wts Wt' + 4 * x.size; omega
      have nl1 : l1 ≠ l := ne_of_none e1' hl
      have nl1' : l1 ≠ l' := ne_of_none (show upd (upd H' l2 (.lst W')) l (.lst us) l1 = some (.lst (L.map V.str)) by rw [upd_ne nl1]; exact e1') hl'
      refine ⟨wts (Wt' ++ x.pieces.reverse), lt, L, W' ++ us.reverse, Wt' ++ x.pieces.reverse, _, rfl, fun d o z => ?_, by rw [upd_ne n12, upd_ne nl1', upd_ne nl1]; exact e1', upd_same, (oW'.imp (PcV.to k3)).app ((ou.imp (PcV.to k2)).rev), ?_, by omega, rfl⟩
      · have z1 : upd H' l2 (.lst W') d = some o := by rw [upd_ne (ne_of_none z h2)]; exact sm d o z
        have z2 : upd (upd H' l2 (.lst W')) l (.lst us) d = some o := by rw [upd_ne (ne_of_none z1 hl)]; exact z1
        rw [upd_ne (ne_of_none z h2), upd_ne (ne_of_none z2 hl')]
        exact z2
      · rw [← hp]
        simp only [List.reverse_append, List.reverse_reverse, List.flatMap_append, List.reverse_cons, List.reverse_nil, List.nil_append, List.flatMap_cons, List.flatMap_nil, List.append_nil, pieces_flat, Pc.flat]
end
end Mine

namespace Mine
open PySem L2
section
variable {P : Program} {w : World} {K : PySem.W.Frag} {mg : Str → Option Value} {base : Heap} {c : CCs}
theorem sc_text : FnScope ["_law_tree"] ["_law_tree"] (defScope sText) := ⟨rfl, rfl, rfl, by decide +kernel, rfl, by decide +kernel, by decide +kernel⟩
theorem ok_text (T : TopDef K mg "_law_text" sText) (Z_len : mg "len" = none) : ∀ n : Nat, Def P w K mg base (n + 1) "_law_text" ["_law_tree"] (spText n) := by
  intro n
  induction n with
  | zero =>
    refine def_of T sc_text (fun _ _ _ _ _ _ us hl => match us, hl with | [_], _ => rfl) (fun vs H Q E h => ?_) (fun f cdv A outer s H vs Q E hr h => ?_)
    · obtain ⟨a, t, rfl, _⟩ := h
      rfl
    · obtain ⟨a, t, rfl, _, z, _⟩ := h
      have := t.size_pos
      omega
  | succ n D_law_text =>
    refine def_of T sc_text (fun _ _ _ _ _ _ us hl => match us, hl with | [_], _ => rfl) (fun vs H Q E h => ?_) (fun f cdv A outer s H vs Q E hr h => ?_)
    · obtain ⟨a, t, rfl, _⟩ := h
      rfl
    obtain ⟨a, t, rfl, tu, hz, hk, q⟩ := h
    have nd := sc_text.nd
    refine ⟨_, (pss_cons (ps_if (pt_cmpR op_eq (pe_callB call_len rfl Z_len (by decide +kernel) (pa_cons (pv 0) pa_nil)) pe_int (nomark _)) (pss_one (ps_ret (pe_ix ix_tup (pv 0) pe_int (fun _ _ => rfl)))) pss_nil)
    (pss_cons (ps_if (pt_cmpR op_eq (pe_ix ix_tup (pv 0) pe_int (fun _ _ => rfl)) pe_str (nomark _)) (pss_one (ps_ret (pe_op op_add_str pe_str (pe_def D_law_text (hr.mono (by omega)) rfl (pa_cons (pe_ix ix_tup (pv 0) pe_int (fun _ _ => rfl)) pa_nil))))) pss_nil)
    (pss_one (ps_ret (pe_op op_add_str (pe_op op_add_str (pe_op op_add_str (pe_op op_add_str (pe_op op_add_str (pe_op op_add_str pe_str (pe_def D_law_text (hr.mono (by omega)) rfl (pa_cons (pe_ix ix_tup (pv 0) pe_int (fun _ _ => rfl)) pa_nil))) pe_str) (pe_ix ix_tup (pv 0) pe_int (fun _ _ => rfl))) pe_str) (pe_def D_law_text (hr.mono (by omega)) rfl (pa_cons (pe_ix ix_tup (pv 0) pe_int (fun _ _ => rfl)) pa_nil))) pe_str))))), ?_⟩
    have leaf : ∀ x : Str, H a = some (.tup [.str x]) → Q (.str x) H → ∀ B : Prop, ∃ v, [some (V.ref a)][0]? = some (some v) ∧ True := fun _ _ _ _ => ⟨_, rfl, trivial⟩
    cases tu with
    | never e => exact ⟨_, rfl, _, _, rfl, .inr ⟨_, SqT.of e, rfl⟩, rfl, _, rfl, ite2 (fun _ => ⟨_, rfl, _, _, _, _, rfl, rfl, SqT.of e, rfl, q⟩) (fun z => absurd (decide_eq_true rfl) z)⟩
    | always e => exact ⟨_, rfl, _, _, rfl, .inr ⟨_, SqT.of e, rfl⟩, rfl, _, rfl, ite2 (fun _ => ⟨_, rfl, _, _, _, _, rfl, rfl, SqT.of e, rfl, q⟩) (fun z => absurd (decide_eq_true rfl) z)⟩
    | lp e => exact ⟨_, rfl, _, _, rfl, .inr ⟨_, SqT.of e, rfl⟩, rfl, _, rfl, ite2 (fun _ => ⟨_, rfl, _, _, _, _, rfl, rfl, SqT.of e, rfl, q⟩) (fun z => absurd (decide_eq_true rfl) z)⟩
    | lq e => exact ⟨_, rfl, _, _, rfl, .inr ⟨_, SqT.of e, rfl⟩, rfl, _, rfl, ite2 (fun _ => ⟨_, rfl, _, _, _, _, rfl, rfl, SqT.of e, rfl, q⟩) (fun z => absurd (decide_eq_true rfl) z)⟩
    | @no _ b t e tb =>
      have zt : t.size + 1 ≤ n + 1 := hz
      have zk : t.size + 1 ≤ 1000 := hk
      have tl := text_len t
      refine ⟨_, rfl, _, _, rfl, .inr ⟨_, SqT.of e, rfl⟩, rfl, _, rfl, ite2 (fun z => absurd (V.int.inj (of_decide_eq_true z)) (show ¬ (((2 : Nat) : Int) = 1) by decide)) (fun _ => ?_)⟩
      refine ⟨_, rfl, _, _, _, _, rfl, rfl, SqT.of e, rfl, rfl, _, rfl, ite_yes rfl ?_⟩
      refine ⟨_, rfl, _, _, _, _, rfl, rfl, SqT.of e, rfl, b, t, rfl, tb, by omega, by omega, _, _, rfl, rfl, ?_, q⟩
      have h1 : ("not " : Str).length = 4 := by decide +kernel
      rw [h1]
      exact Nat.le_trans (show _ ≤ 100000 by omega) (by decide)
    | @fold _ b d u x y e tb td =>
      have zt : x.size + y.size + 1 ≤ n + 1 := hz
      have zk : x.size + y.size + 1 ≤ 1000 := hk
      have tl := text_len x
      have tl' := text_len y
      have wl := w_len u
      have h1 : ("( " : Str).length = 2 := by decide +kernel
      have h2 : (" " : Str).length = 1 := by decide +kernel
      have h3 : (" )" : Str).length = 2 := by decide +kernel
      have big : ∀ k : Nat, k ≤ 100000 → k ≤ sizeLine := fun k hk => Nat.le_trans hk (by decide)
      refine ⟨_, rfl, _, _, rfl, .inr ⟨_, SqT.of e, rfl⟩, rfl, _, rfl, ite2 (fun z => absurd (V.int.inj (of_decide_eq_true z)) (show ¬ (((3 : Nat) : Int) = 1) by decide)) (fun _ => ?_)⟩
      refine ⟨_, rfl, _, _, _, _, rfl, rfl, SqT.of e, rfl, rfl, _, rfl, ite_no (w_not u) ?_⟩
      refine ⟨_, rfl, _, _, _, _, rfl, rfl, SqT.of e, rfl, b, x, rfl, tb, by omega, by omega, _, _, rfl, rfl, big _ (by rw [h1]; omega), ?_⟩
      refine ⟨_, _, rfl, rfl, big _ (by simp only [Str.length_append, h1, h2]; omega), ?_⟩
      refine ⟨_, rfl, _, _, _, _, rfl, rfl, SqT.of e, rfl, _, _, rfl, rfl, big _ (by simp only [Str.length_append, h1, h2]; omega), ?_⟩
      refine ⟨_, _, rfl, rfl, big _ (by simp only [Str.length_append, h1, h2]; omega), ?_⟩
      refine ⟨_, rfl, _, _, _, _, rfl, rfl, SqT.of e, rfl, d, y, rfl, td, by omega, by omega, _, _, rfl, rfl, big _ (by simp only [Str.length_append, h1, h2]; omega), ?_⟩
      exact ⟨_, _, rfl, rfl, big _ (by simp only [Str.length_append, h1, h2, h3]; omega), q⟩
end
end Mine




set_option Elab.async false
set_option linter.all false
set_option maxRecDepth 100000
set_option maxHeartbeats 4000000
namespace Mine
open PySem L2
/-- a comprehension that keeps some: how many -/
theorem comp_cnt {K : PySem.W.Frag} {wi : TI} {tc : TT} {te : TE} {js : List Nat} {σ : St} {H : Hp} {Q : VK} {xs : List V} (bs : List Bool) (hb : bs.length = xs.length) (Src : Addr → Hp → Prop)
    (hwi : ∀ R : It → Hp → Prop, (∀ l H, Src l H → R (Itl K l) H) → wi σ H R) (hsrc : ∀ l H', Src l H' → H' l = some (.lst xs) ∧ Same H H') (hx : xs.length ≤ 1000)
    (ht : ∀ l H0 (i : Nat) v H' (N : Bool → Hp → Prop), Src l H0 → xs[i]? = some v → Same H0 H' → (∀ H'', Same H' H'' → N (bs.getD i false) H'') → tc (some v :: cVals js σ) H' N)
    (hs : ∀ (i : Nat) v H' (N : VK), xs[i]? = some v → Same H H' → (∀ H'', Same H' H'' → N v H'') → te (some v :: cVals js σ) H' N)
    (hd : ∀ D ys H', Same H H' → H D = none → H' D = some (.lst ys) → ys.length = bs.countP id → Q (.ref D) H') : tComp wi tc te js σ H Q := by
  refine hwi _ fun l H1 src => ?_
  intro D hD
  obtain ⟨e, s1⟩ := hsrc l H1 src
  have nl : l ≠ D := ne_of_none e hD
  have hD0 : H D = none := s1.free hD
  refine ⟨fun i m H' => m = xs.length - i ∧ i ≤ xs.length ∧ H' l = some (.lst xs) ∧ Same H1 H' ∧ ∃ ys, H' D = some (.lst ys) ∧ ys.length = (bs.take i).countP id, ⟨xs.length, rfl, Nat.zero_le _, by rw [upd_ne nl]; exact e, same_new hD _, [], upd_same, rfl⟩, ?_⟩
  rintro i m H2 ⟨rfl, hi, e2, s2, ys, eD, ly⟩
  have cle : (bs.take i).countP id ≤ i := Nat.le_trans List.countP_le_length (by rw [List.length_take]; omega)
  by_cases hlt : i < xs.length
  · refine .inr ⟨⟨xs, xs[i], SqL.of e2, by simp [hlt]⟩, fun v H3 y => ?_⟩
    obtain ⟨eh, y⟩ := y
    subst eh
    have hv := y xs (SqL.of e2)
    have hbi : i < bs.length := by omega
    have tk : bs.take (i + 1) = bs.take i ++ [bs.getD i false] := by
      rw [List.take_add_one, List.getElem?_eq_getElem hbi, List.getD_eq_getElem?_getD, List.getElem?_eq_getElem hbi]
      rfl
    have ct : (bs.take (i + 1)).countP id = (bs.take i).countP id + (if bs.getD i false = true then 1 else 0) := by
      rw [tk, List.countP_append]
      congr 1
      cases bs.getD i false <;> rfl
    refine ht l H1 i v _ _ src hv s2 fun H4 s4 => ?_
    by_cases hp : bs.getD i false = true
    · rw [if_pos hp] at ct
      rw [if_pos hp]
      refine hs i v H4 _ hv ((s1.trans s2).trans s4) fun H5 s5 => ?_
      have e5 := s5 _ _ (s4 _ _ eD)
      refine ⟨_, e5, Nat.lt_of_le_of_lt (show _ ≤ 1000 by omega) (by decide), xs.length - (i + 1), by omega, rfl, hlt, ?_, fun d u z => ?_, ys ++ [v], upd_same, by rw [ct, List.length_append, ly]; rfl⟩
      · rw [upd_ne nl]; exact s5 _ _ (s4 _ _ e2)
      · rw [upd_ne (ne_of_none z hD)]; exact s5 _ _ (s4 _ _ (s2 _ _ z))
    · rw [if_neg hp] at ct
      rw [if_neg hp]
      exact ⟨xs.length - (i + 1), by omega, rfl, hlt, s4 _ _ e2, s2.trans s4, ys, s4 _ _ eD, by rw [ct, ly]; rfl⟩
  · have ei : i = xs.length := by omega
    subst ei
    rw [← hb, List.take_length] at ly
    exact .inl ⟨⟨xs, SqL.of e2, Nat.le_refl _⟩, hd D ys H2 (s1.trans s2) hD0 eD ly⟩
def isF : Tr → Bool
  | .fold _ _ _ => true
  | _ => false
def Tr.nf (t : Tr) : Nat := (t.post.map isF).countP id
def spFoldsM (c : CCs) (t : Tr) : Sp := fun vs H Q _ => ∃ a, vs = [.ref a] ∧ Ob c H a t ∧ t.size ≤ 1000 ∧ ∀ H', Same H H' → Q (.int (t.nf : Int)) H'
section
variable {P : Program} {w : World} {K : PySem.W.Frag} {mg : Str → Option Value} {base : Heap} {c : CCs}
theorem sc_foldsM : FnScope ["self"] ["self"] (defScope s_Saying_folds) := ⟨rfl, rfl, rfl, by decide +kernel, rfl, by decide +kernel, by decide +kernel⟩
theorem ok_foldsM {C C_Fold : Addr} {t : Tr} (T : MethF K C "folds" "Saying.folds" s_Saying_folds) (Z_len : mg "len" = none) (Z_isinstance : mg "isinstance" = none) (M_Fold : mg "Fold" = some (.ref C_Fold)) (fx : Fx K c) (kf : ∀ t, PySem.W.kitOne K (.ref (c.of t)) (.ref C_Fold) = some (isF t)) (G : ∀ t, MethOk P w K mg base (c.of t) "laid_out" 2 ["self"] (spLaid c t)) : MethOk P w K mg base C "folds" 3 ["self"] (spFoldsM c t) := by
  refine meth_of T sc_foldsM (fun _ _ _ _ _ _ us hl => match us, hl with | [_], _ => rfl) (fun vs H Q E h => ?_) (fun f cdv A outer s H vs Q E hr h => ?_)
  · obtain ⟨a, rfl, _⟩ := h
    rfl
  obtain ⟨a, rfl, oa, ht, q⟩ := h
  have nd := sc_foldsM.nd
  obtain ⟨dx, fs, ea, nf⟩ := oa.cls
  refine ⟨_, (pss_one (ps_ret (pe_callB call_len rfl Z_len (by decide +kernel) (pa_cons (pe_compF rfl (pi_list (pe_methD0 (k := 2) (pv 0) (hr.mono (by omega)))) rfl (by decide +kernel) (by decide +kernel) rfl (show ∀ p ∈ Scope.names _, p.2 = NameKind.free → List.lookup p.1 (defScope s_Saying_folds).names = some .cell ∨ List.lookup p.1 (defScope s_Saying_folds).names = some .free by decide +kernel) fa_nil (show (["part"] : List Str).Nodup by decide +kernel) (fun _ _ _ _ => (pif_one (pt_val (pe_callB (call_isiK (K := K) rfl) rfl Z_isinstance (by decide +kernel) (pa_cons (pv 0) (pa_cons (pe_glob (v := V.ref C_Fold) rfl M_Fold rfl) pa_nil)))))) (fun _ _ _ _ => (pv 0))) pa_nil)))), ?_⟩
  dsimp only [tRet, tOp, tC, tCB, tCons, tNil]
  refine comp_from ?_
  refine ⟨_, rfl, a, _, _, _, _, _, rfl, ea, nf _ (by decide +kernel), G t, a, rfl, oa, ht, fun l us H1 s1 hl el ou => ⟨l, rfl, ⟨_, SqL.of el⟩, ?_⟩⟩
  have lu := ou.len
  have lp := post_len t
  refine comp_cnt (K := K) (t.post.map isF) (by rw [List.length_map, lu]) (fun l' H' => l' = l ∧ H' = H1) (fun R k => k l H1 ⟨rfl, rfl⟩) (fun l' H' z => by obtain ⟨rfl, rfl⟩ := z; exact ⟨el, Same.refl _⟩) (by omega) (fun l' H0 i v H2 N z hv s2 hN => ?_) (fun i v H2 N hv s2 hN => ⟨_, rfl, hN _ (Same.refl _)⟩) (fun D ys H2 s2 hD eD ly => ?_)
  · obtain ⟨rfl, rfl⟩ := z
    obtain ⟨x, hx, b, rfl, ob⟩ := (ou.imp (ObV.to (Kp.of s2))).get i v hv
    have e : (t.post.map isF).getD i false = isF x := by rw [List.getD_eq_getElem?_getD, List.getElem?_map, hx]; rfl
    rw [e] at hN
    exact ⟨_, rfl, _, _, _, _, _, rfl, (fun u z => z), fx.ty ob, kf x, _, rfl, hN _ (Same.refl _)⟩
  · refine ⟨_, _, rfl, .inl ⟨_, SqL.of eD, rfl⟩, ?_⟩
    rw [ly]
    exact q _ (s1.trans s2)
end
end Mine

namespace Mine
open PySem L2
def letN : Tr → Option Str
  | .lp => some "p"
  | .lq => some "q"
  | _ => none
def Tr.nm (t : Tr) : List Str := t.post.filterMap letN
def ltsOf (nm : List Str) : List Str := (if ("p" : Str) ∈ nm then [("p" : Str)] else []) ++ (if ("q" : Str) ∈ nm then [("q" : Str)] else [])
theorem nm_pq (t : Tr) : ∀ x ∈ t.nm, x = "p" ∨ x = "q" := by
  intro x hx
  obtain ⟨y, _, e⟩ := List.mem_filterMap.mp hx
  cases y with
  | lp => exact .inl (Option.some.inj e).symm
  | lq => exact .inr (Option.some.inj e).symm
  | _ => cases e
theorem nm_no (t : Tr) : (Tr.no t).nm = t.nm := by
  show (t.post ++ [Tr.no t]).filterMap letN = _
  rw [List.filterMap_append]
  show t.nm ++ [] = _
  rw [List.append_nil]
theorem nm_fold (u : W5) (a b : Tr) : (Tr.fold u a b).nm = a.nm ++ b.nm := by
  show (a.post ++ b.post ++ [Tr.fold u a b]).filterMap letN = _
  rw [List.filterMap_append, List.filterMap_append]
  show a.nm ++ b.nm ++ [] = _
  rw [List.append_nil]
theorem mem_words (x : Str) (hx : x = "p" ∨ x = "q") : ∀ t : Tr, x ∈ t.words ↔ x ∈ t.nm
  | .never => by rcases hx with rfl | rfl <;> decide +kernel
  | .always => by rcases hx with rfl | rfl <;> decide +kernel
  | .lp => by rcases hx with rfl | rfl <;> decide +kernel
  | .lq => by rcases hx with rfl | rfl <;> decide +kernel
  | .no t => by
    rw [nm_no, ← mem_words x hx t]
    show x ∈ ("not" : Str) :: t.words ↔ _
    have n : x ≠ "not" := by rcases hx with rfl | rfl <;> decide +kernel
    simp [n]
  | .fold u a b => by
    rw [nm_fold, List.mem_append, ← mem_words x hx a, ← mem_words x hx b]
    have n1 : x ≠ "(" := by rcases hx with rfl | rfl <;> decide +kernel
    have n2 : x ≠ ")" := by rcases hx with rfl | rfl <;> decide +kernel
    have n3 : x ≠ u.str := by rcases hx with rfl | rfl <;> cases u <;> decide +kernel
    simp [Tr.words, n1, n2, n3]
theorem in_nodup : ∀ (nm ks : List Str), ks.Nodup → (inOf ks nm).Nodup
  | [], _, h => h
  | k :: r, ks, h => by
    unfold inOf
    refine in_nodup r _ ?_
    split
    · exact h
    · rename_i n
      exact List.nodup_cons.mpr ⟨n, h⟩
theorem in_mem (x : Str) : ∀ (nm ks : List Str), x ∈ inOf ks nm ↔ x ∈ ks ∨ x ∈ nm
  | [], ks => by simp [inOf]
  | k :: r, ks => by
    unfold inOf
    rw [in_mem x r, List.mem_cons]
    split
    · rename_i n
      constructor
      · rintro (h | h)
        · exact .inl h
        · exact .inr (.inr h)
      · rintro (h | rfl | h)
        · exact .inl h
        · exact .inl n
        · exact .inr h
    · rw [List.mem_cons, or_comm (a := x = k), or_assoc]
theorem in_len (nm : List Str) : ∀ ks : List Str, (inOf ks nm).length ≤ ks.length + nm.length := by
  induction nm with
  | nil => intro ks; exact Nat.le_refl _
  | cons k r ih =>
    intro ks
    unfold inOf
    refine Nat.le_trans (ih _) ?_
    split
    · simp
    · simp; omega
theorem let_sort {ss nm : List Str} (hn : ∀ x ∈ nm, x = "p" ∨ x = "q") (hp : List.Perm ss (inOf [] nm)) (hs : PyProof.Rows.sortedS ss = true) : ss = ltsOf nm := by
  have nd : ss.Nodup := hp.nodup_iff.mpr (in_nodup nm [] .nil)
  have mm : ∀ x, x ∈ ss ↔ x ∈ nm := fun x => by rw [hp.mem_iff, in_mem]; simp
  have pq : ∀ x ∈ ss, x = "p" ∨ x = "q" := fun x h => hn x ((mm x).mp h)
  have ne : ("p" : Str) ≠ "q" := by decide +kernel
  unfold ltsOf
  simp only [← mm]
  match ss, nd, pq, hs with
  | [], _, _, _ => simp
  | [x], _, pq, _ => rcases pq x (by simp) with rfl | rfl <;> simp [ne, ne.symm]
  | [x, y], nd, pq, hs =>
    have nxy : x ≠ y := by simpa using nd
    rcases pq x (by simp) with rfl | rfl <;> rcases pq y (by simp) with rfl | rfl
    · exact absurd rfl nxy
    · simp
    · exact absurd hs (by decide +kernel)
    · exact absurd rfl nxy
  | x :: y :: z :: r, nd, pq, _ =>
    have h1 := pq x (by simp)
    have h2 := pq y (by simp)
    have h3 := pq z (by simp)
    simp at nd
    rcases h1 with rfl | rfl <;> rcases h2 with rfl | rfl <;> rcases h3 with rfl | rfl <;> simp at nd
abbrev five : List Str := ["never", "always", "p", "q", "not"]
def fiveB (x : Str) : Bool := inV (.str x) (five.map V.str)
def fiveV : V → Bool
  | .str x => fiveB x
  | _ => false
theorem five_w (u : W5) : fiveB u.str = false := by cases u <;> decide +kernel
def opB (x : Str) : Bool := decide (x = "(")
theorem op_w (u : W5) : opB u.str = false := by cases u <;> decide +kernel
theorem cnt_five : ∀ t : Tr, t.words.countP fiveB + t.words.countP opB = t.size
  | .never => by decide +kernel
  | .always => by decide +kernel
  | .lp => by decide +kernel
  | .lq => by decide +kernel
  | .no t => by
    have ih := cnt_five t
    show (("not" : Str) :: t.words).countP fiveB + (("not" : Str) :: t.words).countP opB = t.size + 1
    rw [List.countP_cons, List.countP_cons, show fiveB "not" = true by decide +kernel, show opB "not" = false by decide +kernel, if_pos rfl, if_neg Bool.false_ne_true]
    omega
  | .fold u a b => by
    have ia := cnt_five a
    have ib := cnt_five b
    have s1 : fiveB "(" = false := by decide +kernel
    have s2 : fiveB ")" = false := by decide +kernel
    have s3 : opB ")" = false := by decide +kernel
    have s4 : opB "(" = true := by decide +kernel
    have s5 := five_w u
    have s6 := op_w u
    simp [Tr.words, List.countP_append, List.countP_cons, s1, s2, s3, s4, s5, s6, Tr.size]
    omega
theorem cnt_op : ∀ t : Tr, t.words.countP opB = t.nf
  | .never => by decide +kernel
  | .always => by decide +kernel
  | .lp => by decide +kernel
  | .lq => by decide +kernel
  | .no t => by
    have ih := cnt_op t
    show (("not" : Str) :: t.words).countP opB = ((t.post ++ [Tr.no t]).map isF).countP id
    rw [List.countP_cons, show opB "not" = false by decide +kernel, if_neg Bool.false_ne_true, List.map_append, List.countP_append, ih]
    rfl
  | .fold u a b => by
    have ia := cnt_op a
    have ib := cnt_op b
    have s3 : opB ")" = false := by decide +kernel
    have s4 : opB "(" = true := by decide +kernel
    have s6 := op_w u
    have e : (Tr.fold u a b).nf = a.nf + b.nf + 1 := by
      show ((a.post ++ b.post ++ [Tr.fold u a b]).map isF).countP id = _
      rw [List.map_append, List.map_append, List.countP_append, List.countP_append]
      rfl
    rw [e]
    simp [Tr.words, List.countP_append, List.countP_cons, s3, s4, s6]
    omega
theorem head_words (t : Tr) : ∃ x r, t.words = x :: r ∧ decide (x = "(") = isF t := by
  cases t with
  | never => exact ⟨_, _, rfl, by decide +kernel⟩
  | always => exact ⟨_, _, rfl, by decide +kernel⟩
  | lp => exact ⟨_, _, rfl, by decide +kernel⟩
  | lq => exact ⟨_, _, rfl, by decide +kernel⟩
  | no t => exact ⟨_, _, rfl, by show decide (("not" : Str) = "(") = false; decide +kernel⟩
  | fold u a b => exact ⟨"(", _, by simp [Tr.words]; rfl, by show decide (("(" : Str) = "(") = true; decide +kernel⟩
theorem in_words (x : Str) (ws : List Str) : inV (.str x) (ws.map V.str) = decide (x ∈ ws) := by
  unfold inV
  rw [List.any_map]
  induction ws with
  | nil => rfl
  | cons y r ih =>
    rw [List.any_cons, ih]
    show (eqV (V.str y) (V.str x) || _) = _
    show ((y == x) || decide (x ∈ r)) = _
    by_cases h : y = x
    · subst h; simp
    · have : (y == x) = false := by simpa using h
      have h' : ¬ x = y := fun z => h z.symm
      rw [this]; simp [h']
theorem kind_F (t : Tr) : decide (4 ≤ t.kind) = isF t := by
  cases t with
  | fold u a b => show decide (4 ≤ 4 + u.ix) = true; simp
  | no t => rfl
  | _ => rfl
theorem kind_L (t : Tr) : decide (t.kind = 2) = (letN t).isSome := by
  cases t with
  | fold u a b => show decide (4 + u.ix = 2) = false; simp; omega
  | no t => rfl
  | _ => rfl
end Mine




set_option Elab.async false
set_option linter.all false
set_option maxRecDepth 100000
set_option maxHeartbeats 4000000
namespace L2
open PySem PySem.Spec PyProof.Rows
theorem op_in_seqK {X : Cx} {K : PySem.W.Frag} (e : X.K = K) : OpR X (compareOp .In) (rIn K false) := e ▸ op_in_seq
theorem pe_fldK {X : Cx} {K : PySem.W.Frag} {e : Expr} {f : Str} {pos : Pos} {ta : TE} (eK : X.K = K) (he : PE X e ta) (hb : attributeBase e f X.env (eval e X.env) = eval e X.env) : PE X (.Attribute e f pos) (tFld K ta f) := eK ▸ pe_fld he hb
end L2
namespace Mine
open PySem L2
/-- a comprehension with a test over things of which each is known by a thing of ours -/
theorem comp_sel {α : Type} {K : PySem.W.Frag} {wi : TI} {tc : TT} {te : TE} {js : List Nat} {σ : St} {H : Hp} {Q : VK} {xs : List V} {ts : List α} (g : α → Option V) (hl : ts.length = xs.length) (Src : Addr → Hp → Prop)
    (hwi : ∀ R : It → Hp → Prop, (∀ l H, Src l H → R (Itl K l) H) → wi σ H R) (hsrc : ∀ l H', Src l H' → H' l = some (.lst xs) ∧ Same H H') (hx : xs.length ≤ 1000)
    (ht : ∀ (i : Nat) v x H' (N : Bool → Hp → Prop), xs[i]? = some v → ts[i]? = some x → Same H H' → (∀ H'', Same H' H'' → N (g x).isSome H'') → tc (some v :: cVals js σ) H' N)
    (hs : ∀ (i : Nat) v x y H' (N : VK), xs[i]? = some v → ts[i]? = some x → g x = some y → Same H H' → (∀ H'', Same H' H'' → N y H'') → te (some v :: cVals js σ) H' N)
    (hd : ∀ D H', Same H H' → H D = none → H' D = some (.lst (ts.filterMap g)) → Q (.ref D) H') : tComp wi tc te js σ H Q := by
  refine hwi _ fun l H1 src => ?_
  intro D hD
  obtain ⟨e, s1⟩ := hsrc l H1 src
  have nl : l ≠ D := ne_of_none e hD
  have hD0 : H D = none := s1.free hD
  refine ⟨fun i m H' => m = xs.length - i ∧ i ≤ xs.length ∧ H' l = some (.lst xs) ∧ Same H H' ∧ H' D = some (.lst ((ts.take i).filterMap g)), ⟨xs.length, rfl, Nat.zero_le _, by rw [upd_ne nl]; exact e, s1.trans (same_new hD _), upd_same⟩, ?_⟩
  rintro i m H2 ⟨rfl, hi, e2, s2, eD⟩
  by_cases hlt : i < xs.length
  · refine .inr ⟨⟨xs, xs[i], SqL.of e2, by simp [hlt]⟩, fun v H3 y => ?_⟩
    obtain ⟨eh, y⟩ := y
    subst eh
    have hv := y xs (SqL.of e2)
    have htl : i < ts.length := by omega
    have hx' : ts[i]? = some ts[i] := List.getElem?_eq_getElem htl
    have tk : ts.take (i + 1) = ts.take i ++ [ts[i]] := by rw [List.take_add_one, hx']; rfl
    have hln : ((ts.take i).filterMap g).length ≤ i := Nat.le_trans (List.length_filterMap_le _ _) (by rw [List.length_take]; omega)
    refine ht i v _ _ _ hv hx' s2 fun H4 s4 => ?_
    cases hg : g ts[i] with
    | some y =>
      show if true = true then _ else _
      rw [if_pos rfl]
      refine hs i v _ y H4 _ hv hx' hg (s2.trans s4) fun H5 s5 => ?_
      have e5 := s5 _ _ (s4 _ _ eD)
      refine ⟨_, e5, Nat.lt_of_le_of_lt (show _ ≤ 1000 by omega) (by decide), xs.length - (i + 1), by omega, rfl, hlt, ?_, fun d u z => ?_, ?_⟩
      · rw [upd_ne nl]; exact s5 _ _ (s4 _ _ e2)
      · rw [upd_ne (ne_of_none z hD0)]; exact s5 _ _ (s4 _ _ (s2 _ _ z))
      · rw [upd_same, tk, List.filterMap_append]
        simp [hg]
    | none =>
      show if false = true then _ else _
      rw [if_neg Bool.false_ne_true]
      refine ⟨xs.length - (i + 1), by omega, rfl, hlt, s4 _ _ e2, s2.trans s4, ?_⟩
      rw [tk, List.filterMap_append]
      simpa [hg] using s4 _ _ eD
  · have ei : i = xs.length := by omega
    subst ei
    rw [← hl, List.take_length] at eD
    exact .inl ⟨⟨xs, SqL.of e2, Nat.le_refl _⟩, hd D H2 s2 hD0 eD⟩
def spLetters (c : CCs) (t : Tr) : Sp := fun vs H Q _ => ∃ a, vs = [.ref a] ∧ Ob c H a t ∧ t.size ≤ 60 ∧ ∀ l H', Same H H' → H l = none → H' l = some (.lst ((ltsOf t.nm).map V.str)) → Q (.ref l) H'
section
variable {P : Program} {w : World} {K : PySem.W.Frag} {mg : Str → Option Value} {base : Heap} {c : CCs}
theorem sc_letters : FnScope ["self"] ["self"] (defScope s_Saying_letters) := ⟨rfl, rfl, rfl, by decide +kernel, rfl, by decide +kernel, by decide +kernel⟩
theorem ok_letters {C : Addr} {t : Tr} (T : MethF K C "letters" "Saying.letters" s_Saying_letters) (Z_sorted : mg "sorted" = none) (Z_set : mg "set" = none) (Z_isinstance : mg "isinstance" = none) (M_Letter : mg "Letter" = some (.ref c.le)) (F : Fx K c) (kl : ∀ t, PySem.W.kitOne K (.ref (c.of t)) (.ref c.le) = some (decide (t.kind = 2))) (G : ∀ t, MethOk P w K mg base (c.of t) "laid_out" 2 ["self"] (spLaid c t)) : MethOk P w K mg base C "letters" 4 ["self"] (spLetters c t) := by
  refine meth_of T sc_letters (fun _ _ _ _ _ _ us hl => match us, hl with | [_], _ => rfl) (fun vs H Q E h => ?_) (fun f cdv A outer s H vs Q E hr h => ?_)
  · obtain ⟨a, rfl, _⟩ := h
    rfl
  obtain ⟨a, rfl, oa, ht, q⟩ := h
  have nd := sc_letters.nd
  obtain ⟨dx, fs, ea, nf⟩ := oa.cls
  refine ⟨_, (pss_one (ps_ret (pe_callB (call_sortedX rfl) rfl Z_sorted (by decide +kernel) (pa_cons (pe_callTy (call_setSX rfl) rfl Z_set (by decide +kernel) (pa_cons (pe_compF rfl (pi_list (pe_methD0 (k := 2) (pv 0) (hr.mono (by omega)))) rfl (by decide +kernel) (by decide +kernel) rfl (show ∀ p ∈ Scope.names _, p.2 = NameKind.free → List.lookup p.1 (defScope s_Saying_letters).names = some .cell ∨ List.lookup p.1 (defScope s_Saying_letters).names = some .free by decide +kernel) fa_nil (show (["part"] : List Str).Nodup by decide +kernel) (fun _ _ _ _ => (pif_one (pt_val (pe_callB (call_isiK (K := K) rfl) rfl Z_isinstance (by decide +kernel) (pa_cons (pv 0) (pa_cons (pe_glob (v := V.ref c.le) rfl M_Letter rfl) pa_nil)))))) (fun _ _ _ _ => (pe_fldK (K := K) rfl (pv 0) rfl))) pa_nil)) pa_nil)))), ?_⟩
  dsimp only [tRet, tOp, tC, tCB, tCons, tNil]
  refine comp_from ?_
  refine ⟨_, rfl, a, _, _, _, _, _, rfl, ea, nf _ (by decide +kernel), G t, a, rfl, oa, by omega, fun l us H1 s1 hl el ou => ⟨l, rfl, ⟨_, SqL.of el⟩, ?_⟩⟩
  have lu := ou.len
  have lp := post_len t
  refine comp_sel (K := K) (ts := t.post) (fun x => (letN x).map V.str) (lu.symm) (fun l' H' => l' = l ∧ H' = H1) (fun R k => k l H1 ⟨rfl, rfl⟩) (fun l' H' z => by obtain ⟨rfl, rfl⟩ := z; exact ⟨el, Same.refl _⟩) (by omega) (fun i v x H2 N hv hx s2 hN => ?_) (fun i v x y H2 N hv hx hy s2 hN => ?_) (fun D H2 s2 hD eD => ?_)
  · obtain ⟨x', hx', b, rfl, ob⟩ := (ou.imp (ObV.to (Kp.of s2))).get i v hv
    rw [hx] at hx'
    cases hx'
    have e : ((letN x).map V.str).isSome = decide (x.kind = 2) := by rw [kind_L, Option.isSome_map]
    rw [e] at hN
    exact ⟨_, rfl, _, _, _, _, _, rfl, (fun u z => z), F.ty ob, kl x, _, rfl, hN _ (Same.refl _)⟩
  · obtain ⟨x', hx', b, rfl, ob⟩ := (ou.imp (ObV.to (Kp.of s2))).get i v hv
    rw [hx] at hx'
    cases hx'
    cases ob with
    | lp eo => cases hy; exact ⟨_, rfl, b, _, _, _, _, rfl, eo, F.cl .lp, F.nName, look_name _, hN _ (Same.refl _)⟩
    | lq eo => cases hy; exact ⟨_, rfl, b, _, _, _, _, rfl, eo, F.cl .lq, F.nName, look_name _, hN _ (Same.refl _)⟩
    | _ => cases hy
  · rw [← List.map_filterMap] at eD
    have ln : t.nm.length ≤ 60 := Nat.le_trans (List.length_filterMap_le letN t.post) (by omega)
    refine ⟨D, t.nm, rfl, SqL.of eD, ln, fun d hd => ⟨d, _, rfl, upd_same, Nat.le_trans (in_len _ _) (by simpa using ln), fun D2 ss h2 pm so => ?_⟩⟩
    rw [let_sort (nm_pq t) pm so]
    have n2 : H2 D2 = none := upd_none h2
    refine q D2 _ (fun b o z => ?_) ((s1.trans s2).free n2) upd_same
    have z2 := (s1.trans s2) b o z
    rw [upd_ne (ne_of_none z2 n2), upd_ne (ne_of_none z2 hd)]
    exact z2
end
end Mine




set_option Elab.async false
set_option linter.all false
set_option maxRecDepth 100000
set_option maxHeartbeats 4000000
namespace Mine
open PySem L2
theorem str_dat {K : PySem.W.Frag} {H : Hp} : ∀ ss : List Str, DatAll K H (ss.map PyData.str) (ss.map V.str)
  | [] => rfl
  | x :: r => ⟨_, _, rfl, rfl, str_dat r⟩
theorem all_flat : ∀ ss : List Str, (ss.map V.str).all flatV = true
  | [] => rfl
  | x :: r => all_flat r
theorem lts_filt (nm ws : List Str) (h : ∀ x : Str, x = "p" ∨ x = "q" → (x ∈ ws ↔ x ∈ nm)) : ([("p" : Str), "q"].filter fun x => decide (x ∈ ws)) = ltsOf nm := by
  have hp := h "p" (.inl rfl)
  have hq := h "q" (.inr rfl)
  unfold ltsOf
  simp only [← hp, ← hq]
  by_cases a : ("p" : Str) ∈ ws <;> by_cases b : ("q" : Str) ∈ ws <;> simp [a, b]
theorem cnt_V : ∀ ws : List Str, (ws.map V.str).countP (fun y => eqV y (.str "(")) = ws.countP opB
  | [] => rfl
  | x :: r => by
    rw [List.map_cons, List.countP_cons, List.countP_cons, cnt_V r]
    have : eqV (V.str x) (V.str "(") = opB x := by
      show (x == "(") = decide (x = "(")
      by_cases h : x = "(" <;> simp [h]
    rw [this]
theorem filt_five : ∀ ws : List Str, ((ws.map V.str).filter fiveV).length = ws.countP fiveB
  | [] => rfl
  | x :: ws => by
    rw [List.map_cons, List.countP_cons]
    by_cases h : fiveB x = true
    · rw [List.filter_cons_of_pos (show fiveV (.str x) = true from h), List.length_cons, filt_five ws, if_pos h]
    · rw [List.filter_cons_of_neg (show ¬ fiveV (.str x) = true from h), filt_five ws, if_neg h]
      rfl
theorem ite_nb {a b : Bool} {A B : Prop} (h : a = b) (k : B) : if (!decide (V.bl a = V.bl b)) = true then A else B := by
  subst h
  rw [decide_eq_true rfl, Bool.not_true, if_neg Bool.false_ne_true]
  exact k
theorem ite_ni {a b : Int} {A B : Prop} (h : a = b) (k : B) : if (!decide (V.int a = V.int b)) = true then A else B := by
  subst h
  rw [decide_eq_true rfl, Bool.not_true, if_neg Bool.false_ne_true]
  exact k
theorem dec_str {a b : Str} : decide (V.str a = V.str b) = decide (a = b) := by
  by_cases h : a = b
  · rw [decide_eq_true h, decide_eq_true (congrArg V.str h)]
  · rw [decide_eq_false h, decide_eq_false fun z => h (V.str.inj z)]
abbrev lawN3 : List Str := ["_law_script", "_law_cells", "_law_cell", "_law_tree", "_law_words", "_law_found", "_law_letters", "_law_small", "_law_turn", "_law_told"]
theorem sc_law : FnScope lawN3 ["_law_script"] (defScope s_law) := ⟨rfl, rfl, rfl, by decide +kernel, rfl, by decide +kernel, by decide +kernel⟩
section
variable {P : Program} {w : World} {K : PySem.W.Frag} {mg : Str → Option Value} {base : Heap} {c : CCs}
theorem ok_law {f cS C_Fold : Addr} {fd : FuncData} (F : Fun K "law" "law" s_law f fd) (Z_range : mg "range" = none) (Z_isinstance : mg "isinstance" = none) (Z_len : mg "len" = none) (Z_list : mg "list" = none) (M_Saying : mg "Saying" = some (.ref cS)) (M_Fold : mg "Fold" = some (.ref C_Fold)) (fx : Fx K c)
    (ks : ∀ t, PySem.W.kitOne K (.ref (c.of t)) (.ref cS) = some true) (kf : ∀ t, PySem.W.kitOne K (.ref (c.of t)) (.ref C_Fold) = some (isF t))
    (D_law_mixed : Def P w K mg base 1 "_law_mixed" ["_law_script", "_law_least"] (spMixed K)) (D_law_next : Def P w K mg base 1 "_law_next" ["_law_cells"] spNext)
    (D_law_saying : Def P w K mg base 52 "_law_saying" ["_law_cells", "_law_room", "_law_two"] (spSaying 50)) (D_law_object : Def P w K mg base 53 "_law_object" ["_law_tree"] (spObj1 c 50)) (D_law_text : Def P w K mg base 51 "_law_text" ["_law_tree"] (spText 50)) (D_law_whole : Def P w K mg base 1 "_law_whole" ["_law_found"] spWholeL)
    (GP : ∀ t, MethOk P w K mg base (c.of t) "parts" 3 ["self"] (spParts c t)) (GF : ∀ t, MethOk P w K mg base (c.of t) "folds" 3 ["self"] (spFoldsM c t)) (GL : ∀ t, MethOk P w K mg base (c.of t) "letters" 4 ["self"] (spLetters c t)) (GT : ∀ t, MethOk P w K mg base (c.of t) "told" 3 ["self"] (spTold c t)) : FnOk P w K mg base CX0 70 f fd ["_law_script"] (spLaw K) := by
  refine F.ok sc_law (fun vs H Q E h => ?_) (fun cdv A outer s H vs Q E hr h => ?_)
  · obtain ⟨a, ns, rfl, _⟩ := h
    rfl
  obtain ⟨a, ns, rfl, S, q⟩ := h
  have nd := sc_law.nd
  have hu := hr.units
  refine ⟨_, (pss_cons (ps_set (i := 1) nd rfl (Or.inl rfl) (pe_def D_law_mixed (hr.mono (by omega)) rfl (pa_cons (pv 0) (pa_cons pe_int pa_nil))))
    (pss_cons (ps_set (i := 2) nd rfl (Or.inl rfl) (pe_def D_law_next (hr.mono (by omega)) rfl (pa_cons (pv 1) pa_nil)))
    (pss_cons (ps_set (i := 3) nd rfl (Or.inl rfl) (pe_def D_law_saying (hr.mono (by omega)) rfl (pa_cons (pv 1) (pa_cons (pe_op op_add pe_int (pe_op op_mod (pe_op op_fdiv (pv 2) pe_int) pe_int)) (pa_cons (pe_cmpR op_eq (pe_op op_mod (pv 2) pe_int) pe_int (nomark _)) pa_nil)))))
    (pss_cons (ps_set (i := 4) nd rfl (Or.inr rfl) (pe_bm PySem.F.plainAttrs_str PySem.F.slot_str_split PySem.F.type_str_split mt_split (pe_def D_law_text (hr.mono (by omega)) rfl (pa_cons (pv 3) pa_nil)) (pa_cons pe_str pa_nil)))
    (pss_cons (ps_set (i := 5) nd rfl (Or.inl rfl) (pe_def D_law_object (hr.mono (by omega)) rfl (pa_cons (pv 3) pa_nil)))
    (pss_cons (ps_setF (i := 6) nd rfl (Or.inl rfl) (Or.inl rfl) rfl rfl (pi_list (pe_lst (pa_cons pe_str (pa_cons pe_str pa_nil)))) rfl (by decide +kernel) (by decide +kernel) rfl (show ∀ p ∈ Scope.names _, p.2 = NameKind.free → List.lookup p.1 (defScope s_law).names = some .cell ∨ List.lookup p.1 (defScope s_law).names = some .free by decide +kernel) (fa_cons (j := 4) rfl (Or.inl rfl) (by decide +kernel) (Or.inl rfl) fa_nil) (show (["_law_letter", "_law_words"] : List Str).Nodup by decide +kernel) (fun _ _ _ _ => (pif_one (pt_cmpR (op_in_seqK (K := K) rfl) (pv 0) (pv 1) rfl))) (fun _ _ _ _ => (pv 0)))
    (pss_cons (ps_setF (i := 7) nd rfl (Or.inl rfl) (Or.inl rfl) rfl rfl (pi_list (pv 4)) rfl (by decide +kernel) (by decide +kernel) rfl (show ∀ p ∈ Scope.names _, p.2 = NameKind.free → List.lookup p.1 (defScope s_law).names = some .cell ∨ List.lookup p.1 (defScope s_law).names = some .free by decide +kernel) fa_nil (show (["_law_word"] : List Str).Nodup by decide +kernel) (fun _ _ _ _ => (pif_one (pt_cmpR (op_in_seqK (K := K) rfl) (pv 0) (pe_tup (pa_cons pe_str (pa_cons pe_str (pa_cons pe_str (pa_cons pe_str (pa_cons pe_str pa_nil)))))) rfl))) (fun _ _ _ _ => (pv 0)))
    (pss_cons (ps_if (PW.pt (pw_or (pt_not (pt_val (pe_callB call_isi rfl Z_isinstance (by decide +kernel) (pa_cons (pv 5) (pa_cons (pe_glob (v := V.ref cS) rfl M_Saying rfl) pa_nil))))) (pw_or1 (pt_cmpR op_ne (pe_callB call_isi rfl Z_isinstance (by decide +kernel) (pa_cons (pv 5) (pa_cons (pe_glob (v := V.ref C_Fold) rfl M_Fold rfl) pa_nil))) (pe_cmpR op_eq (pe_ix ix_list (pv 4) pe_int (fun _ _ => rfl)) pe_str (nomark _)) (nomark _))))) (pss_one (ps_ret pe_bl)) pss_nil)
    (pss_cons (ps_if (PW.pt (pw_or (pt_not (pt_val (pe_def D_law_whole (hr.mono (by omega)) rfl (pa_cons (pe_methD0 (k := 3) (pv 5) (hr.mono (by omega))) pa_nil)))) (pw_or1 (pt_cmpR op_ne (pe_methD0 (k := 3) (pv 5) (hr.mono (by omega))) (pe_op op_add (pe_callB call_len rfl Z_len (by decide +kernel) (pa_cons (pv 7) pa_nil)) (pe_bm PySem.F.plainAttrs_list PySem.F.slot_list_count PySem.F.type_list_count mt_countF (pv 4) (pa_cons pe_str pa_nil))) (nomark _))))) (pss_one (ps_ret pe_bl)) pss_nil)
    (pss_cons (ps_if (PW.pt (pw_or (pt_not (pt_val (pe_def D_law_whole (hr.mono (by omega)) rfl (pa_cons (pe_methD0 (k := 3) (pv 5) (hr.mono (by omega))) pa_nil)))) (pw_or1 (pt_cmpR op_ne (pe_methD0 (k := 3) (pv 5) (hr.mono (by omega))) (pe_bm PySem.F.plainAttrs_list PySem.F.slot_list_count PySem.F.type_list_count mt_countF (pv 4) (pa_cons pe_str pa_nil)) (nomark _))))) (pss_one (ps_ret pe_bl)) pss_nil)
    (pss_cons (ps_for PassesOwn.never rfl (pi_range1 rfl Z_range (pa_cons pe_int pa_nil)) (pg_name (i := 8) nd rfl (Or.inl rfl)) (pss_cons (ps_set (i := 9) nd rfl (Or.inl rfl) (pe_methD0 (k := 4) (pv 5) (hr.mono (by omega))))
    (pss_cons (ps_if (PW.pt (pw_or (pt_not (pt_val (pe_callB call_isiL rfl Z_isinstance (by decide +kernel) (pa_cons (pv 9) (pa_cons (pe_bltn (v := V.ty "list") rfl Z_list (by decide +kernel) rfl) pa_nil))))) (pw_or1 (pt_cmpR (op_neD hu) (pv 9) (pv 6) (nomark _))))) (pss_one (ps_ret pe_bl)) pss_nil)
    (pss_one (ps_expr (pe_bm0 PySem.F.plainAttrs_list PySem.F.slot_list_clear PySem.F.type_list_clear mt_clear (pv 9)))))))
    (pss_one (ps_ret (pe_cmpR op_eq (pe_methD0 (k := 3) (pv 5) (hr.mono (by omega))) (pe_bm PySem.F.plainAttrs_str PySem.F.slot_str_join PySem.F.type_str_join mt_join pe_str (pa_cons (pv 4) pa_nil)) (nomark _))))))))))))))), ?_⟩
  refine ⟨_, rfl, a, ns, 50, rfl, S, by decide, by decide, fun C ms H1 s1 hC e1 hc1 => ?_⟩
  refine ⟨_, rfl, C, ms, rfl, e1, hc1, fun i ms2 H2 ci hc2 sb2 e2 => ?_⟩
  have f0 := Int.emod_nonneg (i / 2) (show (50 : Int) ≠ 0 by decide)
  have f1 := Int.emod_lt_of_pos (i / 2) (show (0 : Int) < 50 by decide)
  refine ⟨_, rfl, _, rfl, _, _, rfl, rfl, ⟨by decide, by decide⟩, _, _, rfl, rfl, (show (0 : Int) < 50 by decide), _, _, rfl, rfl, _, rfl, _, _, rfl, rfl, (show (0 : Int) < 2 by decide), rfl, ?_⟩
  refine ⟨C, ms2, _, _, rfl, e2, hc2, ?_, ?_, fun tr t ms3 H3 hz hc3 sb3 e3 tu => ?_⟩
  · show (1 : Int) ≤ 1 + i / 2 % 50; omega
  · show 1 + i / 2 % 50 ≤ (50 : Int); omega
  have hz0 : t.size ≤ 50 := by omega
  refine ⟨_, rfl, tr, t, rfl, tu, hz0, by omega, ?_⟩
  have wl := words_len t
  have tl := text_len t
  refine ⟨rfl, t.text, " ", rfl, rfl, by decide +kernel, by omega, fun p hp => ?_⟩
  rw [split_text]
  have k1 := same_new hp (.lst (t.words.map V.str))
  refine ⟨_, rfl, tr, t, rfl, tu.to (Kp.of k1), hz0, fun x H4 s4 ox => ?_⟩
  have ew4 : H4 p = some (.lst (t.words.map V.str)) := s4 _ _ upd_same
  dsimp only [gName, tSeq, tAsgC]
  refine comp_from ?_
  refine ⟨(by show 2 ≤ sizeLine; decide), fun l2 hl2 => ⟨l2, rfl, ⟨_, SqL.of upd_same⟩, ?_⟩⟩
  have k2 := same_new hl2 (.lst [V.str "p", .str "q"])
  refine comp_filt (K := K) (xs := [V.str "p", .str "q"]) (fun v => inV v (t.words.map V.str)) id (fun l' H' => l' = l2 ∧ H' = upd H4 l2 (.lst [V.str "p", .str "q"])) (fun R k => k _ _ ⟨rfl, rfl⟩) (fun l' H' z => by obtain ⟨rfl, rfl⟩ := z; exact ⟨upd_same, Same.refl _⟩) (by decide) (fun i v H' N hv sm hN => ?_) (fun i v H' N hv hp sm hN => ⟨_, rfl, hN _ (Same.refl _)⟩) (fun D6 H6 s6 hD6 eD6 => ?_)
  · have fl : flatV v = true := by
      have := List.mem_of_getElem? hv
      simp at this
      rcases this with rfl | rfl <;> rfl
    exact ⟨_, rfl, _, rfl, p, _, rfl, .inl (SqL.of (sm _ _ (k2 _ _ ew4))), fl, all_flat _, _, rfl, hN _ (Same.refl _)⟩
  have e6 : H6 D6 = some (.lst ((ltsOf t.nm).map V.str)) := by
    rw [eD6, List.map_id]
    show some (HO.lst (([("p" : Str), "q"].map V.str).filter _)) = _
    rw [List.filter_map, ← lts_filt t.nm t.words fun x hx => mem_words x hx t]
    congr 3
    exact congrArg (fun g => List.filter g _) (funext fun x => in_words x t.words)
  have k46 := k2.trans s6
  have ew6 := k46 _ _ ew4
  refine comp_filt (K := K) (xs := t.words.map V.str) fiveV id (fun l' H' => l' = p ∧ H' = H6) (fun R k => ⟨_, rfl, p, rfl, ⟨_, SqL.of ew6⟩, k p H6 ⟨rfl, rfl⟩⟩) (fun l' H' z => by obtain ⟨rfl, rfl⟩ := z; exact ⟨ew6, Same.refl _⟩) (by rw [List.length_map]; omega) (fun i v H' N hv sm hN => ?_) (fun i v H' N hv hp sm hN => ⟨_, rfl, hN _ (Same.refl _)⟩) (fun D7 H7 s7 hD7 eD7 => ?_)
  · rw [List.getElem?_map] at hv
    obtain ⟨y, _, rfl⟩ := Option.map_eq_some_iff.mp hv
    exact ⟨_, rfl, (by show 5 ≤ sizeLine; decide), fun tt ht => ⟨tt, _, rfl, .inr (SqT.of upd_same), rfl, rfl, _, rfl, hN _ (same_new ht _)⟩⟩
  rw [List.map_id] at eD7
  have k47 := k46.trans s7
  have ew7 := k47 _ _ ew4
  have ox7 := ox.to (Kp.of k47)
  have e67 := s7 _ _ e6
  refine ⟨_, rfl, _, _, _, _, _, rfl, (fun u z => z), fx.ty ox7, ks t, _, rfl, iteF ?_⟩
  obtain ⟨w0, wr, hw, hw0⟩ := head_words t
  refine ⟨_, rfl, _, _, _, _, _, rfl, (fun u z => z), fx.ty ox7, kf t, _, rfl, _, _, _, _, rfl, rfl, SqL.of ew7, (show atI (t.words.map V.str) 0 = some (V.str w0) by rw [hw]; exact atI_nat (j := 0) rfl), rfl, rfl, _, rfl, ite_nb (by rw [dec_str]; exact hw0.symm) ?_⟩
  obtain ⟨dx, fs, ea, nf⟩ := ox7.cls
  refine ⟨_, rfl, x, _, _, _, _, _, rfl, ea, nf _ (by decide +kernel), GP t, x, rfl, ox7, by omega, fun H8 s8 => ?_⟩
  refine ⟨_, rfl, _, rfl, iteF ?_⟩
  have ox8 := ox7.to (Kp.of s8)
  obtain ⟨dx, fs, ea, nf⟩ := ox8.cls
  refine ⟨_, rfl, x, _, _, _, _, _, rfl, ea, nf _ (by decide +kernel), GP t, x, rfl, ox8, by omega, fun H9 s9 => ?_⟩
  have k79 := s8.trans s9
  refine ⟨_, rfl, _, _, rfl, .inl ⟨_, SqL.of (k79 _ _ eD7), rfl⟩, _, rfl, .inl ⟨rfl, _, SqL.of (k79 _ _ ew7)⟩, ?_⟩
  refine ⟨p, _, _, rfl, rfl, k79 _ _ ew7, all_flat _, rfl, _, _, rfl, rfl, rfl, _, rfl, ite_ni ?_ ?_⟩
  · rw [cnt_V, filt_five]
    have := cnt_five t
    omega
  have ox9 := ox8.to (Kp.of s9)
  obtain ⟨dx, fs, ea, nf⟩ := ox9.cls
  refine ⟨_, rfl, x, _, _, _, _, _, rfl, ea, nf _ (by decide +kernel), GF t, x, rfl, ox9, by omega, fun H10 s10 => ?_⟩
  refine ⟨_, rfl, _, rfl, iteF ?_⟩
  have ox10 := ox9.to (Kp.of s10)
  obtain ⟨dx, fs, ea, nf⟩ := ox10.cls
  refine ⟨_, rfl, x, _, _, _, _, _, rfl, ea, nf _ (by decide +kernel), GF t, x, rfl, ox10, by omega, fun H11 s11 => ?_⟩
  have k711 := (k79.trans s10).trans s11
  refine ⟨_, rfl, .inl ⟨rfl, _, SqL.of (k711 _ _ ew7)⟩, p, _, _, rfl, rfl, k711 _ _ ew7, all_flat _, rfl, rfl, _, rfl, ite_ni ?_ ?_⟩
  · rw [cnt_V, cnt_op]
  have ox11 := ox10.to (Kp.of s11)
  have ew11 := k711 _ _ ew7
  have e611 := k711 _ _ e67
  refine ⟨2, rfl, by decide, by decide, for_range (n := 2) (fun j σ H' => Ob c H' x t ∧ H' p = some (.lst (t.words.map V.str)) ∧ H' D6 = some (.lst ((ltsOf t.nm).map V.str)) ∧ ∃ o8 o9, σ = [some (.ref a), some (.ref C), some (.int i), some (.ref tr), some (.ref p), some (.ref x), some (.ref D6), some (.ref D7), o8, o9]) ⟨ox11, ew11, e611, _, _, rfl⟩ (fun j σ H5 hi z => ?_) (fun σ H5 z => ?_)⟩
  · obtain ⟨o5, w5, l5, o8, o9, rfl⟩ := z
    obtain ⟨dx, fs, ea, nf⟩ := o5.cls
    refine ⟨_, rfl, x, _, _, _, _, _, rfl, ea, nf _ (by decide +kernel), GL t, x, rfl, o5, by omega, fun l H6' s6' hl6 el6 => ?_⟩
    refine ⟨_, rfl, _, _, _, _, _, rfl, (fun u z => z), SqL.of el6, kit_same, _, rfl, iteF ?_⟩
    have sd : SeqAt.shaped (.list ((ltsOf t.nm).map PyData.str)) = true := by
      unfold ltsOf
      split <;> split <;> decide +kernel
    have ev : PyData.eqv (.list ((ltsOf t.nm).map PyData.str)) (.list ((ltsOf t.nm).map PyData.str)) = true := by
      unfold ltsOf
      split <;> split <;> decide +kernel
    refine ⟨_, rfl, _, rfl, .list ((ltsOf t.nm).map PyData.str), .list ((ltsOf t.nm).map PyData.str), .inr ⟨_, _, _, rfl, rfl, SqL.of el6, str_dat _⟩, .inr ⟨_, _, _, rfl, rfl, SqL.of (s6' _ _ l5), str_dat _⟩, sd, sd, _, rfl, ?_⟩
    rw [ev]
    refine iteF ⟨_, rfl, .inl ⟨rfl, _, SqL.of el6⟩, l, _, rfl, rfl, el6, ?_⟩
    have np : p ≠ l := ne_of_none w5 hl6
    have nD : D6 ≠ l := ne_of_none l5 hl6
    exact ⟨(o5.to (Kp.of s6')).to (kp_mut el6 rfl), by rw [upd_ne np]; exact s6' _ _ w5, by rw [upd_ne nD]; exact s6' _ _ l5, _, _, rfl⟩
  · obtain ⟨o5, w5, l5, o8, o9, rfl⟩ := z
    obtain ⟨dx, fs, ea, nf⟩ := o5.cls
    refine ⟨_, rfl, x, _, _, _, _, _, rfl, ea, nf _ (by decide +kernel), GT t, x, rfl, o5, by omega, fun H6' s6' => ?_⟩
    have ws := words_sum t
    refine ⟨rfl, _, rfl, " ", p, t.words, rfl, rfl, SqL.of (s6' _ _ w5), by omega, rfl, ?_⟩
    have ej : Txt.join " " t.words = t.text := text_told t
    rw [ej, dec_str, decide_eq_true rfl]
    exact q _
end
end Mine




set_option Elab.async false
set_option linter.all false
set_option maxRecDepth 100000
set_option maxHeartbeats 4000000
namespace L2
open PySem PySem.Spec PyProof.Rows
structure FunE (K : PySem.W.Frag) (x qual : Str) (st : Stmt) (f : Addr) : Prop where
  ex : ∃ fd : FuncData, Fun K x qual st f fd
  fn : PySem.W.isFn K (.ref f) = true
theorem funE_mk {K : PySem.W.Frag} {x qual : Str} {st : Stmt} {f : Addr} {oc kV doc pm cdv ct : Value} {od an : Option Addr} {osl : Array (Option Value)} (l : K.lookup f = some ⟨oc, od, .func (PySem.W.fnOf x qual (defArgs st) (defBody st) (defScope st) .none kV doc pm an cdv ct), osl⟩)
    (c : PySem.W.codeIn K cdv qual = true) (k : PySem.W.keepIn K (.ref f) = true) (fn : PySem.W.isFn K (.ref f) = true) : FunE K x qual st f := ⟨⟨_, fun_mk l c k⟩, fn⟩
theorem FunE.meth {K : PySem.W.Frag} {x qual : Str} {st : Stmt} {f C : Addr} (e : FunE K x qual st f) (cl : Cls K C) (g : PySem.W.findIn K (.ref C) x = some (some (.ref f))) : MethF K C x qual st := by
  obtain ⟨fd, F⟩ := e.ex
  exact ⟨cl, f, fd, ⟨g, e.fn, F.kp⟩, F⟩
theorem FunE.made {K : PySem.W.Frag} {mg : Str → Option Value} {x qual : Str} {st : Stmt} {f C : Addr} (e : FunE K "__init__" qual st f) (cl : Cls K C) (g : PySem.W.findIn K (.ref C) "__init__" = some (some (.ref f))) (m : mg x = some (.ref C)) (y : PySem.W.makesIn K C = true) (z : PySem.W.keepIn K (.ref C) = true) : MkF K mg x C qual st := by
  obtain ⟨fd, F⟩ := e.ex
  exact ⟨cl, m, f, fd, ⟨y, g, e.fn, z⟩, F⟩
end L2
open PySem PySem.W PyProof.Rows

structure Mine.AllF (K : Frag) (mg : Str → Option Value) (c : Mine.CCs) : Prop where
  fx : Mine.Fx K c
  madeS_ne : L2.MethF K c.ne "made_of" "Saying.made_of" Mine.s_Saying_made_of
  madeS_al : L2.MethF K c.al "made_of" "Saying.made_of" Mine.s_Saying_made_of
  madeS_le : L2.MethF K c.le "made_of" "Saying.made_of" Mine.s_Saying_made_of
  piecesS_ne : L2.MethF K c.ne "pieces" "Saying.pieces" Mine.s_Saying_pieces
  piecesS_al : L2.MethF K c.al "pieces" "Saying.pieces" Mine.s_Saying_pieces
  piecesS_le : L2.MethF K c.le "pieces" "Saying.pieces" Mine.s_Saying_pieces
  laid : ∀ t, L2.MethF K (c.of t) "laid_out" "Saying.laid_out" Mine.s_Saying_laid_out
  told : ∀ t, L2.MethF K (c.of t) "told" "Saying.told" Mine.s_Saying_told
  parts : ∀ t, L2.MethF K (c.of t) "parts" "Saying.parts" Mine.s_Saying_parts
  foldsS : ∀ t, L2.MethF K (c.of t) "folds" "Saying.folds" Mine.s_Saying_folds
  letters : ∀ t, L2.MethF K (c.of t) "letters" "Saying.letters" Mine.s_Saying_letters
  Kne_ne : L2.MethF K c.ne "making_word" "Never.making_word" Mine.s_Never_making_word
  Kal_al : L2.MethF K c.al "making_word" "Always.making_word" Mine.s_Always_making_word
  Kle_le : L2.MethF K c.le "making_word" "Letter.making_word" Mine.s_Letter_making_word
  Kno_no : L2.MethF K c.no "making_word" "Not.making_word" Mine.s_Not_making_word
  Mno_no : L2.MethF K c.no "made_of" "Not.made_of" Mine.s_Not_made_of
  Pno_no : L2.MethF K c.no "pieces" "Not.pieces" Mine.s_Not_pieces
  Mfo : ∀ u, L2.MethF K (c.fold u) "made_of" "Fold.made_of" Mine.s_Fold_made_of
  Pfo : ∀ u, L2.MethF K (c.fold u) "pieces" "Fold.pieces" Mine.s_Fold_pieces
  F0mo_mo : L2.MethF K c.mo "making_word" "More.making_word" Mine.s_More_making_word
  F0ls_ls : L2.MethF K c.ls "making_word" "Less.making_word" Mine.s_Less_making_word
  F0gr_gr : L2.MethF K c.gr "making_word" "Greater.making_word" Mine.s_Greater_making_word
  F0lr_lr : L2.MethF K c.lr "making_word" "Lesser.making_word" Mine.s_Lesser_making_word
  F0ld_ld : L2.MethF K c.ld "making_word" "Leads.making_word" Mine.s_Leads_making_word
  ile : L2.MkF K mg "Letter" c.le "Letter.__init__" Mine.s_Letter_init
  ino : L2.MkF K mg "Not" c.no "Not.__init__" Mine.s_Not_init
  ifo : ∀ u, L2.MkF K mg (Mine.W5.cls u) (c.fold u) "Fold.__init__" Mine.s_Fold_init
  o_ne : L2.Mk0 K c.ne
  r_ne : mg "Never" = some (.ref c.ne)
  o_al : L2.Mk0 K c.al
  r_al : mg "Always" = some (.ref c.al)
  kt : ∃ cS cF, Mine.KtA K mg c cS cF
theorem Mine.all_mk {K : Frag} {h : Heap} {mg : Str → Option Value} {ne al le no mo ls gr lr ld cS cF f_madeS f_piecesS f_laid f_told f_parts f_foldsS f_letters f_Kne f_Kal f_Kle f_Kno f_Mno f_Pno f_Mfo f_Pfo f_F0mo f_F0ls f_F0gr f_F0lr f_F0ld f_ile f_ino f_ifo : Addr} (X : K.In h) (G : h.Ns mainGlobals mg)
    (n_ne : nsIn K mainGlobals "Never" = some (some (.ref ne)))
    (n_al : nsIn K mainGlobals "Always" = some (some (.ref al)))
    (n_le : nsIn K mainGlobals "Letter" = some (some (.ref le)))
    (n_no : nsIn K mainGlobals "Not" = some (some (.ref no)))
    (n_mo : nsIn K mainGlobals "More" = some (some (.ref mo)))
    (n_ls : nsIn K mainGlobals "Less" = some (some (.ref ls)))
    (n_gr : nsIn K mainGlobals "Greater" = some (some (.ref gr)))
    (n_lr : nsIn K mainGlobals "Lesser" = some (some (.ref lr)))
    (n_ld : nsIn K mainGlobals "Leads" = some (some (.ref ld)))
    (c_ne : L2.Cls K ne)
    (c_al : L2.Cls K al)
    (c_le : L2.Cls K le)
    (c_no : L2.Cls K no)
    (c_mo : L2.Cls K mo)
    (c_ls : L2.Cls K ls)
    (c_gr : L2.Cls K gr)
    (c_lr : L2.Cls K lr)
    (c_ld : L2.Cls K ld)
    (h_ne : findIn K (.ref ne) "__class__" = some (some (.builtin "object.__class__")))
    (h_al : findIn K (.ref al) "__class__" = some (some (.builtin "object.__class__")))
    (h_le : findIn K (.ref le) "__class__" = some (some (.builtin "object.__class__")))
    (h_no : findIn K (.ref no) "__class__" = some (some (.builtin "object.__class__")))
    (h_mo : findIn K (.ref mo) "__class__" = some (some (.builtin "object.__class__")))
    (h_ls : findIn K (.ref ls) "__class__" = some (some (.builtin "object.__class__")))
    (h_gr : findIn K (.ref gr) "__class__" = some (some (.builtin "object.__class__")))
    (h_lr : findIn K (.ref lr) "__class__" = some (some (.builtin "object.__class__")))
    (h_ld : findIn K (.ref ld) "__class__" = some (some (.builtin "object.__class__")))
    (m_ne : mroIn K ne (.type "object") = some true)
    (m_al : mroIn K al (.type "object") = some true)
    (m_le : mroIn K le (.type "object") = some true)
    (m_no : mroIn K no (.type "object") = some true)
    (m_mo : mroIn K mo (.type "object") = some true)
    (m_ls : mroIn K ls (.type "object") = some true)
    (m_gr : mroIn K gr (.type "object") = some true)
    (m_lr : mroIn K lr (.type "object") = some true)
    (m_ld : mroIn K ld (.type "object") = some true)
    (s_ne : kitOne K (.ref ne) (.type "str") = some false)
    (s_al : kitOne K (.ref al) (.type "str") = some false)
    (s_le : kitOne K (.ref le) (.type "str") = some false)
    (s_no : kitOne K (.ref no) (.type "str") = some false)
    (s_mo : kitOne K (.ref mo) (.type "str") = some false)
    (s_ls : kitOne K (.ref ls) (.type "str") = some false)
    (s_gr : kitOne K (.ref gr) (.type "str") = some false)
    (s_lr : kitOne K (.ref lr) (.type "str") = some false)
    (s_ld : kitOne K (.ref ld) (.type "str") = some false)
    (hn : specialIn K (.builtin "object.__class__") "__get__" = some (some (.builtin "getset_descriptor.__get__")))
    (tk : takesIn K (.builtin "object.__class__") = some true)
    (a_name : findIn K (.ref le) "name" = some none)
    (a_part : findIn K (.ref no) "part" = some none)
    (a_one_mo : findIn K (.ref mo) "one" = some none)
    (a_one_ls : findIn K (.ref ls) "one" = some none)
    (a_one_gr : findIn K (.ref gr) "one" = some none)
    (a_one_lr : findIn K (.ref lr) "one" = some none)
    (a_one_ld : findIn K (.ref ld) "one" = some none)
    (a_other_mo : findIn K (.ref mo) "other" = some none)
    (a_other_ls : findIn K (.ref ls) "other" = some none)
    (a_other_gr : findIn K (.ref gr) "other" = some none)
    (a_other_lr : findIn K (.ref lr) "other" = some none)
    (a_other_ld : findIn K (.ref ld) "other" = some none)
    (g_madeS_ne : findIn K (.ref ne) "made_of" = some (some (.ref f_madeS)))
    (g_madeS_al : findIn K (.ref al) "made_of" = some (some (.ref f_madeS)))
    (g_madeS_le : findIn K (.ref le) "made_of" = some (some (.ref f_madeS)))
    (e_madeS : L2.FunE K "made_of" "Saying.made_of" Mine.s_Saying_made_of f_madeS)
    (g_piecesS_ne : findIn K (.ref ne) "pieces" = some (some (.ref f_piecesS)))
    (g_piecesS_al : findIn K (.ref al) "pieces" = some (some (.ref f_piecesS)))
    (g_piecesS_le : findIn K (.ref le) "pieces" = some (some (.ref f_piecesS)))
    (e_piecesS : L2.FunE K "pieces" "Saying.pieces" Mine.s_Saying_pieces f_piecesS)
    (g_laid_ne : findIn K (.ref ne) "laid_out" = some (some (.ref f_laid)))
    (g_laid_al : findIn K (.ref al) "laid_out" = some (some (.ref f_laid)))
    (g_laid_le : findIn K (.ref le) "laid_out" = some (some (.ref f_laid)))
    (g_laid_no : findIn K (.ref no) "laid_out" = some (some (.ref f_laid)))
    (g_laid_mo : findIn K (.ref mo) "laid_out" = some (some (.ref f_laid)))
    (g_laid_ls : findIn K (.ref ls) "laid_out" = some (some (.ref f_laid)))
    (g_laid_gr : findIn K (.ref gr) "laid_out" = some (some (.ref f_laid)))
    (g_laid_lr : findIn K (.ref lr) "laid_out" = some (some (.ref f_laid)))
    (g_laid_ld : findIn K (.ref ld) "laid_out" = some (some (.ref f_laid)))
    (e_laid : L2.FunE K "laid_out" "Saying.laid_out" Mine.s_Saying_laid_out f_laid)
    (g_told_ne : findIn K (.ref ne) "told" = some (some (.ref f_told)))
    (g_told_al : findIn K (.ref al) "told" = some (some (.ref f_told)))
    (g_told_le : findIn K (.ref le) "told" = some (some (.ref f_told)))
    (g_told_no : findIn K (.ref no) "told" = some (some (.ref f_told)))
    (g_told_mo : findIn K (.ref mo) "told" = some (some (.ref f_told)))
    (g_told_ls : findIn K (.ref ls) "told" = some (some (.ref f_told)))
    (g_told_gr : findIn K (.ref gr) "told" = some (some (.ref f_told)))
    (g_told_lr : findIn K (.ref lr) "told" = some (some (.ref f_told)))
    (g_told_ld : findIn K (.ref ld) "told" = some (some (.ref f_told)))
    (e_told : L2.FunE K "told" "Saying.told" Mine.s_Saying_told f_told)
    (g_parts_ne : findIn K (.ref ne) "parts" = some (some (.ref f_parts)))
    (g_parts_al : findIn K (.ref al) "parts" = some (some (.ref f_parts)))
    (g_parts_le : findIn K (.ref le) "parts" = some (some (.ref f_parts)))
    (g_parts_no : findIn K (.ref no) "parts" = some (some (.ref f_parts)))
    (g_parts_mo : findIn K (.ref mo) "parts" = some (some (.ref f_parts)))
    (g_parts_ls : findIn K (.ref ls) "parts" = some (some (.ref f_parts)))
    (g_parts_gr : findIn K (.ref gr) "parts" = some (some (.ref f_parts)))
    (g_parts_lr : findIn K (.ref lr) "parts" = some (some (.ref f_parts)))
    (g_parts_ld : findIn K (.ref ld) "parts" = some (some (.ref f_parts)))
    (e_parts : L2.FunE K "parts" "Saying.parts" Mine.s_Saying_parts f_parts)
    (g_foldsS_ne : findIn K (.ref ne) "folds" = some (some (.ref f_foldsS)))
    (g_foldsS_al : findIn K (.ref al) "folds" = some (some (.ref f_foldsS)))
    (g_foldsS_le : findIn K (.ref le) "folds" = some (some (.ref f_foldsS)))
    (g_foldsS_no : findIn K (.ref no) "folds" = some (some (.ref f_foldsS)))
    (g_foldsS_mo : findIn K (.ref mo) "folds" = some (some (.ref f_foldsS)))
    (g_foldsS_ls : findIn K (.ref ls) "folds" = some (some (.ref f_foldsS)))
    (g_foldsS_gr : findIn K (.ref gr) "folds" = some (some (.ref f_foldsS)))
    (g_foldsS_lr : findIn K (.ref lr) "folds" = some (some (.ref f_foldsS)))
    (g_foldsS_ld : findIn K (.ref ld) "folds" = some (some (.ref f_foldsS)))
    (e_foldsS : L2.FunE K "folds" "Saying.folds" Mine.s_Saying_folds f_foldsS)
    (g_letters_ne : findIn K (.ref ne) "letters" = some (some (.ref f_letters)))
    (g_letters_al : findIn K (.ref al) "letters" = some (some (.ref f_letters)))
    (g_letters_le : findIn K (.ref le) "letters" = some (some (.ref f_letters)))
    (g_letters_no : findIn K (.ref no) "letters" = some (some (.ref f_letters)))
    (g_letters_mo : findIn K (.ref mo) "letters" = some (some (.ref f_letters)))
    (g_letters_ls : findIn K (.ref ls) "letters" = some (some (.ref f_letters)))
    (g_letters_gr : findIn K (.ref gr) "letters" = some (some (.ref f_letters)))
    (g_letters_lr : findIn K (.ref lr) "letters" = some (some (.ref f_letters)))
    (g_letters_ld : findIn K (.ref ld) "letters" = some (some (.ref f_letters)))
    (e_letters : L2.FunE K "letters" "Saying.letters" Mine.s_Saying_letters f_letters)
    (g_Kne_ne : findIn K (.ref ne) "making_word" = some (some (.ref f_Kne)))
    (e_Kne : L2.FunE K "making_word" "Never.making_word" Mine.s_Never_making_word f_Kne)
    (g_Kal_al : findIn K (.ref al) "making_word" = some (some (.ref f_Kal)))
    (e_Kal : L2.FunE K "making_word" "Always.making_word" Mine.s_Always_making_word f_Kal)
    (g_Kle_le : findIn K (.ref le) "making_word" = some (some (.ref f_Kle)))
    (e_Kle : L2.FunE K "making_word" "Letter.making_word" Mine.s_Letter_making_word f_Kle)
    (g_Kno_no : findIn K (.ref no) "making_word" = some (some (.ref f_Kno)))
    (e_Kno : L2.FunE K "making_word" "Not.making_word" Mine.s_Not_making_word f_Kno)
    (g_Mno_no : findIn K (.ref no) "made_of" = some (some (.ref f_Mno)))
    (e_Mno : L2.FunE K "made_of" "Not.made_of" Mine.s_Not_made_of f_Mno)
    (g_Pno_no : findIn K (.ref no) "pieces" = some (some (.ref f_Pno)))
    (e_Pno : L2.FunE K "pieces" "Not.pieces" Mine.s_Not_pieces f_Pno)
    (g_Mfo_mo : findIn K (.ref mo) "made_of" = some (some (.ref f_Mfo)))
    (g_Mfo_ls : findIn K (.ref ls) "made_of" = some (some (.ref f_Mfo)))
    (g_Mfo_gr : findIn K (.ref gr) "made_of" = some (some (.ref f_Mfo)))
    (g_Mfo_lr : findIn K (.ref lr) "made_of" = some (some (.ref f_Mfo)))
    (g_Mfo_ld : findIn K (.ref ld) "made_of" = some (some (.ref f_Mfo)))
    (e_Mfo : L2.FunE K "made_of" "Fold.made_of" Mine.s_Fold_made_of f_Mfo)
    (g_Pfo_mo : findIn K (.ref mo) "pieces" = some (some (.ref f_Pfo)))
    (g_Pfo_ls : findIn K (.ref ls) "pieces" = some (some (.ref f_Pfo)))
    (g_Pfo_gr : findIn K (.ref gr) "pieces" = some (some (.ref f_Pfo)))
    (g_Pfo_lr : findIn K (.ref lr) "pieces" = some (some (.ref f_Pfo)))
    (g_Pfo_ld : findIn K (.ref ld) "pieces" = some (some (.ref f_Pfo)))
    (e_Pfo : L2.FunE K "pieces" "Fold.pieces" Mine.s_Fold_pieces f_Pfo)
    (g_F0mo_mo : findIn K (.ref mo) "making_word" = some (some (.ref f_F0mo)))
    (e_F0mo : L2.FunE K "making_word" "More.making_word" Mine.s_More_making_word f_F0mo)
    (g_F0ls_ls : findIn K (.ref ls) "making_word" = some (some (.ref f_F0ls)))
    (e_F0ls : L2.FunE K "making_word" "Less.making_word" Mine.s_Less_making_word f_F0ls)
    (g_F0gr_gr : findIn K (.ref gr) "making_word" = some (some (.ref f_F0gr)))
    (e_F0gr : L2.FunE K "making_word" "Greater.making_word" Mine.s_Greater_making_word f_F0gr)
    (g_F0lr_lr : findIn K (.ref lr) "making_word" = some (some (.ref f_F0lr)))
    (e_F0lr : L2.FunE K "making_word" "Lesser.making_word" Mine.s_Lesser_making_word f_F0lr)
    (g_F0ld_ld : findIn K (.ref ld) "making_word" = some (some (.ref f_F0ld)))
    (e_F0ld : L2.FunE K "making_word" "Leads.making_word" Mine.s_Leads_making_word f_F0ld)
    (g_ile_le : findIn K (.ref le) "__init__" = some (some (.ref f_ile)))
    (e_ile : L2.FunE K "__init__" "Letter.__init__" Mine.s_Letter_init f_ile)
    (g_ino_no : findIn K (.ref no) "__init__" = some (some (.ref f_ino)))
    (e_ino : L2.FunE K "__init__" "Not.__init__" Mine.s_Not_init f_ino)
    (g_ifo_mo : findIn K (.ref mo) "__init__" = some (some (.ref f_ifo)))
    (g_ifo_ls : findIn K (.ref ls) "__init__" = some (some (.ref f_ifo)))
    (g_ifo_gr : findIn K (.ref gr) "__init__" = some (some (.ref f_ifo)))
    (g_ifo_lr : findIn K (.ref lr) "__init__" = some (some (.ref f_ifo)))
    (g_ifo_ld : findIn K (.ref ld) "__init__" = some (some (.ref f_ifo)))
    (e_ifo : L2.FunE K "__init__" "Fold.__init__" Mine.s_Fold_init f_ifo)
    (i_ne : findIn K (.ref ne) "__init__" = some (some (.builtin "object.__init__")))
    (i_al : findIn K (.ref al) "__init__" = some (some (.builtin "object.__init__")))
    (y_ne : makesIn K ne = true)
    (y_al : makesIn K al = true)
    (y_le : makesIn K le = true)
    (y_no : makesIn K no = true)
    (y_mo : makesIn K mo = true)
    (y_ls : makesIn K ls = true)
    (y_gr : makesIn K gr = true)
    (y_lr : makesIn K lr = true)
    (y_ld : makesIn K ld = true)
    (z_ne : keepIn K (.ref ne) = true)
    (z_al : keepIn K (.ref al) = true)
    (z_le : keepIn K (.ref le) = true)
    (z_no : keepIn K (.ref no) = true)
    (z_mo : keepIn K (.ref mo) = true)
    (z_ls : keepIn K (.ref ls) = true)
    (z_gr : keepIn K (.ref gr) = true)
    (z_lr : keepIn K (.ref lr) = true)
    (z_ld : keepIn K (.ref ld) = true)
    (n_cS : nsIn K mainGlobals "Saying" = some (some (.ref cS)))
    (n_cF : nsIn K mainGlobals "Fold" = some (some (.ref cF)))
    (q_ne_S : kitOne K (.ref ne) (.ref cS) = some true)
    (q_ne_F : kitOne K (.ref ne) (.ref cF) = some false)
    (q_ne_al : kitOne K (.ref ne) (.ref al) = some false)
    (q_ne_le : kitOne K (.ref ne) (.ref le) = some false)
    (q_ne_no : kitOne K (.ref ne) (.ref no) = some false)
    (q_ne_mo : kitOne K (.ref ne) (.ref mo) = some false)
    (q_ne_ls : kitOne K (.ref ne) (.ref ls) = some false)
    (q_ne_gr : kitOne K (.ref ne) (.ref gr) = some false)
    (q_ne_lr : kitOne K (.ref ne) (.ref lr) = some false)
    (q_ne_ld : kitOne K (.ref ne) (.ref ld) = some false)
    (q_al_S : kitOne K (.ref al) (.ref cS) = some true)
    (q_al_F : kitOne K (.ref al) (.ref cF) = some false)
    (q_al_ne : kitOne K (.ref al) (.ref ne) = some false)
    (q_al_le : kitOne K (.ref al) (.ref le) = some false)
    (q_al_no : kitOne K (.ref al) (.ref no) = some false)
    (q_al_mo : kitOne K (.ref al) (.ref mo) = some false)
    (q_al_ls : kitOne K (.ref al) (.ref ls) = some false)
    (q_al_gr : kitOne K (.ref al) (.ref gr) = some false)
    (q_al_lr : kitOne K (.ref al) (.ref lr) = some false)
    (q_al_ld : kitOne K (.ref al) (.ref ld) = some false)
    (q_le_S : kitOne K (.ref le) (.ref cS) = some true)
    (q_le_F : kitOne K (.ref le) (.ref cF) = some false)
    (q_le_ne : kitOne K (.ref le) (.ref ne) = some false)
    (q_le_al : kitOne K (.ref le) (.ref al) = some false)
    (q_le_no : kitOne K (.ref le) (.ref no) = some false)
    (q_le_mo : kitOne K (.ref le) (.ref mo) = some false)
    (q_le_ls : kitOne K (.ref le) (.ref ls) = some false)
    (q_le_gr : kitOne K (.ref le) (.ref gr) = some false)
    (q_le_lr : kitOne K (.ref le) (.ref lr) = some false)
    (q_le_ld : kitOne K (.ref le) (.ref ld) = some false)
    (q_no_S : kitOne K (.ref no) (.ref cS) = some true)
    (q_no_F : kitOne K (.ref no) (.ref cF) = some false)
    (q_no_ne : kitOne K (.ref no) (.ref ne) = some false)
    (q_no_al : kitOne K (.ref no) (.ref al) = some false)
    (q_no_le : kitOne K (.ref no) (.ref le) = some false)
    (q_no_mo : kitOne K (.ref no) (.ref mo) = some false)
    (q_no_ls : kitOne K (.ref no) (.ref ls) = some false)
    (q_no_gr : kitOne K (.ref no) (.ref gr) = some false)
    (q_no_lr : kitOne K (.ref no) (.ref lr) = some false)
    (q_no_ld : kitOne K (.ref no) (.ref ld) = some false)
    (q_mo_S : kitOne K (.ref mo) (.ref cS) = some true)
    (q_mo_F : kitOne K (.ref mo) (.ref cF) = some true)
    (q_mo_ne : kitOne K (.ref mo) (.ref ne) = some false)
    (q_mo_al : kitOne K (.ref mo) (.ref al) = some false)
    (q_mo_le : kitOne K (.ref mo) (.ref le) = some false)
    (q_mo_no : kitOne K (.ref mo) (.ref no) = some false)
    (q_mo_ls : kitOne K (.ref mo) (.ref ls) = some false)
    (q_mo_gr : kitOne K (.ref mo) (.ref gr) = some false)
    (q_mo_lr : kitOne K (.ref mo) (.ref lr) = some false)
    (q_mo_ld : kitOne K (.ref mo) (.ref ld) = some false)
    (q_ls_S : kitOne K (.ref ls) (.ref cS) = some true)
    (q_ls_F : kitOne K (.ref ls) (.ref cF) = some true)
    (q_ls_ne : kitOne K (.ref ls) (.ref ne) = some false)
    (q_ls_al : kitOne K (.ref ls) (.ref al) = some false)
    (q_ls_le : kitOne K (.ref ls) (.ref le) = some false)
    (q_ls_no : kitOne K (.ref ls) (.ref no) = some false)
    (q_ls_mo : kitOne K (.ref ls) (.ref mo) = some false)
    (q_ls_gr : kitOne K (.ref ls) (.ref gr) = some false)
    (q_ls_lr : kitOne K (.ref ls) (.ref lr) = some false)
    (q_ls_ld : kitOne K (.ref ls) (.ref ld) = some false)
    (q_gr_S : kitOne K (.ref gr) (.ref cS) = some true)
    (q_gr_F : kitOne K (.ref gr) (.ref cF) = some true)
    (q_gr_ne : kitOne K (.ref gr) (.ref ne) = some false)
    (q_gr_al : kitOne K (.ref gr) (.ref al) = some false)
    (q_gr_le : kitOne K (.ref gr) (.ref le) = some false)
    (q_gr_no : kitOne K (.ref gr) (.ref no) = some false)
    (q_gr_mo : kitOne K (.ref gr) (.ref mo) = some false)
    (q_gr_ls : kitOne K (.ref gr) (.ref ls) = some false)
    (q_gr_lr : kitOne K (.ref gr) (.ref lr) = some false)
    (q_gr_ld : kitOne K (.ref gr) (.ref ld) = some false)
    (q_lr_S : kitOne K (.ref lr) (.ref cS) = some true)
    (q_lr_F : kitOne K (.ref lr) (.ref cF) = some true)
    (q_lr_ne : kitOne K (.ref lr) (.ref ne) = some false)
    (q_lr_al : kitOne K (.ref lr) (.ref al) = some false)
    (q_lr_le : kitOne K (.ref lr) (.ref le) = some false)
    (q_lr_no : kitOne K (.ref lr) (.ref no) = some false)
    (q_lr_mo : kitOne K (.ref lr) (.ref mo) = some false)
    (q_lr_ls : kitOne K (.ref lr) (.ref ls) = some false)
    (q_lr_gr : kitOne K (.ref lr) (.ref gr) = some false)
    (q_lr_ld : kitOne K (.ref lr) (.ref ld) = some false)
    (q_ld_S : kitOne K (.ref ld) (.ref cS) = some true)
    (q_ld_F : kitOne K (.ref ld) (.ref cF) = some true)
    (q_ld_ne : kitOne K (.ref ld) (.ref ne) = some false)
    (q_ld_al : kitOne K (.ref ld) (.ref al) = some false)
    (q_ld_le : kitOne K (.ref ld) (.ref le) = some false)
    (q_ld_no : kitOne K (.ref ld) (.ref no) = some false)
    (q_ld_mo : kitOne K (.ref ld) (.ref mo) = some false)
    (q_ld_ls : kitOne K (.ref ld) (.ref ls) = some false)
    (q_ld_gr : kitOne K (.ref ld) (.ref gr) = some false)
    (q_ld_lr : kitOne K (.ref ld) (.ref lr) = some false) :
    ∃ c, Mine.AllF K mg c := by
  refine ⟨⟨ne, al, le, no, mo, ls, gr, lr, ld⟩, ?_⟩
  refine ⟨?_,
    ?_,
    ?_,
    ?_,
    ?_,
    ?_,
    ?_,
    ?_,
    ?_,
    ?_,
    ?_,
    ?_,
    ?_,
    ?_,
    ?_,
    ?_,
    ?_,
    ?_,
    ?_,
    ?_,
    ?_,
    ?_,
    ?_,
    ?_,
    ?_,
    ?_,
    ?_,
    ?_,
    ?_,
    ?_,
    ?_,
    ?_,
    ?_⟩
  · exact ⟨by intro t; cases t <;> first | exact c_ne | exact c_al | exact c_le | exact c_no | (rename_i u _ _; cases u <;> assumption), by intro t; cases t <;> first | exact h_ne | exact h_al | exact h_le | exact h_no | (rename_i u _ _; cases u <;> assumption), by intro t; cases t <;> first | exact m_ne | exact m_al | exact m_le | exact m_no | (rename_i u _ _; cases u <;> assumption), by intro t; cases t <;> first | exact s_ne | exact s_al | exact s_le | exact s_no | (rename_i u _ _; cases u <;> assumption), hn, tk, a_name, a_part, by intro u; cases u <;> assumption, by intro u; cases u <;> assumption⟩
  · exact e_madeS.meth c_ne g_madeS_ne
  · exact e_madeS.meth c_al g_madeS_al
  · exact e_madeS.meth c_le g_madeS_le
  · exact e_piecesS.meth c_ne g_piecesS_ne
  · exact e_piecesS.meth c_al g_piecesS_al
  · exact e_piecesS.meth c_le g_piecesS_le
  · intro t; cases t <;> first | exact e_laid.meth c_ne g_laid_ne | exact e_laid.meth c_al g_laid_al | exact e_laid.meth c_le g_laid_le | exact e_laid.meth c_no g_laid_no | (rename_i u _ _; cases u <;> first | exact e_laid.meth c_mo g_laid_mo | exact e_laid.meth c_ls g_laid_ls | exact e_laid.meth c_gr g_laid_gr | exact e_laid.meth c_lr g_laid_lr | exact e_laid.meth c_ld g_laid_ld)
  · intro t; cases t <;> first | exact e_told.meth c_ne g_told_ne | exact e_told.meth c_al g_told_al | exact e_told.meth c_le g_told_le | exact e_told.meth c_no g_told_no | (rename_i u _ _; cases u <;> first | exact e_told.meth c_mo g_told_mo | exact e_told.meth c_ls g_told_ls | exact e_told.meth c_gr g_told_gr | exact e_told.meth c_lr g_told_lr | exact e_told.meth c_ld g_told_ld)
  · intro t; cases t <;> first | exact e_parts.meth c_ne g_parts_ne | exact e_parts.meth c_al g_parts_al | exact e_parts.meth c_le g_parts_le | exact e_parts.meth c_no g_parts_no | (rename_i u _ _; cases u <;> first | exact e_parts.meth c_mo g_parts_mo | exact e_parts.meth c_ls g_parts_ls | exact e_parts.meth c_gr g_parts_gr | exact e_parts.meth c_lr g_parts_lr | exact e_parts.meth c_ld g_parts_ld)
  · intro t; cases t <;> first | exact e_foldsS.meth c_ne g_foldsS_ne | exact e_foldsS.meth c_al g_foldsS_al | exact e_foldsS.meth c_le g_foldsS_le | exact e_foldsS.meth c_no g_foldsS_no | (rename_i u _ _; cases u <;> first | exact e_foldsS.meth c_mo g_foldsS_mo | exact e_foldsS.meth c_ls g_foldsS_ls | exact e_foldsS.meth c_gr g_foldsS_gr | exact e_foldsS.meth c_lr g_foldsS_lr | exact e_foldsS.meth c_ld g_foldsS_ld)
  · intro t; cases t <;> first | exact e_letters.meth c_ne g_letters_ne | exact e_letters.meth c_al g_letters_al | exact e_letters.meth c_le g_letters_le | exact e_letters.meth c_no g_letters_no | (rename_i u _ _; cases u <;> first | exact e_letters.meth c_mo g_letters_mo | exact e_letters.meth c_ls g_letters_ls | exact e_letters.meth c_gr g_letters_gr | exact e_letters.meth c_lr g_letters_lr | exact e_letters.meth c_ld g_letters_ld)
  · exact e_Kne.meth c_ne g_Kne_ne
  · exact e_Kal.meth c_al g_Kal_al
  · exact e_Kle.meth c_le g_Kle_le
  · exact e_Kno.meth c_no g_Kno_no
  · exact e_Mno.meth c_no g_Mno_no
  · exact e_Pno.meth c_no g_Pno_no
  · intro u; cases u <;> first | exact e_Mfo.meth c_mo g_Mfo_mo | exact e_Mfo.meth c_ls g_Mfo_ls | exact e_Mfo.meth c_gr g_Mfo_gr | exact e_Mfo.meth c_lr g_Mfo_lr | exact e_Mfo.meth c_ld g_Mfo_ld
  · intro u; cases u <;> first | exact e_Pfo.meth c_mo g_Pfo_mo | exact e_Pfo.meth c_ls g_Pfo_ls | exact e_Pfo.meth c_gr g_Pfo_gr | exact e_Pfo.meth c_lr g_Pfo_lr | exact e_Pfo.meth c_ld g_Pfo_ld
  · exact e_F0mo.meth c_mo g_F0mo_mo
  · exact e_F0ls.meth c_ls g_F0ls_ls
  · exact e_F0gr.meth c_gr g_F0gr_gr
  · exact e_F0lr.meth c_lr g_F0lr_lr
  · exact e_F0ld.meth c_ld g_F0ld_ld
  · exact e_ile.made c_le g_ile_le (mg_of X G n_le) y_le z_le
  · exact e_ino.made c_no g_ino_no (mg_of X G n_no) y_no z_no
  · intro u; cases u <;> first | exact e_ifo.made c_mo g_ifo_mo (mg_of X G n_mo) y_mo z_mo | exact e_ifo.made c_ls g_ifo_ls (mg_of X G n_ls) y_ls z_ls | exact e_ifo.made c_gr g_ifo_gr (mg_of X G n_gr) y_gr z_gr | exact e_ifo.made c_lr g_ifo_lr (mg_of X G n_lr) y_lr z_lr | exact e_ifo.made c_ld g_ifo_ld (mg_of X G n_ld) y_ld z_ld
  · exact ⟨y_ne, i_ne, z_ne⟩
  · exact mg_of X G n_ne
  · exact ⟨y_al, i_al, z_al⟩
  · exact mg_of X G n_al
  · exact ⟨cS, cF, ⟨by intro t; cases t <;> first | exact q_ne_S | exact q_al_S | exact q_le_S | exact q_no_S | (rename_i u _ _; cases u <;> first | exact q_mo_S | exact q_ls_S | exact q_gr_S | exact q_lr_S | exact q_ld_S), by intro t; cases t <;> first | exact Mine.kit_same | exact q_al_ne | exact q_le_ne | exact q_no_ne | (rename_i u _ _; cases u <;> first | exact q_mo_ne | exact q_ls_ne | exact q_gr_ne | exact q_lr_ne | exact q_ld_ne), by intro t; cases t <;> first | exact q_ne_al | exact Mine.kit_same | exact q_le_al | exact q_no_al | (rename_i u _ _; cases u <;> first | exact q_mo_al | exact q_ls_al | exact q_gr_al | exact q_lr_al | exact q_ld_al), by intro t; cases t <;> first | exact q_ne_le | exact q_al_le | exact Mine.kit_same | exact q_no_le | (rename_i u _ _; cases u <;> first | exact q_mo_le | exact q_ls_le | exact q_gr_le | exact q_lr_le | exact q_ld_le), by intro t; cases t <;> first | exact q_ne_no | exact q_al_no | exact q_le_no | exact Mine.kit_same | (rename_i u _ _; cases u <;> first | exact q_mo_no | exact q_ls_no | exact q_gr_no | exact q_lr_no | exact q_ld_no), by intro t; cases t <;> first | exact q_ne_mo | exact q_al_mo | exact q_le_mo | exact q_no_mo | (rename_i u _ _; cases u <;> first | exact Mine.kit_same | exact q_ls_mo | exact q_gr_mo | exact q_lr_mo | exact q_ld_mo), by intro t; cases t <;> first | exact q_ne_ls | exact q_al_ls | exact q_le_ls | exact q_no_ls | (rename_i u _ _; cases u <;> first | exact q_mo_ls | exact Mine.kit_same | exact q_gr_ls | exact q_lr_ls | exact q_ld_ls), by intro t; cases t <;> first | exact q_ne_gr | exact q_al_gr | exact q_le_gr | exact q_no_gr | (rename_i u _ _; cases u <;> first | exact q_mo_gr | exact q_ls_gr | exact Mine.kit_same | exact q_lr_gr | exact q_ld_gr), by intro t; cases t <;> first | exact q_ne_lr | exact q_al_lr | exact q_le_lr | exact q_no_lr | (rename_i u _ _; cases u <;> first | exact q_mo_lr | exact q_ls_lr | exact q_gr_lr | exact Mine.kit_same | exact q_ld_lr), by intro t; cases t <;> first | exact q_ne_ld | exact q_al_ld | exact q_le_ld | exact q_no_ld | (rename_i u _ _; cases u <;> first | exact q_mo_ld | exact q_ls_ld | exact q_gr_ld | exact q_lr_ld | exact Mine.kit_same)⟩, by intro t; cases t <;> first | exact q_ne_F | exact q_al_F | exact q_le_F | exact q_no_F | (rename_i u _ _; cases u <;> first | exact q_mo_F | exact q_ls_F | exact q_gr_F | exact q_lr_F | exact q_ld_F), mg_of X G n_cS, mg_of X G n_cF, mg_of X G n_ne, mg_of X G n_al, mg_of X G n_le, mg_of X G n_no, mg_of X G n_mo, mg_of X G n_ls, mg_of X G n_gr, mg_of X G n_lr, mg_of X G n_ld⟩
section
variable {P : Program} {w : World} {K : Frag} {mg : Str → Option Value} {base : Heap} {c : Mine.CCs}
open Mine L2
theorem Mine.mks (A : AllF K mg c) : MkOk P w K mg base "Letter" c.le 1 ["self", "name"] (spInit1 c.le fName) ∧ MkOk P w K mg base "Not" c.no 1 ["self", "part"] (spInit1 c.no fPart) ∧ ∀ u : W5, MkOk P w K mg base u.cls (c.fold u) 1 ["self", "one", "other"] (spInit2 (c.fold u)) :=
  ⟨ok_iLetter A.ile A.fx.nName, ok_iNot A.ino A.fx.nPart, fun u => ok_iFold (A.ifo u) (A.fx.nOne u) (A.fx.nOther u)⟩
theorem Mine.ms (A : AllF K mg c) : Ms P w K mg base c := by
  obtain ⟨kl, kn, kf⟩ := mks (P := P) (w := w) (base := base) A
  have word : ∀ t, MethOk P w K mg base (c.of t) "making_word" 1 ["self"] (spWord c t) := by
    intro t
    cases t with
    | never => exact ok_wNever A.Kne_ne
    | always => exact ok_wAlways A.Kal_al
    | lp => exact ok_wLp A.Kle_le A.fx
    | lq => exact ok_wLq A.Kle_le A.fx
    | no t => exact ok_wNot A.Kno_no
    | fold u a b =>
      cases u
      · exact ok_wMore A.F0mo_mo
      · exact ok_wLess A.F0ls_ls
      · exact ok_wGreater A.F0gr_gr
      · exact ok_wLesser A.F0lr_lr
      · exact ok_wLeads A.F0ld_ld
  refine ⟨fun t => ?_, fun t => ?_, fun t => ?_⟩
  · cases t with
    | never => exact ok_mS A.madeS_ne rfl
    | always => exact ok_mS A.madeS_al rfl
    | lp => exact ok_mS A.madeS_le rfl
    | lq => exact ok_mS A.madeS_le rfl
    | no t => exact ok_mNot A.Mno_no A.fx
    | fold u a b => exact ok_mFold (A.Mfo u) A.fx
  · exact word t
  · cases t with
    | never => exact ok_pSay A.piecesS_ne rfl (word .never)
    | always => exact ok_pSay A.piecesS_al rfl (word .always)
    | lp => exact ok_pSay (t := .lp) A.piecesS_le rfl (word .lp)
    | lq => exact ok_pSay (t := .lq) A.piecesS_le rfl (word .lq)
    | no t => exact ok_pNot A.Pno_no A.fx
    | fold u a b => exact ok_pFold (A.Pfo u) A.fx (word (.fold u a b))
end




set_option Elab.async false
set_option linter.all false
set_option maxRecDepth 100000
set_option maxHeartbeats 4000000
theorem PySem.W.Fast.tw10101325686586948499 : True := .intro
theorem PySem.W.Fast.tw10117208458296087295 : True := .intro
theorem PySem.W.Fast.tw10134776723628271774 : True := .intro
theorem PySem.W.Fast.tw10158388944799335561 : True := .intro
theorem PySem.W.Fast.tw10248210847682913534 : True := .intro
theorem PySem.W.Fast.tw10265541587270164743 : True := .intro
theorem PySem.W.Fast.tw10276144321084274806 : True := .intro
theorem PySem.W.Fast.tw10351535358570289775 : True := .intro
theorem PySem.W.Fast.tw10362282345690238769 : True := .intro
theorem PySem.W.Fast.tw10454915642182044393 : True := .intro
theorem PySem.W.Fast.tw10508458854180392905 : True := .intro
theorem PySem.W.Fast.tw10656725945996516783 : True := .intro
theorem PySem.W.Fast.tw10731851767324323408 : True := .intro
theorem PySem.W.Fast.tw10738947604079884092 : True := .intro
theorem PySem.W.Fast.tw10837083291986226840 : True := .intro
theorem PySem.W.Fast.tw10871429774082652035 : True := .intro
theorem PySem.W.Fast.tw10875982405725589445 : True := .intro
theorem PySem.W.Fast.tw10887871751663831758 : True := .intro
theorem PySem.W.Fast.tw10947010161342965836 : True := .intro
theorem PySem.W.Fast.tw10965148664633990153 : True := .intro
theorem PySem.W.Fast.tw11012573672731502769 : True := .intro
theorem PySem.W.Fast.tw11013400014552569862 : True := .intro
theorem PySem.W.Fast.tw11021356081038452565 : True := .intro
theorem PySem.W.Fast.tw11104567465041509229 : True := .intro
theorem PySem.W.Fast.tw11110941476194292835 : True := .intro
theorem PySem.W.Fast.tw11130461666522564666 : True := .intro
theorem PySem.W.Fast.tw11231135508319231727 : True := .intro
theorem PySem.W.Fast.tw11281749469529656175 : True := .intro
theorem PySem.W.Fast.tw11289995452805340344 : True := .intro
theorem PySem.W.Fast.tw11349051215006082441 : True := .intro
theorem PySem.W.Fast.tw11439549851645802891 : True := .intro
theorem PySem.W.Fast.tw11441589199565729109 : True := .intro
theorem PySem.W.Fast.tw11467389630875888771 : True := .intro
theorem PySem.W.Fast.tw11511095046830643649 : True := .intro
theorem PySem.W.Fast.tw11519868608261351509 : True := .intro
theorem PySem.W.Fast.tw11548326826513316421 : True := .intro
theorem PySem.W.Fast.tw11696102004475112030 : True := .intro
theorem PySem.W.Fast.tw11703813175683024515 : True := .intro
theorem PySem.W.Fast.tw11724192489830027010 : True := .intro
theorem PySem.W.Fast.tw11727660564932492804 : True := .intro
theorem PySem.W.Fast.tw11773173134905668472 : True := .intro
theorem PySem.W.Fast.tw11832764286877547448 : True := .intro
theorem PySem.W.Fast.tw11858070993084254821 : True := .intro
theorem PySem.W.Fast.tw11923263214158624557 : True := .intro
theorem PySem.W.Fast.tw11967417499454538852 : True := .intro
theorem PySem.W.Fast.tw11990382071326088832 : True := .intro
theorem PySem.W.Fast.tw11992401569205974819 : True := .intro
theorem PySem.W.Fast.tw11995068136420570322 : True := .intro
theorem PySem.W.Fast.tw12018337608041521818 : True := .intro
theorem PySem.W.Fast.tw12052238963215738215 : True := .intro
theorem PySem.W.Fast.tw12072755155316749111 : True := .intro
theorem PySem.W.Fast.tw12104673394971841959 : True := .intro
theorem PySem.W.Fast.tw12191789442697093975 : True := .intro
theorem PySem.W.Fast.tw12237827090532137320 : True := .intro
theorem PySem.W.Fast.tw12279790803524423979 : True := .intro
theorem PySem.W.Fast.tw12359504589052697849 : True := .intro
theorem PySem.W.Fast.tw12451857441508237695 : True := .intro
theorem PySem.W.Fast.tw12478591417931889742 : True := .intro
theorem PySem.W.Fast.tw12510994791307061169 : True := .intro
theorem PySem.W.Fast.tw12517778641145940884 : True := .intro
theorem PySem.W.Fast.tw1252897273061384302 : True := .intro
theorem PySem.W.Fast.tw1252979826512877915 : True := .intro
theorem PySem.W.Fast.tw12534907142970024749 : True := .intro
theorem PySem.W.Fast.tw12561671952712944279 : True := .intro
theorem PySem.W.Fast.tw12659726488435865056 : True := .intro
theorem PySem.W.Fast.tw12770065202997164436 : True := .intro
theorem PySem.W.Fast.tw1279101376977598156 : True := .intro
theorem PySem.W.Fast.tw1280674156851099026 : True := .intro
theorem PySem.W.Fast.tw12819762545404888931 : True := .intro
theorem PySem.W.Fast.tw12838811756494633485 : True := .intro
theorem PySem.W.Fast.tw12839686091849333248 : True := .intro
theorem PySem.W.Fast.tw12902657938999787845 : True := .intro
theorem PySem.W.Fast.tw12920607302250170060 : True := .intro
theorem PySem.W.Fast.tw12959899177354967182 : True := .intro
theorem PySem.W.Fast.tw12965691595975034819 : True := .intro
theorem PySem.W.Fast.tw12970740157144243621 : True := .intro
theorem PySem.W.Fast.tw13048180487021346792 : True := .intro
theorem PySem.W.Fast.tw13059408356104242982 : True := .intro
theorem PySem.W.Fast.tw13083207052635046109 : True := .intro
theorem PySem.W.Fast.tw13086786898809321475 : True := .intro
theorem PySem.W.Fast.tw13130142662639025052 : True := .intro
theorem PySem.W.Fast.tw13135753366115753303 : True := .intro
theorem PySem.W.Fast.tw13256931282454942912 : True := .intro
theorem PySem.W.Fast.tw13288763434467868084 : True := .intro
theorem PySem.W.Fast.tw13316370533388578207 : True := .intro
theorem PySem.W.Fast.tw13336342158225638308 : True := .intro
theorem PySem.W.Fast.tw13387612016469953262 : True := .intro
theorem PySem.W.Fast.tw13421416127428704627 : True := .intro
theorem PySem.W.Fast.tw13463744498537277935 : True := .intro
theorem PySem.W.Fast.tw13497345650226817463 : True := .intro
theorem PySem.W.Fast.tw13526021210267221064 : True := .intro
theorem PySem.W.Fast.tw13596886920163058568 : True := .intro
theorem PySem.W.Fast.tw13686406645882548239 : True := .intro
theorem PySem.W.Fast.tw13704919540385093094 : True := .intro
theorem PySem.W.Fast.tw13754539449070051613 : True := .intro
theorem PySem.W.Fast.tw13762605426176099380 : True := .intro
theorem PySem.W.Fast.tw13867394897467537554 : True := .intro
theorem PySem.W.Fast.tw13969913333537915230 : True := .intro
theorem PySem.W.Fast.tw13979002277527280982 : True := .intro
theorem PySem.W.Fast.tw13991535583754442693 : True := .intro
theorem PySem.W.Fast.tw14001157099253352230 : True := .intro
theorem PySem.W.Fast.tw14001417202898053432 : True := .intro
theorem PySem.W.Fast.tw14048057532169690962 : True := .intro
theorem PySem.W.Fast.tw14091661392351941183 : True := .intro
theorem PySem.W.Fast.tw14208856481506569615 : True := .intro
theorem PySem.W.Fast.tw1423591145339014859 : True := .intro
theorem PySem.W.Fast.tw14254592573328897194 : True := .intro
theorem PySem.W.Fast.tw14348236169455319851 : True := .intro
theorem PySem.W.Fast.tw1443784423004716337 : True := .intro
theorem PySem.W.Fast.tw14450165108782289426 : True := .intro
theorem PySem.W.Fast.tw14451370583628273000 : True := .intro
theorem PySem.W.Fast.tw14468372680821098171 : True := .intro
theorem PySem.W.Fast.tw14491870108862867293 : True := .intro
theorem PySem.W.Fast.tw14526063313640827596 : True := .intro
theorem PySem.W.Fast.tw14605152318941480606 : True := .intro
theorem PySem.W.Fast.tw14615938688916870997 : True := .intro
theorem PySem.W.Fast.tw14619846450436290915 : True := .intro
theorem PySem.W.Fast.tw14623812309199976421 : True := .intro
theorem PySem.W.Fast.tw14642436290748188252 : True := .intro
theorem PySem.W.Fast.tw14681750882187526720 : True := .intro
theorem PySem.W.Fast.tw14684479314155924528 : True := .intro
theorem PySem.W.Fast.tw14730191709089805744 : True := .intro
theorem PySem.W.Fast.tw14759224670579569315 : True := .intro
theorem PySem.W.Fast.tw14773542150265139882 : True := .intro
theorem PySem.W.Fast.tw14793364139628687123 : True := .intro
theorem PySem.W.Fast.tw14801912503224032474 : True := .intro
theorem PySem.W.Fast.tw14859783791315712591 : True := .intro
theorem PySem.W.Fast.tw14886513976833595342 : True := .intro
theorem PySem.W.Fast.tw1500148506640202902 : True := .intro
theorem PySem.W.Fast.tw15066686285085114119 : True := .intro
theorem PySem.W.Fast.tw15100102535134472528 : True := .intro
theorem PySem.W.Fast.tw15132313410726072135 : True := .intro
theorem PySem.W.Fast.tw15132443238105167903 : True := .intro
theorem PySem.W.Fast.tw15132712461594101070 : True := .intro
theorem PySem.W.Fast.tw15209896183418993308 : True := .intro
theorem PySem.W.Fast.tw15282748781620045796 : True := .intro
theorem PySem.W.Fast.tw15340806200017860579 : True := .intro
theorem PySem.W.Fast.tw15356955939127155107 : True := .intro
theorem PySem.W.Fast.tw15390472384843045865 : True := .intro
theorem PySem.W.Fast.tw15396726950634528655 : True := .intro
theorem PySem.W.Fast.tw15408640908494157468 : True := .intro
theorem PySem.W.Fast.tw15409641605551435585 : True := .intro
theorem PySem.W.Fast.tw15439387629002811297 : True := .intro
theorem PySem.W.Fast.tw15442196857987786445 : True := .intro
theorem PySem.W.Fast.tw15483198005021261252 : True := .intro
theorem PySem.W.Fast.tw15484613111904515307 : True := .intro
theorem PySem.W.Fast.tw15506594433238007105 : True := .intro
theorem PySem.W.Fast.tw15638491225779431482 : True := .intro
theorem PySem.W.Fast.tw15668065324536880020 : True := .intro
theorem PySem.W.Fast.tw15743379039631689131 : True := .intro
theorem PySem.W.Fast.tw15750474965597627290 : True := .intro
theorem PySem.W.Fast.tw15758929770693904607 : True := .intro
theorem PySem.W.Fast.tw15807218263477046419 : True := .intro
theorem PySem.W.Fast.tw15816746494433548863 : True := .intro
theorem PySem.W.Fast.tw1583103962505182935 : True := .intro
theorem PySem.W.Fast.tw15842499723819789815 : True := .intro
theorem PySem.W.Fast.tw1584635384900695462 : True := .intro
theorem PySem.W.Fast.tw15915659774200094113 : True := .intro
theorem PySem.W.Fast.tw15933578088813300782 : True := .intro
theorem PySem.W.Fast.tw15980012435834012694 : True := .intro
theorem PySem.W.Fast.tw16016031480336087523 : True := .intro
theorem PySem.W.Fast.tw16073368166442926899 : True := .intro
theorem PySem.W.Fast.tw16083927164467957999 : True := .intro
theorem PySem.W.Fast.tw16116933455493242459 : True := .intro
theorem PySem.W.Fast.tw16145504398760142636 : True := .intro
theorem PySem.W.Fast.tw16190794898722539581 : True := .intro
theorem PySem.W.Fast.tw16271303139773224620 : True := .intro
theorem PySem.W.Fast.tw1628865201692275928 : True := .intro
theorem PySem.W.Fast.tw1632261385743292381 : True := .intro
theorem PySem.W.Fast.tw1636088130816540168 : True := .intro
theorem PySem.W.Fast.tw16381705839551512425 : True := .intro
theorem PySem.W.Fast.tw16500831588221749338 : True := .intro
theorem PySem.W.Fast.tw1651442371307292718 : True := .intro
theorem PySem.W.Fast.tw16552750137392585488 : True := .intro
theorem PySem.W.Fast.tw16573078486741844134 : True := .intro
theorem PySem.W.Fast.tw16670856920027303695 : True := .intro
theorem PySem.W.Fast.tw1671431267253433628 : True := .intro
theorem PySem.W.Fast.tw16836327152619386741 : True := .intro
theorem PySem.W.Fast.tw16855075020561079336 : True := .intro
theorem PySem.W.Fast.tw16866300220744209687 : True := .intro
theorem PySem.W.Fast.tw16908834430967297070 : True := .intro
theorem PySem.W.Fast.tw16916169578319013760 : True := .intro
theorem PySem.W.Fast.tw16928650333225088726 : True := .intro
theorem PySem.W.Fast.tw16955052539732528774 : True := .intro
theorem PySem.W.Fast.tw17007112412104258052 : True := .intro
theorem PySem.W.Fast.tw17059225814010441143 : True := .intro
theorem PySem.W.Fast.tw17084841391625198063 : True := .intro
theorem PySem.W.Fast.tw17093839081538040491 : True := .intro
theorem PySem.W.Fast.tw17105494575082448753 : True := .intro
theorem PySem.W.Fast.tw17177883484272174574 : True := .intro
theorem PySem.W.Fast.tw17195487254982319688 : True := .intro
theorem PySem.W.Fast.tw17314271356529495662 : True := .intro
theorem PySem.W.Fast.tw17322376849570132672 : True := .intro
theorem PySem.W.Fast.tw17325935298535013730 : True := .intro
theorem PySem.W.Fast.tw17403083742772354372 : True := .intro
theorem PySem.W.Fast.tw17509888911940354025 : True := .intro
theorem PySem.W.Fast.tw17521200851115713189 : True := .intro
theorem PySem.W.Fast.tw17586338395198842339 : True := .intro
theorem PySem.W.Fast.tw1759205839180027258 : True := .intro
theorem PySem.W.Fast.tw17617820525412935284 : True := .intro
theorem PySem.W.Fast.tw17632423507942418979 : True := .intro
theorem PySem.W.Fast.tw17634718147181768607 : True := .intro
theorem PySem.W.Fast.tw17699990038202432275 : True := .intro
theorem PySem.W.Fast.tw17709285553432224244 : True := .intro
theorem PySem.W.Fast.tw1771590561414857793 : True := .intro
theorem PySem.W.Fast.tw1777707434384594030 : True := .intro
theorem PySem.W.Fast.tw17820834866380797760 : True := .intro
theorem PySem.W.Fast.tw17868731144463375623 : True := .intro
theorem PySem.W.Fast.tw17882188084415173277 : True := .intro
theorem PySem.W.Fast.tw17886065147756298138 : True := .intro
theorem PySem.W.Fast.tw17940902543166772182 : True := .intro
theorem PySem.W.Fast.tw18037463260156966736 : True := .intro
theorem PySem.W.Fast.tw18065586935301233408 : True := .intro
theorem PySem.W.Fast.tw18068922817511720199 : True := .intro
theorem PySem.W.Fast.tw18105637558706885419 : True := .intro
theorem PySem.W.Fast.tw18143239054261311259 : True := .intro
theorem PySem.W.Fast.tw18179779742711148370 : True := .intro
theorem PySem.W.Fast.tw1823099632638999514 : True := .intro
theorem PySem.W.Fast.tw18240696678625751227 : True := .intro
theorem PySem.W.Fast.tw18250698370786090449 : True := .intro
theorem PySem.W.Fast.tw1829457401047589668 : True := .intro
theorem PySem.W.Fast.tw18319961354286295219 : True := .intro
theorem PySem.W.Fast.tw18325507601159187065 : True := .intro
theorem PySem.W.Fast.tw1835113685389280997 : True := .intro
theorem PySem.W.Fast.tw18377369215451680238 : True := .intro
theorem PySem.W.Fast.tw18425951684697980911 : True := .intro
theorem PySem.W.Fast.tw1845227456772846645 : True := .intro
theorem PySem.W.Fast.tw1865076719878143044 : True := .intro
theorem PySem.W.Fast.tw1868241011035792949 : True := .intro
theorem PySem.W.Fast.tw1994470322060175681 : True := .intro
theorem PySem.W.Fast.tw1998753927391237637 : True := .intro
theorem PySem.W.Fast.tw2056152953198237380 : True := .intro
theorem PySem.W.Fast.tw2083786673544048016 : True := .intro
theorem PySem.W.Fast.tw2091159943657509974 : True := .intro
theorem PySem.W.Fast.tw2103225414556901627 : True := .intro
theorem PySem.W.Fast.tw2140067414459908879 : True := .intro
theorem PySem.W.Fast.tw2163626042863062330 : True := .intro
theorem PySem.W.Fast.tw2175840708815830165 : True := .intro
theorem PySem.W.Fast.tw2203915267411223269 : True := .intro
theorem PySem.W.Fast.tw229012214068342745 : True := .intro
theorem PySem.W.Fast.tw2316309519929272513 : True := .intro
theorem PySem.W.Fast.tw2329067925461380605 : True := .intro
theorem PySem.W.Fast.tw2362237494198774510 : True := .intro
theorem PySem.W.Fast.tw2367197550063712838 : True := .intro
theorem PySem.W.Fast.tw2383559938232265931 : True := .intro
theorem PySem.W.Fast.tw2415584959825103396 : True := .intro
theorem PySem.W.Fast.tw2417453487402118083 : True := .intro
theorem PySem.W.Fast.tw2420761234394449475 : True := .intro
theorem PySem.W.Fast.tw2453812407443601731 : True := .intro
theorem PySem.W.Fast.tw246135707482971910 : True := .intro
theorem PySem.W.Fast.tw2516232463674666454 : True := .intro
theorem PySem.W.Fast.tw2549372241813430648 : True := .intro
theorem PySem.W.Fast.tw2722572383496810364 : True := .intro
theorem PySem.W.Fast.tw2778945602931132617 : True := .intro
theorem PySem.W.Fast.tw2787515405444432974 : True := .intro
theorem PySem.W.Fast.tw2800090583531675776 : True := .intro
theorem PySem.W.Fast.tw2833970472350105569 : True := .intro
theorem PySem.W.Fast.tw2844974136956969500 : True := .intro
theorem PySem.W.Fast.tw2850943857991763816 : True := .intro
theorem PySem.W.Fast.tw2854965832514521040 : True := .intro
theorem PySem.W.Fast.tw2886638178501308834 : True := .intro
theorem PySem.W.Fast.tw2899640859054907685 : True := .intro
theorem PySem.W.Fast.tw2941622627775841070 : True := .intro
theorem PySem.W.Fast.tw2948096978606641018 : True := .intro
theorem PySem.W.Fast.tw2951512711175793728 : True := .intro
theorem PySem.W.Fast.tw3023627122326888645 : True := .intro
theorem PySem.W.Fast.tw304262142646973104 : True := .intro
theorem PySem.W.Fast.tw3048555545113154272 : True := .intro
theorem PySem.W.Fast.tw3057019661814677665 : True := .intro
theorem PySem.W.Fast.tw3086384521904384974 : True := .intro
theorem PySem.W.Fast.tw309271146539936629 : True := .intro
theorem PySem.W.Fast.tw3140981262802324535 : True := .intro
theorem PySem.W.Fast.tw314263434993171371 : True := .intro
theorem PySem.W.Fast.tw3190980592298040706 : True := .intro
theorem PySem.W.Fast.tw3202317786930313446 : True := .intro
theorem PySem.W.Fast.tw3290328760965045420 : True := .intro
theorem PySem.W.Fast.tw3372850602415801024 : True := .intro
theorem PySem.W.Fast.tw3463168544630001266 : True := .intro
theorem PySem.W.Fast.tw3497334806078783215 : True := .intro
theorem PySem.W.Fast.tw3515698827707869655 : True := .intro
theorem PySem.W.Fast.tw3517753629352771087 : True := .intro
theorem PySem.W.Fast.tw3528903355342277168 : True := .intro
theorem PySem.W.Fast.tw3537692137407405998 : True := .intro
theorem PySem.W.Fast.tw3610132143557862221 : True := .intro
theorem PySem.W.Fast.tw3682147704516631483 : True := .intro
theorem PySem.W.Fast.tw3740607172918087774 : True := .intro
theorem PySem.W.Fast.tw3828077472791571165 : True := .intro
theorem PySem.W.Fast.tw3837099104021378635 : True := .intro
theorem PySem.W.Fast.tw386787951803263233 : True := .intro
theorem PySem.W.Fast.tw3922599794805314770 : True := .intro
theorem PySem.W.Fast.tw3923651903429784284 : True := .intro
theorem PySem.W.Fast.tw3947415716391589600 : True := .intro
theorem PySem.W.Fast.tw3961827056094999734 : True := .intro
theorem PySem.W.Fast.tw3998278163162018181 : True := .intro
theorem PySem.W.Fast.tw4009957885083745850 : True := .intro
theorem PySem.W.Fast.tw4010113470274594811 : True := .intro
theorem PySem.W.Fast.tw4043313489448347639 : True := .intro
theorem PySem.W.Fast.tw4051899779599381695 : True := .intro
theorem PySem.W.Fast.tw4083383852082937526 : True := .intro
theorem PySem.W.Fast.tw4085873623441968345 : True := .intro
theorem PySem.W.Fast.tw4114903022855749053 : True := .intro
theorem PySem.W.Fast.tw4128440456216091327 : True := .intro
theorem PySem.W.Fast.tw415871525878074562 : True := .intro
theorem PySem.W.Fast.tw4180404598644378675 : True := .intro
theorem PySem.W.Fast.tw4186104532674004743 : True := .intro
theorem PySem.W.Fast.tw4255129056338526899 : True := .intro
theorem PySem.W.Fast.tw4285964254210147238 : True := .intro
theorem PySem.W.Fast.tw4383951489382133479 : True := .intro
theorem PySem.W.Fast.tw4427621833484305015 : True := .intro
theorem PySem.W.Fast.tw4484645965174069905 : True := .intro
theorem PySem.W.Fast.tw450250180931487480 : True := .intro
theorem PySem.W.Fast.tw4506214952760460656 : True := .intro
theorem PySem.W.Fast.tw4514926430067525064 : True := .intro
theorem PySem.W.Fast.tw4519459660823722161 : True := .intro
theorem PySem.W.Fast.tw4605140552128616152 : True := .intro
theorem PySem.W.Fast.tw4631735160068099189 : True := .intro
theorem PySem.W.Fast.tw4662122534787749223 : True := .intro
theorem PySem.W.Fast.tw4775477831781901106 : True := .intro
theorem PySem.W.Fast.tw4777440281604814629 : True := .intro
theorem PySem.W.Fast.tw4895599751911254902 : True := .intro
theorem PySem.W.Fast.tw5005860466976755112 : True := .intro
theorem PySem.W.Fast.tw5032880659032496887 : True := .intro
theorem PySem.W.Fast.tw5052819079264025727 : True := .intro
theorem PySem.W.Fast.tw5064264627867265969 : True := .intro
theorem PySem.W.Fast.tw5075334479389077260 : True := .intro
theorem PySem.W.Fast.tw5107877654735960876 : True := .intro
theorem PySem.W.Fast.tw5129909926897939788 : True := .intro
theorem PySem.W.Fast.tw5136225864735098537 : True := .intro
theorem PySem.W.Fast.tw5149421134128443495 : True := .intro
theorem PySem.W.Fast.tw5206225926724697521 : True := .intro
theorem PySem.W.Fast.tw5272330316473385836 : True := .intro
theorem PySem.W.Fast.tw5435841242737003678 : True := .intro
theorem PySem.W.Fast.tw5437524911325362554 : True := .intro
theorem PySem.W.Fast.tw5497940526238785585 : True := .intro
theorem PySem.W.Fast.tw5538751633404490300 : True := .intro
theorem PySem.W.Fast.tw5551895496222104495 : True := .intro
theorem PySem.W.Fast.tw5580135684796525184 : True := .intro
theorem PySem.W.Fast.tw5592452572416936525 : True := .intro
theorem PySem.W.Fast.tw5616352874677888996 : True := .intro
theorem PySem.W.Fast.tw5653301651529003763 : True := .intro
theorem PySem.W.Fast.tw5672184370364405180 : True := .intro
theorem PySem.W.Fast.tw5719765877223820635 : True := .intro
theorem PySem.W.Fast.tw5785224878944182301 : True := .intro
theorem PySem.W.Fast.tw5798369039360751626 : True := .intro
theorem PySem.W.Fast.tw581312657261503735 : True := .intro
theorem PySem.W.Fast.tw5846002063668703310 : True := .intro
theorem PySem.W.Fast.tw5851273120152605734 : True := .intro
theorem PySem.W.Fast.tw5904925048686329341 : True := .intro
theorem PySem.W.Fast.tw590653769912156179 : True := .intro
theorem PySem.W.Fast.tw6007672442999081291 : True := .intro
theorem PySem.W.Fast.tw6010487456080603815 : True := .intro
theorem PySem.W.Fast.tw6068200148461169086 : True := .intro
theorem PySem.W.Fast.tw6071610062640449319 : True := .intro
theorem PySem.W.Fast.tw608273666401292899 : True := .intro
theorem PySem.W.Fast.tw612052990035173135 : True := .intro
theorem PySem.W.Fast.tw6126561025448407224 : True := .intro
theorem PySem.W.Fast.tw6146692480306582748 : True := .intro
theorem PySem.W.Fast.tw6197900050224660261 : True := .intro
theorem PySem.W.Fast.tw620847396044126480 : True := .intro
theorem PySem.W.Fast.tw6246661624687883619 : True := .intro
theorem PySem.W.Fast.tw6280982003091196502 : True := .intro
theorem PySem.W.Fast.tw6308416987224494511 : True := .intro
theorem PySem.W.Fast.tw6313658739626551410 : True := .intro
theorem PySem.W.Fast.tw6359449705780081489 : True := .intro
theorem PySem.W.Fast.tw6364284092530251203 : True := .intro
theorem PySem.W.Fast.tw6404479831082244067 : True := .intro
theorem PySem.W.Fast.tw6451705646466494670 : True := .intro
theorem PySem.W.Fast.tw6482192730794198836 : True := .intro
theorem PySem.W.Fast.tw6486378218481616889 : True := .intro
theorem PySem.W.Fast.tw6523616385459978646 : True := .intro
theorem PySem.W.Fast.tw6555891249905583789 : True := .intro
theorem PySem.W.Fast.tw657246543528587563 : True := .intro
theorem PySem.W.Fast.tw6579909356295533225 : True := .intro
theorem PySem.W.Fast.tw6586976052477460553 : True := .intro
theorem PySem.W.Fast.tw6657983852691656597 : True := .intro
theorem PySem.W.Fast.tw6809485555344921737 : True := .intro
theorem PySem.W.Fast.tw682546960117681710 : True := .intro
theorem PySem.W.Fast.tw6831422022532504746 : True := .intro
theorem PySem.W.Fast.tw6847997894000242396 : True := .intro
theorem PySem.W.Fast.tw686677554578423720 : True := .intro
theorem PySem.W.Fast.tw6877929734157674815 : True := .intro
theorem PySem.W.Fast.tw6893429536449649480 : True := .intro
theorem PySem.W.Fast.tw6916732831319843942 : True := .intro
theorem PySem.W.Fast.tw6920610292903735763 : True := .intro
theorem PySem.W.Fast.tw6940138567503176894 : True := .intro
theorem PySem.W.Fast.tw6965868836868010201 : True := .intro
theorem PySem.W.Fast.tw6978639010455384766 : True := .intro
theorem PySem.W.Fast.tw7013282950884008920 : True := .intro
theorem PySem.W.Fast.tw704898713657326255 : True := .intro
theorem PySem.W.Fast.tw7069175892846915152 : True := .intro
theorem PySem.W.Fast.tw7094030012667103932 : True := .intro
theorem PySem.W.Fast.tw7099793298286929495 : True := .intro
theorem PySem.W.Fast.tw7141980049854779077 : True := .intro
theorem PySem.W.Fast.tw7230762194717201343 : True := .intro
theorem PySem.W.Fast.tw7295077040690339028 : True := .intro
theorem PySem.W.Fast.tw7312563282094333866 : True := .intro
theorem PySem.W.Fast.tw7366873912428865439 : True := .intro
theorem PySem.W.Fast.tw7394085503595061835 : True := .intro
theorem PySem.W.Fast.tw7428570801313976455 : True := .intro
theorem PySem.W.Fast.tw747488943944444143 : True := .intro
theorem PySem.W.Fast.tw7483106157944547234 : True := .intro
theorem PySem.W.Fast.tw7516699727650314657 : True := .intro
theorem PySem.W.Fast.tw752557667619548032 : True := .intro
theorem PySem.W.Fast.tw7538213780810116938 : True := .intro
theorem PySem.W.Fast.tw7566262289365060704 : True := .intro
theorem PySem.W.Fast.tw7593646756785179582 : True := .intro
theorem PySem.W.Fast.tw7648026200838225578 : True := .intro
theorem PySem.W.Fast.tw7651775147840779783 : True := .intro
theorem PySem.W.Fast.tw7693719219997544468 : True := .intro
theorem PySem.W.Fast.tw7711622312466173446 : True := .intro
theorem PySem.W.Fast.tw7715953904034342453 : True := .intro
theorem PySem.W.Fast.tw7732479696459608012 : True := .intro
theorem PySem.W.Fast.tw7900906102084318032 : True := .intro
theorem PySem.W.Fast.tw7934165007684437006 : True := .intro
theorem PySem.W.Fast.tw7955518414577663286 : True := .intro
theorem PySem.W.Fast.tw7958546515657444422 : True := .intro
theorem PySem.W.Fast.tw8010704648247376005 : True := .intro
theorem PySem.W.Fast.tw8058503523626156144 : True := .intro
theorem PySem.W.Fast.tw8095945251562692673 : True := .intro
theorem PySem.W.Fast.tw8150999432747869165 : True := .intro
theorem PySem.W.Fast.tw8252521627653340079 : True := .intro
theorem PySem.W.Fast.tw8260523686780877191 : True := .intro
theorem PySem.W.Fast.tw8277668178391984449 : True := .intro
theorem PySem.W.Fast.tw8291586886346141041 : True := .intro
theorem PySem.W.Fast.tw8291640171708099625 : True := .intro
theorem PySem.W.Fast.tw8310612911824692987 : True := .intro
theorem PySem.W.Fast.tw8343327175001926419 : True := .intro
theorem PySem.W.Fast.tw8346385764378612436 : True := .intro
theorem PySem.W.Fast.tw8391681364747851889 : True := .intro
theorem PySem.W.Fast.tw8427006818793411165 : True := .intro
theorem PySem.W.Fast.tw8503524108246019022 : True := .intro
theorem PySem.W.Fast.tw8588880493793564807 : True := .intro
theorem PySem.W.Fast.tw861073179837691174 : True := .intro
theorem PySem.W.Fast.tw8701454832819627962 : True := .intro
theorem PySem.W.Fast.tw8714968918474033858 : True := .intro
theorem PySem.W.Fast.tw8749184844266175418 : True := .intro
theorem PySem.W.Fast.tw876243850862134946 : True := .intro
theorem PySem.W.Fast.tw8777252791948598406 : True := .intro
theorem PySem.W.Fast.tw8818256576002270810 : True := .intro
theorem PySem.W.Fast.tw8823400870000851644 : True := .intro
theorem PySem.W.Fast.tw8828077984641075573 : True := .intro
theorem PySem.W.Fast.tw884002242252712823 : True := .intro
theorem PySem.W.Fast.tw8882152519912575216 : True := .intro
theorem PySem.W.Fast.tw8943459933498075709 : True := .intro
theorem PySem.W.Fast.tw9005043487924413950 : True := .intro
theorem PySem.W.Fast.tw9010539729971643005 : True := .intro
theorem PySem.W.Fast.tw9013296270711310771 : True := .intro
theorem PySem.W.Fast.tw9096671951604915034 : True := .intro
theorem PySem.W.Fast.tw9153822610936831195 : True := .intro
theorem PySem.W.Fast.tw9199627608540173959 : True := .intro
theorem PySem.W.Fast.tw9202968981689200221 : True := .intro
theorem PySem.W.Fast.tw9214987589356656326 : True := .intro
theorem PySem.W.Fast.tw9260714384427933897 : True := .intro
theorem PySem.W.Fast.tw9263122856322506982 : True := .intro
theorem PySem.W.Fast.tw9266354754518614117 : True := .intro
theorem PySem.W.Fast.tw9329487349436059142 : True := .intro
theorem PySem.W.Fast.tw94280540007770642 : True := .intro
theorem PySem.W.Fast.tw9448264520684569046 : True := .intro
theorem PySem.W.Fast.tw9524065119013804449 : True := .intro
theorem PySem.W.Fast.tw9541069236033074420 : True := .intro
theorem PySem.W.Fast.tw9623673849291287904 : True := .intro
theorem PySem.W.Fast.tw9623703810124241987 : True := .intro
theorem PySem.W.Fast.tw9663075017113247978 : True := .intro
theorem PySem.W.Fast.tw9727747434309920314 : True := .intro
theorem PySem.W.Fast.tw9756701702698538713 : True := .intro
theorem PySem.W.Fast.tw9786053088202214054 : True := .intro
theorem PySem.W.Fast.tw9834921962287146345 : True := .intro
theorem PySem.W.Fast.tw9851234971439836124 : True := .intro
theorem PySem.W.Fast.tw985871209031451158 : True := .intro
theorem PySem.W.Fast.tw9858991331452206738 : True := .intro
theorem PySem.W.Fast.tw9861230040080865322 : True := .intro
theorem PySem.W.Fast.tw9884902593360058778 : True := .intro
theorem PySem.W.Fast.tw9910817213253163295 : True := .intro
theorem PySem.W.Fast.tw9936296322338591398 : True := .intro
theorem PySem.W.Fast.tw9950396454524944923 : True := .intro
theorem PySem.W.Fast.tw9959366439204265846 : True := .intro
open PySem PySem.W PyProof.Rows
set_option maxRecDepth 100000 in
set_option maxHeartbeats 0 in
theorem PySem.Challenge.cw_leansay_k03_parts_folds_letters_holds : PySem.Challenge.rw_leansay_k03_parts_folds_letters.Holds := by
  w_on; o_law; k_head; (case hw => w_witness2)
  k_fill
  refine L2.walk_bits (l := PySem.Challenge.rw_leansay_k03_parts_folds_letters) (n := 63) (k := 70) (x := "_law_script") (CX := L2.CX0) (sp := Mine.spLaw) rfl (by decide) rfl ⟨rfl, by decide, by decide⟩ (fun w h Y => PySem.W.kIn_of Y) ?F ?S ?C
  case F =>
    intro w mg fa h KX G hmg
    have T_l_mixed : L2.TopDef (L2.KOf KX) mg "_law_mixed" Mine.s_l_mixed := by
      dsimp only [L2.KOf]
      refine' L2.top_mk KX G ?a ?l ?c ?k; (case a => k_is); (case l => k_is); (case c => k_is); (case k => k_is)
    have T_l_next : L2.TopDef (L2.KOf KX) mg "_law_next" Mine.s_l_next := by
      dsimp only [L2.KOf]
      refine' L2.top_mk KX G ?a ?l ?c ?k; (case a => k_is); (case l => k_is); (case c => k_is); (case k => k_is)
    have T_l_saying : L2.TopDef (L2.KOf KX) mg "_law_saying" Mine.s_l_saying := by
      dsimp only [L2.KOf]
      refine' L2.top_mk KX G ?a ?l ?c ?k; (case a => k_is); (case l => k_is); (case c => k_is); (case k => k_is)
    have T_l_object : L2.TopDef (L2.KOf KX) mg "_law_object" Mine.s_l_object := by
      dsimp only [L2.KOf]
      refine' L2.top_mk KX G ?a ?l ?c ?k; (case a => k_is); (case l => k_is); (case c => k_is); (case k => k_is)
    have T_l_text : L2.TopDef (L2.KOf KX) mg "_law_text" Mine.s_l_text := by
      dsimp only [L2.KOf]
      refine' L2.top_mk KX G ?a ?l ?c ?k; (case a => k_is); (case l => k_is); (case c => k_is); (case k => k_is)
    have T_l_whole : L2.TopDef (L2.KOf KX) mg "_law_whole" Mine.s_l_whole := by
      dsimp only [L2.KOf]
      refine' L2.top_mk KX G ?a ?l ?c ?k; (case a => k_is); (case l => k_is); (case c => k_is); (case k => k_is)
    have T_law : L2.TopDef (L2.KOf KX) mg "law" Mine.s_law := by
      dsimp only [L2.KOf]
      refine' L2.top_mk KX G ?a ?l ?c ?k; (case a => k_is); (case l => k_is); (case c => k_is); (case k => k_is)
    have Z_len : mg "len" = none := by
      refine' PySem.W.mg_none_of KX G ?z; (case z => k_is)
    have Z_abs : mg "abs" = none := by
      refine' PySem.W.mg_none_of KX G ?z; (case z => k_is)
    have Z_isinstance : mg "isinstance" = none := by
      refine' PySem.W.mg_none_of KX G ?z; (case z => k_is)
    have Z_bool : mg "bool" = none := by
      refine' PySem.W.mg_none_of KX G ?z; (case z => k_is)
    have Z_int : mg "int" = none := by
      refine' PySem.W.mg_none_of KX G ?z; (case z => k_is)
    have Z_str : mg "str" = none := by
      refine' PySem.W.mg_none_of KX G ?z; (case z => k_is)
    have Z_range : mg "range" = none := by
      refine' PySem.W.mg_none_of KX G ?z; (case z => k_is)
    have Z_list : mg "list" = none := by
      refine' PySem.W.mg_none_of KX G ?z; (case z => k_is)
    have Z_min : mg "min" = none := by
      refine' PySem.W.mg_none_of KX G ?z; (case z => k_is)
    have Z_max : mg "max" = none := by
      refine' PySem.W.mg_none_of KX G ?z; (case z => k_is)
    have Z_reversed : mg "reversed" = none := by
      refine' PySem.W.mg_none_of KX G ?z; (case z => k_is)
    have Z_sorted : mg "sorted" = none := by
      refine' PySem.W.mg_none_of KX G ?z; (case z => k_is)
    have Z_set : mg "set" = none := by
      refine' PySem.W.mg_none_of KX G ?z; (case z => k_is)
    have kb : kitOne (L2.KOf KX) (.type "int") (.type "bool") = some false := by
      dsimp only [L2.KOf]
      first | k_is | kit_is
    have AA : ∃ c, Mine.AllF (L2.KOf KX) mg c := by
      dsimp only [L2.KOf]
      refine' Mine.all_mk KX G ?n_ne ?n_al ?n_le ?n_no ?n_mo ?n_ls ?n_gr ?n_lr ?n_ld ?c_ne ?c_al ?c_le ?c_no ?c_mo ?c_ls ?c_gr ?c_lr ?c_ld ?h_ne ?h_al ?h_le ?h_no ?h_mo ?h_ls ?h_gr ?h_lr ?h_ld ?m_ne ?m_al ?m_le ?m_no ?m_mo ?m_ls ?m_gr ?m_lr ?m_ld ?s_ne ?s_al ?s_le ?s_no ?s_mo ?s_ls ?s_gr ?s_lr ?s_ld ?hn ?tk ?a_name ?a_part ?a_one_mo ?a_one_ls ?a_one_gr ?a_one_lr ?a_one_ld ?a_other_mo ?a_other_ls ?a_other_gr ?a_other_lr ?a_other_ld ?g_madeS_ne ?g_madeS_al ?g_madeS_le ?e_madeS ?g_piecesS_ne ?g_piecesS_al ?g_piecesS_le ?e_piecesS ?g_laid_ne ?g_laid_al ?g_laid_le ?g_laid_no ?g_laid_mo ?g_laid_ls ?g_laid_gr ?g_laid_lr ?g_laid_ld ?e_laid ?g_told_ne ?g_told_al ?g_told_le ?g_told_no ?g_told_mo ?g_told_ls ?g_told_gr ?g_told_lr ?g_told_ld ?e_told ?g_parts_ne ?g_parts_al ?g_parts_le ?g_parts_no ?g_parts_mo ?g_parts_ls ?g_parts_gr ?g_parts_lr ?g_parts_ld ?e_parts ?g_foldsS_ne ?g_foldsS_al ?g_foldsS_le ?g_foldsS_no ?g_foldsS_mo ?g_foldsS_ls ?g_foldsS_gr ?g_foldsS_lr ?g_foldsS_ld ?e_foldsS ?g_letters_ne ?g_letters_al ?g_letters_le ?g_letters_no ?g_letters_mo ?g_letters_ls ?g_letters_gr ?g_letters_lr ?g_letters_ld ?e_letters ?g_Kne_ne ?e_Kne ?g_Kal_al ?e_Kal ?g_Kle_le ?e_Kle ?g_Kno_no ?e_Kno ?g_Mno_no ?e_Mno ?g_Pno_no ?e_Pno ?g_Mfo_mo ?g_Mfo_ls ?g_Mfo_gr ?g_Mfo_lr ?g_Mfo_ld ?e_Mfo ?g_Pfo_mo ?g_Pfo_ls ?g_Pfo_gr ?g_Pfo_lr ?g_Pfo_ld ?e_Pfo ?g_F0mo_mo ?e_F0mo ?g_F0ls_ls ?e_F0ls ?g_F0gr_gr ?e_F0gr ?g_F0lr_lr ?e_F0lr ?g_F0ld_ld ?e_F0ld ?g_ile_le ?e_ile ?g_ino_no ?e_ino ?g_ifo_mo ?g_ifo_ls ?g_ifo_gr ?g_ifo_lr ?g_ifo_ld ?e_ifo ?i_ne ?i_al ?y_ne ?y_al ?y_le ?y_no ?y_mo ?y_ls ?y_gr ?y_lr ?y_ld ?z_ne ?z_al ?z_le ?z_no ?z_mo ?z_ls ?z_gr ?z_lr ?z_ld ?n_cS ?n_cF ?q_ne_S ?q_ne_F ?q_ne_al ?q_ne_le ?q_ne_no ?q_ne_mo ?q_ne_ls ?q_ne_gr ?q_ne_lr ?q_ne_ld ?q_al_S ?q_al_F ?q_al_ne ?q_al_le ?q_al_no ?q_al_mo ?q_al_ls ?q_al_gr ?q_al_lr ?q_al_ld ?q_le_S ?q_le_F ?q_le_ne ?q_le_al ?q_le_no ?q_le_mo ?q_le_ls ?q_le_gr ?q_le_lr ?q_le_ld ?q_no_S ?q_no_F ?q_no_ne ?q_no_al ?q_no_le ?q_no_mo ?q_no_ls ?q_no_gr ?q_no_lr ?q_no_ld ?q_mo_S ?q_mo_F ?q_mo_ne ?q_mo_al ?q_mo_le ?q_mo_no ?q_mo_ls ?q_mo_gr ?q_mo_lr ?q_mo_ld ?q_ls_S ?q_ls_F ?q_ls_ne ?q_ls_al ?q_ls_le ?q_ls_no ?q_ls_mo ?q_ls_gr ?q_ls_lr ?q_ls_ld ?q_gr_S ?q_gr_F ?q_gr_ne ?q_gr_al ?q_gr_le ?q_gr_no ?q_gr_mo ?q_gr_ls ?q_gr_lr ?q_gr_ld ?q_lr_S ?q_lr_F ?q_lr_ne ?q_lr_al ?q_lr_le ?q_lr_no ?q_lr_mo ?q_lr_ls ?q_lr_gr ?q_lr_ld ?q_ld_S ?q_ld_F ?q_ld_ne ?q_ld_al ?q_ld_le ?q_ld_no ?q_ld_mo ?q_ld_ls ?q_ld_gr ?q_ld_lr
      (case n_ne => k_is)
      (case n_al => k_is)
      (case n_le => k_is)
      (case n_no => k_is)
      (case n_mo => k_is)
      (case n_ls => k_is)
      (case n_gr => k_is)
      (case n_lr => k_is)
      (case n_ld => k_is)
      (case c_ne => refine' ⟨?q1, ?q2, ?q3, ?q4⟩; (case q1 => k_is); (case q2 => k_is); (case q3 => k_is); (case q4 => k_is))
      (case c_al => refine' ⟨?q1, ?q2, ?q3, ?q4⟩; (case q1 => k_is); (case q2 => k_is); (case q3 => k_is); (case q4 => k_is))
      (case c_le => refine' ⟨?q1, ?q2, ?q3, ?q4⟩; (case q1 => k_is); (case q2 => k_is); (case q3 => k_is); (case q4 => k_is))
      (case c_no => refine' ⟨?q1, ?q2, ?q3, ?q4⟩; (case q1 => k_is); (case q2 => k_is); (case q3 => k_is); (case q4 => k_is))
      (case c_mo => refine' ⟨?q1, ?q2, ?q3, ?q4⟩; (case q1 => k_is); (case q2 => k_is); (case q3 => k_is); (case q4 => k_is))
      (case c_ls => refine' ⟨?q1, ?q2, ?q3, ?q4⟩; (case q1 => k_is); (case q2 => k_is); (case q3 => k_is); (case q4 => k_is))
      (case c_gr => refine' ⟨?q1, ?q2, ?q3, ?q4⟩; (case q1 => k_is); (case q2 => k_is); (case q3 => k_is); (case q4 => k_is))
      (case c_lr => refine' ⟨?q1, ?q2, ?q3, ?q4⟩; (case q1 => k_is); (case q2 => k_is); (case q3 => k_is); (case q4 => k_is))
      (case c_ld => refine' ⟨?q1, ?q2, ?q3, ?q4⟩; (case q1 => k_is); (case q2 => k_is); (case q3 => k_is); (case q4 => k_is))
      (case h_ne => k_is)
      (case h_al => k_is)
      (case h_le => k_is)
      (case h_no => k_is)
      (case h_mo => k_is)
      (case h_ls => k_is)
      (case h_gr => k_is)
      (case h_lr => k_is)
      (case h_ld => k_is)
      (case m_ne => k_is)
      (case m_al => k_is)
      (case m_le => k_is)
      (case m_no => k_is)
      (case m_mo => k_is)
      (case m_ls => k_is)
      (case m_gr => k_is)
      (case m_lr => k_is)
      (case m_ld => k_is)
      (case s_ne => first | k_is | kit_is)
      (case s_al => first | k_is | kit_is)
      (case s_le => first | k_is | kit_is)
      (case s_no => first | k_is | kit_is)
      (case s_mo => first | k_is | kit_is)
      (case s_ls => first | k_is | kit_is)
      (case s_gr => first | k_is | kit_is)
      (case s_lr => first | k_is | kit_is)
      (case s_ld => first | k_is | kit_is)
      (case hn => k_is)
      (case tk => k_is)
      (case a_name => k_is)
      (case a_part => k_is)
      (case a_one_mo => k_is)
      (case a_one_ls => k_is)
      (case a_one_gr => k_is)
      (case a_one_lr => k_is)
      (case a_one_ld => k_is)
      (case a_other_mo => k_is)
      (case a_other_ls => k_is)
      (case a_other_gr => k_is)
      (case a_other_lr => k_is)
      (case a_other_ld => k_is)
      (case g_madeS_ne => k_is)
      (case g_madeS_al => k_is)
      (case g_madeS_le => k_is)
      (case e_madeS => refine' L2.funE_mk ?l ?c ?k ?fn; (case l => k_is); (case c => k_is); (case k => k_is); (case fn => k_is))
      (case g_piecesS_ne => k_is)
      (case g_piecesS_al => k_is)
      (case g_piecesS_le => k_is)
      (case e_piecesS => refine' L2.funE_mk ?l ?c ?k ?fn; (case l => k_is); (case c => k_is); (case k => k_is); (case fn => k_is))
      (case g_laid_ne => k_is)
      (case g_laid_al => k_is)
      (case g_laid_le => k_is)
      (case g_laid_no => k_is)
      (case g_laid_mo => k_is)
      (case g_laid_ls => k_is)
      (case g_laid_gr => k_is)
      (case g_laid_lr => k_is)
      (case g_laid_ld => k_is)
      (case e_laid => refine' L2.funE_mk ?l ?c ?k ?fn; (case l => k_is); (case c => k_is); (case k => k_is); (case fn => k_is))
      (case g_told_ne => k_is)
      (case g_told_al => k_is)
      (case g_told_le => k_is)
      (case g_told_no => k_is)
      (case g_told_mo => k_is)
      (case g_told_ls => k_is)
      (case g_told_gr => k_is)
      (case g_told_lr => k_is)
      (case g_told_ld => k_is)
      (case e_told => refine' L2.funE_mk ?l ?c ?k ?fn; (case l => k_is); (case c => k_is); (case k => k_is); (case fn => k_is))
      (case g_parts_ne => k_is)
      (case g_parts_al => k_is)
      (case g_parts_le => k_is)
      (case g_parts_no => k_is)
      (case g_parts_mo => k_is)
      (case g_parts_ls => k_is)
      (case g_parts_gr => k_is)
      (case g_parts_lr => k_is)
      (case g_parts_ld => k_is)
      (case e_parts => refine' L2.funE_mk ?l ?c ?k ?fn; (case l => k_is); (case c => k_is); (case k => k_is); (case fn => k_is))
      (case g_foldsS_ne => k_is)
      (case g_foldsS_al => k_is)
      (case g_foldsS_le => k_is)
      (case g_foldsS_no => k_is)
      (case g_foldsS_mo => k_is)
      (case g_foldsS_ls => k_is)
      (case g_foldsS_gr => k_is)
      (case g_foldsS_lr => k_is)
      (case g_foldsS_ld => k_is)
      (case e_foldsS => refine' L2.funE_mk ?l ?c ?k ?fn; (case l => k_is); (case c => k_is); (case k => k_is); (case fn => k_is))
      (case g_letters_ne => k_is)
      (case g_letters_al => k_is)
      (case g_letters_le => k_is)
      (case g_letters_no => k_is)
      (case g_letters_mo => k_is)
      (case g_letters_ls => k_is)
      (case g_letters_gr => k_is)
      (case g_letters_lr => k_is)
      (case g_letters_ld => k_is)
      (case e_letters => refine' L2.funE_mk ?l ?c ?k ?fn; (case l => k_is); (case c => k_is); (case k => k_is); (case fn => k_is))
      (case g_Kne_ne => k_is)
      (case e_Kne => refine' L2.funE_mk ?l ?c ?k ?fn; (case l => k_is); (case c => k_is); (case k => k_is); (case fn => k_is))
      (case g_Kal_al => k_is)
      (case e_Kal => refine' L2.funE_mk ?l ?c ?k ?fn; (case l => k_is); (case c => k_is); (case k => k_is); (case fn => k_is))
      (case g_Kle_le => k_is)
      (case e_Kle => refine' L2.funE_mk ?l ?c ?k ?fn; (case l => k_is); (case c => k_is); (case k => k_is); (case fn => k_is))
      (case g_Kno_no => k_is)
      (case e_Kno => refine' L2.funE_mk ?l ?c ?k ?fn; (case l => k_is); (case c => k_is); (case k => k_is); (case fn => k_is))
      (case g_Mno_no => k_is)
      (case e_Mno => refine' L2.funE_mk ?l ?c ?k ?fn; (case l => k_is); (case c => k_is); (case k => k_is); (case fn => k_is))
      (case g_Pno_no => k_is)
      (case e_Pno => refine' L2.funE_mk ?l ?c ?k ?fn; (case l => k_is); (case c => k_is); (case k => k_is); (case fn => k_is))
      (case g_Mfo_mo => k_is)
      (case g_Mfo_ls => k_is)
      (case g_Mfo_gr => k_is)
      (case g_Mfo_lr => k_is)
      (case g_Mfo_ld => k_is)
      (case e_Mfo => refine' L2.funE_mk ?l ?c ?k ?fn; (case l => k_is); (case c => k_is); (case k => k_is); (case fn => k_is))
      (case g_Pfo_mo => k_is)
      (case g_Pfo_ls => k_is)
      (case g_Pfo_gr => k_is)
      (case g_Pfo_lr => k_is)
      (case g_Pfo_ld => k_is)
      (case e_Pfo => refine' L2.funE_mk ?l ?c ?k ?fn; (case l => k_is); (case c => k_is); (case k => k_is); (case fn => k_is))
      (case g_F0mo_mo => k_is)
      (case e_F0mo => refine' L2.funE_mk ?l ?c ?k ?fn; (case l => k_is); (case c => k_is); (case k => k_is); (case fn => k_is))
      (case g_F0ls_ls => k_is)
      (case e_F0ls => refine' L2.funE_mk ?l ?c ?k ?fn; (case l => k_is); (case c => k_is); (case k => k_is); (case fn => k_is))
      (case g_F0gr_gr => k_is)
      (case e_F0gr => refine' L2.funE_mk ?l ?c ?k ?fn; (case l => k_is); (case c => k_is); (case k => k_is); (case fn => k_is))
      (case g_F0lr_lr => k_is)
      (case e_F0lr => refine' L2.funE_mk ?l ?c ?k ?fn; (case l => k_is); (case c => k_is); (case k => k_is); (case fn => k_is))
      (case g_F0ld_ld => k_is)
      (case e_F0ld => refine' L2.funE_mk ?l ?c ?k ?fn; (case l => k_is); (case c => k_is); (case k => k_is); (case fn => k_is))
      (case g_ile_le => k_is)
      (case e_ile => refine' L2.funE_mk ?l ?c ?k ?fn; (case l => k_is); (case c => k_is); (case k => k_is); (case fn => k_is))
      (case g_ino_no => k_is)
      (case e_ino => refine' L2.funE_mk ?l ?c ?k ?fn; (case l => k_is); (case c => k_is); (case k => k_is); (case fn => k_is))
      (case g_ifo_mo => k_is)
      (case g_ifo_ls => k_is)
      (case g_ifo_gr => k_is)
      (case g_ifo_lr => k_is)
      (case g_ifo_ld => k_is)
      (case e_ifo => refine' L2.funE_mk ?l ?c ?k ?fn; (case l => k_is); (case c => k_is); (case k => k_is); (case fn => k_is))
      (case i_ne => k_is)
      (case i_al => k_is)
      (case y_ne => k_is)
      (case y_al => k_is)
      (case y_le => k_is)
      (case y_no => k_is)
      (case y_mo => k_is)
      (case y_ls => k_is)
      (case y_gr => k_is)
      (case y_lr => k_is)
      (case y_ld => k_is)
      (case z_ne => k_is)
      (case z_al => k_is)
      (case z_le => k_is)
      (case z_no => k_is)
      (case z_mo => k_is)
      (case z_ls => k_is)
      (case z_gr => k_is)
      (case z_lr => k_is)
      (case z_ld => k_is)
      (case n_cS => k_is)
      (case n_cF => k_is)
      (case q_ne_S => first | k_is | kit_is)
      (case q_ne_F => first | k_is | kit_is)
      (case q_ne_al => first | k_is | kit_is)
      (case q_ne_le => first | k_is | kit_is)
      (case q_ne_no => first | k_is | kit_is)
      (case q_ne_mo => first | k_is | kit_is)
      (case q_ne_ls => first | k_is | kit_is)
      (case q_ne_gr => first | k_is | kit_is)
      (case q_ne_lr => first | k_is | kit_is)
      (case q_ne_ld => first | k_is | kit_is)
      (case q_al_S => first | k_is | kit_is)
      (case q_al_F => first | k_is | kit_is)
      (case q_al_ne => first | k_is | kit_is)
      (case q_al_le => first | k_is | kit_is)
      (case q_al_no => first | k_is | kit_is)
      (case q_al_mo => first | k_is | kit_is)
      (case q_al_ls => first | k_is | kit_is)
      (case q_al_gr => first | k_is | kit_is)
      (case q_al_lr => first | k_is | kit_is)
      (case q_al_ld => first | k_is | kit_is)
      (case q_le_S => first | k_is | kit_is)
      (case q_le_F => first | k_is | kit_is)
      (case q_le_ne => first | k_is | kit_is)
      (case q_le_al => first | k_is | kit_is)
      (case q_le_no => first | k_is | kit_is)
      (case q_le_mo => first | k_is | kit_is)
      (case q_le_ls => first | k_is | kit_is)
      (case q_le_gr => first | k_is | kit_is)
      (case q_le_lr => first | k_is | kit_is)
      (case q_le_ld => first | k_is | kit_is)
      (case q_no_S => first | k_is | kit_is)
      (case q_no_F => first | k_is | kit_is)
      (case q_no_ne => first | k_is | kit_is)
      (case q_no_al => first | k_is | kit_is)
      (case q_no_le => first | k_is | kit_is)
      (case q_no_mo => first | k_is | kit_is)
      (case q_no_ls => first | k_is | kit_is)
      (case q_no_gr => first | k_is | kit_is)
      (case q_no_lr => first | k_is | kit_is)
      (case q_no_ld => first | k_is | kit_is)
      (case q_mo_S => first | k_is | kit_is)
      (case q_mo_F => first | k_is | kit_is)
      (case q_mo_ne => first | k_is | kit_is)
      (case q_mo_al => first | k_is | kit_is)
      (case q_mo_le => first | k_is | kit_is)
      (case q_mo_no => first | k_is | kit_is)
      (case q_mo_ls => first | k_is | kit_is)
      (case q_mo_gr => first | k_is | kit_is)
      (case q_mo_lr => first | k_is | kit_is)
      (case q_mo_ld => first | k_is | kit_is)
      (case q_ls_S => first | k_is | kit_is)
      (case q_ls_F => first | k_is | kit_is)
      (case q_ls_ne => first | k_is | kit_is)
      (case q_ls_al => first | k_is | kit_is)
      (case q_ls_le => first | k_is | kit_is)
      (case q_ls_no => first | k_is | kit_is)
      (case q_ls_mo => first | k_is | kit_is)
      (case q_ls_gr => first | k_is | kit_is)
      (case q_ls_lr => first | k_is | kit_is)
      (case q_ls_ld => first | k_is | kit_is)
      (case q_gr_S => first | k_is | kit_is)
      (case q_gr_F => first | k_is | kit_is)
      (case q_gr_ne => first | k_is | kit_is)
      (case q_gr_al => first | k_is | kit_is)
      (case q_gr_le => first | k_is | kit_is)
      (case q_gr_no => first | k_is | kit_is)
      (case q_gr_mo => first | k_is | kit_is)
      (case q_gr_ls => first | k_is | kit_is)
      (case q_gr_lr => first | k_is | kit_is)
      (case q_gr_ld => first | k_is | kit_is)
      (case q_lr_S => first | k_is | kit_is)
      (case q_lr_F => first | k_is | kit_is)
      (case q_lr_ne => first | k_is | kit_is)
      (case q_lr_al => first | k_is | kit_is)
      (case q_lr_le => first | k_is | kit_is)
      (case q_lr_no => first | k_is | kit_is)
      (case q_lr_mo => first | k_is | kit_is)
      (case q_lr_ls => first | k_is | kit_is)
      (case q_lr_gr => first | k_is | kit_is)
      (case q_lr_ld => first | k_is | kit_is)
      (case q_ld_S => first | k_is | kit_is)
      (case q_ld_F => first | k_is | kit_is)
      (case q_ld_ne => first | k_is | kit_is)
      (case q_ld_al => first | k_is | kit_is)
      (case q_ld_le => first | k_is | kit_is)
      (case q_ld_no => first | k_is | kit_is)
      (case q_ld_mo => first | k_is | kit_is)
      (case q_ld_ls => first | k_is | kit_is)
      (case q_ld_gr => first | k_is | kit_is)
      (case q_ld_lr => first | k_is | kit_is)
    obtain ⟨c, AF⟩ := AA
    obtain ⟨f, fd, F, m⟩ := T_law.ex
    have e := hmg.symm.trans m
    cases e
    obtain ⟨oc, od, kV, doc, pm, an, cdv, ct, osl, hfd, lk, hcd⟩ := id F.ex
    subst hfd
    refine ⟨PySem.W.fnOf "law" "law" (L2.defArgs Mine.sLaw) (L2.defBody Mine.sLaw) (L2.defScope Mine.sLaw) .none kV doc pm an cdv ct, fun s u => .of_eq rfl, fun base kb' nb => ?_⟩
    have M := Mine.ms (P := PySem.Challenge.rw_leansay_k03_parts_folds_letters.prog) (w := w) (base := base) AF
    obtain ⟨kl, kn, kf⟩ := Mine.mks (P := PySem.Challenge.rw_leansay_k03_parts_folds_letters.prog) (w := w) (base := base) AF
    obtain ⟨cS, cF, KA⟩ := AF.kt
    have GL : ∀ t, L2.MethOk PySem.Challenge.rw_leansay_k03_parts_folds_letters.prog w (L2.KOf KX) mg base (c.of t) "laid_out" 2 ["self"] (Mine.spLaid c t) := fun t => Mine.ok_laid (AF.laid t) M
    have GP : ∀ t, L2.MethOk PySem.Challenge.rw_leansay_k03_parts_folds_letters.prog w (L2.KOf KX) mg base (c.of t) "parts" 3 ["self"] (Mine.spParts c t) := fun t => Mine.ok_parts (AF.parts t) Z_len GL
    have KF : ∀ t, PySem.W.kitOne (L2.KOf KX) (.ref (c.of t)) (.ref cF) = some (Mine.isF t) := fun t => by rw [← Mine.kind_F]; exact KA.kf t
    have GF : ∀ t, L2.MethOk PySem.Challenge.rw_leansay_k03_parts_folds_letters.prog w (L2.KOf KX) mg base (c.of t) "folds" 3 ["self"] (Mine.spFoldsM c t) := fun t => Mine.ok_foldsM (AF.foldsS t) Z_len Z_isinstance KA.mF AF.fx KF GL
    have GS : ∀ t, L2.MethOk PySem.Challenge.rw_leansay_k03_parts_folds_letters.prog w (L2.KOf KX) mg base (c.of t) "letters" 4 ["self"] (Mine.spLetters c t) := fun t => Mine.ok_letters (AF.letters t) Z_sorted Z_set Z_isinstance KA.m2 AF.fx KA.kt.k2 GL
    have GT : ∀ t, L2.MethOk PySem.Challenge.rw_leansay_k03_parts_folds_letters.prog w (L2.KOf KX) mg base (c.of t) "told" 3 ["self"] (Mine.spTold c t) := fun t => Mine.ok_told (AF.told t) AF.fx M Z_isinstance Z_str Z_list Z_reversed
    have dNext := Mine.ok_next (P := PySem.Challenge.rw_leansay_k03_parts_folds_letters.prog) (w := w) (base := base) T_l_next Z_len
    exact Mine.ok_law F Z_range Z_isinstance Z_len Z_list KA.mS KA.mF AF.fx KA.kt.s KF (Mine.ok_mixed T_l_mixed Z_len Z_max Z_min Z_range Z_abs Z_int) dNext (Mine.ok_saying T_l_saying Z_int dNext 50) (Mine.ok_obj06 T_l_object AF.o_ne AF.r_ne AF.o_al AF.r_al kl kn kf 50) (Mine.ok_text T_l_text Z_len 50) (Mine.ok_wholeL T_l_whole Z_isinstance Z_int Z_bool kb) GP GF GS GT
  case S => exact fun K H a ns hl hb hO hS => ⟨a, ns, rfl, Mine.scr_of hO hS hl hb, fun _ => rfl⟩
  case C => exact fun _ _ _ _ z => z




