import PyProof.Rows.All
import Wide.All
import OpenK.AllK
import Wide.FinOn
import Lean
import PyProof.EqAt
import PyProof.EqKinds
import PyProof.TupleCall
import KE.KRevIter
import PyProof.ListNew
import PyProof.NeKinds
import PyProof.StrBlockL
import KE.LcSums
import PyProof.Rows.EqDataRows
import PyProof.Draws
import PyProof.EnumMake
import PyProof.ZipIter
import PyProof.WalksMore
import PyProof.P3In
import KE.KTab
import PyProof.Rows.SumAny
import PyProof.ExcClass2
import PyProof.ExcInit
import PyProof.StationsW
import PyProof.InstStoreFacts
import PySem.Challenge.RW_leansay_k02_texts_refused
set_option Elab.async false
set_option linter.all false
set_option maxRecDepth 100000
/-! THE HAND LAYER, for ints, bools, texts, own classes, LISTS and tuples (index, slices, in, append, pop ..), calls, loops. Paste it whole ahead of your own text; what your proof does not reach may be deleted. -/
namespace L2
open PySem PySem.Spec PyProof.Rows

/-- a key: an int or a str -/
abbrev Key := Sum Int Str
def keyIs : Key → Value → Bool
  | .inl k, v => Value.isInt k v
  | .inr x, v => Value.isStrOf x v
def keyH (w : World) : Key → Int
  | .inl k => hashInt k
  | .inr x => hashStr w x
theorem keyIs_shape : ∀ {k : Key} {v : Value}, keyIs k v = true → (∃ i t, k = Sum.inl i ∧ v = Value.int i t) ∨ (∃ x t, k = Sum.inr x ∧ v = Value.str x t)
  | .inl i, v, h => by
    obtain ⟨t, e⟩ := Value.isInt_shape (k := i) (v := v) h
    exact .inl ⟨i, t, rfl, e⟩
  | .inr x, v, h => by
    obtain ⟨t, e⟩ := Value.isStrOf_shape (x := x) (v := v) h
    exact .inr ⟨x, t, rfl, e⟩
theorem key_ll (a b : Int) : decide ((Sum.inl a : Key) = Sum.inl b) = (a == b) := by
  by_cases e : a = b
  · subst e; simp
  · have h : ¬ (Sum.inl a : Key) = Sum.inl b := fun q => e (Sum.inl.inj q)
    rw [decide_eq_false h]
    exact (beq_eq_false_iff_ne.mpr e).symm
theorem key_rr (a b : Str) : decide ((Sum.inr a : Key) = Sum.inr b) = decide (a = b) := by
  by_cases e : a = b
  · subst e; simp
  · have h : ¬ (Sum.inr a : Key) = Sum.inr b := fun q => e (Sum.inr.inj q)
    rw [decide_eq_false h, decide_eq_false e]
theorem key_lr (a : Int) (b : Str) : decide ((Sum.inl a : Key) = Sum.inr b) = false := decide_eq_false (fun q => nomatch q)
theorem key_rl (a : Str) (b : Int) : decide ((Sum.inr a : Key) = Sum.inl b) = false := decide_eq_false (fun q => nomatch q)

def mixKind (prog : Program) (w : World) : PySem.KeyKind prog w Key where
  is := keyIs
  hash := keyH w
  inj := fun v a b ha hb => by
    rcases keyIs_shape ha with ⟨i, t, rfl, rfl⟩ | ⟨x, t, rfl, rfl⟩
    · rcases keyIs_shape hb with ⟨j, u, rfl, e⟩ | ⟨y, u, rfl, e⟩
      · injection e with e1 _; rw [e1]
      · exact nomatch e
    · rcases keyIs_shape hb with ⟨j, u, rfl, e⟩ | ⟨y, u, rfl, e⟩
      · exact nomatch e
      · injection e with e1 _; rw [e1]
  byValue := fun k v h => by
    rcases keyIs_shape h with ⟨i, t, rfl, rfl⟩ | ⟨x, t, rfl, rfl⟩ <;> rfl
  pyHash := fun hv h => by
    rcases keyIs_shape hv with ⟨i, t, rfl, rfl⟩ | ⟨x, t, rfl, rfl⟩
    · exact wpAny_pyHash_int h
    · exact wpAny_pyHash_str h
  eqBool := fun hu hv h => by
    rcases keyIs_shape hu with ⟨i, t, rfl, rfl⟩ | ⟨x, t, rfl, rfl⟩
    · rcases keyIs_shape hv with ⟨j, u, rfl, rfl⟩ | ⟨y, u, rfl, rfl⟩
      · rw [key_ll] at h; exact wpAny_eqBool_int h
      · rw [key_lr] at h; exact SeqAt.EqAt.int_str i t y u _ _ _ _ h
    · rcases keyIs_shape hv with ⟨j, u, rfl, rfl⟩ | ⟨y, u, rfl, rfl⟩
      · rw [key_rl] at h; exact SeqAt.EqAt.str_int x t j u _ _ _ _ h
      · rw [key_rr] at h; exact wpAny_eqBool_str h
  «strs» := fun k x t v h => by
    rcases keyIs_shape h with ⟨i, u, rfl, e⟩ | ⟨y, u, rfl, e⟩
    · exact nomatch e
    · injection e with e1 _
      subst e1
      cases v <;> rfl

end L2

namespace L2
open PySem PySem.Spec PyProof.Rows

/-- a value, without the heap -/
inductive V where
  | non | bl (b : Bool) | int (i : Int) | str (x : Str) | byt (b : Array UInt8) | flt (b : UInt64) | ref (a : Addr) | ty (n : String)
  deriving DecidableEq

def RelV : V → Value → Prop
  | .non, u => u = Value.none
  | .bl b, u => u = Value.bool b
  | .int i, u => ∃ t, u = Value.int i t
  | .str x, u => ∃ t, u = Value.str x t
  | .byt b, u => ∃ t, u = Value.bytes b t
  | .flt b, u => ∃ t, u = Value.float b t
  | .ref a, u => u = Value.ref a
  | .ty n, u => u = Value.type n

abbrev Vals : List V → List Value → Prop := Paired RelV
theorem Vals.length {xs : List V} {us : List Value} (r : Vals xs us) : xs.length = us.length := Paired.length r
theorem Vals.get : ∀ {xs : List V} {us : List Value} {i : Nat} {x : V}, Vals xs us → xs[i]? = some x → ∃ u, us[i]? = some u ∧ RelV x u
  | _, _, _, _, .nil, e => by simp at e
  | _, _, 0, _, .cons r _, e => by simp at e; subst e; exact ⟨_, rfl, r⟩
  | _, _, i + 1, x, .cons _ t, e => by
    obtain ⟨u, h1, h2⟩ := Vals.get (i := i) (x := x) t (by simpa using e)
    exact ⟨u, by simpa using h1, h2⟩
theorem Vals.set {x : V} {u : Value} (r : RelV x u) : ∀ {xs : List V} {us : List Value} (i : Nat), Vals xs us → Vals (xs.set i x) (us.set i u)
  | _, _, _, .nil => .nil
  | _, _, 0, .cons _ t => .cons r t
  | _, _, i + 1, .cons q t => .cons q (Vals.set r i t)
theorem Vals.append : ∀ {xs ys : List V} {us ws : List Value}, Vals xs us → Vals ys ws → Vals (xs ++ ys) (us ++ ws)
  | _, _, _, _, .nil, s => s
  | _, _, _, _, .cons r t, s => .cons r (Vals.append t s)
theorem Vals.take : ∀ {xs : List V} {us : List Value} (n : Nat), Vals xs us → Vals (xs.take n) (us.take n)
  | _, _, 0, _ => .nil
  | _, _, _ + 1, .nil => .nil
  | _, _, n + 1, .cons r t => .cons r (Vals.take n t)
theorem Vals.drop : ∀ {xs : List V} {us : List Value} (n : Nat), Vals xs us → Vals (xs.drop n) (us.drop n)
  | _, _, 0, r => r
  | _, _, _ + 1, .nil => .nil
  | _, _, n + 1, .cons _ t => Vals.drop n t

def RelO : Option V → Option Value → Prop
  | some v, some u => RelV v u
  | none, none => True
  | _, _ => False
def KV {κ : Type} : List (κ × V) → List (κ × Value) → Prop := Paired fun (p : κ × V) (q : κ × Value) => p.1 = q.1 ∧ RelV p.2 q.2

/-- a key of a dict (00_mix): an int or a text -/
def kV : Key → V
  | .inl i => .int i
  | .inr x => .str x

/-- what stands at a tracked address -/
inductive HO where
  /-- a list -/
  | lst (xs : List V)
  /-- a tuple (never changes) -/
  | tup (xs : List V)
  /-- a dict whose keys are ints and texts; one whose keys are tuples of ints and texts (the empty one is both) -/
  | dK (kvs : List (Key × V)) | dT (kvs : List (List Key × V))
  /-- a set of ints: its members, its size -/
  | set (S : Int → Bool) (n : Nat)
  /-- an instance of the class at C, its dict at dx, its attributes -/
  | ins (C dx : Addr) (fs : List (Str × V))
  /-- the dict of the instance at x -/
  | own (x : Addr)
  /-- the dict of an exception -/
  | xd (fs : List (Str × V))
  /-- a bound method, f of x -/
  | met (f x : Addr)
  /-- a range object lo, lo + 1, .. below hi -/
  | rng (lo hi : Int)
  /-- a thing that is known to the object (the script; a dict while a loop walks it): read, never written while it is so -/
  | frz (o : Obj) (u : HO)
  /-- a code object's table -/
  | tbl (ps : Array Value)
  /-- any other thing, by what is true of its one object (a def of one's own: SetO a S n := HO.ext fun h => ..) -/
  | ext (φ : Heap → Prop)

abbrev Hp := Addr → Option HO
def upd (H : Hp) (a : Addr) (o : HO) : Hp := fun b => if b = a then some o else H b
theorem upd_same {H : Hp} {a : Addr} {o : HO} : upd H a o a = some o := by unfold upd; rw [if_pos rfl]
theorem upd_ne {H : Hp} {a b : Addr} {o : HO} (h : b ≠ a) : upd H a o b = H b := by unfold upd; rw [if_neg h]
theorem upd_upd {H : Hp} {a : Addr} {o u : HO} : upd (upd H a o) a u = upd H a u := by
  funext b; unfold upd; split <;> rfl
/-- two objects of different content stand apart -/
theorem ne_of {H : Hp} {a b : Addr} {o u : HO} (h : H a = some o) (h' : H b = some u) (d : o ≠ u) : a ≠ b := by
  intro e; subst e; rw [h] at h'; exact d (Option.some.inj h')
theorem ne_of_none {H : Hp} {a b : Addr} {o : HO} (h : H a = some o) (h' : H b = none) : a ≠ b := by
  intro e; subst e; rw [h] at h'; cases h'

section
variable (P : Program) (w : World)
def ObjOk (H : Hp) (h : Heap) (a : Addr) : HO → Prop
  | .lst xs => xs.length ≤ sizeLine ∧ ∃ (its : List Value) (n : Nat), Vals xs its ∧ h.get? a = some { cls := .type "list", data := .seq its.toArray n }
  | .tup xs => xs.length ≤ sizeLine ∧ ∃ its : List Value, Vals xs its ∧ IsTup h a its.toArray
  | .dK kvs => kvs.length ≤ sizeLine ∧ (a == sysModules) = false ∧ ∃ vs, KV kvs vs ∧ h.DictOf (mixKind P w) a vs
  | .dT kvs => kvs.length ≤ sizeLine ∧ (a == sysModules) = false ∧ ∃ xs : List (List Key × Addr × Value),
      Paired (fun (p : List Key × V) (q : List Key × Addr × Value) => p.1 = q.1 ∧ H q.2.1 = some (.tup (p.1.map kV)) ∧ RelV p.2 q.2.2) kvs xs ∧
      ∃ o es ep, h.get? a = some o ∧ o.ExactDict ∧ o.data = .dict es ep ∧ es.toList = xs.map (entryOfKey (tupleKind (mixKind P w))) ∧ (xs.map (·.1)).Nodup
  | .set S n => h.SetOf (intKind P w) a S n
  | .ins C dx fs => H dx = some (.own a) ∧ fs.length ≤ 1000 ∧ dx ≠ a ∧ h.get? a = some (PySem.W.instObj C dx) ∧
      ∃ mA, h.Ns1 dx mA ∧ (∀ f, RelO (fs.lookup f) (mA f)) ∧ PySem.Within mA (fs.map (·.1))
  | .own _ => ∃ o, h.get? a = some o
  | .xd fs => ∃ mA, h.Ns1 a mA ∧ ∀ f, RelO (fs.lookup f) (mA f)
  | .rng lo hi => ∃ t u v, h.get? a = some { cls := .type "range", data := .fields #[.int lo t, .int hi u, .int 1 v] }
  | .frz o u => h.get? a = some o ∧ ObjOk H h a u
  | .tbl ps => h.get? a = some { cls := .none, data := .fields ps }
  | .met f x => h.get? a = some (PySem.W.methodObj (.ref f) (.ref x))
  | .ext φ => φ h ∧ (∃ o, h.get? a = some o) ∧ ∀ h1 h2 : Heap, φ h1 → (∀ o, h1.get? a = some o → h2.get? a = some o) → φ h2
/-- the abstract heap is held -/
def HOk (H : Hp) (h : Heap) : Prop := ∀ a o, H a = some o → ObjOk P w H h a o
end

section
variable {P : Program} {w : World} {H H' : Hp} {h h' : Heap} {a : Addr} {o : HO}
theorem ObjOk.lt (x : ObjOk P w H h a o) : a < h.objs.size := by
  cases o with
  | lst xs => obtain ⟨_, _, _, _, e⟩ := x; exact Heap.lt_size e
  | tup xs => obtain ⟨_, _, _, p⟩ := x; exact p.lt
  | dK kvs => obtain ⟨_, _, _, _, o, _, _, e, _⟩ := x; exact Heap.lt_size e
  | dT kvs => obtain ⟨_, _, _, _, o, _, _, e, _⟩ := x; exact Heap.lt_size e
  | set S n => obtain ⟨o, _, _, _, e, _⟩ := x; exact Heap.lt_size e
  | ins C dx fs => obtain ⟨_, _, _, e, _⟩ := x; exact Heap.lt_size e
  | own y => obtain ⟨_, e⟩ := x; exact Heap.lt_size e
  | xd fs => obtain ⟨_, ⟨_, _, _, e, _⟩, _⟩ := x; exact Heap.lt_size e
  | rng lo hi => obtain ⟨_, _, _, e⟩ := x; exact Heap.lt_size e
  | frz ob u => obtain ⟨e, _⟩ := x; exact Heap.lt_size e
  | tbl ps => exact Heap.lt_size (show h.get? a = some _ from x)
  | met f y => exact Heap.lt_size (show h.get? a = some _ from x)
  | ext φ => obtain ⟨_, ⟨_, e⟩, _⟩ := x; exact Heap.lt_size e
theorem Paired.mapP {α β : Type} {F G : α → β → Prop} : ∀ {l₁ : List α} {l₂ : List β}, Paired F l₁ l₂ → (∀ a b, F a b → G a b) → Paired G l₁ l₂
  | _, _, .nil, _ => .nil
  | _, _, .cons r t, f => .cons (f _ _ r) (Paired.mapP t f)
/-- what an object's description leans on: its own object, its own dict, the tuples -/
theorem ObjOk.stay (x : ObjOk P w H h a o) (k : ∀ b u, (b = a ∨ H b = some (.own a)) → h.get? b = some u → h'.get? b = some u)
    (ho : ∀ b, H b = some (.own a) → H' b = some (.own a)) (ht : ∀ b xs, H b = some (.tup xs) → H' b = some (.tup xs)) : ObjOk P w H' h' a o := by
  induction o with
  | lst xs => obtain ⟨z, its, n, r, e⟩ := x; exact ⟨z, its, n, r, k _ _ (.inl rfl) e⟩
  | tup xs => obtain ⟨z, its, r, ob, e, c⟩ := x; exact ⟨z, its, r, ob, k _ _ (.inl rfl) e, c⟩
  | dK kvs => obtain ⟨z, y, vs, r, ob, es, ep, e, c⟩ := x; exact ⟨z, y, vs, r, ob, es, ep, k _ _ (.inl rfl) e, c⟩
  | dT kvs =>
    obtain ⟨z, y, xs, r, ob, es, ep, e, c⟩ := x
    exact ⟨z, y, xs, Paired.mapP r fun p q z => ⟨z.1, ht _ _ z.2.1, z.2.2⟩, ob, es, ep, k _ _ (.inl rfl) e, c⟩
  | set S n => obtain ⟨ob, es, ep, t, e, c⟩ := x; exact ⟨ob, es, ep, t, k _ _ (.inl rfl) e, c⟩
  | ins C dx fs =>
    obtain ⟨d, z, ne, e, mA, ⟨od, es, ep, e2, c⟩, r⟩ := x
    exact ⟨ho _ d, z, ne, k _ _ (.inl rfl) e, mA, ⟨od, es, ep, k _ _ (.inr d) e2, c⟩, r⟩
  | own y => obtain ⟨ob, e⟩ := x; exact ⟨ob, k _ _ (.inl rfl) e⟩
  | xd fs => obtain ⟨mA, ⟨od, es, ep, e, c⟩, r⟩ := x; exact ⟨mA, ⟨od, es, ep, k _ _ (.inl rfl) e, c⟩, r⟩
  | rng lo hi => obtain ⟨t, u, v, e⟩ := x; exact ⟨t, u, v, k _ _ (.inl rfl) e⟩
  | frz ob u ih => obtain ⟨e, q⟩ := x; exact ⟨k _ _ (.inl rfl) e, ih q⟩
  | tbl ps =>
    have e : h.get? a = some { cls := .none, data := .fields ps } := x
    show h'.get? a = some { cls := .none, data := .fields ps }
    exact k a _ (.inl rfl) e
  | met f y =>
    have e : h.get? a = some (PySem.W.methodObj (.ref f) (.ref y)) := x
    show h'.get? a = some (PySem.W.methodObj (.ref f) (.ref y))
    exact k a _ (.inl rfl) e
  | ext φ => obtain ⟨p, ⟨o, e⟩, st⟩ := x; exact ⟨st _ _ p fun o q => k _ _ (.inl rfl) q, ⟨o, k _ _ (.inl rfl) e⟩, st⟩
theorem HOk.lt (x : HOk P w H h) (e : H a = some o) : a < h.objs.size := (x a o e).lt
theorem HOk.fresh (x : HOk P w H h) (e : h.objs.size ≤ a) : H a = none := by
  cases q : H a with
  | none => rfl
  | some u => exact absurd (Nat.lt_of_lt_of_le (x.lt q) e) (Nat.lt_irrefl _)
/-- every object of the heap is kept -/
theorem HOk.kept (x : HOk P w H h) (k : ∀ b u, h.get? b = some u → h'.get? b = some u) : HOk P w H h' := fun a o e =>
  (x a o e).stay (fun b u _ q => k b u q) (fun _ q => q) fun _ _ q => q
/-- a new object is laid and tracked -/
theorem HOk.laid (x : HOk P w H h) (k : ∀ b u, h.get? b = some u → h'.get? b = some u) (hp : h.objs.size ≤ a) (new : ObjOk P w (upd H a o) h' a o) : HOk P w (upd H a o) h' := fun b u e => by
  have hn := x.fresh hp
  by_cases hb : b = a
  · subst hb; rw [upd_same] at e; cases e; exact new
  · rw [upd_ne hb] at e
    exact (x b u e).stay (fun c v _ q => k c v q) (fun c q => by rw [upd_ne (ne_of_none q hn)]; exact q) fun c xs q => by rw [upd_ne (ne_of_none q hn)]; exact q
end

/-- what may be read as u: it is u, or a known u -/
def Rd (H : Hp) (a : Addr) (u : HO) : Prop := H a = some u ∨ ∃ o, H a = some (.frz o u)
theorem Rd.ok {P : Program} {w : World} {H : Hp} {h : Heap} {a : Addr} {u : HO} (r : Rd H a u) (x : HOk P w H h) : ObjOk P w H h a u := by
  rcases r with r | ⟨o, r⟩
  · exact x a u r
  · obtain ⟨_, q⟩ := x a _ r
    exact q
/-- what may be written -/
def Mut : Option HO → Prop
  | some (.lst _) => True
  | some (.dK _) => True
  | some (.dT _) => True
  | some (.set _ _) => True
  | some (.ins _ _ _) => True
  | some (.ext _) => True
  | _ => False
section
variable {P : Program} {w : World} {H : Hp} {h h' : Heap} {x e : Addr} {o' : HO}
/-- the object at e is changed: x itself, or the dict of the instance x -/
theorem HOk.write (ok : HOk P w H h) (mu : Mut (H x)) (he : e = x ∨ H e = some (.own x)) (k : ∀ b u, b ≠ e → h.get? b = some u → h'.get? b = some u) (heo : ∃ u, h'.get? e = some u)
    (new : ObjOk P w (upd H x o') h' x o') : HOk P w (upd H x o') h' := fun b u q => by
  have nown : ∀ c y, H c = some (.own y) → c ≠ x := fun c y r z => by subst z; rw [r] at mu; exact mu
  have ntup : ∀ c xs, H c = some (.tup xs) → c ≠ x := fun c xs r z => by subst z; rw [r] at mu; exact mu
  by_cases hb : b = x
  · subst hb; rw [upd_same] at q; cases q; exact new
  · rw [upd_ne hb] at q
    by_cases hbe : b = e
    · have q' : H b = some (.own x) := by
        rcases he with z | z
        · exact absurd (hbe.trans z) hb
        · rw [hbe]; exact z
      rw [q] at q'; cases q'
      obtain ⟨v, hv⟩ := heo
      exact ⟨v, by rw [hbe]; exact hv⟩
    · refine (ok b u q).stay (fun c v hc r => k c v ?_ r) (fun c r => by rw [upd_ne (nown c b r)]; exact r) fun c xs r => by rw [upd_ne (ntup c xs r)]; exact r
      rcases hc with rfl | hc
      · exact hbe
      · rintro rfl
        rcases he with z | z
        · exact nown c b hc z
        · rw [hc] at z; cases z; exact hb rfl
end

/-! ### kept unless tracked; of the frames at fs (the callers') the slots may change (an exception that passes writes there); of the records at ex (iterators) nothing is said -/
structure Un (fs ex : List Addr) (H H' : Hp) (h h' : Heap) : Prop where
  keep : ∀ b o, h.get? b = some o → H b = none → b ∉ fs → b ∉ ex → h'.get? b = some o
  slot : ∀ b o, h.get? b = some o → H b = none → b ∈ fs → b ∉ ex → ∃ sl, h'.get? b = some { o with slots := sl }
  free : ∀ b o, h.get? b = some o → H b = none → b ∉ ex → H' b = none
  there : ∀ b o, h.get? b = some o → b ∉ ex → ∃ o', h'.get? b = some o'
  tups : ∀ b xs, H b = some (.tup xs) → H' b = some (.tup xs)
  frzs : ∀ b o u, H b = some (.frz o u) → H' b = some (.frz o u)
  tbls : ∀ b ps, H b = some (.tbl ps) → ∃ more, H' b = some (.tbl (ps ++ more))
section
variable {fs fs' ex ex' : List Addr} {H H1 H2 : Hp} {h h1 h2 h' : Heap} {a x e : Addr} {o : HO}
theorem Un.any (u : Un fs ex H H1 h h1) {b : Addr} {ob : Obj} (q : h.get? b = some ob) (n : H b = none) (hx : b ∉ ex) : ∃ sl, h1.get? b = some { ob with slots := sl } := by
  by_cases hb : b ∈ fs
  · exact u.slot b ob q n hb hx
  · exact ⟨ob.slots, u.keep b ob q n hb hx⟩
theorem Un.kept (k : ∀ b u, h.get? b = some u → h'.get? b = some u) : Un fs ex H H h h' :=
  ⟨fun b ob q _ _ _ => k b ob q, fun b ob q _ _ _ => ⟨ob.slots, k b ob q⟩, fun _ _ _ n _ => n, fun b ob q _ => ⟨ob, k b ob q⟩, fun _ _ q => q, fun _ _ _ q => q, fun _ ps q => ⟨#[], by rw [q]; simp⟩⟩
theorem Un.refl : Un fs ex H H h h := Un.kept fun _ _ q => q
theorem Un.laid (k : ∀ b u, h.get? b = some u → h'.get? b = some u) (hp : h.objs.size ≤ a) (hn : H a = none) : Un fs ex H (upd H a o) h h' where
  keep := fun b u q _ _ _ => k b u q
  slot := fun b u q _ _ _ => ⟨u.slots, k b u q⟩
  free := fun b u q n _ => by rw [upd_ne (Nat.ne_of_lt (Nat.lt_of_lt_of_le (Heap.lt_size q) hp))]; exact n
  there := fun b u q _ => ⟨u, k b u q⟩
  tups := fun b xs q => by rw [upd_ne (ne_of_none q hn)]; exact q
  frzs := fun b u xs q => by rw [upd_ne (ne_of_none q hn)]; exact q
  tbls := fun b ps q => ⟨#[], by rw [upd_ne (ne_of_none q hn), q]; simp⟩
theorem Un.write (mu : Mut (H x)) (he : e = x ∨ H e = some (.own x)) (k : ∀ b u, b ≠ e → h.get? b = some u → h'.get? b = some u) (heo : ∃ u, h'.get? e = some u) : Un fs ex H (upd H x o) h h' := by
  have hx : ∀ b, H b = none → b ≠ x := fun b n z => by subst z; rw [n] at mu; exact mu
  have hb : ∀ b, H b = none → b ≠ e := fun b n z => by
    subst z
    rcases he with r | r
    · exact hx b n r
    · rw [n] at r; cases r
  have hm : ∀ b u, H b = some u → ¬ Mut (some u) → b ≠ x := fun b u q nm z => by subst z; rw [q] at mu; exact nm mu
  refine ⟨fun b u q n _ _ => k b u (hb b n) q, fun b u q n _ _ => ⟨u.slots, k b u (hb b n) q⟩, fun b u q n _ => by rw [upd_ne (hx b n)]; exact n, fun b u q _ => ?_,
    fun b xs q => by rw [upd_ne (hm b _ q fun z => z)]; exact q, fun b u xs q => by rw [upd_ne (hm b _ q fun z => z)]; exact q, fun b ps q => ⟨#[], by rw [upd_ne (hm b _ q fun z => z), q]; simp⟩⟩
  by_cases hbe : b = e
  · subst hbe; exact heo
  · exact ⟨u, k b u hbe q⟩
end

/-! ### the heap without what is tracked -/
def trk (h : Heap) (H : Hp) : List Addr := (List.range h.objs.size).filter fun a => (H a).isSome
def hidT (h : Heap) (H : Hp) : Heap := PySem.W.hideAll h (trk h H)
theorem hidT_size (h : Heap) (H : Hp) : (hidT h H).objs.size = h.objs.size := PySem.W.hideAll_size _ _
theorem hidT_get {h : Heap} {H : Hp} {b : Addr} {o : Obj} (e : h.get? b = some o) (n : H b = none) : (hidT h H).get? b = some o :=
  PySem.W.hideAll_get _ e fun hm => by
    have q : (H b).isSome = true := (List.mem_filter.mp hm).2
    rw [n] at q; simp at q
theorem of_hidT {h : Heap} {H : Hp} {b : Addr} {o : Obj} (e : (hidT h H).get? b = some o) : h.get? b = some o ∧ H b = none := by
  have e' : h.get? b = some o := PySem.W.of_hideAll (trk h H) e
  refine ⟨e', ?_⟩
  cases q : H b with
  | none => rfl
  | some x =>
    have hm : b ∈ trk h H := List.mem_filter.mpr ⟨List.mem_range.mpr (Heap.lt_size e'), by simp [q]⟩
    have z : (hidT h H).get? b = none := PySem.W.hideAll_none (trk h H) hm
    rw [z] at e; cases e

/-! ### OpenK's ledger, filled with every new object but one -/
end L2

namespace L2
open PySem PySem.Spec PyProof.Rows

/-- the module's facts, over the base: the heap at the law's entry without what is tracked there -/
structure Mod (K : PySem.W.Frag) (mg : Str → Option Value) (base : Heap) : Prop where
  kin : K.In base
  glob : base.Ns mainGlobals mg
  blt : ∃ mb, base.Ns builtinsNs mb ∧ ∀ x : Str, x ≠ "__name__" → mb x = bootBuiltins x
  nolimit : base.NoLimit

/-- the context: a def's body (or a comprehension's block) running. base: fixed through the whole law; s₀, H₀: the entry; outer: the frames whose slots others may change (a def's callers); stack: all frames that run;
   ex: iterators that were made ahead of the entry and are walked here (a comprehension's); fn: the names whose cells were made at the entry (a def: all; a comprehension's block: its own); calm: not within an except suite; pn: pins that every state bears; xe: what is wanted of an exception that leaves the code -/
structure Cx where
  prog : Program
  w : World
  K : PySem.W.Frag
  mg : Str → Option Value
  base : Heap
  A : Around
  N : List Str
  s₀ : Shared
  H₀ : Hp
  env : Env
  outer : List Env
  stack : List Env
  ex : List Addr
  fn : Str → Bool
  calm : Bool
  pn : List (Addr × Obj)
  xe : Value → Shared → Prop
/-- the callers' frames -/
def frs (l : List Env) : List Addr := l.filterMap (·.frame)
abbrev Cx.fs (X : Cx) : List Addr := frs X.outer

def Vis (sc : Scope) (x : Str) : Prop := sc.names.lookup x = some .local ∨ sc.names.lookup x = some .cell ∨ sc.names.lookup x = some .free
def Loc (sc : Scope) (x : Str) : Prop := sc.names.lookup x = some .local ∨ sc.names.lookup x = some .cell
def Look (env : Env) (h : Heap) (m : Str → Option Value) (x : Str) (u : Value) : Prop :=
  (env.kindOf x = some .local ∧ m x = some u) ∨ ((env.kindOf x = some .cell ∨ env.kindOf x = some .free) ∧ ∃ c, env.cells.lookup x = some c ∧ h.IsCell c (some u))

structure Cx.Ok (X : Cx) : Prop where
  mod : Mod X.K X.mg X.base
  kind : X.env.scope.kind = .function
  glob : X.env.globals = mainGlobals
  blt : X.env.builtins = builtinsNs
  above : X.s₀.heap.objs.size ≤ X.env.locals
  inj : ∀ x y c, X.env.cells.lookup x = some c → X.env.cells.lookup y = some c → x = y
  has : ∀ x, (X.env.kindOf x = some .cell ∨ X.env.kindOf x = some .free) → ∃ c, X.env.cells.lookup x = some c
  cab : ∀ x c, X.fn x = true → X.env.cells.lookup x = some c → X.s₀.heap.objs.size ≤ c
  hd : X.calm = true → X.A.handled = none
  frames : X.A.frames = some X.stack
  stk : X.stack = X.outer ∨ (X.stack = X.env :: X.outer ∧ X.env.frame = some X.env.locals)
  exf : ∀ b ∈ X.ex, b ≠ X.env.locals ∧ ∀ x c, X.env.cells.lookup x = some c → c ≠ b
  bs : ∀ b o, X.base.get? b = some o → X.s₀.heap.get? b = some o ∧ X.H₀ b = none
  bsz : X.base.objs.size ≤ X.s₀.heap.objs.size
  noex : ∀ b o, X.base.get? b = some o → b ∉ X.ex
  exfs : ∀ b ∈ X.ex, b ∉ X.fs
  funs : X.s₀.heap.FunFrames X.base X.outer
  frf : ∀ b ∈ X.fs, X.H₀ b = none

structure Inv (X : Cx) (pins : List (Addr × Obj)) (σ : List (Option V)) (H : Hp) (s : Shared) : Prop where
  ok : X.Ok
  os : s.os = X.s₀.os
  bare : AllBare s.gens
  base : Un X.fs X.ex X.H₀ H X.s₀.heap s.heap
  loc : ∃ m, s.heap.Ns X.env.locals m ∧ ∀ (i : Nat) (x : Str) (v : V), X.N[i]? = some x → σ[i]? = some (some v) → Vis X.env.scope x → ∃ u, RelV v u ∧ Look X.env s.heap m x u
  cell : ∀ x c, X.env.cells.lookup x = some c → ∃ v, s.heap.IsCell c v
  free : H X.env.locals = none
  freeC : ∀ x c, X.env.cells.lookup x = some c → H c = none
  pin : ∀ p ∈ X.pn ++ pins, s.heap.get? p.1 = some p.2 ∧ H p.1 = none ∧ p.1 ≠ X.env.locals ∧ p.1 ∉ X.fs ∧ ∀ v, p.2.data ≠ .cell v
  hok : HOk X.prog X.w H s.heap
  len : σ.length = X.N.length

section
variable {X : Cx} {pins : List (Addr × Obj)} {σ : List (Option V)} {H H' : Hp} {s : Shared} {h' : Heap}

theorem Cx.Ok.nofr (ok : X.Ok) {b : Addr} {o : Obj} (e : X.base.get? b = some o) : b ∉ X.fs := fun hb => by
  have := (ok.funs.mem hb).1
  rw [e] at this; cases this
theorem Inv.bs (I : Inv X pins σ H s) : ∀ b o, X.base.get? b = some o → s.heap.get? b = some o ∧ H b = none := fun b o e =>
  ⟨I.base.keep b o (I.ok.bs b o e).1 (I.ok.bs b o e).2 (I.ok.nofr e) (I.ok.noex b o e), I.base.free b o (I.ok.bs b o e).1 (I.ok.bs b o e).2 (I.ok.noex b o e)⟩
theorem Inv.bk (I : Inv X pins σ H s) : ∀ b o, X.base.get? b = some o → s.heap.get? b = some o := fun b o e => (I.bs b o e).1
theorem Inv.mod (I : Inv X pins σ H s) : Mod X.K X.mg X.base := I.ok.mod
theorem Inv.kIn (I : Inv X pins σ H s) : X.K.In s.heap := I.ok.mod.kin.keeps I.bk
theorem Inv.lt (I : Inv X pins σ H s) : X.env.locals < s.heap.objs.size := let ⟨_, hn, _⟩ := I.loc; hn.lt
theorem Inv.sz (I : Inv X pins σ H s) : X.s₀.heap.objs.size ≤ s.heap.objs.size := Nat.le_trans I.ok.above (Nat.le_of_lt I.lt)
theorem Inv.nofs (I : Inv X pins σ H s) {a : Addr} (h : s.heap.objs.size ≤ a) : a ∉ X.fs := fun hb => by
  obtain ⟨_, o, ho, _⟩ := I.ok.funs.mem hb
  exact absurd (Nat.lt_of_lt_of_le (Heap.lt_size ho) (Nat.le_trans I.sz h)) (Nat.lt_irrefl _)
theorem Inv.cne (I : Inv X pins σ H s) : ∀ x c, X.env.cells.lookup x = some c → c ≠ X.env.locals := fun x c e z => by
  obtain ⟨v, o, ho, hd⟩ := I.cell x c e
  obtain ⟨m, ⟨o', es, ep, ho', hd', _⟩, _⟩ := I.loc
  rw [z, ho'] at ho; cases ho; rw [hd'] at hd; cases hd
theorem Inv.funs (I : Inv X pins σ H s) : s.heap.FunFrames X.base X.outer := by
  have all : ∀ (l : List Env), (∀ b ∈ frs l, b ∈ X.fs) → X.s₀.heap.FunFrames X.base l → s.heap.FunFrames X.base l := by
    intro l
    induction l with
    | nil => intro _ _; trivial
    | cons env r ih =>
      intro hs hl
      obtain ⟨hk, ⟨L, o, hf, hn, ho, hd⟩, hr⟩ := hl
      have hL : L ∈ X.fs := hs L (by unfold frs; rw [List.filterMap_cons, hf]; exact List.mem_cons_self)
      obtain ⟨sl, e⟩ := I.base.slot L o ho (I.ok.frf L hL) hL fun z => I.ok.exfs L z hL
      exact ⟨hk, ⟨L, _, hf, hn, e, hd⟩, ih (fun b hb => hs b (by unfold frs; rw [List.filterMap_cons, hf]; exact List.mem_cons_of_mem _ hb)) hr⟩
  exact all X.outer (fun _ hb => hb) I.ok.funs

/-- the frames that run, for a call -/
theorem Inv.stack (I : Inv X pins σ H s) : s.heap.FunFrames X.base X.stack := by
  rcases I.ok.stk with e | ⟨e, hf⟩
  · rw [e]; exact I.funs
  · rw [e]
    obtain ⟨m, hn, _⟩ := I.loc
    refine .cons (by rw [I.ok.kind]; decide) hf hn ?_ I.funs
    exact Heap.get?_none_of_le (Nat.le_trans I.ok.bsz I.ok.above)
theorem Inv.stkSub (I : Inv X pins σ H s) : ∀ b ∈ frs X.stack, b ∈ X.env.locals :: X.fs := fun b hb => by
  rcases I.ok.stk with e | ⟨e, hf⟩
  · rw [e] at hb; exact List.mem_cons_of_mem _ hb
  · rw [e] at hb
    unfold frs at hb
    rw [List.filterMap_cons, hf] at hb
    exact hb
theorem Inv.stkFree (I : Inv X pins σ H s) : ∀ b ∈ frs X.stack, H b = none := fun b hb => by
  rcases List.mem_cons.mp (I.stkSub b hb) with e | hb
  · rw [e]; exact I.free
  · obtain ⟨_, o, ho, _⟩ := I.ok.funs.mem hb
    exact I.base.free b o ho (I.ok.frf b hb) fun z => I.ok.exfs b z hb

/-- THE STEP: the untracked objects but the frame and the records at ch are kept (the callers' frames up to slots), the frame's map is kept, the new abstract heap is held -/
theorem Inv.step {g' : Array GenState} {t' : Nat} {d' : Drawn} {ch : List Addr} (I : Inv X pins σ H s)
    (hch : ∀ b ∈ ch, (b ∈ X.ex ∨ X.s₀.heap.objs.size ≤ b) ∧ b ≠ X.env.locals ∧ (∀ x c, X.env.cells.lookup x = some c → c ≠ b) ∧ ∀ p ∈ X.pn ++ pins, p.1 ≠ b)
    (keep : ∀ b o, b ≠ X.env.locals → b ∉ X.fs → b ∉ ch → s.heap.get? b = some o → H b = none → h'.get? b = some o)
    (slot : ∀ b o, b ≠ X.env.locals → b ∈ X.fs → b ∉ ch → s.heap.get? b = some o → H b = none → ∃ sl, h'.get? b = some { o with slots := sl }) (free : ∀ b o, b ∉ ch → s.heap.get? b = some o → H b = none → H' b = none)
    (there : ∀ b o, b ∉ ch → s.heap.get? b = some o → ∃ o', h'.get? b = some o')
    (tups : ∀ b xs, H b = some (.tup xs) → H' b = some (.tup xs)) (frzs : ∀ b o u, H b = some (.frz o u) → H' b = some (.frz o u)) (tbls : ∀ b ps, H b = some (.tbl ps) → ∃ more, H' b = some (.tbl (ps ++ more)))
    (ns : ∀ m, s.heap.Ns X.env.locals m → h'.Ns X.env.locals m) (hok : HOk X.prog X.w H' h') (hg : AllBare g') :
    Inv X pins σ H' { s with heap := h', gens := g', drawn := d', toks := t' } := by
  have neL : ∀ b o, X.s₀.heap.get? b = some o → b ≠ X.env.locals := fun b o e => Nat.ne_of_lt (Nat.lt_of_lt_of_le (Heap.lt_size e) I.ok.above)
  have neC : ∀ b o, X.s₀.heap.get? b = some o → b ∉ X.ex → b ∉ ch := fun b o e hx hb => by
    rcases (hch b hb).1 with z | z
    · exact hx z
    · exact absurd (Nat.lt_of_lt_of_le (Heap.lt_size e) z) (Nat.lt_irrefl _)
  have cellK : ∀ x c, X.env.cells.lookup x = some c → ∀ v, s.heap.IsCell c v → h'.IsCell c v := fun x c e v ⟨o, ho, hd⟩ => by
    have nch : c ∉ ch := fun z => (hch c z).2.2.1 x c e rfl
    by_cases hc : c ∈ X.fs
    · obtain ⟨sl, q⟩ := slot c o (I.cne x c e) hc nch ho (I.freeC x c e)
      exact ⟨_, q, hd⟩
    · exact ⟨o, keep c o (I.cne x c e) hc nch ho (I.freeC x c e), hd⟩
  refine ⟨I.ok, I.os, hg, ⟨fun b o e n hb hx => ?_, fun b o e n hb hx => ?_, fun b o e n hx => ?_, fun b o e hx => ?_, fun b xs e => tups b xs (I.base.tups b xs e), fun b o xs e => frzs b o xs (I.base.frzs b o xs e), fun b ps e => ?_⟩, ?_, fun x c e => ?_, ?_, fun x c e => ?_, fun p hp => ?_, hok, I.len⟩
  · exact keep b o (neL b o e) hb (neC b o e hx) (I.base.keep b o e n hb hx) (I.base.free b o e n hx)
  · obtain ⟨sl, e1⟩ := I.base.slot b o e n hb hx
    obtain ⟨sl', e2⟩ := slot b _ (neL b o e) hb (neC b o e hx) e1 (I.base.free b o e n hx)
    exact ⟨sl', e2⟩
  · obtain ⟨o', e1⟩ := I.base.there b o e hx
    exact free b o' (neC b o e hx) e1 (I.base.free b o e n hx)
  · obtain ⟨o', e1⟩ := I.base.there b o e hx
    exact there b o' (neC b o e hx) e1
  · obtain ⟨m1, e1⟩ := I.base.tbls b ps e
    obtain ⟨m2, e2⟩ := tbls b _ e1
    exact ⟨m1 ++ m2, by rw [e2, Array.append_assoc]⟩
  · obtain ⟨m, hn, hl⟩ := I.loc
    refine ⟨m, ns m hn, fun i x v e1 e2 e3 => ?_⟩
    obtain ⟨u, r, l⟩ := hl i x v e1 e2 e3
    refine ⟨u, r, ?_⟩
    rcases l with l | ⟨k, c, e, z⟩
    · exact .inl l
    · exact .inr ⟨k, c, e, cellK x c e _ z⟩
  · obtain ⟨v, z⟩ := I.cell x c e
    exact ⟨v, cellK x c e v z⟩
  · obtain ⟨m, ⟨o, _, _, ho, _⟩, _⟩ := I.loc
    exact free _ o (fun z => (hch _ z).2.1 rfl) ho I.free
  · obtain ⟨v, o, ho, hd⟩ := I.cell x c e
    exact free c o (fun z => (hch c z).2.2.1 x c e rfl) ho (I.freeC x c e)
  · obtain ⟨e, n, ne, nf, d⟩ := I.pin p hp
    have nch : p.1 ∉ ch := fun z => (hch p.1 z).2.2.2 p hp rfl
    exact ⟨keep p.1 p.2 ne nf nch e n, free p.1 p.2 nch e n, ne, nf, d⟩
/-- .. where the frame's own object is kept too -/
theorem Inv.un {t' : Nat} (I : Inv X pins σ H s) (u : Un X.fs [] H H' s.heap h') (hok : HOk X.prog X.w H' h') : Inv X pins σ H' { s with heap := h', toks := t' } := by
  obtain ⟨m, ⟨o, es, ep, ho, r⟩, _⟩ := id I.loc
  obtain ⟨sl, hL⟩ := u.any ho I.free (by simp)
  exact I.step (g' := s.gens) (d' := s.drawn) (ch := []) (fun _ z => nomatch z) (fun b o _ hb _ e n => u.keep b o e n hb (by simp)) (fun b o _ hb _ e n => u.slot b o e n hb (by simp)) (fun b o _ e n => u.free b o e n (by simp)) (fun b o _ e => u.there b o e (by simp)) u.tups u.frzs u.tbls (fun m' hm => by
    obtain ⟨o', es', ep', ho', r'⟩ := hm
    rw [ho] at ho'; cases ho'
    exact ⟨_, es', ep', hL, r'⟩) hok I.bare
/-- behind a call (or a comprehension's block): the slots of this frame may have changed too, the records at ch may have turned -/
theorem Inv.call {g' : Array GenState} {t' : Nat} {d' : Drawn} {ch : List Addr} (I : Inv X pins σ H s) (u : Un (frs X.stack) ch H H' s.heap h') (hok : HOk X.prog X.w H' h') (hg : AllBare g')
    (hch : ∀ b ∈ ch, (b ∈ X.ex ∨ X.s₀.heap.objs.size ≤ b) ∧ b ≠ X.env.locals ∧ (∀ x c, X.env.cells.lookup x = some c → c ≠ b) ∧ ∀ p ∈ X.pn ++ pins, p.1 ≠ b) :
    Inv X pins σ H' { s with heap := h', gens := g', drawn := d', toks := t' } := by
  obtain ⟨m, ⟨o, es, ep, ho, r⟩, _⟩ := id I.loc
  obtain ⟨sl, hL⟩ := u.any ho I.free fun z => (hch _ z).2.1 rfl
  exact I.step (ch := ch) hch (fun b o hL hb hc e n => u.keep b o e n (fun z => (List.mem_cons.mp (I.stkSub b z)).elim hL hb) hc) (fun b o _ _ hc e n => u.any e n hc) (fun b o hc e n => u.free b o e n hc) (fun b o hc e => u.there b o e hc) u.tups u.frzs u.tbls (fun m' hm => by
    obtain ⟨o', es', ep', ho', r'⟩ := hm
    rw [ho] at ho'; cases ho'
    exact ⟨_, es', ep', hL, r'⟩) hok hg
/-- an untracked record of ours (an iterator) has turned -/
theorem Inv.turned {t' : Nat} {it : Addr} (I : Inv X pins σ H s) (k : ∀ b o, b ≠ it → s.heap.get? b = some o → h'.get? b = some o) (hn : H it = none) (hL : it ≠ X.env.locals)
    (h1 : it ∈ X.ex ∨ X.s₀.heap.objs.size ≤ it) (h2 : ∀ x c, X.env.cells.lookup x = some c → c ≠ it) (h3 : ∀ p ∈ X.pn ++ pins, p.1 ≠ it) : Inv X pins σ H { s with heap := h', toks := t' } := by
  have nit : ∀ b u, H b = some u → b ≠ it := fun b u e z => by rw [z, hn] at e; cases e
  refine I.step (g' := s.gens) (d' := s.drawn) (ch := [it]) (fun b hb => ?_) (fun b o _ _ hc e _ => k b o (fun z => hc (by simp [z])) e) (fun b o _ _ hc e _ => ⟨o.slots, k b o (fun z => hc (by simp [z])) e⟩) (fun _ _ _ _ n => n)
    (fun b o hc e => ⟨o, k b o (fun z => hc (by simp [z])) e⟩) (fun _ _ e => e) (fun _ _ _ e => e) (fun b ps e => ⟨#[], by rw [e]; simp⟩) (fun m hm => ?_) (fun b u e => ?_) I.bare
  · have e : b = it := by simpa using hb
    subst e
    exact ⟨h1, hL, h2, h3⟩
  · obtain ⟨o, es, ep, ho, r⟩ := hm
    exact ⟨o, es, ep, k _ o (Ne.symm hL) ho, r⟩
  · refine (I.hok b u e).stay (fun c v hc q => k c v ?_ q) (fun _ q => q) fun _ _ q => q
    rcases hc with z | z
    · rw [z]; exact nit b u e
    · exact nit c _ z
theorem Inv.tok (I : Inv X pins σ H s) (t : Nat) : Inv X pins σ H { s with toks := t } := I.un (h' := s.heap) (t' := t) Un.refl I.hok
/-- all objects kept -/
theorem Inv.kept {t' : Nat} (I : Inv X pins σ H s) (k : ∀ b u, s.heap.get? b = some u → h'.get? b = some u) : Inv X pins σ H { s with heap := h', toks := t' } := I.un (Un.kept k) (I.hok.kept k)
/-- a new object laid and tracked -/
theorem Inv.laid {a : Addr} {o : HO} {t' : Nat} (I : Inv X pins σ H s) (k : ∀ b u, s.heap.get? b = some u → h'.get? b = some u) (hp : s.heap.objs.size ≤ a) (new : ObjOk X.prog X.w (upd H a o) h' a o) :
    Inv X pins σ (upd H a o) { s with heap := h', toks := t' } := I.un (Un.laid k hp (I.hok.fresh hp)) (I.hok.laid k hp new)
/-- an object written -/
theorem Inv.write {x e : Addr} {o : HO} {t' : Nat} (I : Inv X pins σ H s) (mu : Mut (H x)) (he : e = x ∨ H e = some (.own x)) (k : ∀ b u, b ≠ e → s.heap.get? b = some u → h'.get? b = some u) (heo : ∃ u, h'.get? e = some u)
    (new : ObjOk X.prog X.w (upd H x o) h' x o) : Inv X pins σ (upd H x o) { s with heap := h', toks := t' } := I.un (Un.write mu he k heo) (I.hok.write mu he k heo new)
theorem Inv.pins_of {pins' : List (Addr × Obj)} (I : Inv X pins σ H s) (h : ∀ p ∈ pins', s.heap.get? p.1 = some p.2 ∧ H p.1 = none ∧ p.1 ≠ X.env.locals ∧ p.1 ∉ X.fs ∧ ∀ v, p.2.data ≠ .cell v) : Inv X pins' σ H s :=
  ⟨I.ok, I.os, I.bare, I.base, I.loc, I.cell, I.free, I.freeC, fun p hp => (List.mem_append.mp hp).elim (fun z => I.pin p (List.mem_append_left _ z)) (h p), I.hok, I.len⟩

theorem nodup_ix {N : List Str} (hN : N.Nodup) {i j : Nat} {x : Str} (a : N[i]? = some x) (b : N[j]? = some x) : i = j := by
  obtain ⟨h1, e1⟩ := List.getElem?_eq_some_iff.mp a
  obtain ⟨h2, e2⟩ := List.getElem?_eq_some_iff.mp b
  exact (List.getElem_inj hN).mp (e1.trans e2.symm)

/-- a name is stored; what changed -/
theorem store_ok2 {M : Model} {A : Around} {E : Value → Shared → Prop} {i : Nat} {x : Str} {v : V} {u : Value} {Q : Unit → Shared → Prop} (I : Inv X pins σ H s) (hN : X.N.Nodup) (hi : X.N[i]? = some x) (hx : Loc X.env.scope x) (r : RelV v u)
    (h : ∀ s', Inv X pins (σ.set i (some v)) H s' → (∃ a, Heap.SameBut a s.heap s'.heap ∧ (a = X.env.locals ∨ X.env.cells.lookup x = some a)) → Q () s') (hf : X.fn x = true ∨ X.env.scope.names.lookup x = some .local := by first | exact .inl rfl | exact .inr rfl | assumption) : wpAny M A (storeName X.env x u) Q E s := by
  obtain ⟨m, hn, hl⟩ := id I.loc
  have hcls : (X.env.scope.kind == .class || (X.env.scope.kind == .module && X.env.locals != X.env.globals)) = false := by rw [I.ok.kind]; rfl
  have hiσ : i < σ.length := by rw [I.len]; exact (List.getElem?_eq_some_iff.mp hi).1
  have cne := I.cne
  have tracked : ∀ {a : Addr} {h' : Heap}, (∃ o, s.heap.get? a = some o ∧ H a = none) → Heap.SameBut a s.heap h' → HOk X.prog X.w H h' := fun {a h'} ha hs b ob e => by
    obtain ⟨_, _, hfree⟩ := ha
    refine (I.hok b ob e).stay (fun c w' hc q => (hs.2 c ?_).trans q) (fun _ q => q) fun _ _ q => q
    rintro rfl
    rcases hc with rfl | hc
    · rw [hfree] at e; cases e
    · rw [hfree] at hc; cases hc
  rcases hx with hk | hk
  · refine wpAny_storeName_local hk hn (fun h' hn' hs => ?_) hcls
    obtain ⟨oL, _, _, hoL, _⟩ := id hn
    refine h _ ⟨I.ok, I.os, I.bare, ⟨fun b o e n hb hx => ?_, fun b o e n hb hx => ?_, I.base.free, fun b o e hx => ?_, I.base.tups, I.base.frzs, I.base.tbls⟩, ⟨_, hn', fun j y v' e1 e2 e3 => ?_⟩, fun y c e => ?_, I.free, I.freeC, fun p hp => ?_, tracked ⟨oL, hoL, I.free⟩ hs, by simpa using I.len⟩ ⟨_, hs, .inl rfl⟩
    · exact (hs.2 b (Nat.ne_of_lt (Nat.lt_of_lt_of_le (Heap.lt_size e) I.ok.above))).trans (I.base.keep b o e n hb hx)
    · obtain ⟨sl, e1⟩ := I.base.slot b o e n hb hx
      exact ⟨sl, (hs.2 b (Nat.ne_of_lt (Nat.lt_of_lt_of_le (Heap.lt_size e) I.ok.above))).trans e1⟩
    · obtain ⟨o', e1⟩ := I.base.there b o e hx
      exact ⟨o', (hs.2 b (Nat.ne_of_lt (Nat.lt_of_lt_of_le (Heap.lt_size e) I.ok.above))).trans e1⟩
    · by_cases hj : j = i
      · subst hj
        rw [hi] at e1; cases e1
        rw [List.getElem?_set_self hiσ] at e2
        cases e2
        exact ⟨u, r, .inl ⟨hk, by simp⟩⟩
      · rw [List.getElem?_set_ne (Ne.symm hj)] at e2
        obtain ⟨u', r', q⟩ := hl j y v' e1 e2 e3
        refine ⟨u', r', ?_⟩
        rcases q with ⟨k, e⟩ | ⟨k, c, e, z⟩
        · refine .inl ⟨k, ?_⟩
          have : y ≠ x := fun e => hj (nodup_ix hN e1 (e ▸ hi))
          simp [this, e]
        · exact .inr ⟨k, c, e, z.sameBut hs (cne y c e)⟩
    · obtain ⟨w', z⟩ := I.cell y c e
      exact ⟨w', z.sameBut hs (cne y c e)⟩
    · obtain ⟨e, n, ne, nf, d⟩ := I.pin p hp
      exact ⟨(hs.2 p.1 ne).trans e, n, ne, nf, d⟩
  · have hfn : X.fn x = true := by
      rcases hf with z | z
      · exact z
      · rw [z] at hk; cases hk
    obtain ⟨c, hc⟩ := I.ok.has x (.inl hk)
    obtain ⟨w', z⟩ := I.cell x c hc
    refine wpAny_storeName_cell I.ok.kind hk hc z (fun h' hc' hs => ?_)
    obtain ⟨oc, hoc, hocd⟩ := id z
    refine h { s with heap := h' } ⟨I.ok, I.os, I.bare, ⟨fun b o e n hb hx => ?_, fun b o e n hb hx => ?_, I.base.free, fun b o e hx => ?_, I.base.tups, I.base.frzs, I.base.tbls⟩, ⟨m, hn.sameBut hs (Ne.symm (cne x c hc)), fun j y v' e1 e2 e3 => ?_⟩, fun y c' e => ?_, I.free, I.freeC, fun p hp => ?_, tracked ⟨oc, hoc, I.freeC x c hc⟩ hs, by simpa using I.len⟩ ⟨c, hs, .inr hc⟩
    · exact (hs.2 b (Nat.ne_of_lt (Nat.lt_of_lt_of_le (Heap.lt_size e) (I.ok.cab x c hfn hc)))).trans (I.base.keep b o e n hb hx)
    · obtain ⟨sl, e1⟩ := I.base.slot b o e n hb hx
      exact ⟨sl, (hs.2 b (Nat.ne_of_lt (Nat.lt_of_lt_of_le (Heap.lt_size e) (I.ok.cab x c hfn hc)))).trans e1⟩
    · obtain ⟨o', e1⟩ := I.base.there b o e hx
      exact ⟨o', (hs.2 b (Nat.ne_of_lt (Nat.lt_of_lt_of_le (Heap.lt_size e) (I.ok.cab x c hfn hc)))).trans e1⟩
    · by_cases hj : j = i
      · subst hj
        rw [hi] at e1; cases e1
        rw [List.getElem?_set_self hiσ] at e2
        cases e2
        exact ⟨u, r, .inr ⟨.inl hk, c, hc, hc'⟩⟩
      · rw [List.getElem?_set_ne (Ne.symm hj)] at e2
        obtain ⟨u', r', q⟩ := hl j y v' e1 e2 e3
        refine ⟨u', r', ?_⟩
        rcases q with q | ⟨k, c', e, z'⟩
        · exact .inl q
        · refine .inr ⟨k, c', e, z'.sameBut hs ?_⟩
          rintro rfl
          exact hj (nodup_ix hN e1 (I.ok.inj _ _ _ e hc ▸ hi))
    · by_cases hcc : c' = c
      · subst hcc; exact ⟨_, hc'⟩
      · obtain ⟨w2, z2⟩ := I.cell y c' e
        exact ⟨w2, z2.sameBut hs hcc⟩
    · obtain ⟨e, n, ne, nf, d⟩ := I.pin p hp
      refine ⟨(hs.2 p.1 ?_).trans e, n, ne, nf, d⟩
      intro q
      rw [q, hoc] at e
      have q' : oc = p.2 := Option.some.inj e
      exact d w' (by rw [← q']; exact hocd)
theorem store_ok {M : Model} {A : Around} {E : Value → Shared → Prop} {i : Nat} {x : Str} {v : V} {u : Value} {Q : Unit → Shared → Prop} (I : Inv X pins σ H s) (hN : X.N.Nodup) (hi : X.N[i]? = some x) (hx : Loc X.env.scope x) (r : RelV v u)
    (h : ∀ s', Inv X pins (σ.set i (some v)) H s' → Q () s') (hf : X.fn x = true ∨ X.env.scope.names.lookup x = some .local := by first | exact .inl rfl | exact .inr rfl | assumption) : wpAny M A (storeName X.env x u) Q E s :=
  store_ok2 I hN hi hx r (fun s' I' _ => h s' I') hf
/-- behind a call or a block, the state as it is -/
theorem Inv.call' {s' : Shared} {ch : List Addr} (I : Inv X pins σ H s) (ho : s'.os = s.os) (u : Un (frs X.stack) ch H H' s.heap s'.heap) (hok : HOk X.prog X.w H' s'.heap) (hg : AllBare s'.gens)
    (hch : ∀ b ∈ ch, (b ∈ X.ex ∨ X.s₀.heap.objs.size ≤ b) ∧ b ≠ X.env.locals ∧ (∀ x c, X.env.cells.lookup x = some c → c ≠ b) ∧ ∀ p ∈ X.pn ++ pins, p.1 ≠ b) : Inv X pins σ H' s' := by
  obtain ⟨h', g', d', t', o'⟩ := s'
  have e : o' = s.os := ho
  subst e
  exact I.call (g' := g') (t' := t') (d' := d') u hok hg hch
end

/-! ### the judgements -/
/-- an exception: its class, its own dict's address (where it has one), the abstract heap behind it -/
abbrev XK := Value → Option Addr → Hp → Prop
abbrev St := List (Option V)
abbrev VK := V → Hp → Prop
/-- an expression's reading; a test's; an argument list's -/
abbrev TE := St → Hp → VK → Prop
abbrev TT := St → Hp → (Bool → Hp → Prop) → Prop
abbrev TA := St → Hp → (List V → Hp → Prop) → Prop
/-- what is wanted behind a statement -/
structure Ends where
  nx : St → Hp → Prop
  rt : VK
  bk : St → Hp → Prop := fun _ _ => False
  ct : St → Hp → Prop := fun _ _ => False
abbrev TS := Ends → St → Hp → Prop

def EP (X : Cx) (pins : List (Addr × Obj)) (σ : St) (Q : VK) (u : Value) (s' : Shared) : Prop := ∃ v H', Inv X pins σ H' s' ∧ RelV v u ∧ Q v H'
def TP (X : Cx) (pins : List (Addr × Obj)) (σ : St) (Q : Bool → Hp → Prop) (b : Bool) (s' : Shared) : Prop := ∃ H', Inv X pins σ H' s' ∧ Q b H'
def AP (X : Cx) (pins : List (Addr × Obj)) (σ : St) (Q : List V → Hp → Prop) (us : List Value) (s' : Shared) : Prop := ∃ vs H', Inv X pins σ H' s' ∧ Vals vs us ∧ Q vs H'
def SP (X : Cx) (pins : List (Addr × Obj)) (D : Ends) (f : Flow) (s' : Shared) : Prop :=
  match f with
  | .next => ∃ σ' H', Inv X pins σ' H' s' ∧ D.nx σ' H'
  | .brk => ∃ σ' H', Inv X pins σ' H' s' ∧ D.bk σ' H'
  | .cont => ∃ σ' H', Inv X pins σ' H' s' ∧ D.ct σ' H'
  | .ret u => ∃ v σ' H', Inv X pins σ' H' s' ∧ RelV v u ∧ D.rt v H'

def PE (X : Cx) (e : Expr) (t : TE) : Prop :=
  ∀ (pins : List (Addr × Obj)) (s : Shared) (σ : St) (H : Hp) (Q : VK), Inv X pins σ H s → t σ H Q → wpAny (model X.prog X.w) X.A (eval e X.env) (EP X pins σ Q) X.xe s
def PT (X : Cx) (e : Expr) (t : TT) : Prop :=
  ∀ (pins : List (Addr × Obj)) (s : Shared) (σ : St) (H : Hp) (Q : Bool → Hp → Prop), Inv X pins σ H s → t σ H Q → wpAny (model X.prog X.w) X.A (isTrue e X.env (eval e X.env)) (TP X pins σ Q) X.xe s
/-- a test whatever its 'whole' is (and, or) -/
def PW (X : Cx) (e : Expr) (t : TT) : Prop :=
  ∀ (whole : Sem Value) (pins : List (Addr × Obj)) (s : Shared) (σ : St) (H : Hp) (Q : Bool → Hp → Prop), Inv X pins σ H s → t σ H Q → wpAny (model X.prog X.w) X.A (isTrue e X.env whole) (TP X pins σ Q) X.xe s
theorem PW.pt {X : Cx} {e : Expr} {t : TT} (h : PW X e t) : PT X e t := h _
/-- an argument list (no star), from the left -/
def PA (X : Cx) (es : List Expr) (t : TA) : Prop :=
  ∀ (pos : Pos) (pins : List (Addr × Obj)) (s : Shared) (σ : St) (H : Hp) (Q : List V → Hp → Prop), Inv X pins σ H s → t σ H Q → wpAny (model X.prog X.w) X.A (spliced (backTo pos (starEach es X.env))) (AP X pins σ Q) X.xe s
def PS (X : Cx) (st : Stmt) (t : TS) : Prop :=
  ∀ (pins : List (Addr × Obj)) (s : Shared) (σ : St) (H : Hp) (D : Ends), Inv X pins σ H s → t D σ H → wpAny (model X.prog X.w) X.A (exec st X.env) (SP X pins D) X.xe s
def PSs (X : Cx) (st : List Stmt) (t : TS) : Prop :=
  ∀ (pins : List (Addr × Obj)) (s : Shared) (σ : St) (H : Hp) (D : Ends), Inv X pins σ H s → t D σ H → wpAny (model X.prog X.w) X.A (execs st X.env) (SP X pins D) X.xe s
/-- weaken the end -/
theorem thn {α : Type} {t : Sem α} {Q Q' : α → Shared → Prop} {M : Model} {A : Around} {E : Value → Shared → Prop} {s : Shared} (h : wpAny M A t Q E s) (hQ : ∀ a s, Q a s → Q' a s) : wpAny M A t Q' E s := wpAny_mono h hQ fun _ _ x => x
end L2

namespace L2
open PySem PySem.Spec PyProof.Rows
section
variable {X : Cx}

/-- two expressions in a row -/
theorem bin {a b : Expr} {ta tb : TE} (ha : PE X a ta) (hb : PE X b tb) {pins : List (Addr × Obj)} {s : Shared} {σ : St} {H : Hp} {R : V → V → Hp → Prop} (I : Inv X pins σ H s) (h : ta σ H fun x H1 => tb σ H1 fun y H2 => R x y H2)
    {α : Type} {Q : α → Shared → Prop} {f : Value → Value → Sem α}
    (hf : ∀ v u s2 x y H2, Inv X pins σ H2 s2 → RelV x v → RelV y u → R x y H2 → wpAny (model X.prog X.w) X.A (f v u) Q X.xe s2) :
    wpAny (model X.prog X.w) X.A (eval a X.env) (fun v s₁ => wpAny (model X.prog X.w) X.A (eval b X.env) (fun u s₂ => wpAny (model X.prog X.w) X.A (f v u) Q X.xe s₂) X.xe s₁) X.xe s := by
  refine thn (ha pins s σ H _ I h) fun v s1 ⟨x, H1, I1, r1, q1⟩ => ?_
  refine thn (hb pins s1 σ H1 _ I1 q1) fun u s2 ⟨y, H2, I2, r2, q2⟩ => ?_
  exact hf v u s2 x y H2 I2 r1 r2 q2

/-! ### names and constants -/
def tVar (i : Nat) : TE := fun σ H Q => ∃ v, σ[i]? = some (some v) ∧ Q v H
def tC (v : V) : TE := fun _ H Q => Q v H
theorem pe_var {i : Nat} {x : Str} {pos : Pos} (hN : X.N[i]? = some x) (hv : Vis X.env.scope x) (hd : (x == ("__debug__" : Str)) = false := by decide) (hcd : (x == ("__classdict__" : Str)) = false := by decide) : PE X (.Name x pos) (tVar i) := by
  intro pins s σ H Q I h
  obtain ⟨v, e, h⟩ := h
  obtain ⟨m, hn, hl⟩ := I.loc
  obtain ⟨u, r, l⟩ := hl i x v hN e hv
  have fin : EP X pins σ Q u s := ⟨v, H, I, r, h⟩
  rcases l with ⟨hk, hm⟩ | ⟨hk, c, hc, hcell⟩
  · exact wpAny_Name (wpAny_loadName_local I.ok.kind hk hn hm fin) hd
  · rcases hk with hk | hk
    · exact wpAny_Name (wpAny_loadName_cell I.ok.kind hk hc hcell fin) hd
    · exact wpAny_Name (wpAny_loadName_free I.ok.kind hk hc hcell fin hcd) hd
theorem pe_int {i j pos} : PE X (.Constant (.int i) j pos) (tC (.int i)) := fun _ _ _ H _ I h => wpAny_Constant_int ⟨.int i, H, I.tok _, ⟨_, rfl⟩, h⟩
theorem pe_bl {b j pos} : PE X (.Constant (.bool b) j pos) (tC (.bl b)) := fun _ _ _ H _ I h => Constant_bool ⟨.bl b, H, I, rfl, h⟩
theorem pe_non {j pos} : PE X (.Constant .none j pos) (tC .non) := fun _ _ _ H _ I h => Constant_none ⟨.non, H, I, rfl, h⟩
theorem pe_str {x j pos} : PE X (.Constant (.str x) j pos) (tC (.str x)) := fun _ _ _ H _ I h => Calls.Constant_str ⟨.str x, H, I.tok _, ⟨_, rfl⟩, h⟩

/-- a global name of the def -/
def Gl (X : Cx) (x : Str) : Prop := X.env.kindOf x = some .globalImplicit
theorem ld_glob {E : Value → Shared → Prop} {pins : List (Addr × Obj)} {s : Shared} {σ : St} {H : Hp} {x : Str} {u : Value} {pos : Pos} {Q : Value → Shared → Prop} (I : Inv X pins σ H s) (hg : Gl X x) (hm : X.mg x = some u) (h : Q u s)
    (hd : (x == ("__debug__" : Str)) = false := by decide) : wpAny (model X.prog X.w) X.A (eval (.Name x pos) X.env) Q E s :=
  Calls.Name_function_global I.ok.kind hg (Calls.loadGlobal_global (by rw [I.ok.glob]; exact I.mod.glob.keeps I.bk) hm h) hd
theorem ld_blt {E : Value → Shared → Prop} {pins : List (Addr × Obj)} {s : Shared} {σ : St} {H : Hp} {x : Str} {u : Value} {pos : Pos} {Q : Value → Shared → Prop} (I : Inv X pins σ H s) (hg : Gl X x) (hm : X.mg x = none) (hv : bootBuiltins x = some u) (h : Q u s)
    (hn : x ≠ "__name__" := by decide) (hd : (x == ("__debug__" : Str)) = false := by decide) : wpAny (model X.prog X.w) X.A (eval (.Name x pos) X.env) Q E s := by
  obtain ⟨mb, h1, h2⟩ := I.mod.blt
  exact Calls.Name_function_global I.ok.kind hg (Calls.loadGlobal_builtin (by rw [I.ok.glob]; exact I.mod.glob.keeps I.bk) hm (by rw [I.ok.blt]; exact h1.keeps I.bk) ((h2 x hn).trans hv) h) hd
/-- a module's constant, a class, a function, as a value -/
theorem pe_glob {x : Str} {v : V} {u : Value} {pos : Pos} (hg : Gl X x) (hm : X.mg x = some u) (r : RelV v u) (hd : (x == ("__debug__" : Str)) = false := by decide) : PE X (.Name x pos) (tC v) :=
  fun _ _ _ H _ I h => ld_glob I hg hm ⟨v, H, I, r, h⟩ hd
theorem pe_bltn {x : Str} {v : V} {u : Value} {pos : Pos} (hg : Gl X x) (hm : X.mg x = none) (hv : bootBuiltins x = some u) (r : RelV v u) (hn : x ≠ "__name__" := by decide) (hd : (x == ("__debug__" : Str)) = false := by decide) : PE X (.Name x pos) (tC v) :=
  fun _ _ _ H _ I h => ld_blt I hg hm hv ⟨v, H, I, r, h⟩ hn hd

/-! ### arithmetic -/
variable {a b : Expr} {ta tb : TE} {pos : Pos}

/-! ### comparisons -/
def PC (X : Cx) (op : CmpOp) (a b : Expr) (t : TE) : Prop :=
  ∀ (pins : List (Addr × Obj)) (s : Shared) (σ : St) (H : Hp) (Q : VK), Inv X pins σ H s → t σ H Q →
    wpAny (model X.prog X.w) X.A (eval a X.env) (fun v s₁ => wpAny (model X.prog X.w) X.A (eval b X.env) (fun u s₂ => wpAny (model X.prog X.w) X.A (compareOp op v u) (EP X pins σ Q) X.xe s₂) X.xe s₁) X.xe s
/-- a comparison as a value, as a test -/
def tB (t : TE) : TT := fun σ H Q => t σ H fun x H1 => ∃ c, x = .bl c ∧ Q c H1
theorem pt_cmp {op : CmpOp} {t : TE} (h : PC X op a b t) (h1 : behindInMarks op b = false := by first | exact nobehind _ (by decide) (by decide) | rfl) : PT X (.Compare a [op] [b] pos) (tB t) := by
  intro pins s σ H Q I hw
  refine wpAny_isTrue_Compare1 (thn (h pins s σ H _ I hw) fun v s1 h1 => thn h1 fun u s2 h2 => thn h2 fun c s3 ⟨x, H1, I1, r1, q1⟩ => ?_) h1
  obtain ⟨d, rfl, q⟩ := q1
  cases r1
  exact wpAny_truthy_bool ⟨H1, I1, q⟩
/-- an expression whose value is a bool, as a test -/
theorem pt_val {e : Expr} {t : TE} (h : PE X e t) (he : ∀ whole, isTrue e X.env whole = (do let v ← whole; standAt e.pos; holding [v] (truthy v)) := by intro _; rfl) : PT X e (tB t) := by
  intro pins s σ H Q I hw
  refine isTrue_plain (thn (h pins s σ H _ I hw) fun v s1 ⟨x, H1, I1, r1, q1⟩ => ?_) (he _)
  obtain ⟨d, rfl, q⟩ := q1
  cases r1
  exact wpAny_truthy_bool ⟨H1, I1, q⟩

/-! ### and, or, not -/
variable {tA tB' : TT} {rest : List Expr}
def tAnd (t u : TT) : TT := fun σ H Q => t σ H fun c H1 => if c = true then u σ H1 Q else Q false H1
def tOr (t u : TT) : TT := fun σ H Q => t σ H fun c H1 => if c = true then Q true H1 else u σ H1 Q
def tNot (t : TT) : TT := fun σ H Q => t σ H fun c H1 => Q (!c) H1
theorem pw_and1 (ha : PT X a tA) : PW X (.BoolOp .And [a] pos) tA := by
  intro wh pins s σ H Q I h
  refine isTrue_and (thn (ha pins s σ H Q I h) fun c s1 e => ?_)
  cases c with
  | true => exact isTrue_and_nil e
  | false => exact e
theorem pw_or1 (ha : PT X a tA) : PW X (.BoolOp .Or [a] pos) tA := by
  intro wh pins s σ H Q I h
  refine isTrue_or (thn (ha pins s σ H Q I h) fun c s1 e => ?_)
  cases c with
  | false => exact isTrue_or_nil e
  | true => exact e
theorem pw_and (ha : PT X a tA) (hb : PW X (.BoolOp .And (b :: rest) pos) tB') : PW X (.BoolOp .And (a :: b :: rest) pos) (tAnd tA tB') := by
  intro wh pins s σ H Q I h
  refine isTrue_and (thn (ha pins s σ H _ I h) fun c s1 ⟨H1, I1, q1⟩ => ?_)
  cases c with
  | true => exact hb wh pins s1 σ H1 Q I1 q1
  | false => exact ⟨H1, I1, q1⟩
theorem pw_or (ha : PT X a tA) (hb : PW X (.BoolOp .Or (b :: rest) pos) tB') : PW X (.BoolOp .Or (a :: b :: rest) pos) (tOr tA tB') := by
  intro wh pins s σ H Q I h
  refine isTrue_or (thn (ha pins s σ H _ I h) fun c s1 ⟨H1, I1, q1⟩ => ?_)
  cases c with
  | true => exact ⟨H1, I1, q1⟩
  | false => exact hb wh pins s1 σ H1 Q I1 q1
theorem pt_not (ha : PT X a tA) : PT X (.UnaryOp .Not a pos) (tNot tA) := by
  intro pins s σ H Q I h
  exact isTrue_not (ha pins s σ H (fun c H1 => Q (!c) H1) I h)
/-- .. as values (bools) -/
def tAndV (ta tb : TE) : TE := fun σ H Q => ta σ H fun x H1 => ∃ c, x = .bl c ∧ if c = true then tb σ H1 Q else Q (.bl false) H1
def tOrV (ta tb : TE) : TE := fun σ H Q => ta σ H fun x H1 => ∃ c, x = .bl c ∧ if c = true then Q (.bl true) H1 else tb σ H1 Q
def tNotV (ta : TE) : TE := fun σ H Q => ta σ H fun x H1 => ∃ c, x = .bl c ∧ Q (.bl (!c)) H1
theorem pe_one {op} {t : TE} (h : PE X a t) : PE X (.BoolOp op [a] pos) t := fun pins s σ H Q I hw => BoolOp_one (h pins s σ H Q I hw)
theorem pe_and (ha : PE X a ta) (hb : PE X (.BoolOp .And (b :: rest) pos) tb) : PE X (.BoolOp .And (a :: b :: rest) pos) (tAndV ta tb) := by
  intro pins s σ H Q I h
  refine BoolOp_and (thn (ha pins s σ H _ I h) fun v s1 ⟨x, H1, I1, r1, q1⟩ => ?_)
  obtain ⟨c, rfl, q1⟩ := q1
  cases r1
  refine wpAny_truthy_bool ?_
  cases c with
  | true => exact hb pins s1 σ H1 Q I1 q1
  | false => exact ⟨.bl false, H1, I1, rfl, q1⟩
theorem pe_or (ha : PE X a ta) (hb : PE X (.BoolOp .Or (b :: rest) pos) tb) : PE X (.BoolOp .Or (a :: b :: rest) pos) (tOrV ta tb) := by
  intro pins s σ H Q I h
  refine BoolOp_or (thn (ha pins s σ H _ I h) fun v s1 ⟨x, H1, I1, r1, q1⟩ => ?_)
  obtain ⟨c, rfl, q1⟩ := q1
  cases r1
  refine wpAny_truthy_bool ?_
  cases c with
  | false => exact hb pins s1 σ H1 Q I1 q1
  | true => exact ⟨.bl true, H1, I1, rfl, q1⟩
theorem pe_not (ha : PE X a ta) : PE X (.UnaryOp .Not a pos) (tNotV ta) := by
  intro pins s σ H Q I h
  refine UnaryOp_ (thn (ha pins s σ H _ I h) fun v s1 ⟨x, H1, I1, r1, q1⟩ => ?_)
  obtain ⟨c, rfl, q1⟩ := q1
  cases r1
  exact not_of (wpAny_truthy_bool ⟨.bl (!c), H1, I1, rfl, q1⟩)
/-- a if t else b -/
def tIf (t : TT) (ta tb : TE) : TE := fun σ H Q => t σ H fun c H1 => if c = true then ta σ H1 Q else tb σ H1 Q
theorem pe_ifExp {c : Expr} (hc : PT X c tA) (ha : PE X a ta) (hb : PE X b tb) : PE X (.IfExp c a b pos) (tIf tA ta tb) := by
  intro pins s σ H Q I h
  refine wpAny_IfExp (thn (hc pins s σ H _ I h) fun d s1 ⟨H1, I1, q1⟩ => ?_)
  cases d with
  | true => exact ha pins s1 σ H1 Q I1 q1
  | false => exact hb pins s1 σ H1 Q I1 q1
end
end L2

namespace L2
open PySem PySem.Spec PyProof.Rows

/-! ### a list, a tuple that is read: tracked, frozen, or an object of the module -/
def SqL (K : PySem.W.Frag) (H : Hp) (a : Addr) (xs : List V) : Prop :=
  Rd H a (.lst xs) ∨
    ∃ (o : Obj) (its : Array Value) (n : Nat), K.lookup a = some o ∧ o.cls = .type "list" ∧ o.dict = none ∧ o.data = .seq its n ∧ its.size ≤ sizeLine ∧ Vals xs its.toList
def SqT (K : PySem.W.Frag) (H : Hp) (a : Addr) (xs : List V) : Prop :=
  Rd H a (.tup xs) ∨
    ∃ (o : Obj) (its : Array Value) (n : Nat), K.lookup a = some o ∧ o.cls = .type "tuple" ∧ o.data = .seq its n ∧ its.size ≤ sizeLine ∧ Vals xs its.toList
def absV : Value → Option V
  | .none => some .non
  | .bool b => some (.bl b)
  | .int i _ => some (.int i)
  | .str x _ => some (.str x)
  | .bytes b _ => some (.byt b)
  | .float b _ => some (.flt b)
  | .ref a => some (.ref a)
  | .type n => some (.ty n)
  | _ => none
theorem RelV.abs {x : V} {u : Value} (r : RelV x u) : absV u = some x := by
  cases x with
  | non => cases r; rfl
  | bl _ => cases r; rfl
  | int _ => obtain ⟨t, rfl⟩ := r; rfl
  | str _ => obtain ⟨t, rfl⟩ := r; rfl
  | byt _ => obtain ⟨t, rfl⟩ := r; rfl
  | flt _ => obtain ⟨t, rfl⟩ := r; rfl
  | ref _ => cases r; rfl
  | ty _ => cases r; rfl
theorem RelV.inj {x y : V} {u : Value} (r : RelV x u) (q : RelV y u) : x = y := Option.some.inj (r.abs.symm.trans q.abs)
theorem Vals.inj : ∀ {xs ys : List V} {us : List Value}, Vals xs us → Vals ys us → xs = ys
  | _, _, _, .nil, .nil => rfl
  | _, _, _, .cons r t, .cons r' t' => by rw [r.inj r', Vals.inj t t']
section
variable {X : Cx} {pins : List (Addr × Obj)} {σ : St} {H : Hp} {s : Shared} {a : Addr} {xs ys : List V}
theorem SqL.of {K : PySem.W.Frag} (h : H a = some (.lst xs)) : SqL K H a xs := .inl (.inl h)
theorem SqT.of {K : PySem.W.Frag} (h : H a = some (.tup xs)) : SqT K H a xs := .inl (.inl h)
theorem Inv.list (I : Inv X pins σ H s) (h : SqL X.K H a xs) : ∃ its : List Value, Vals xs its ∧ PlainL s.heap a its.toArray ∧ xs.length ≤ sizeLine := by
  rcases h with h | ⟨o, its, n, hk, hc, hd, hs, hz, r⟩
  · obtain ⟨z, its, n, r, e⟩ := h.ok I.hok
    exact ⟨its, r, ⟨_, n, e, rfl, rfl, rfl⟩, z⟩
  · refine ⟨its.toList, r, ⟨o, n, I.kIn a o hk, hc, hd, by simpa using hs⟩, ?_⟩
    have e := r.length
    simp only [Array.length_toList] at e
    omega
theorem Inv.tuple (I : Inv X pins σ H s) (h : SqT X.K H a xs) : ∃ its : List Value, Vals xs its ∧ IsTup s.heap a its.toArray ∧ xs.length ≤ sizeLine := by
  rcases h with h | ⟨o, its, n, hk, hc, hs, hz, r⟩
  · obtain ⟨z, its, r, p⟩ := h.ok I.hok
    exact ⟨its, r, p, z⟩
  · refine ⟨its.toList, r, ⟨o, I.kIn a o hk, hc, n, by simpa using hs⟩, ?_⟩
    have e := r.length
    simp only [Array.length_toList] at e
    omega
theorem Inv.list_inj (I : Inv X pins σ H s) (h : SqL X.K H a xs) (h' : SqL X.K H a ys) : xs = ys := by
  obtain ⟨its, r, ⟨o, n, e, _, _, d⟩, _⟩ := I.list h
  obtain ⟨its', r', ⟨o', n', e', _, _, d'⟩, _⟩ := I.list h'
  rw [e] at e'; cases e'
  rw [d] at d'
  injection d' with d1 _
  have : its = its' := by simpa using congrArg Array.toList d1
  subst this
  exact r.inj r'
end

/-! ### another wish about exceptions -/
abbrev Cx.wish (X : Cx) (E : Value → Shared → Prop) : Cx := { X with xe := E }
/-- no exception leaves -/
abbrev Cx.nox (X : Cx) : Cx := X.wish fun _ _ => False
theorem Cx.Ok.wish {X : Cx} (ok : X.Ok) (E : Value → Shared → Prop) : (X.wish E).Ok :=
  ⟨ok.mod, ok.kind, ok.glob, ok.blt, ok.above, ok.inj, ok.has, ok.cab, ok.hd, ok.frames, ok.stk, ok.exf, ok.bs, ok.bsz, ok.noex, ok.exfs, ok.funs, ok.frf⟩
theorem Cx.Ok.unwish {X : Cx} {E : Value → Shared → Prop} (ok : (X.wish E).Ok) : X.Ok :=
  ⟨ok.mod, ok.kind, ok.glob, ok.blt, ok.above, ok.inj, ok.has, ok.cab, ok.hd, ok.frames, ok.stk, ok.exf, ok.bs, ok.bsz, ok.noex, ok.exfs, ok.funs, ok.frf⟩
section
variable {X : Cx} {pins : List (Addr × Obj)} {σ : St} {H : Hp} {s : Shared} {E : Value → Shared → Prop}
theorem Inv.wish (I : Inv X pins σ H s) (E : Value → Shared → Prop) : Inv (X.wish E) pins σ H s := ⟨I.ok.wish E, I.os, I.bare, I.base, I.loc, I.cell, I.free, I.freeC, I.pin, I.hok, I.len⟩
theorem Inv.unwish (I : Inv (X.wish E) pins σ H s) : Inv X pins σ H s := ⟨I.ok.unwish, I.os, I.bare, I.base, I.loc, I.cell, I.free, I.freeC, I.pin, I.hok, I.len⟩
theorem SP.unwish {D : Ends} {f : Flow} {s' : Shared} (h : SP (X.wish E) pins D f s') : SP X pins D f s' := by
  cases f with
  | next => obtain ⟨σ', H', I, q⟩ := h; exact ⟨σ', H', I.unwish, q⟩
  | brk => obtain ⟨σ', H', I, q⟩ := h; exact ⟨σ', H', I.unwish, q⟩
  | cont => obtain ⟨σ', H', I, q⟩ := h; exact ⟨σ', H', I.unwish, q⟩
  | ret u => obtain ⟨v, σ', H', I, r, q⟩ := h; exact ⟨v, σ', H', I.unwish, r, q⟩
theorem PSs.nox {st : List Stmt} {t : TS} (h : PSs X.nox st t) : PSs X st t := fun pins s σ H D I hw =>
  wpAny_mono (h pins s σ H D (I.wish _) hw) (fun _ _ q => q.unwish) fun _ _ z => False.elim z
end

/-! ### blocks and small statements -/
section
variable {X : Cx} {st : Stmt} {rest : List Stmt} {t u : TS} {e : Expr} {te : TE} {pos : Pos}
def tNext : TS := fun D σ H => D.nx σ H
def tSeq (t u : TS) : TS := fun D σ H => t { D with nx := u D } σ H
theorem pss_nil : PSs X [] tNext := fun _ _ σ H _ I h => wpAny_execs_nil ⟨σ, H, I, h⟩
theorem pss_cons (h1 : PS X st t) (h2 : PSs X rest u) : PSs X (st :: rest) (tSeq t u) := by
  intro pins s σ H D I h
  refine wpAny_execs_cons (thn (h1 pins s σ H { D with nx := u D } I h) fun f s1 q => ?_)
  cases f with
  | next =>
    obtain ⟨σ', H', I', q⟩ := q
    exact h2 pins s1 σ' H' D I' q
  | ret v => exact q
  | brk => exact q
  | cont => exact q
theorem pss_one (h1 : PS X st t) : PSs X [st] t := by
  intro pins s σ H D I h
  refine wpAny_execs_cons (thn (h1 pins s σ H D I h) fun f s1 q => ?_)
  cases f with
  | next => exact wpAny_execs_nil q
  | ret v => exact q
  | brk => exact q
  | cont => exact q
/-- in a def's body nothing is shown -/
theorem Inv.quiet {pins : List (Addr × Obj)} {σ : St} {H : Hp} {s : Shared} (I : Inv X pins σ H s) : interactive X.env = false := by simp [interactive, I.ok.kind]
/-- an expression whose value is dropped -/
def tDrop (te : TE) : TS := fun D σ H => te σ H fun _ H1 => D.nx σ H1
theorem ps_expr (he : PE X e te) (hs : swapsWith e none pos.line X.env = pure false := by rfl) : PS X (.Expr e pos) (tDrop te) := by
  intro pins s σ H D I h
  exact wpAny_Expr_any (thn (he pins s σ H _ I h) fun v s1 ⟨x, H1, I1, r1, q1⟩ => ⟨σ, H1, I1, q1⟩) I.quiet hs
def tRet (te : TE) : TS := fun D σ H => te σ H D.rt
theorem ps_ret (he : PE X e te) : PS X (.Return (some e) pos) (tRet te) := by
  intro pins s σ H D I h
  exact wpAny_Return_some (thn (he pins s σ H _ I h) fun v s1 ⟨x, H1, I1, r1, q1⟩ => ⟨x, σ, H1, I1, r1, q1⟩)
def tIfS (c : TT) (t u : TS) : TS := fun D σ H => c σ H fun b H1 => if b = true then t D σ H1 else u D σ H1
theorem ps_if {c : Expr} {a b : List Stmt} {tc : TT} (hc : PT X c tc) (ha : PSs X a t) (hb : PSs X b u) : PS X (.If c a b pos) (tIfS tc t u) := by
  intro pins s σ H D I h
  refine wpAny_If (thn (hc pins s σ H _ I h) fun d s1 ⟨H1, I1, q1⟩ => ?_)
  cases d with
  | true => exact ha pins s1 σ H1 D I1 q1
  | false => exact hb pins s1 σ H1 D I1 q1
end

/-! ### targets -/
abbrev TG := V → St → Hp → (St → Hp → Prop) → Prop
abbrev TGs := List V → St → Hp → (St → Hp → Prop) → Prop
def PG (X : Cx) (target : Expr) (t : TG) : Prop :=
  ∀ (pins : List (Addr × Obj)) (s : Shared) (σ : St) (H : Hp) (v : V) (u : Value) (Q : St → Hp → Prop), Inv X pins σ H s → RelV v u → t v σ H Q →
    wpAny (model X.prog X.w) X.A (assign target X.env u) (fun _ s' => ∃ σ' H', Inv X pins σ' H' s' ∧ Q σ' H') X.xe s
/-- several targets, one after another -/
def PGs (X : Cx) (ts : List Expr) (t : TGs) : Prop :=
  ∀ (pins : List (Addr × Obj)) (s : Shared) (σ : St) (H : Hp) (vs : List V) (us : List Value) (Q : St → Hp → Prop), Inv X pins σ H s → Vals vs us → t vs σ H Q →
    wpAny (model X.prog X.w) X.A (assignInOrder ((assignEach ts X.env).map (·.2)) us) (fun _ s' => ∃ σ' H', Inv X pins σ' H' s' ∧ Q σ' H') X.xe s
/-- o[i] = v, by values -/
abbrev TSet := V → V → V → Hp → (Hp → Prop) → Prop
def PSet (X : Cx) (t : TSet) : Prop :=
  ∀ (pins : List (Addr × Obj)) (s : Shared) (σ : St) (H : Hp) (o i v : V) (ov iv u : Value) (Q : Hp → Prop), Inv X pins σ H s → RelV o ov → RelV i iv → RelV v u → t o i v H Q →
    wpAny (model X.prog X.w) X.A (setItem ov iv u) (fun _ s' => ∃ H', Inv X pins σ H' s' ∧ Q H') X.xe s
section
variable {X : Cx} {pos : Pos}
def gName (i : Nat) : TG := fun v σ H Q => Q (σ.set i (some v)) H
theorem pg_name {i : Nat} {x : Str} (hN : X.N.Nodup) (hi : X.N[i]? = some x) (hx : Loc X.env.scope x) (hf : X.fn x = true ∨ X.env.scope.names.lookup x = some .local := by first | exact .inl rfl | exact .inr rfl | assumption) : PG X (.Name x pos) (gName i) := by
  intro pins s σ H v u Q I r h
  exact wpAny_assign_Name (store_ok I hN hi hx r (fun s' I' => ⟨_, H, I', h⟩) hf)
def gNil : TGs := fun vs σ H Q => vs = [] ∧ Q σ H
def gCons (t : TG) (u : TGs) : TGs := fun vs σ H Q => ∃ v r, vs = v :: r ∧ t v σ H fun σ' H' => u r σ' H' Q
theorem pgs_nil : PGs X [] gNil := by
  intro pins s σ H vs us Q I r h
  obtain ⟨e, h⟩ := h
  subst e
  cases r
  exact assignInOrder_nil ⟨σ, H, I, h⟩
theorem pgs_cons {e : Expr} {es : List Expr} {t : TG} {u : TGs} (h1 : PG X e t) (h2 : PGs X es u)
    (hs : (assignEach (e :: es) X.env).map (·.2) = assign e X.env :: (assignEach es X.env).map (·.2) := by rfl) : PGs X (e :: es) (gCons t u) := by
  intro pins s σ H vs us Q I r h
  obtain ⟨v, vr, e1, h⟩ := h
  subst e1
  cases r with
  | cons r rr =>
    rw [hs]
    refine assignInOrder_cons (thn (h1 pins s σ H _ _ _ I r h) fun _ s1 ⟨σ1, H1, I1, q1⟩ => ?_)
    exact h2 pins s1 σ1 H1 _ _ Q I1 rr q1
/-- (a, b, ..) = a tuple of that length -/
def gTup (K : PySem.W.Frag) (n : Nat) (t : TGs) : TG := fun v σ H Q => ∃ a xs, v = .ref a ∧ SqT K H a xs ∧ xs.length = n ∧ t xs σ H Q
theorem pg_tup {es : List Expr} {k : Nat} {t : TGs} {n : Nat} (hc : X.calm = true) (h : PGs X es t)
    (hn : (assignEach es X.env).length = n := by rfl) (hst : (assignEach es X.env).findIdx? (·.1) = none := by rfl) : PG X (.Tuple es k pos) (gTup X.K n t) := by
  intro pins s σ H v u Q I r hw
  obtain ⟨a, xs, e1, hq, hl, hw⟩ := hw
  subst e1
  cases r
  obtain ⟨its, rv, ht, hz⟩ := I.tuple hq
  refine assign_Tuple_tuple (I.ok.hd hc) ht (by simp [hn, ← hl, rv.length]) hst fun h' hx => ?_
  have I1 : Inv X pins σ H { s with heap := h' } := I.kept (t' := s.toks) fun b o e => hx b o (Nat.ne_of_lt (Heap.lt_size e)) e
  exact h pins _ σ H xs _ Q I1 (by simpa using rv) hw
/-- o[i] = .. -/
def gSub (to ti : TE) (t : TSet) : TG := fun v σ H Q => to σ H fun o H1 => ti σ H1 fun i H2 => t o i v H2 fun H3 => Q σ H3
theorem pg_sub {o i : Expr} {to ti : TE} {t : TSet} (ho : PE X o to) (hi : PE X i ti) (hs : PSet X t)
    (ha : ∀ v, assign (.Subscript o i pos) X.env v = (do
      let ov ← holding [v] (eval o X.env)
      let iv ← holding [v, ov] (eval i X.env)
      standAt pos
      holding [v, ov, iv] (setItem ov iv v)
      release [v, ov, iv] []) := by intro _; rfl) : PG X (.Subscript o i pos) (gSub to ti t) := by
  intro pins s σ H v u Q I r h
  rw [ha]
  refine wpAny_bind (wpAny_holding (thn (ho pins s σ H _ I h) fun ov s1 ⟨x, H1, I1, r1, q1⟩ => ?_))
  refine wpAny_bind (wpAny_holding (thn (hi pins s1 σ H1 _ I1 q1) fun iv s2 ⟨y, H2, I2, r2, q2⟩ => ?_))
  refine wpAny_bind (wpAny_standAt (wpAny_bind (wpAny_holding (thn (hs pins s2 σ H2 x y v ov iv u _ I2 r1 r2 r q2) fun _ s3 ⟨H3, I3, q3⟩ => ?_))))
  exact wpAny_release ⟨σ, H3, I3, q3⟩
/-- target = value -/
def tAsg (te : TE) (g : TG) : TS := fun D σ H => te σ H fun x H1 => g x σ H1 D.nx
theorem ps_asg {tg e : Expr} {te : TE} {g : TG} (he : PE X e te) (hg : PG X tg g) (hs : swapsWithSole [tg] e pos.line X.env = pure false := by rfl) (hw : swappedStores [tg] e X.env = pure none := by rfl)
    (h1 : (assignEach [tg] X.env).map (·.2) = [assign tg X.env] := by rfl) : PS X (.Assign [tg] e pos) (tAsg te g) := by
  intro pins s σ H D I h
  refine wpAny_Assign_stores (thn (he pins s σ H _ I h) fun v s1 ⟨x, H1, I1, r1, q1⟩ => ?_) hs hw
  rw [h1]
  exact thn (hg pins s1 σ H1 x v _ I1 r1 q1) fun _ s2 q => q
/-- name = value -/
theorem ps_set {i : Nat} {x : Str} {e : Expr} {te : TE} {pos' : Pos} (hN : X.N.Nodup) (hi : X.N[i]? = some x) (hx : Loc X.env.scope x) (he : PE X e te) (hs : swapsWith e (some (.Name x pos')) pos.line X.env = pure false := by rfl) (hf : X.fn x = true ∨ X.env.scope.names.lookup x = some .local := by first | exact .inl rfl | exact .inr rfl | assumption) :
    PS X (.Assign [.Name x pos'] e pos) (tAsg te (gName i)) := by
  intro pins s σ H D I h
  refine wpAny_Assign_Name (thn (he pins s σ H _ I h) fun v s1 ⟨y, H1, I1, r1, q1⟩ => ?_) hs
  exact store_ok I1 hN hi hx r1 (fun s2 I2 => ⟨_, H1, I2, q1⟩) hf
end

/-! ### while -/
section
variable {X : Cx} {pos : Pos}
/-- the invariant W with its measure -/
def tWhile (c : TT) (tb : TS) : TS := fun D σ H => ∃ W : Nat → St → Hp → Prop, (∃ m, W m σ H) ∧ ∀ m σ H, W m σ H →
  c σ H fun b H1 => if b = true then ∃ N : St → Hp → Prop, (∀ σ' H', N σ' H' → ∃ m', m' < m ∧ W m' σ' H') ∧ tb { D with nx := N, ct := N, bk := D.nx } σ H1 else D.nx σ H1
theorem ps_while {c : Expr} {body : List Stmt} {tc : TT} {tb : TS} (hp : PassesOwn (model X.prog X.w) X.A X.env X.xe) (hc : PT X c tc) (hb : PSs X body tb) : PS X (.While c body [] pos) (tWhile tc tb) := by
  intro pins s σ H D I h
  obtain ⟨W, ⟨m0, w0⟩, turn⟩ := h
  refine wpAny_While (codeAny_whileLoop (fun n s' => ∃ σ' H', Inv X pins σ' H' s' ∧ W n σ' H') ?_ m0 ⟨σ, H, I, w0⟩)
  rintro n s1 ⟨σ1, H1, I1, w1⟩
  refine wpAny_passesOwn hp (thn (hc pins s1 σ1 H1 _ I1 (turn n σ1 H1 w1)) fun b s2 ⟨H2, I2, q2⟩ => ?_)
  cases b with
  | true =>
    obtain ⟨N, hN, q2⟩ := q2
    rw [if_pos rfl]
    refine wpAny_passesOwn hp (thn (hb pins s2 σ1 H2 _ I2 q2) fun f s3 q3 => ?_)
    cases f with
    | next =>
      obtain ⟨σ3, H3, I3, n3⟩ := q3
      obtain ⟨m', hm, w3⟩ := hN σ3 H3 n3
      exact ⟨m', hm, σ3, H3, I3, w3⟩
    | cont =>
      obtain ⟨σ3, H3, I3, n3⟩ := q3
      obtain ⟨m', hm, w3⟩ := hN σ3 H3 n3
      exact ⟨m', hm, σ3, H3, I3, w3⟩
    | brk => exact q3
    | ret v => exact q3
  | false =>
    rw [if_neg Bool.false_ne_true]
    exact wpAny_execs_nil ⟨σ1, H2, I2, q2⟩
end

/-! ### what a loop or a comprehension walks -/
/-- at turn i: it yields x (the heap may grow), or it stops -/
structure It where
  go : Nat → Hp → Prop
  yld : Nat → Hp → V → Hp → Prop
  stop : Nat → Hp → Prop
/-- the iterator's own objects may turn: they are not the frame's, not pinned, younger than the entry (or a comprehension's own) -/
def FpOk (X : Cx) (pins : List (Addr × Obj)) (H : Hp) (b : Addr) : Prop :=
  H b = none ∧ b ≠ X.env.locals ∧ b ∉ X.fs ∧ (b ∈ X.ex ∨ X.s₀.heap.objs.size ≤ b) ∧ (∀ x c, X.env.cells.lookup x = some c → c ≠ b) ∧ ∀ p ∈ X.pn ++ pins, p.1 ≠ b
theorem Inv.fpOk {X : Cx} {pins : List (Addr × Obj)} {σ : St} {H H' : Hp} {s : Shared} {b : Addr} (I : Inv X pins σ H s) (hb : s.heap.objs.size ≤ b) (hn : H' b = none) : FpOk X pins H' b := by
  refine ⟨hn, Nat.ne_of_gt (Nat.lt_of_lt_of_le I.lt hb), I.nofs hb, .inr (Nat.le_trans I.sz hb), fun x c e z => ?_, fun p hp z => ?_⟩
  · obtain ⟨v, q⟩ := I.cell x c e
    exact absurd (Nat.lt_of_lt_of_le q.lt (by rw [z]; exact hb)) (Nat.lt_irrefl _)
  · exact absurd (Nat.lt_of_lt_of_le (Heap.lt_size (I.pin p hp).1) (by rw [z]; exact hb)) (Nat.lt_irrefl _)
structure Turn (P : Program) (w : World) (K : PySem.W.Frag) (tg : Expr) (J : It) (fp : List Addr) (it : Addr) (tn : Nat → Heap → Prop) : Prop where
  mem : it ∈ fp
  obj : ∀ i h, tn i h → ∀ b ∈ fp, ∃ o, h.get? b = some o ∧ ∀ v, o.data ≠ .cell v
  keep : ∀ i h h', tn i h → (∀ b ∈ fp, ∀ o, h.get? b = some o → h'.get? b = some o) → tn i h'
  item : ∀ (X : Cx), X.prog = P → X.w = w → X.K = K → X.calm = true → ∀ (i : Nat) (pins : List (Addr × Obj)) (s : Shared) (σ : St) (H : Hp) (E : Value → Shared → Prop), Inv X pins σ H s → (∀ b ∈ fp, FpOk X pins H b) → tn i s.heap → J.go i H →
    wpAny (model P w) X.A (pyNext (.ref it)) (fun r s1 => ∃ u, r = some u ∧
      wpAny (model P w) X.A (letOwnedTupleGo tg (.ref it) u) (fun _ s2 => ∃ x H', Inv X pins σ H' s2 ∧ RelV x u ∧ J.yld i H x H' ∧ tn (i + 1) s2.heap ∧ ∀ b ∈ fp, H' b = none) E s1) E s
  done : ∀ (X : Cx), X.prog = P → X.w = w → X.K = K → X.calm = true → ∀ (i : Nat) (pins : List (Addr × Obj)) (s : Shared) (σ : St) (H : Hp) (E : Value → Shared → Prop), Inv X pins σ H s → (∀ b ∈ fp, FpOk X pins H b) → tn i s.heap → J.stop i H →
    wpAny (model P w) X.A (pyNext (.ref it)) (fun r s1 => r = none ∧ Inv X pins σ H s1) E s
  self : ∀ (A : Around) (i : Nat) (s : Shared) (Q : Value → Shared → Prop) (E : Value → Shared → Prop), tn i s.heap → Q (.ref it) s → wpAny (model P w) A (pyIter (.ref it)) Q E s
abbrev TI := St → Hp → (It → Hp → Prop) → Prop
/-- an iterator has come -/
def PIE (X : Cx) (pins : List (Addr × Obj)) (σ : St) (tg : Expr) (R : It → Hp → Prop) (itv : Value) (s2 : Shared) : Prop :=
  ∃ (it : Addr) (fp : List Addr) (tn : Nat → Heap → Prop) (J : It) (H' : Hp), itv = .ref it ∧ Inv X pins σ H' s2 ∧ Turn X.prog X.w X.K tg J fp it tn ∧ tn 0 s2.heap ∧ (∀ b ∈ fp, FpOk X pins H' b) ∧ R J H'
def PI (X : Cx) (tg iter : Expr) (wi : TI) : Prop :=
  ∀ (pins : List (Addr × Obj)) (s : Shared) (σ : St) (H : Hp) (R : It → Hp → Prop), Inv X pins σ H s → wi σ H R →
    wpAny (model X.prog X.w) X.A (eval iter X.env) (fun v s1 => wpAny (model X.prog X.w) X.A (pyIter v) (PIE X pins σ tg R) X.xe s1) X.xe s

/-- the step ahead of the store is nothing for an iterator that keeps no tuple -/
theorem go_of {M : Model} {A : Around} {E : Value → Shared → Prop} {s : Shared} {tg : Expr} {it : Addr} {u : Value} {o : Obj} {n : String} {vs : Array Value} {Q : Unit → Shared → Prop} (ho : s.heap.get? it = some o) (hc : o.cls = .type n) (hd : o.data = .fields vs)
    (hn : ["enumerate", "zip", "dict_itemiterator", "dict_reverseitemiterator", "odict_iterator", "itertools.zip_longest", "itertools.pairwise"].contains n = false) (hQ : Q () s) : wpAny M A (letOwnedTupleGo tg (.ref it) u) Q E s := by
  unfold letOwnedTupleGo
  cases tg <;> first
    | exact wpAny_pure hQ
    | (cases u <;> first
        | exact wpAny_pure hQ
        | (refine wpAny_bind (wpAny_load ho ?_)
           rw [hc, hd]
           show wpAny M A (if (["enumerate", "zip", "dict_itemiterator", "dict_reverseitemiterator", "odict_iterator", "itertools.zip_longest", "itertools.pairwise"].contains n && vs[0]? == some (rawInt _)) = true then _ else _) Q E s
           rw [if_neg (by intro h; rw [hn, Bool.false_and] at h; cases h)]
           exact wpAny_pure hQ))

/-- the list at a, as it stands at each turn (a loop may append to it) -/
def Itl (K : PySem.W.Frag) (a : Addr) : It :=
  ⟨fun i H => ∃ xs x, SqL K H a xs ∧ xs[i]? = some x, fun i H x H' => H' = H ∧ ∀ xs, SqL K H a xs → xs[i]? = some x, fun i H => ∃ xs, SqL K H a xs ∧ xs.length ≤ i⟩
/-- lo, lo + 1, .. (n of them) -/
def Itr (lo : Int) (n : Nat) : It := ⟨fun i _ => i < n, fun i H x H' => H' = H ∧ x = .int (lo + i), fun i _ => n ≤ i⟩
theorem turn_list {P : Program} {w : World} {K : PySem.W.Frag} {tg : Expr} (a it : Addr) : Turn P w K tg (Itl K a) [it] it (fun i h => h.IsListIter it a i) where
  mem := by simp
  obj := fun i h st b hb => by
    have e : b = it := by simpa using hb
    subst e
    obtain ⟨o, e, c, d⟩ := st
    exact ⟨o, e, fun v z => by rw [d] at z; cases z⟩
  keep := fun i h h' st k => st.at fun o e => k it (by simp) o e
  item := by
    intro X hP hw hK hc i pins s σ H E I hf st hg
    subst hP hw hK
    obtain ⟨xs, x, hq, hx⟩ := hg
    obtain ⟨its, rv, p, hz⟩ := I.list hq
    obtain ⟨u, hu, ru⟩ := rv.get hx
    obtain ⟨f0, f1, f2, f3, f4, f5⟩ := hf it (by simp)
    refine wpAny_pyNext_list_item st p.isList (x := u) (by simpa using hu) fun h' st' sb => ?_
    have I1 : Inv X pins σ H { s with heap := h' } := I.turned (t' := s.toks) (fun b o hb e => (sb.2 b hb).trans e) f0 f1 f3 f4 f5
    obtain ⟨o, e, c, d⟩ := id st'
    exact ⟨u, rfl, go_of (s := { s with heap := h' }) e c d (by decide) ⟨x, H, I1, ru, ⟨rfl, fun ys hy => by rw [I.list_inj hy hq]; exact hx⟩, st', fun b hb => (hf b hb).1⟩⟩
  done := by
    intro X hP hw hK hc i pins s σ H E I hf st hg
    subst hP hw hK
    obtain ⟨xs, hq, hx⟩ := hg
    obtain ⟨its, rv, p, hz⟩ := I.list hq
    obtain ⟨f0, f1, f2, f3, f4, f5⟩ := hf it (by simp)
    have hl := rv.length
    exact wpAny_pyNext_list_end (I.ok.hd hc) st p.isList (by simp; omega) fun h' eb => ⟨rfl, I.turned (t' := s.toks) (fun b o hb e => eb b o hb e) f0 f1 f3 f4 f5⟩
  self := fun _ _ _ _ _ st h => wpAny_pyIter_listiter st h
theorem turn_range {P : Program} {w : World} {K : PySem.W.Frag} {tg : Expr} (it : Addr) (lo : Int) (n : Nat) : Turn P w K tg (Itr lo n) [it] it (fun i h => IsRangeIter h it (lo + (i : Nat) * 1) ((n : Int) - (i : Nat)) 1) where
  mem := by simp
  obj := fun i h st b hb => by
    have e : b = it := by simpa using hb
    subst e
    exact ⟨_, st, fun v z => by
      have z' : Data.fields _ = Data.cell v := z
      cases z'⟩
  keep := fun i h h' st k => k it (by simp) _ st
  item := by
    intro X hP hw hK hc i pins s σ H E I hf st hg
    subst hP hw hK
    obtain ⟨f0, f1, f2, f3, f4, f5⟩ := hf it (by simp)
    have W := Walks.range (prog := X.prog) (w := X.w) (I.ok.hd hc) it lo 1 n
    refine W.item i s _ _ hg st fun v h' tk hv st' kk => ?_
    obtain ⟨t, rfl⟩ := hv
    have I1 : Inv X pins σ H { s with heap := h', toks := tk } := I.turned (fun b o hb e => kk b o (by simpa using hb) e) f0 f1 f3 f4 f5
    refine ⟨_, rfl, go_of (s := { s with heap := h', toks := tk }) (n := "range_iterator") st' rfl rfl (by decide) ⟨.int (lo + i), H, I1, ⟨t, ?_⟩, ⟨rfl, rfl⟩, st', fun b hb => (hf b hb).1⟩⟩
    rw [Int.mul_one]
  done := by
    intro X hP hw hK hc i pins s σ H E I hf st hg
    subst hP hw hK
    obtain ⟨f0, f1, f2, f3, f4, f5⟩ := hf it (by simp)
    exact wpAny_pyNext_range_end (I.ok.hd hc) st (by have : n ≤ i := hg; omega) fun h' eb => ⟨rfl, I.turned (t' := s.toks) (fun b o hb e => eb b o hb e) f0 f1 f3 f4 f5⟩
  self := fun _ _ _ _ _ st h => wpAny_pyIter_rangeiter st h
end L2

namespace L2
open PySem PySem.Spec PyProof.Rows
section
variable {X : Cx} {tg : Expr}
def iList (K : PySem.W.Frag) (tl : TE) : TI := fun σ H R => tl σ H fun x H1 => ∃ a, x = .ref a ∧ (∃ xs, SqL K H1 a xs) ∧ R (Itl K a) H1
theorem pi_list {l : Expr} {tl : TE} (hl : PE X l tl) : PI X tg l (iList X.K tl) := by
  intro pins s σ H R I h
  refine thn (hl pins s σ H _ I h) fun v s1 ⟨x, H1, I1, r1, q1⟩ => ?_
  obtain ⟨a, e, ⟨xs, hq⟩, q⟩ := q1
  subst e
  cases r1
  obtain ⟨its, rv, p, hz⟩ := I1.list hq
  refine wpAny_pyIter_list p.isList ?_
  refine ⟨s1.heap.objs.size, [s1.heap.objs.size], _, _, H1, rfl, I1.kept (t' := s1.toks) fun b o e => Heap.get?_push_of_some _ e, turn_list a _, ⟨_, Heap.get?_push_size _ rfl, rfl, rfl⟩, fun b hb => ?_, q⟩
  have e : b = s1.heap.objs.size := by simpa using hb
  subst e
  exact I1.fpOk (Nat.le_refl _) (I1.hok.fresh (Nat.le_refl _))
/-- a range object just made, walked -/
theorem range_it {pins : List (Addr × Obj)} {σ : St} {H : Hp} {s : Shared} {R : It → Hp → Prop} {E : Value → Shared → Prop} {lo hi : Int} {t u v : Tok} {tk : Nat} (I : Inv X pins σ H s) (h1 : -(2 ^ 62) ≤ lo) (h2 : lo < 2 ^ 62) (h3 : -(2 ^ 62) ≤ hi) (h4 : hi < 2 ^ 62)
    (q : R (Itr lo (hi - lo).toNat) H) : wpAny (model X.prog X.w) X.A (pyIter (.ref s.heap.objs.size)) (PIE X pins σ tg R) E { s with heap := s.heap.push { cls := .type "range", data := .fields #[.int lo t, .int hi u, .int 1 v] }, toks := tk } := by
  refine wpAny_pyIter_range (IsRange.new ..) (small_one h1 h2 h3 h4) ?_
  have I1 : Inv X pins σ H { s with heap := s.heap.push { cls := .type "range", data := .fields #[.int lo t, .int hi u, .int 1 v] }, toks := tk } := I.kept fun b o e => Heap.get?_push_of_some _ e
  refine ⟨(s.heap.push { cls := .type "range", data := .fields #[.int lo t, .int hi u, .int 1 v] }).objs.size, [(s.heap.push { cls := .type "range", data := .fields #[.int lo t, .int hi u, .int 1 v] }).objs.size], _, _, H, rfl,
    I1.kept (t' := tk) fun b o e => Heap.get?_push_of_some _ e, turn_range _ lo (hi - lo).toNat, ?_, fun b hb => ?_, q⟩
  · have e1 : lo + ((0 : Nat) : Int) * 1 = lo := by simp
    have e2 : (((hi - lo).toNat : Nat) : Int) - ((0 : Nat) : Int) = Builtin.Range.rangeSize lo hi 1 := by rw [rangeSize_one]; split <;> omega
    show IsRangeIter _ _ (lo + ((0 : Nat) : Int) * 1) ((((hi - lo).toNat : Nat) : Int) - ((0 : Nat) : Int)) 1
    rw [e1, e2]
    exact Heap.get?_push_size _ rfl
  · have e : b = (s.heap.push { cls := .type "range", data := .fields #[.int lo t, .int hi u, .int 1 v] }).objs.size := by simpa using hb
    subst e
    exact I1.fpOk (Nat.le_refl _) (I1.hok.fresh (Nat.le_refl _))
def iRng1 (ta : TA) : TI := fun σ H R => ta σ H fun vs H1 => ∃ j : Int, vs = [.int j] ∧ -(2 ^ 62) ≤ j ∧ j < 2 ^ 62 ∧ R (Itr 0 j.toNat) H1
theorem pi_range1 {a : Expr} {ta : TA} {p pos : Pos} (hg : Gl X "range") (hm : X.mg "range" = none) (ha : PA X [a] ta) (hs : starEach [a] X.env = [(false, eval a X.env)] := by rfl) : PI X tg (.Call (.Name "range" p) [a] [] pos) (iRng1 ta) := by
  intro pins s σ H R I h
  refine Call_ (ld_blt I hg hm boot_range (PyProof.Rows.callWith_type1 (thn (ha pos pins s σ H _ I h) fun us s1 ⟨vs, H1, I1, r1, q1⟩ => ?_) hs rfl))
  obtain ⟨j, e, q1, q2, q⟩ := q1
  subst e
  cases r1 with
  | cons r rr =>
    cases rr
    obtain ⟨t, rfl⟩ := r
    exact call_range_1 (range_it I1 (by omega) (by omega) q1 q2 (by simpa using q))

/-! ### for -/
/-- W: the invariant by the turn and a measure; N: what the body is to reach -/
def tFor (wi : TI) (g : TG) (tb : TS) : TS := fun D σ H => wi σ H fun J H1 => ∃ W : Nat → Nat → St → Hp → Prop, (∃ m, W 0 m σ H1) ∧ ∀ i m σ H, W i m σ H →
  (J.stop i H ∧ D.nx σ H) ∨ (J.go i H ∧ ∃ N : St → Hp → Prop, (∀ σ' H', N σ' H' → ∃ m', m' < m ∧ W (i + 1) m' σ' H') ∧ ∀ x H', J.yld i H x H' → g x σ H' fun σ2 H2 => tb { D with nx := N, ct := N, bk := D.nx } σ2 H2)
/-- the records at fp as they stand -/
def pinsAt (fp : List Addr) (h : Heap) : List (Addr × Obj) := fp.filterMap fun b => (h.get? b).map fun o => (b, o)
theorem mem_pinsAt {fp : List Addr} {h : Heap} {b : Addr} {o : Obj} (hb : b ∈ fp) (e : h.get? b = some o) : (b, o) ∈ pinsAt fp h := List.mem_filterMap.mpr ⟨b, hb, by rw [e]; rfl⟩
theorem of_pinsAt {fp : List Addr} {h : Heap} {p : Addr × Obj} (hp : p ∈ pinsAt fp h) : p.1 ∈ fp ∧ h.get? p.1 = some p.2 := by
  obtain ⟨b, hb, e⟩ := List.mem_filterMap.mp hp
  cases q : h.get? b with
  | none => rw [q] at e; cases e
  | some o =>
    rw [q] at e
    have e' : (b, o) = p := Option.some.inj e
    subst e'
    exact ⟨hb, q⟩
theorem Inv.pinned {pins : List (Addr × Obj)} {σ : St} {H : Hp} {s : Shared} {fp : List Addr} (I : Inv X pins σ H s) (hf : ∀ b ∈ fp, FpOk X pins H b) (ho : ∀ b ∈ fp, ∃ o, s.heap.get? b = some o ∧ ∀ v, o.data ≠ .cell v) : Inv X (pins ++ pinsAt fp s.heap) σ H s :=
  I.pins_of fun p hp => (List.mem_append.mp hp).elim (fun z => I.pin p (List.mem_append_right _ z)) fun z => by
    obtain ⟨hb, e⟩ := of_pinsAt z
    obtain ⟨f0, f1, f2, _⟩ := hf p.1 hb
    obtain ⟨o, e', d⟩ := ho p.1 hb
    rw [e] at e'; cases e'
    exact ⟨e, f0, f1, f2, d⟩
theorem Inv.unpinned {pins pl : List (Addr × Obj)} {σ : St} {H : Hp} {s : Shared} (I : Inv X (pins ++ pl) σ H s) : Inv X pins σ H s := I.pins_of fun p hp => I.pin p (List.mem_append_right _ (List.mem_append_left _ hp))
theorem ps_for {iter : Expr} {body : List Stmt} {wi : TI} {g : TG} {tb : TS} {pos : Pos} (hp : PassesOwn (model X.prog X.w) X.A X.env X.xe) (hc : X.calm = true) (hi : PI X tg iter wi) (hg : PG X tg g) (hb : PSs X body tb)
    (hs : ∀ x, foldedSetIterable iter X.env x = pure x := by intro _; rfl) : PS X (.For tg iter body [] pos) (tFor wi g tb) := by
  intro pins s σ H D I h
  refine wpAny_For (thn (hi pins s σ H _ I h) fun v s1 h1 => thn h1 fun itv s2 h2 => ?_) hs
  obtain ⟨it, fp, tn, J, H2, e, I2, T, st2, f2, W, ⟨m0, w0⟩, turn⟩ := h2
  subst e
  -- what stays true of the iterator's objects through the loop
  have stat : ∀ {H' : Hp}, (∀ b ∈ fp, H' b = none) → ∀ b ∈ fp, FpOk X pins H' b := fun hn b hb => ⟨hn b hb, (f2 b hb).2⟩
  refine codeAny_forLoop_any (fun n s' => ∃ i σ' H', Inv X pins σ' H' s' ∧ tn i s'.heap ∧ (∀ b ∈ fp, H' b = none) ∧ W i n σ' H') ?_ m0 ⟨0, σ, H2, I2, st2, fun b hb => (f2 b hb).1, w0⟩
  rintro n s3 ⟨i, σ3, H3, I3, st3, fr3, w3⟩
  rcases turn i n σ3 H3 w3 with ⟨stop, qn⟩ | ⟨go, N, hN, step⟩
  · refine wpAny_passesOwn hp (thn (T.done X rfl rfl rfl hc i pins s3 σ3 H3 X.xe I3 (stat fr3) st3 stop) fun r s4 ⟨hr, I4⟩ => ?_)
    subst hr
    exact wpAny_execs_nil ⟨σ3, H3, I4, qn⟩
  · refine wpAny_passesOwn hp (thn (T.item X rfl rfl rfl hc i pins s3 σ3 H3 X.xe I3 (stat fr3) st3 go) fun r s4 ⟨u, hr, h4⟩ => ?_)
    subst hr
    refine wpAny_passesOwn hp (thn h4 fun _ s5 ⟨x, H5, I5, r5, y5, st5, fr5⟩ => ?_)
    have I5' := I5.pinned (stat fr5) (T.obj _ _ st5)
    refine wpAny_passesOwn hp (thn (hg _ s5 σ3 H5 x u _ I5' r5 (step x H5 y5)) fun _ s6 ⟨σ6, H6, I6, q6⟩ => ?_)
    refine wpAny_passesOwn hp (thn (hb _ s6 σ6 H6 _ I6 q6) fun f s7 q7 => ?_)
    have again : ∀ {σ7 : St} {H7 : Hp}, Inv X (pins ++ pinsAt fp s5.heap) σ7 H7 s7 → N σ7 H7 → ∃ m, m < n ∧ ∃ i σ' H', Inv X pins σ' H' s7 ∧ tn i s7.heap ∧ (∀ b ∈ fp, H' b = none) ∧ W i m σ' H' := fun {σ7 H7} I7 n7 => by
      obtain ⟨m', hm, w7⟩ := hN σ7 H7 n7
      refine ⟨m', hm, i + 1, σ7, H7, I7.unpinned, T.keep _ _ _ st5 fun b hb o e => (I7.pin (b, o) (List.mem_append_right _ (List.mem_append_right _ (mem_pinsAt hb e)))).1, fun b hb => ?_, w7⟩
      obtain ⟨o, e, d⟩ := T.obj _ _ st5 b hb
      exact (I7.pin (b, o) (List.mem_append_right _ (List.mem_append_right _ (mem_pinsAt hb e)))).2.1
    cases f with
    | next => obtain ⟨σ7, H7, I7, n7⟩ := q7; exact again I7 n7
    | cont => obtain ⟨σ7, H7, I7, n7⟩ := q7; exact again I7 n7
    | brk => obtain ⟨σ7, H7, I7, q7⟩ := q7; exact ⟨σ7, H7, I7.unpinned, q7⟩
    | ret v => obtain ⟨x7, σ7, H7, I7, r7, q7⟩ := q7; exact ⟨x7, σ7, H7, I7.unpinned, r7, q7⟩
end

/-! ### the forms one uses -/
theorem for_range {lo : Int} {n : Nat} {g : TG} {tb : TS} {D : Ends} {σ : St} {H : Hp} (Pv : Nat → St → Hp → Prop) (h0 : Pv 0 σ H)
    (hs : ∀ i σ H, i < n → Pv i σ H → g (.int (lo + i)) σ H fun σ2 H2 => tb { D with nx := Pv (i + 1), ct := Pv (i + 1), bk := D.nx } σ2 H2) (hd : ∀ σ H, Pv n σ H → D.nx σ H) :
    ∃ W : Nat → Nat → St → Hp → Prop, (∃ m, W 0 m σ H) ∧ ∀ i m σ H, W i m σ H →
      ((Itr lo n).stop i H ∧ D.nx σ H) ∨ ((Itr lo n).go i H ∧ ∃ N : St → Hp → Prop, (∀ σ' H', N σ' H' → ∃ m', m' < m ∧ W (i + 1) m' σ' H') ∧ ∀ x H', (Itr lo n).yld i H x H' → g x σ H' fun σ2 H2 => tb { D with nx := N, ct := N, bk := D.nx } σ2 H2) := by
  refine ⟨fun i m σ H => m = n - i ∧ i ≤ n ∧ Pv i σ H, ⟨n, by simp, Nat.zero_le _, h0⟩, ?_⟩
  rintro i m σ H ⟨rfl, hi, p⟩
  by_cases hlt : i < n
  · refine .inr ⟨hlt, Pv (i + 1), fun σ' H' p' => ⟨n - (i + 1), by omega, rfl, hlt, p'⟩, fun x H' y => ?_⟩
    obtain ⟨e, y⟩ := y
    subst e y
    exact hs i σ _ hlt p
  · have e : i = n := by omega
    subst e
    exact .inl ⟨Nat.le_refl _, hd σ H p⟩
end L2

namespace L2
open PySem PySem.Spec PyProof.Rows

abbrev R2 := V → V → Hp → VK → Prop
/-- a two-place operation on values: f is binaryOp op, inplaceOp op or compareOp op -/
def OpR (X : Cx) (f : Value → Value → Sem Value) (r : R2) : Prop :=
  ∀ (pins : List (Addr × Obj)) (s : Shared) (σ : St) (H : Hp) (x y : V) (v u : Value) (Q : VK), Inv X pins σ H s → RelV x v → RelV y u → r x y H Q →
    wpAny (model X.prog X.w) X.A (f v u) (EP X pins σ Q) X.xe s
/-- a one-place operation -/
def UnR (X : Cx) (f : Value → Sem Value) (r : V → Hp → VK → Prop) : Prop :=
  ∀ (pins : List (Addr × Obj)) (s : Shared) (σ : St) (H : Hp) (x : V) (v : Value) (Q : VK), Inv X pins σ H s → RelV x v → r x H Q →
    wpAny (model X.prog X.w) X.A (f v) (EP X pins σ Q) X.xe s
/-- a call of a value that is known (a builtin, a type) with values -/
def CallR (X : Cx) (f : Value) (r : List V → Hp → VK → Prop) : Prop :=
  ∀ (pins : List (Addr × Obj)) (s : Shared) (σ : St) (H : Hp) (xs : List V) (us : List Value) (Q : VK), Inv X pins σ H s → Vals xs us → r xs H Q →
    wpAny (model X.prog X.w) X.A (call f us) (EP X pins σ Q) X.xe s
/-- a value's truth -/
def TruR (X : Cx) (r : V → Hp → (Bool → Hp → Prop) → Prop) : Prop :=
  ∀ (pins : List (Addr × Obj)) (s : Shared) (σ : St) (H : Hp) (x : V) (v : Value) (Q : Bool → Hp → Prop), Inv X pins σ H s → RelV x v → r x H Q →
    wpAny (model X.prog X.w) X.A (truthy v) (TP X pins σ Q) X.xe s

def tOp (r : R2) (ta tb : TE) : TE := fun σ H Q => ta σ H fun x H1 => tb σ H1 fun y H2 => r x y H2 Q
def tUn (r : V → Hp → VK → Prop) (ta : TE) : TE := fun σ H Q => ta σ H fun x H1 => r x H1 Q
/-- ints in, under C, and a value out -/
def rI (C : Int → Int → Prop) (g : Int → Int → V) : R2 := fun x y H Q => ∃ i j, x = .int i ∧ y = .int j ∧ C i j ∧ Q (g i j) H
def rI0 (g : Int → Int → V) : R2 := fun x y H Q => ∃ i j, x = .int i ∧ y = .int j ∧ Q (g i j) H
def rU (g : Int → V) : V → Hp → VK → Prop := fun x H Q => ∃ i, x = .int i ∧ Q (g i) H

section
variable {X : Cx} {a b c : Expr} {ta tb tc : TE} {pos : Pos}

theorem binT (ha : PE X a ta) (hb : PE X b tb) {pins : List (Addr × Obj)} {s : Shared} {σ : St} {H : Hp} {R : V → V → Hp → Prop} (I : Inv X pins σ H s)
    (h : ta σ H fun x H1 => tb σ H1 fun y H2 => R x y H2) {Q : Value → Shared → Prop} {f : Value → Value → Sem Value}
    (hf : ∀ v u s2 x y H2, Inv X pins σ H2 s2 → RelV x v → RelV y u → R x y H2 → wpAny (model X.prog X.w) X.A (f v u) Q X.xe s2) :
    wpAny (model X.prog X.w) X.A (eval a X.env) (fun v s₁ => wpAny (model X.prog X.w) X.A (eval b X.env) (fun u s₂ => wpAny (model X.prog X.w) X.A (f v u) Q X.xe s₂) X.xe s₁) X.xe s := by
  refine thn (ha pins s σ H _ I h) fun v s1 ⟨x, H1, I1, r1, q1⟩ => ?_
  refine thn (hb pins s1 σ H1 _ I1 q1) fun u s2 ⟨y, H2, I2, r2, q2⟩ => ?_
  exact hf v u s2 x y H2 I2 r1 r2 q2

theorem pe_op {op : Operator} {r : R2} (ho : OpR X (binaryOp op) r) (ha : PE X a ta) (hb : PE X b tb) : PE X (.BinOp a op b pos) (tOp r ta tb) := by
  intro pins s σ H Q I h
  exact wpAny_BinOp (binT ha hb I h fun v u s2 x y H2 I2 rx ry q => ho pins s2 σ H2 x y v u Q I2 rx ry q)
theorem pe_un {op : UnaryOp} {r : V → Hp → VK → Prop} (ho : UnR X (unaryOp op) r) (ha : PE X a ta) : PE X (.UnaryOp op a pos) (tUn r ta) := by
  intro pins s σ H Q I h
  exact UnaryOp_ (thn (ha pins s σ H _ I h) fun v s1 ⟨x, H1, I1, r1, q1⟩ => ho pins s1 σ H1 x v Q I1 r1 q1)

/-! ### ints -/
theorem opI {f : Value → Value → Sem Value} {C : Int → Int → Prop} {g : Int → Int → Int}
    (rule : ∀ (i j : Int) (t u : Tok) (s : Shared) (Q : Value → Shared → Prop) (E : Value → Shared → Prop), C i j → Q (.int (g i j) s.toks) { s with toks := s.toks + 1 } → wpAny (model X.prog X.w) X.A (f (.int i t) (.int j u)) Q E s) :
    OpR X f (rI C fun i j => .int (g i j)) := by
  intro pins s σ H x y v u Q I rx ry h
  obtain ⟨i, j, rfl, rfl, hc, q⟩ := h
  obtain ⟨t, rfl⟩ := rx
  obtain ⟨t', rfl⟩ := ry
  exact rule i j t t' s _ _ hc ⟨.int (g i j), H, I.tok _, ⟨_, rfl⟩, q⟩
theorem opI0 {f : Value → Value → Sem Value} {g : Int → Int → Int}
    (rule : ∀ (i j : Int) (t u : Tok) (s : Shared) (Q : Value → Shared → Prop) (E : Value → Shared → Prop), Q (.int (g i j) s.toks) { s with toks := s.toks + 1 } → wpAny (model X.prog X.w) X.A (f (.int i t) (.int j u)) Q E s) :
    OpR X f (rI0 fun i j => .int (g i j)) := by
  intro pins s σ H x y v u Q I rx ry h
  obtain ⟨i, j, rfl, rfl, q⟩ := h
  obtain ⟨t, rfl⟩ := rx
  obtain ⟨t', rfl⟩ := ry
  exact rule i j t t' s _ _ ⟨.int (g i j), H, I.tok _, ⟨_, rfl⟩, q⟩
theorem opB0 {f : Value → Value → Sem Value} {g : Int → Int → Bool}
    (rule : ∀ (i j : Int) (t u : Tok) (s : Shared) (Q : Value → Shared → Prop) (E : Value → Shared → Prop), Q (.bool (g i j)) s → wpAny (model X.prog X.w) X.A (f (.int i t) (.int j u)) Q E s) :
    OpR X f (rI0 fun i j => .bl (g i j)) := by
  intro pins s σ H x y v u Q I rx ry h
  obtain ⟨i, j, rfl, rfl, q⟩ := h
  obtain ⟨t, rfl⟩ := rx
  obtain ⟨t', rfl⟩ := ry
  exact rule i j t t' s _ _ ⟨.bl (g i j), H, I, rfl, q⟩

def CDiv (i j : Int) : Prop := 0 < j ∧ j < 1073741824
def CPow (i j : Int) : Prop := 0 ≤ j ∧ j ≤ 1000000 ∧ i.natAbs < 2 ^ 64

theorem op_add : OpR X (binaryOp .Add) (rI0 fun i j => .int (i + j)) := opI0 fun _ _ _ _ _ _ _ q => add_int q
theorem op_sub : OpR X (binaryOp .Sub) (rI0 fun i j => .int (i - j)) := opI0 fun _ _ _ _ _ _ _ q => sub_int q
/-- // by a positive divisor -/
theorem op_fdiv : OpR X (binaryOp .FloorDiv) (rI CDiv fun i j => .int (i / j)) := opI fun i j _ _ _ _ _ hc q => by
  have h1 : (0 : Int) < j := hc.1
  have h2 : j < 1073741824 := hc.2
  exact floordiv_int (by omega) (by rw [Int.fdiv_eq_ediv_of_nonneg i (by omega)]; exact q) (.inl (PyProof.noPylong_small (by omega)))
/-- % by a positive divisor of any size -/
theorem op_mod : OpR X (binaryOp .Mod) (rI (fun _ j => 0 < j) fun i j => .int (i % j)) := opI fun i j _ _ _ _ _ hc q => by
  have h1 : (0 : Int) < j := hc
  exact mod_int' (by omega) (by rw [Int.fmod_eq_emod_of_nonneg i (by omega)]; exact q)
theorem op_modN : OpR X (binaryOp .Mod) (rI (fun _ j => j ≠ 0) fun i j => .int (i.fmod j)) := opI fun _ _ _ _ _ _ _ hc q => mod_int' hc q
theorem op_pow : OpR X (binaryOp .Pow) (rI CPow fun i j => .int (i ^ j.toNat)) := opI fun _ _ _ _ _ _ _ hc q => pow_int_small hc.1 hc.2.1 hc.2.2 q


theorem unI {f : Value → Sem Value} {g : Int → Int}
    (rule : ∀ (i : Int) (t : Tok) (s : Shared) (Q : Value → Shared → Prop) (E : Value → Shared → Prop), Q (.int (g i) s.toks) { s with toks := s.toks + 1 } → wpAny (model X.prog X.w) X.A (f (.int i t)) Q E s) :
    UnR X f (rU fun i => .int (g i)) := by
  intro pins s σ H x v Q I rx h
  obtain ⟨i, rfl, q⟩ := h
  obtain ⟨t, rfl⟩ := rx
  exact rule i t s _ _ ⟨.int (g i), H, I.tok _, ⟨_, rfl⟩, q⟩
theorem un_neg : UnR X (unaryOp .USub) (rU fun i => .int (-i)) := unI fun _ _ _ _ _ q => neg_int q

/-! ### bools among ints: n += (a < b) -/
end

/-! ### comparisons -/
/-- the scalars that == tells apart as data does -/
def scal : V → V → Bool
  | .non, .non => true | .non, .int _ => true | .int _, .non => true | .non, .bl _ => true | .bl _, .non => true | .non, .str _ => true | .str _, .non => true
  | .int _, .int _ => true | .bl _, .bl _ => true | .str _, .str _ => true | .byt _, .byt _ => true
  | .int _, .str _ => true | .str _, .int _ => true | .bl _, .str _ => true | .str _, .bl _ => true
  | _, _ => false
def rEq : R2 := fun x y H Q => scal x y = true ∧ Q (.bl (decide (x = y))) H
def rNe : R2 := fun x y H Q => scal x y = true ∧ Q (.bl (!decide (x = y))) H

theorem dec_int {i j : Int} : decide (V.int i = V.int j) = (i == j) := by
  rw [Bool.eq_iff_iff]
  simp
theorem dec_bl {i j : Bool} : decide (V.bl i = V.bl j) = (i == j) := by
  rw [Bool.eq_iff_iff]
  simp
theorem dec_str {i j : Str} : decide (V.str i = V.str j) = (i == j) := by
  rw [Bool.eq_iff_iff]
  simp
theorem dec_byt {i j : Array UInt8} : decide (V.byt i = V.byt j) = (i.toList == j.toList) := by
  rw [Bool.eq_iff_iff]
  cases i
  cases j
  simp

section
variable {X : Cx} {a b c : Expr} {ta tb tc : TE} {pos : Pos}
theorem fin_bl {pins : List (Addr × Obj)} {σ : St} {H : Hp} {s : Shared} {Q : VK} {k k' : Bool} (I : Inv X pins σ H s) (q : Q (.bl k) H) (e : k = k') : EP X pins σ Q (.bool k') s := by
  subst e
  exact ⟨.bl k, H, I, rfl, q⟩
theorem op_eq : OpR X (compareOp .Eq) rEq := by
  intro pins s σ H x y v u Q I rx ry h
  obtain ⟨hs, q⟩ := h
  cases x with
  | non =>
    cases rx
    cases y with
    | non => cases ry; exact PySem.EqNone.eq_none_none (fin_bl I q (by simp))
    | bl j => cases ry; exact PySem.EqNone.eq_none_bool (fin_bl I q (by simp))
    | int j => obtain ⟨t', rfl⟩ := ry; exact PySem.EqNone.eq_none_int (fin_bl I q (by simp))
    | str j => obtain ⟨t', rfl⟩ := ry; exact PySem.EqNone.eq_none_str (fin_bl I q (by simp))
    | _ => exact absurd (show false = true from hs) Bool.false_ne_true
  | bl i =>
    cases rx
    cases y with
    | non => cases ry; exact PySem.EqNone.eq_bool_none (fin_bl I q (by simp))
    | bl j => cases ry; exact eq_bool (fin_bl I q dec_bl)
    | str j => obtain ⟨t', rfl⟩ := ry; exact PySem.EqMixed.eq_bool_str (fin_bl I q (by simp))
    | _ => exact absurd (show false = true from hs) Bool.false_ne_true
  | int i =>
    obtain ⟨t, rfl⟩ := rx
    cases y with
    | non => cases ry; exact PySem.EqNone.eq_int_none (fin_bl I q (by simp))
    | int j => obtain ⟨t', rfl⟩ := ry; exact eq_int (fin_bl I q dec_int)
    | str j => obtain ⟨t', rfl⟩ := ry; exact PySem.EqMixed.eq_int_str (fin_bl I q (by simp))
    | _ => exact absurd (show false = true from hs) Bool.false_ne_true
  | str i =>
    obtain ⟨t, rfl⟩ := rx
    cases y with
    | non => cases ry; exact PySem.EqNone.eq_str_none (fin_bl I q (by simp))
    | bl j => cases ry; exact PySem.EqMixed.eq_str_bool (fin_bl I q (by simp))
    | int j => obtain ⟨t', rfl⟩ := ry; exact PySem.EqMixed.eq_str_int (fin_bl I q (by simp))
    | str j => obtain ⟨t', rfl⟩ := ry; exact eq_str (fin_bl I q dec_str)
    | _ => exact absurd (show false = true from hs) Bool.false_ne_true
  | byt i =>
    obtain ⟨t, rfl⟩ := rx
    cases y with
    | byt j => obtain ⟨t', rfl⟩ := ry; exact PySem.W.eq_bytes (fin_bl I q dec_byt)
    | _ => exact absurd (show false = true from hs) Bool.false_ne_true
  | _ => cases y <;> exact absurd (show false = true from hs) Bool.false_ne_true
theorem op_ne : OpR X (compareOp .NotEq) rNe := by
  intro pins s σ H x y v u Q I rx ry h
  obtain ⟨hs, q⟩ := h
  cases x with
  | non =>
    cases rx
    cases y with
    | non => cases ry; exact PySem.EqNone.ne_none_none (fin_bl I q (by simp))
    | bl j => cases ry; exact PySem.EqNone.ne_none_bool (fin_bl I q (by simp))
    | int j => obtain ⟨t', rfl⟩ := ry; exact PySem.EqNone.ne_none_int (fin_bl I q (by simp))
    | str j => obtain ⟨t', rfl⟩ := ry; exact PySem.EqNone.ne_none_str (fin_bl I q (by simp))
    | _ => exact absurd (show false = true from hs) Bool.false_ne_true
  | bl i =>
    cases rx
    cases y with
    | non => cases ry; exact PySem.EqNone.ne_bool_none (fin_bl I q (by simp))
    | bl j => cases ry; exact ne_bool (fin_bl I q (congrArg not dec_bl))
    | str j => obtain ⟨t', rfl⟩ := ry; exact PySem.EqMixed.ne_bool_str (fin_bl I q (by simp))
    | _ => exact absurd (show false = true from hs) Bool.false_ne_true
  | int i =>
    obtain ⟨t, rfl⟩ := rx
    cases y with
    | non => cases ry; exact PySem.EqNone.ne_int_none (fin_bl I q (by simp))
    | int j => obtain ⟨t', rfl⟩ := ry; exact ne_int (fin_bl I q (congrArg not dec_int))
    | str j => obtain ⟨t', rfl⟩ := ry; exact PySem.EqMixed.ne_int_str (fin_bl I q (by simp))
    | _ => exact absurd (show false = true from hs) Bool.false_ne_true
  | str i =>
    obtain ⟨t, rfl⟩ := rx
    cases y with
    | non => cases ry; exact PySem.EqNone.ne_str_none (fin_bl I q (by simp))
    | bl j => cases ry; exact PySem.EqMixed.ne_str_bool (fin_bl I q (by simp))
    | int j => obtain ⟨t', rfl⟩ := ry; exact PySem.EqMixed.ne_str_int (fin_bl I q (by simp))
    | str j => obtain ⟨t', rfl⟩ := ry; exact ne_str (fin_bl I q (congrArg not dec_str))
    | _ => exact absurd (show false = true from hs) Bool.false_ne_true
  | byt i =>
    obtain ⟨t, rfl⟩ := rx
    cases y with
    | byt j => obtain ⟨t', rfl⟩ := ry; exact PySem.W.ne_bytes (fin_bl I q (congrArg not dec_byt))
    | _ => exact absurd (show false = true from hs) Bool.false_ne_true
  | _ => cases y <;> exact absurd (show false = true from hs) Bool.false_ne_true

theorem op_lt : OpR X (compareOp .Lt) (rI0 fun i j => .bl (decide (i < j))) := opB0 fun _ _ _ _ _ _ _ q => lt_int q
theorem op_gt : OpR X (compareOp .Gt) (rI0 fun i j => .bl (decide (j < i))) := opB0 fun _ _ _ _ _ _ _ q => gt_int q

/-- is None, is not None: the right side a value none -/
theorem op_isN : OpR X (compareOp .Is) (fun x y H Q => y = .non ∧ Q (.bl (decide (x = .non))) H) := by
  intro pins s σ H x y v u Q I rx ry h
  obtain ⟨rfl, q⟩ := h
  cases ry
  refine is_none_gen (fin_bl I q ?_)
  cases x <;> first
    | (cases rx; rfl)
    | (obtain ⟨t, rfl⟩ := rx; rfl)
theorem op_notN : OpR X (compareOp .IsNot) (fun x y H Q => y = .non ∧ Q (.bl (!decide (x = .non))) H) := by
  intro pins s σ H x y v u Q I rx ry h
  obtain ⟨rfl, q⟩ := h
  cases ry
  refine isnot_none_gen (fin_bl I q ?_)
  cases x <;> first
    | (cases rx; rfl)
    | (obtain ⟨t, rfl⟩ := rx; rfl)



theorem nomark (b : Expr) {op : CmpOp} (h : op ≠ .In := by decide) (h2 : op ≠ .NotIn := by decide) : behindInMarks op b = false := by
  have e1 : (op == CmpOp.In) = false := by cases op <;> first | rfl | exact absurd rfl h
  have e2 : (op == CmpOp.NotIn) = false := by cases op <;> first | rfl | exact absurd rfl h2
  cases b <;> simp [behindInMarks, e1, e2]
/-- a comparison as a value; hm: nomark b, or (for in, not in) by with_unfolding_all rfl -/
theorem pe_cmpR {op : CmpOp} {r : R2} (ho : OpR X (compareOp op) r) (ha : PE X a ta) (hb : PE X b tb) (hm : behindInMarks op b = false) : PE X (.Compare a [op] [b] pos) (tOp r ta tb) := by
  intro pins s σ H Q I h
  exact wpAny_Compare1 (binT ha hb I h fun v u s2 x y H2 I2 rx ry q => ho pins s2 σ H2 x y v u Q I2 rx ry q) hm
/-- a reading of a value as a test -/
def tTest (t : TE) : TT := fun σ H Q => t σ H fun x H' => ∃ k, x = .bl k ∧ Q k H'
theorem pt_cmpR {op : CmpOp} {r : R2} (ho : OpR X (compareOp op) r) (ha : PE X a ta) (hb : PE X b tb) (hm : behindInMarks op b = false) : PT X (.Compare a [op] [b] pos) (tTest (tOp r ta tb)) := by
  intro pins s σ H Q I h
  refine wpAny_isTrue_Compare1 (thn (ha pins s σ H _ I h) fun v s1 ⟨x, H1, I1, r1, q1⟩ => thn (hb pins s1 σ H1 _ I1 q1) fun u s2 ⟨y, H2, I2, r2, q2⟩ =>
    thn (ho pins s2 σ H2 x y v u _ I2 r1 r2 q2) fun c s3 ⟨z, H3, I3, r3, k, e, q3⟩ => ?_) hm
  subst e
  cases r3
  exact wpAny_truthy_bool ⟨H3, I3, q3⟩
/-- a op1 b op2 c -/
def tChain (r r' : R2) (ta tb tc : TE) : TE := fun σ H Q => ta σ H fun x H1 => tb σ H1 fun y H2 => r x y H2 fun z H3 => ∃ k, z = .bl k ∧
  (if k = true then tc σ H3 fun w' H4 => r' y w' H4 Q else Q (.bl false) H3)
theorem pt_chain {op op' : CmpOp} {r r' : R2} (ho : OpR X (compareOp op) r) (ho' : OpR X (compareOp op') r') (ha : PE X a ta) (hb : PE X b tb) (hc : PE X c tc)
    (hm : lastMarks [op, op'] [b, c] = false := by with_unfolding_all rfl) : PT X (.Compare a [op, op'] [b, c] pos) (tTest (tChain r r' ta tb tc)) := by
  intro pins s σ H Q I h
  refine isTrue_chain (thn (ha pins s σ H _ I h) fun v s1 ⟨x, H1, I1, r1, q1⟩ => test_link (thn (hb pins s1 σ H1 _ I1 q1) fun u s2 ⟨y, H2, I2, r2, q2⟩ =>
    thn (ho pins s2 σ H2 x y v u _ I2 r1 r2 q2) fun d s3 ⟨z, H3, I3, r3, k, e, q3⟩ => ?_)) hm
  subst e
  cases r3
  refine wpAny_truthy_bool ?_
  cases k with
  | false =>
    obtain ⟨k', e', q'⟩ := q3
    cases e'
    exact ite_ff ⟨H3, I3, q'⟩
  | true =>
    refine ite_tt (test_last (thn (hc pins s3 σ H3 _ I3 q3) fun w' s4 ⟨z', H4, I4, r4, q4⟩ => thn (ho' pins s4 σ H4 y z' u w' _ I4 r2 r4 q4) fun d' s5 ⟨z2, H5, I5, r5, k2, e2, q5⟩ => ?_))
    subst e2
    cases r5
    exact wpAny_truthy_bool ⟨H5, I5, q5⟩

/-! ### truth -/
/-- a value's truth by the abstract heap -/
def TruV (K : PySem.W.Frag) (x : V) (H : Hp) (k : Bool) : Prop :=
  match x with
  | .non => k = false
  | .bl b => k = b
  | .int i => k = (i != 0)
  | .str y => y.length ≤ sizeLine ∧ k = ((y.length : Int) != 0)
  | .byt y => y.size ≤ sizeLine ∧ k = ((y.size : Int) != 0)
  | .ref p => (∃ xs, SqL K H p xs ∧ k = !xs.isEmpty) ∨ (∃ xs, SqT K H p xs ∧ k = !xs.isEmpty) ∨ ∃ kvs, H p = some (.dK kvs) ∧ k = !kvs.isEmpty
  | _ => False
theorem isEmpty_kv {κ : Type} {kvs : List (κ × V)} {vs : List (κ × Value)} (r : KV kvs vs) : (!vs.isEmpty) = !kvs.isEmpty := by
  cases r <;> rfl
theorem isEmpty_of {xs : List V} {its : List Value} (r : Vals xs its) : (!its.toArray.isEmpty) = !xs.isEmpty := by
  cases r <;> simp
theorem line63 : (sizeLine : Nat) < 2 ^ 63 := by rw [sizeLine_eq]; decide
theorem tru_ok : TruR X (fun x H Q => ∃ k, TruV X.K x H k ∧ Q k H) := by
  intro pins s σ H x v Q I rx h
  obtain ⟨k, e, q⟩ := h
  have hl := line63
  have hs : sizeLine = 16777216 := sizeLine_eq
  cases x with
  | non =>
    cases rx
    have e' : k = false := e
    subst e'
    exact truthy_none ⟨H, I, q⟩
  | bl b =>
    cases rx
    have e' : k = b := e
    subst e'
    exact wpAny_truthy_bool ⟨H, I, q⟩
  | int i =>
    obtain ⟨t, rfl⟩ := rx
    have e' : k = (i != 0) := e
    subst e'
    exact PySem.P.truthy_int ⟨H, I, q⟩
  | str y =>
    obtain ⟨t, rfl⟩ := rx
    obtain ⟨hy, e'⟩ : y.length ≤ sizeLine ∧ k = ((y.length : Int) != 0) := e
    subst e'
    exact PySem.P.truthy_str (by omega) ⟨H, I.tok _, q⟩
  | byt y =>
    obtain ⟨t, rfl⟩ := rx
    obtain ⟨hy, e'⟩ : y.size ≤ sizeLine ∧ k = ((y.size : Int) != 0) := e
    subst e'
    exact PySem.W.truthy_bytes (by omega) ⟨H, I.tok _, q⟩
  | ref p =>
    cases rx
    have e' : (∃ xs, SqL X.K H p xs ∧ k = !xs.isEmpty) ∨ (∃ xs, SqT X.K H p xs ∧ k = !xs.isEmpty) ∨ ∃ kvs, H p = some (.dK kvs) ∧ k = !kvs.isEmpty := e
    rcases e' with ⟨xs, hx, e'⟩ | ⟨xs, hx, e'⟩ | ⟨kvs, hx, e'⟩
    · subst e'
      obtain ⟨its, r, pl, hz⟩ := I.list hx
      have hlen := r.length
      exact wpAny_truthy_list pl.isList (by simp only [List.size_toArray]; omega) ⟨H, I.tok _, by rw [isEmpty_of r]; exact q⟩
    · subst e'
      obtain ⟨its, r, pl, hz⟩ := I.tuple hx
      have hlen := r.length
      exact truthy_tuple pl (by simp only [List.size_toArray]; omega) ⟨H, I.tok _, by rw [isEmpty_of r]; exact q⟩
    · subst e'
      obtain ⟨hz, hS, vs, r, m⟩ : kvs.length ≤ sizeLine ∧ (p == sysModules) = false ∧ ∃ vs, KV kvs vs ∧ s.heap.DictOf (mixKind X.prog X.w) p vs := I.hok p _ hx
      have hlen : kvs.length = vs.length := Paired.length r
      exact wpAny_truthy_dict hS m (by omega) ⟨H, I.tok _, by rw [isEmpty_kv r]; exact q⟩
  | _ => exact (show False from e).elim
/-- any expression whose test is its value's truth (a name, a call, a subscript, a field ..: he by fun _ => rfl) -/
theorem pt_truth (ha : PE X a ta) (he : ∀ whole, isTrue a X.env whole = (do let v ← whole; standAt a.pos; holding [v] (truthy v))) :
    PT X a (fun σ H Q => ta σ H fun x H' => ∃ k, TruV X.K x H' k ∧ Q k H') := by
  intro pins s σ H Q I h
  exact isTrue_plain (thn (ha pins s σ H _ I h) fun v s1 ⟨x, H1, I1, r1, q1⟩ => tru_ok pins s1 σ H1 x v Q I1 r1 q1) (he _)

/-! ### strs and bytes -/
theorem op_add_str : OpR X (binaryOp .Add) (fun x y H Q => ∃ i j, x = .str i ∧ y = .str j ∧ i.length + j.length ≤ sizeLine ∧ Q (.str (i ++ j)) H) := by
  intro pins s σ H x y v u Q I rx ry h
  obtain ⟨i, j, rfl, rfl, hz, q⟩ := h
  obtain ⟨t, rfl⟩ := rx
  obtain ⟨t', rfl⟩ := ry
  exact add_str (fun t' tk => ⟨.str (i ++ j), H, I.tok _, ⟨_, rfl⟩, q⟩) hz


/-! ### scalar builtins, by CallR -/
theorem vals1 {x : V} {us : List Value} (r : Vals [x] us) : ∃ u, us = [u] ∧ RelV x u := by
  cases r with
  | cons r1 r2 => cases r2; exact ⟨_, rfl, r1⟩
theorem vals2 {x y : V} {us : List Value} (r : Vals [x, y] us) : ∃ u w', us = [u, w'] ∧ RelV x u ∧ RelV y w' := by
  cases r with
  | cons r1 r2 =>
    cases r2 with
    | cons r3 r4 => cases r4; exact ⟨_, _, rfl, r1, r3⟩
theorem call_abs : CallR X (.builtin "abs") (fun xs H Q => ∃ i, xs = [.int i] ∧ Q (.int (if i < 0 then -i else i)) H) := by
  intro pins s σ H xs us Q I r h
  obtain ⟨i, rfl, q⟩ := h
  obtain ⟨u, rfl, t, rfl⟩ := vals1 r
  exact call_abs_int fun u tk => ⟨.int (if i < 0 then -i else i), H, I.tok _, ⟨_, rfl⟩, q⟩
theorem call_max2 (hc : X.calm = true) : CallR X (.builtin "max") (fun xs H Q => ∃ i j, xs = [.int i, .int j] ∧ Q (.int (if j > i then j else i)) H) := by
  intro pins s σ H xs us Q I r h
  obtain ⟨i, j, rfl, q⟩ := h
  obtain ⟨u, w', rfl, ⟨t, rfl⟩, ⟨t', rfl⟩⟩ := vals2 r
  refine max_two_ints (I.ok.hd hc) fun h' tk k => ⟨_, H, I.kept k, ?_, q⟩
  by_cases hj : j > i
  · rw [if_pos hj, if_pos hj]; exact ⟨_, rfl⟩
  · rw [if_neg hj, if_neg hj]; exact ⟨_, rfl⟩
theorem call_min2 (hc : X.calm = true) : CallR X (.builtin "min") (fun xs H Q => ∃ i j, xs = [.int i, .int j] ∧ Q (.int (if j < i then j else i)) H) := by
  intro pins s σ H xs us Q I r h
  obtain ⟨i, j, rfl, q⟩ := h
  obtain ⟨u, w', rfl, ⟨t, rfl⟩, ⟨t', rfl⟩⟩ := vals2 r
  refine min_two_ints (I.ok.hd hc) fun h' tk k => ⟨_, H, I.kept k, ?_, q⟩
  by_cases hj : j < i
  · rw [if_pos hj, if_pos hj]; exact ⟨_, rfl⟩
  · rw [if_neg hj, if_neg hj]; exact ⟨_, rfl⟩
theorem call_int1 : CallR X (.type "int") (fun xs H Q => (∃ i, xs = [.int i] ∧ Q (.int i) H) ∨ ∃ k, xs = [.bl k] ∧ Q (.int (if k then 1 else 0)) H) := by
  intro pins s σ H xs us Q I r h
  rcases h with ⟨i, rfl, q⟩ | ⟨k, rfl, q⟩
  · obtain ⟨u, rfl, t, rfl⟩ := vals1 r
    exact call_int_int ⟨.int i, H, I, ⟨_, rfl⟩, q⟩
  · obtain ⟨u, rfl, r1⟩ := vals1 r
    cases r1
    exact call_int_bool ⟨.int (if k then 1 else 0), H, I.tok _, ⟨_, rfl⟩, q⟩
/-- len of a str, a bytes, a list, a tuple -/
def LenV (K : PySem.W.Frag) (x : V) (H : Hp) (n : Nat) : Prop :=
  match x with
  | .str y => y.length ≤ sizeLine ∧ n = y.length
  | .byt y => y.size ≤ sizeLine ∧ n = y.size
  | .ref p => (∃ xs, SqL K H p xs ∧ n = xs.length) ∨ ∃ xs, SqT K H p xs ∧ n = xs.length
  | _ => False
theorem call_len : CallR X (.builtin "len") (fun xs H Q => ∃ x n, xs = [x] ∧ LenV X.K x H n ∧ Q (.int n) H) := by
  intro pins s σ H xs us Q I r h
  obtain ⟨x, n, rfl, e, q⟩ := h
  obtain ⟨u, rfl, rx⟩ := vals1 r
  have hl := line63
  have hs : sizeLine = 16777216 := sizeLine_eq
  cases x with
  | str y =>
    obtain ⟨t, rfl⟩ := rx
    obtain ⟨hy, e'⟩ : y.length ≤ sizeLine ∧ n = y.length := e
    subst e'
    exact len_str (by omega) ⟨.int _, H, I.tok _, ⟨_, rfl⟩, q⟩
  | byt y =>
    obtain ⟨t, rfl⟩ := rx
    obtain ⟨hy, e'⟩ : y.size ≤ sizeLine ∧ n = y.size := e
    subst e'
    exact PySem.W.len_bytes (by omega) ⟨.int _, H, I.tok _, ⟨_, rfl⟩, q⟩
  | ref p =>
    cases rx
    have e' : (∃ xs, SqL X.K H p xs ∧ n = xs.length) ∨ ∃ xs, SqT X.K H p xs ∧ n = xs.length := e
    rcases e' with ⟨xs, hx, e'⟩ | ⟨xs, hx, e'⟩
    · subst e'
      obtain ⟨its, r', pl, hz⟩ := I.list hx
      have hlen := r'.length
      exact Calls.call_len_list pl.isList (by simp only [List.size_toArray]; omega) ⟨.int xs.length, H, I.tok _, ⟨_, by simp only [List.size_toArray]; rw [hlen]⟩, q⟩
    · subst e'
      obtain ⟨its, r', pl, hz⟩ := I.tuple hx
      have hlen := r'.length
      exact len_tuple pl (by simp only [List.size_toArray]; omega) ⟨.int xs.length, H, I.tok _, ⟨_, by simp only [List.size_toArray]; rw [hlen]⟩, q⟩
  | _ => exact (show False from e).elim
end
end L2

namespace L2
open PySem PySem.Spec PyProof.Rows

/-! ### an instance, its attributes a map -/
structure ObjM (h : Heap) (x dx C : Addr) (mA : Str → Option Value) : Prop where
  obj : h.get? x = some (PySem.W.instObj C dx)
  ns : h.Ns1 dx mA
  ne : dx ≠ x

theorem lookIn_ns {h : Heap} {dx : Addr} {mA : Str → Option Value} (n : h.Ns1 dx mA) : ∃ od, h.get? dx = some od ∧ ∀ name, PySem.W.lookIn name od = some (mA name) := by
  obtain ⟨o, es, ep, ho, hd, hk, _, hm⟩ := n
  refine ⟨o, ho, fun name => ?_⟩
  have e := hm name
  unfold nsFind findBy at e
  rw [← Array.find?_toList] at e
  unfold PySem.W.lookIn
  rw [hd]
  dsimp only
  split
  · rename_i y q
    rw [q] at e
    exact congrArg some e
  · rename_i q
    rw [q] at e
    have a : es.toList.any (·.refKey) = false := by
      rw [List.any_eq_false]
      intro y hy
      obtain ⟨z, t, hkey⟩ := hk y (Array.mem_toList_iff.mp hy)
      simp [DictEntry.refKey, hkey]
    have a' : ¬ es.toList.any (·.refKey) = true := by rw [a]; exact Bool.false_ne_true
    rw [if_neg a']
    exact congrArg some e

theorem ObjM.look {h : Heap} {x dx C : Addr} {mA : Str → Option Value} (I : ObjM h x dx C mA) : ∃ od, PySem.W.InstAt h x (PySem.W.instObj C dx) C (some od) ∧ ∀ name, PySem.W.lookIn name od = some (mA name) :=
  let ⟨od, ho, hl⟩ := lookIn_ns I.ns
  ⟨od, ⟨I.obj, rfl, rfl, ho⟩, hl⟩

section
variable {prog : Program} {w : World} {A : Around} {E : Value → Shared → Prop} {s : Shared} {K : PySem.W.Frag} {x dx C f : Addr} {mA : Str → Option Value} {name : Str} {v : Value}

theorem get_map {expr : Bool} {Q : Value → Shared → Prop} (X : K.In s.heap) (I : ObjM s.heap x dx C mA) (hg : PySem.W.plainGet K C name = true) (hh : PySem.W.hasDictIn K C = true)
    (ha : PySem.W.findIn K (.ref C) name = some none) (hv : mA name = some v) (hv' : PySem.W.handedIn v = true) (h : Q v { s with toks := s.toks + 1 }) :
    wpAny (model prog w) A (getAttr (.ref x) name expr) Q E s := by
  obtain ⟨od, J, hl⟩ := I.look
  exact PySem.W.get_value X J (PySem.W.plainGet_of hg).1 (PySem.W.findObj_own hh ha rfl (by rw [hl, hv])) hv' h


theorem get_meth {pl : Sem Bool} {Q : Value × List Value → Shared → Prop} (X : K.In s.heap) (I : ObjM s.heap x dx C mA) (hg : PySem.W.plainGet K C name = true)
    (hf : PySem.W.findIn K (.ref C) name = some (some (.ref f))) (ht : PySem.W.isFn K (.ref f) = true) (hv : mA name = none) (h : Q (.ref f, [.ref x]) s) :
    wpAny (model prog w) A (getMethod (.ref x) name pl) Q E s := by
  obtain ⟨od, J, hl⟩ := I.look
  exact PySem.W.method_fn X J (PySem.W.plainGet_of hg).1 (PySem.W.plainGet_of hg).2 hf (beq_iff_eq.mp ht) (by show (PySem.W.lookIn name od).map (·.isSome) = some false; rw [hl, hv]; rfl) h

theorem set_map {ns : List Str} {Q : Unit → Shared → Prop} (X : K.In s.heap) (I : ObjM s.heap x dx C mA)
    (hs : PySem.W.findIn K (.ref C) "__setattr__" = some (some (.builtin "object.__setattr__"))) (hp : PySem.W.plainOver K C = true) (ht : PySem.W.takerIn K C name = some none) (hh : PySem.W.hasDictIn K C = true)
    (hw : PySem.Within mA ns) (hsz : ns.length ≤ sizeLine)
    (h : ∀ h', ObjM h' x dx C (fun y => if y = name then some v else mA y) → Heap.SameBut dx s.heap h' → Q () { s with heap := h', toks := s.toks + 2 }) :
    wpAny (model prog w) A (setAttr (.ref x) name v) Q E s := by
  obtain ⟨od, J, hl⟩ := I.look
  refine PySem.W.set_plain X J hs (PySem.W.osa_open (s := { s with toks := s.toks + 1 }) (r := none) X J hp ht fun b => ?_)
  obtain ⟨cd, hc, hd'⟩ := PySem.W.any_some hh
  have hx : s.heap.get? x = some ⟨.ref C, some dx, .plain, #[]⟩ := I.obj
  refine wpAny_bind (wpAny_pure (wpAny_bind (wpAny_bind (wpAny_loadPart hx (wpAny_bind (PySem.W.Looks.here (s := { s with toks := s.toks + 1 }) (PySem.W.looks_clsIn X hc) ?_))))))
  rw [hd']
  refine wpAny_pure (a := some dx) (wpAny_bind (wpAny_pure (wpAny_bind ?_)))
  refine wpAny_nsSet1 (s := { s with toks := s.toks + 1 }) I.ns fun h' hn2 hs2 => ?_
  obtain ⟨oD, esD, epD, hoD, hdD, hcD⟩ := hn2.count (PySem.Within.cons name v hw)
  refine wpAny_bind (wpAny_lookBehind hoD (by rw [hdD]; exact pastItsLine_dict (Nat.le_trans hcD (by rw [List.length_cons]; omega))) ?_)
  exact wpAny_pure (h _ ⟨(hs2.2 _ (Ne.symm I.ne)).trans I.obj, hn2, I.ne⟩ hs2)

/-- C(..): the dict at the heap's end, the instance behind it; then its __init__ -/
theorem make_map {R : Result → Shared → Prop} {vs : List Value} {kw : List (Str × Value)} (X : K.In s.heap) (hm : PySem.W.makesIn K C = true)
    (hi : PySem.W.findIn K (.ref C) "__init__" = some (some (.ref f))) (hf : PySem.W.typeIn K (.ref f) = some (.type "function"))
    (h : codeAny (model prog w) (A.under (.builtin "type.__call__" ⟨.ref C :: vs, kw⟩)) (.call (.ref f) ⟨.ref (s.heap.objs.size + 1) :: vs, kw⟩) (PySem.W.InitBack (s.heap.objs.size + 1) R)
      { s with heap := (s.heap.push PySem.W.emptyDict).push (PySem.W.instObj C s.heap.objs.size) }) :
    codeAny (model prog w) A (.call (.ref C) ⟨vs, kw⟩) R s := by
  obtain ⟨hh, g, d, t, os⟩ := s
  exact PySem.W.make_core (PySem.W.makes_of X hm) (PySem.W.looks_findIn X hi) (fun self => PySem.W.bind_fn X self hf) (.inl rfl) h
/-- C() where there is no __init__ but object's -/
theorem make_map0 {R : Result → Shared → Prop} (X : K.In s.heap) (hm : PySem.W.makesIn K C = true)
    (hi : PySem.W.findIn K (.ref C) "__init__" = some (some (.builtin "object.__init__")))
    (hb : ∀ self, PySem.W.Looks (model prog w) s.heap (bindSpecial (.builtin "object.__init__") self) (.builtin "object.__init__", [self]))
    (h : codeAny (model prog w) (A.under (.builtin "type.__call__" ⟨[.ref C], []⟩)) (.call (.builtin "object.__init__") ⟨[.ref (s.heap.objs.size + 1)], []⟩) (PySem.W.InitBack (s.heap.objs.size + 1) R)
      { s with heap := (s.heap.push PySem.W.emptyDict).push (PySem.W.instObj C s.heap.objs.size) }) :
    codeAny (model prog w) A (.call (.ref C) ⟨[], []⟩) R s := by
  obtain ⟨hh, g, d, t, os⟩ := s
  exact PySem.W.make_core (PySem.W.makes_of X hm) (PySem.W.looks_findIn X hi) hb (.inr ⟨rfl, rfl⟩) h
end

/-! ### the attributes as a list of pairs -/
def putF (f : Str) (v : V) : List (Str × V) → List (Str × V)
  | [] => [(f, v)]
  | (g, x) :: r => if g = f then (g, v) :: r else (g, x) :: putF f v r
theorem lookup_putF (f g : Str) (v : V) : ∀ fs : List (Str × V), (putF f v fs).lookup g = if g = f then some v else fs.lookup g
  | [] => by
    show List.lookup g [(f, v)] = _
    by_cases h : g = f
    · have hb : (g == f) = true := beq_iff_eq.mpr h
      simp only [List.lookup, hb, if_pos h]
    · have hb : (g == f) = false := beq_eq_false_iff_ne.mpr h
      simp only [List.lookup, hb, if_neg h]
  | (k, x) :: r => by
    have ih := lookup_putF f g v r
    rw [show putF f v ((k, x) :: r) = (if k = f then (k, v) :: r else (k, x) :: putF f v r) from rfl]
    by_cases hk : k = f
    · rw [if_pos hk]
      by_cases h : g = k
      · have hb : (g == k) = true := beq_iff_eq.mpr h
        simp only [List.lookup, hb, if_pos (h.trans hk)]
      · have hb : (g == k) = false := beq_eq_false_iff_ne.mpr h
        simp only [List.lookup, hb, if_neg (fun e : g = f => h (e.trans hk.symm))]
    · rw [if_neg hk]
      by_cases h : g = k
      · have hb : (g == k) = true := beq_iff_eq.mpr h
        simp only [List.lookup, hb, if_neg (fun e : g = f => hk (h.symm.trans e))]
      · have hb : (g == k) = false := beq_eq_false_iff_ne.mpr h
        simp only [List.lookup, hb]
        exact ih
theorem keys_putF (f : Str) (v : V) : ∀ fs : List (Str × V), f ∈ (putF f v fs).map (·.1) ∧ ∀ g, g ∈ fs.map (·.1) → g ∈ (putF f v fs).map (·.1)
  | [] => ⟨by simp [putF], fun g h => by simp at h⟩
  | (k, x) :: r => by
    obtain ⟨i1, i2⟩ := keys_putF f v r
    rw [show putF f v ((k, x) :: r) = (if k = f then (k, v) :: r else (k, x) :: putF f v r) from rfl]
    by_cases hk : k = f
    · rw [if_pos hk]
      subst hk
      exact ⟨by simp, fun g h => by simpa using h⟩
    · rw [if_neg hk]
      refine ⟨?_, fun g h => ?_⟩
      · rw [List.map_cons]
        exact List.mem_cons_of_mem _ i1
      · rw [List.map_cons] at h ⊢
        rcases List.mem_cons.mp h with e | e
        · exact List.mem_cons.mpr (.inl e)
        · exact List.mem_cons_of_mem _ (i2 g e)
theorem length_putF (f : Str) (v : V) : ∀ fs : List (Str × V), (putF f v fs).length ≤ fs.length + 1
  | [] => by simp [putF]
  | (k, x) :: r => by
    have ih := length_putF f v r
    rw [show putF f v ((k, x) :: r) = (if k = f then (k, v) :: r else (k, x) :: putF f v r) from rfl]
    by_cases hk : k = f
    · rw [if_pos hk, List.length_cons, List.length_cons]; omega
    · rw [if_neg hk, List.length_cons, List.length_cons]; omega

theorem RelO.some_of {v : V} {o : Option Value} (r : RelO (some v) o) : ∃ u, o = some u ∧ RelV v u := by
  cases o with
  | none => exact (show False from r).elim
  | some u => exact ⟨u, rfl, r⟩
theorem RelO.none_of {o : Option Value} (r : RelO none o) : o = none := by
  cases o with
  | none => rfl
  | some u => exact (show False from r).elim
theorem handed_of {v : V} {u : Value} (r : RelV v u) : PySem.W.handedIn u = true := by
  cases v with
  | non => cases (show u = Value.none from r); rfl
  | bl b => cases (show u = Value.bool b from r); rfl
  | int i => obtain ⟨t, e⟩ := (show ∃ t, u = Value.int i t from r); cases e; rfl
  | str x => obtain ⟨t, e⟩ := (show ∃ t, u = Value.str x t from r); cases e; rfl
  | byt b => obtain ⟨t, e⟩ := (show ∃ t, u = Value.bytes b t from r); cases e; rfl
  | flt b => obtain ⟨t, e⟩ := (show ∃ t, u = Value.float b t from r); cases e; rfl
  | ref a => cases (show u = Value.ref a from r); rfl
  | ty n => cases (show u = Value.type n from r); rfl

section
variable {P : Program} {w : World} {H H' : Hp} {h h' : Heap} {a C dx : Addr} {fs fs' : List (Str × V)}
theorem ins_get (hok : HOk P w H h) (e : H a = some (.ins C dx fs)) : ∃ mA, ObjM h a dx C mA ∧ (∀ f, RelO (fs.lookup f) (mA f)) ∧ PySem.Within mA (fs.map (·.1)) ∧ fs.length ≤ 1000 ∧ H dx = some (.own a) := by
  obtain ⟨d, z, ne, ob, mA, n, r, q⟩ := (show ObjOk P w H h a (.ins C dx fs) from hok a _ e)
  exact ⟨mA, ⟨ob, n, ne⟩, r, q, z, d⟩
end

/-! ### what of the text a class must have -/
structure Cls (K : PySem.W.Frag) (C : Addr) : Prop where
  pg : PySem.W.plainGet K C Str.empty = true
  hd : PySem.W.hasDictIn K C = true
  po : PySem.W.plainOver K C = true
  sa : PySem.W.findIn K (.ref C) "__setattr__" = some (some (.builtin "object.__setattr__"))
theorem Cls.get {K : PySem.W.Frag} {C : Addr} (c : Cls K C) (f : Str) : PySem.W.plainGet K C f = true := c.pg
/-- no class of it has the name -/
def NoAttr (K : PySem.W.Frag) (C : Addr) (f : Str) : Prop := PySem.W.findIn K (.ref C) f = some none
theorem NoAttr.taker {K : PySem.W.Frag} {C : Addr} {f : Str} (n : NoAttr K C f) : PySem.W.takerIn K C f = some none := by
  unfold PySem.W.takerIn
  rw [show PySem.W.findIn K (.ref C) f = some none from n]
  rfl
/-- a method: a plain def of the class or of one above it -/
structure Meth (K : PySem.W.Frag) (C : Addr) (m : Str) (f : Addr) : Prop where
  at_ : PySem.W.findIn K (.ref C) m = some (some (.ref f))
  fn : PySem.W.isFn K (.ref f) = true
  kp : PySem.W.keepIn K (.ref f) = true

section
variable {X : Cx} {pins : List (Addr × Obj)} {σ : St} {H : Hp} {s : Shared} {a C dx : Addr} {fs : List (Str × V)} {f : Str} {v : V} {A : Around} {E : Value → Shared → Prop}

theorem getattr_ok {b : Bool} {Q : Value → Shared → Prop} (I : Inv X pins σ H s) (e : H a = some (.ins C dx fs)) (c : Cls X.K C) (n : NoAttr X.K C f) (l : fs.lookup f = some v)
    (h : ∀ u s', Inv X pins σ H s' → RelV v u → Q u s') : wpAny (model X.prog X.w) A (getAttr (.ref a) f b) Q E s := by
  obtain ⟨mA, O, r, _, _, _⟩ := ins_get I.hok e
  obtain ⟨u, hu, ru⟩ := RelO.some_of (v := v) (o := mA f) (by rw [← l]; exact r f)
  exact get_map I.kIn O (c.get f) c.hd n hu (handed_of ru) (h u _ (I.tok _) ru)


theorem getmeth_ok {m : Str} {g : Addr} {pl : Sem Bool} {Q : Value × List Value → Shared → Prop} (I : Inv X pins σ H s) (e : H a = some (.ins C dx fs)) (c : Cls X.K C) (k : Meth X.K C m g) (l : fs.lookup m = none)
    (h : Q (.ref g, [.ref a]) s) : wpAny (model X.prog X.w) A (getMethod (.ref a) m pl) Q E s := by
  obtain ⟨mA, O, r, _, _, _⟩ := ins_get I.hok e
  have hn : mA m = none := RelO.none_of (by rw [← l]; exact r m)
  exact get_meth I.kIn O (c.get m) k.at_ k.fn hn h

theorem setattr_ok {y : V} {u : Value} {Q : Unit → Shared → Prop} (I : Inv X pins σ H s) (e : H a = some (.ins C dx fs)) (c : Cls X.K C) (n : NoAttr X.K C f) (hl : fs.length < 1000) (ry : RelV y u)
    (h : ∀ s', Inv X pins σ (upd H a (.ins C dx (putF f y fs))) s' → Q () s') : wpAny (model X.prog X.w) A (setAttr (.ref a) f u) Q E s := by
  obtain ⟨mA, O, r, wi, _, ho⟩ := ins_get I.hok e
  have hz : (fs.map (·.1)).length ≤ sizeLine := by rw [List.length_map, sizeLine_eq]; omega
  refine set_map I.kIn O c.sa c.po n.taker c.hd wi hz fun h' O' sb => h _ ?_
  have hd : ∃ o, h'.get? dx = some o := let ⟨o, _, _, e', _⟩ := O'.ns; ⟨o, e'⟩
  refine I.write (x := a) (e := dx) (by rw [e]; exact True.intro) (.inr ho) (fun b q hb z => (sb.2 b hb).trans z) hd ?_
  refine ⟨by rw [upd_ne O.ne]; exact ho, ?_, O.ne, O'.obj, _, O'.ns, fun g => ?_, fun g hg => ?_⟩
  · have := length_putF f y fs; omega
  · show RelO ((putF f y fs).lookup g) (if g = f then some u else mA g)
    rw [lookup_putF]
    by_cases q : g = f
    · rw [if_pos q, if_pos q]; exact ry
    · rw [if_neg q, if_neg q]; exact r g
  · by_cases q : g = f
    · rw [q]; exact (keys_putF f y fs).1
    · refine (keys_putF f y fs).2 g (wi g fun z => hg ?_)
      show (if g = f then some u else mA g) = none
      rw [if_neg q]; exact z

/-- a new instance, tracked, without attributes -/
theorem Inv.made (I : Inv X pins σ H s) : Inv X pins σ (upd (upd H s.heap.objs.size (.own (s.heap.objs.size + 1))) (s.heap.objs.size + 1) (.ins C s.heap.objs.size []))
    { s with heap := (s.heap.push PySem.W.emptyDict).push (PySem.W.instObj C s.heap.objs.size) } := by
  have e1 : (s.heap.push PySem.W.emptyDict).get? s.heap.objs.size = some PySem.W.emptyDict := Heap.get?_push_size s.heap rfl
  have e2 : ((s.heap.push PySem.W.emptyDict).push (PySem.W.instObj C s.heap.objs.size)).get? (s.heap.objs.size + 1) = some (PySem.W.instObj C s.heap.objs.size) := by
    have := Heap.get?_push_size (s.heap.push PySem.W.emptyDict) (o := PySem.W.instObj C s.heap.objs.size) rfl
    rwa [Heap.size_push] at this
  have e3 : (s.heap.push PySem.W.emptyDict).Ns s.heap.objs.size (fun _ => none) := ⟨PySem.W.emptyDict, #[], _, e1, rfl, (fun e he => absurd he (by simp)), fun _ => rfl⟩
  have I1 := I.laid (a := s.heap.objs.size) (o := .own (s.heap.objs.size + 1)) (h' := s.heap.push PySem.W.emptyDict) (t' := s.toks) (fun b u q => Heap.get?_push_of_some _ q) (Nat.le_refl _) ⟨_, e1⟩
  refine I1.laid (a := s.heap.objs.size + 1) (o := .ins C s.heap.objs.size []) (t' := s.toks) (fun b u q => Heap.get?_push_of_some _ q) (Nat.le_of_eq (Heap.size_push _ _)) ?_
  have ne : s.heap.objs.size ≠ s.heap.objs.size + 1 := Nat.ne_of_lt (Nat.lt_succ_self _)
  refine ⟨by rw [upd_ne ne, upd_same], Nat.zero_le _, ne, e2, fun _ => none, (Heap.Ns1.of_empty e3).at fun o q => Heap.get?_push_of_some _ q, fun _ => True.intro, fun y hy => absurd rfl hy⟩

/-- e.f where nothing but the object is asked: through attributeBase (super) and the last hold -/
theorem attr_of {prog : Program} {w : World} {env : Env} {e : Expr} {f : Str} {pos : Pos} {s : Shared} {Q : Value → Shared → Prop} (hb : attributeBase e f env (eval e env) = eval e env)
    (h : wpAny (model prog w) A (eval e env) (fun o s₁ => wpAny (model prog w) A (getAttr o f true) Q E s₁) E s) : wpAny (model prog w) A (eval (.Attribute e f pos) env) Q E s :=
  Attribute_any_ h (by rw [arm_eval_Attribute, hb])
end

/-! ### readings and rules -/
/-- e.f, an attribute of the instance -/
def tFld (K : PySem.W.Frag) (ta : TE) (f : Str) : TE := fun σ H Q => ta σ H fun x H1 => ∃ a C dx fs v, x = .ref a ∧ H1 a = some (.ins C dx fs) ∧ Cls K C ∧ NoAttr K C f ∧ fs.lookup f = some v ∧ Q v H1
/-- e.f = value -/
def sFld (K : PySem.W.Frag) (ta tv : TE) (f : Str) : TS := fun D σ H => tv σ H fun y H1 => ta σ H1 fun x H2 => ∃ a C dx fs, x = .ref a ∧ H2 a = some (.ins C dx fs) ∧ Cls K C ∧ NoAttr K C f ∧ fs.length < 1000 ∧
  D.nx σ (upd H2 a (.ins C dx (putF f y fs)))

section
variable {X : Cx} {o e value : Expr} {f : Str} {pos pos' tpos : Pos} {ta tv : TE}
theorem pe_fld (he : PE X e ta) (hb : attributeBase e f X.env (eval e X.env) = eval e X.env) : PE X (.Attribute e f pos) (tFld X.K ta f) := by
  intro pins s σ H Q I h
  refine attr_of hb (thn (he pins s σ H _ I h) fun u s1 ⟨x, H1, I1, rx, a, C, dx, fs, v, ex, ea, c, n, l, q⟩ => ?_)
  subst ex
  obtain rfl : u = Value.ref a := rx
  exact getattr_ok I1 ea c n l fun u' s2 I2 ru => ⟨v, H1, I2, ru, q⟩
theorem ps_fld (ha : PE X o ta) (hv : PE X value tv) (hs : swapsWith value (some (.Attribute o f pos')) pos.line X.env = pure false) : PS X (.Assign [.Attribute o f pos'] value pos) (sFld X.K ta tv f) := by
  intro pins s σ H D I h
  refine plainObj_wpAny_Assign_Attribute (thn (hv pins s σ H _ I h) fun u s1 ⟨y, H1, I1, ry, q⟩ => thn (ha pins s1 σ H1 _ I1 q) fun ov s2 ⟨x, H2, I2, rx, a, C, dx, fs, ex, ea, c, n, l, q2⟩ => ?_) hs
  subst ex
  obtain rfl : ov = Value.ref a := rx
  exact setattr_ok I2 ea c n l ry fun s3 I3 => ⟨σ, _, I3, q2⟩

end

/-! ### isinstance -/
section
variable {X : Cx} {pins : List (Addr × Obj)} {σ : St} {H : Hp} {s : Shared} {A : Around} {E : Value → Shared → Prop} {Q : Value → Shared → Prop} {c : Value} {b : Bool}
/-- the type of a value, as the fragment's deciders take it; for an instance its class -/
inductive TyOf (K : PySem.W.Frag) (H : Hp) : V → Value → Prop where
  | non : TyOf K H .non (.type "NoneType")
  | bl (x : Bool) : TyOf K H (.bl x) (.type "bool")
  | int (i : Int) : TyOf K H (.int i) (.type "int")
  | str (x : Str) : TyOf K H (.str x) (.type "str")
  | flt (x : UInt64) : TyOf K H (.flt x) (.type "float")
  | lst {a : Addr} {xs : List V} (e : H a = some (.lst xs)) : TyOf K H (.ref a) (.type "list")
  | frz {a : Addr} {o : Obj} {xs : List V} (e : H a = some (.frz o (.lst xs))) : TyOf K H (.ref a) (.type "list")
  | tup {a : Addr} {xs : List V} (e : H a = some (.tup xs)) : TyOf K H (.ref a) (.type "tuple")
  | dK {a : Addr} {kvs : List (Key × V)} (e : H a = some (.dK kvs)) : TyOf K H (.ref a) (.type "dict")
  | dT {a : Addr} {kvs : List (List Key × V)} (e : H a = some (.dT kvs)) : TyOf K H (.ref a) (.type "dict")
  | ins {a C dx : Addr} {fs : List (Str × V)} (e : H a = some (.ins C dx fs)) (cl : Cls K C) (ha : PySem.W.findIn K (.ref C) "__class__" = some (some (.builtin "object.__class__")))
      (hn : PySem.W.specialIn K (.builtin "object.__class__") "__get__" = some (some (.builtin "getset_descriptor.__get__"))) (htk : PySem.W.takesIn K (.builtin "object.__class__") = some true)
      (hm : PySem.W.mroIn K C (.type "object") = some true) : TyOf K H (.ref a) (.ref C)
/-- isinstance(x, c) for one class c, a built-in or an own one: kitOne's answer -/
theorem isinst_ok {x : V} {u t : Value} (I : Inv X pins σ H s) (rx : RelV x u) (ty : TyOf X.K H x t) (e : PySem.W.kitOne X.K t c = some b) (h : ∀ tk, Q (.bool b) { s with toks := tk }) :
    wpAny (model X.prog X.w) A (call (.builtin "isinstance") [u, c]) Q E s := by
  cases ty with
  | non => cases (show u = Value.none from rx); exact PySem.W.kia_one PySem.W.kitx_none I.kIn True.intro e (fun z => nomatch z) h
  | bl y => cases (show u = Value.bool y from rx); exact PySem.W.kia_one PySem.W.kitx_bool I.kIn True.intro e (fun z => nomatch z) h
  | int i => obtain ⟨t, q⟩ := (show ∃ t, u = Value.int i t from rx); cases q; exact PySem.W.kia_one PySem.W.kitx_int I.kIn True.intro e (fun z => nomatch z) h
  | str y => obtain ⟨t, q⟩ := (show ∃ t, u = Value.str y t from rx); cases q; exact PySem.W.kia_one PySem.W.kitx_str I.kIn True.intro e (fun z => nomatch z) h
  | flt y => obtain ⟨t, q⟩ := (show ∃ t, u = Value.float y t from rx); cases q; exact PySem.W.kia_one PySem.W.kitx_float I.kIn True.intro e (fun z => nomatch z) h
  | @lst a xs ea =>
    cases (show u = Value.ref a from rx)
    obtain ⟨_, _, n, _, h1⟩ := (show ObjOk X.prog X.w H s.heap a (.lst xs) from I.hok a _ ea)
    exact PySem.W.kia_one PySem.W.kitx_list I.kIn ⟨_, h1, rfl⟩ e (fun z => nomatch z) h
  | @frz a ob xs ea =>
    cases (show u = Value.ref a from rx)
    obtain ⟨_, _, _, n, _, h1⟩ := (show ObjOk X.prog X.w H s.heap a (.frz ob (.lst xs)) from I.hok a _ ea)
    exact PySem.W.kia_one PySem.W.kitx_list I.kIn ⟨_, h1, rfl⟩ e (fun z => nomatch z) h
  | @tup a xs ea =>
    cases (show u = Value.ref a from rx)
    obtain ⟨_, _, _, p⟩ := (show ObjOk X.prog X.w H s.heap a (.tup xs) from I.hok a _ ea)
    obtain ⟨o, h1, h2, _⟩ := p
    exact PySem.W.kia_one PySem.W.kitx_tuple I.kIn ⟨o, h1, h2⟩ e (fun z => nomatch z) h
  | @dK a kvs ea =>
    cases (show u = Value.ref a from rx)
    obtain ⟨_, _, vs, _, p⟩ := (show ObjOk X.prog X.w H s.heap a (.dK kvs) from I.hok a _ ea)
    obtain ⟨o, es, ep, h1, h2, _⟩ := p
    exact PySem.W.kia_one PySem.W.kitx_dict I.kIn ⟨o, h1, h2.1⟩ e (fun z => nomatch z) h
  | @dT a kvs ea =>
    cases (show u = Value.ref a from rx)
    obtain ⟨_, _, xs, _, o, es, ep, h1, h2, _⟩ := (show ObjOk X.prog X.w H s.heap a (.dT kvs) from I.hok a _ ea)
    exact PySem.W.kia_one PySem.W.kitx_dict I.kIn ⟨o, h1, h2.1⟩ e (fun z => nomatch z) h
  | @ins a C dx fs ea cl ha hn htk hm =>
    cases (show u = Value.ref a from rx)
    obtain ⟨mA, O, _⟩ := ins_get I.hok ea
    obtain ⟨od, J, _⟩ := O.look
    exact PySem.W.kia_one (PySem.W.kitx_own (cl.get _) cl.hd ha hn htk hm) I.kIn J e (fun z => nomatch z) h
end
end L2

namespace L2
open PySem PySem.Spec PyProof.Rows

/-! ### room -/
structure Room (k : Nat) (A : Around) : Prop where
  hd : A.handled = none
  dp : A.depth + 3 * k + 5 < recursionLimit
  un : A.units + 16 * k + 200 < cLine
theorem Room.mono {j k : Nat} {A : Around} (r : Room k A) (h : j ≤ k) : Room j A := ⟨r.hd, by have := r.dp; omega, by have := r.un; omega⟩
theorem Room.deeper {k : Nat} {A : Around} (r : Room (k + 1) A) (env : Env) : Room k (A.deeper env) :=
  ⟨r.hd, by have := r.dp; show A.depth + 1 + 3 * k + 5 < _; omega, by have := r.un; show A.units + 3 + 16 * k + 200 < _; omega⟩
theorem make_depth {A : Around} {C : Addr} {us : List Value} {kw : List (Str × Value)} : (A.under (.builtin "type.__call__" ⟨.ref C :: us, kw⟩)).depth = A.depth + 1 := by
  first | rfl | simp [Around.under, Code.weight, Code.isCreation, Code.isGuard, Code.isCaller, Code.frames, Code.isFrame, guardIds]
theorem make_units {A : Around} {C : Addr} {us : List Value} {kw : List (Str × Value)} : (A.under (.builtin "type.__call__" ⟨.ref C :: us, kw⟩)).units = A.units + 1 := by
  first | rfl | simp [Around.under, Code.cUnits, Code.frames, Code.isFrame]
theorem Room.make {k : Nat} {A : Around} (r : Room (k + 1) A) (C : Addr) (us : List Value) (kw : List (Str × Value)) : Room k (A.under (.builtin "type.__call__" ⟨.ref C :: us, kw⟩)) :=
  ⟨r.hd, by have := r.dp; rw [make_depth]; omega, by have := r.un; rw [make_units]; omega⟩
theorem Room.depth {k : Nat} {A : Around} (r : Room k A) : A.depth < recursionLimit := by have := r.dp; omega
theorem Room.units {k : Nat} {A : Around} (r : Room k A) : A.units + 64 < cLine := by have := r.un; omega

/-! ### argument lists and displays -/
def tNil : TA := fun _ H Q => Q [] H
def tCons (ta : TE) (tr : TA) : TA := fun σ H Q => ta σ H fun x H1 => tr σ H1 fun xs H2 => Q (x :: xs) H2
section
variable {X : Cx} {e : Expr} {es : List Expr} {te : TE} {t : TA} {pos : Pos}
theorem pa_nil : PA X [] tNil := fun _ _ _ _ H Q I h => Calls.spliced_nil ⟨[], H, I, .nil, h⟩
theorem pa_cons (ha : PE X e te) (hr : PA X es t) (hs : starEach (e :: es) X.env = (false, eval e X.env) :: starEach es X.env := by rfl) : PA X (e :: es) (tCons te t) := by
  intro pos pins s σ H Q I h
  rw [hs]
  show wpAny _ _ (spliced ((false, eval e X.env) :: backTo pos (starEach es X.env))) _ _ s
  refine Calls.spliced_cons (thn (ha pins s σ H _ I h) fun u s1 ⟨x, H1, I1, r1, q1⟩ => ?_)
  exact thn (hr pos pins s1 σ H1 _ I1 q1) fun us s2 ⟨xs, H2, I2, r2, q2⟩ => ⟨x :: xs, H2, I2, .cons r1 r2, q2⟩

/-- a tuple, a list of written items -/
def tTup (t : TA) : TE := fun σ H Q => t σ H fun xs H1 => xs.length ≤ sizeLine ∧ ∀ p, H1 p = none → Q (.ref p) (upd H1 p (.tup xs))
def tLst (t : TA) : TE := fun σ H Q => t σ H fun xs H1 => xs.length ≤ sizeLine ∧ ∀ p, H1 p = none → Q (.ref p) (upd H1 p (.lst xs))
theorem pe_tup {x1} (h : PA X es t) : PE X (.Tuple es x1 pos) (tTup t) := by
  intro pins s σ H Q I hq
  refine wpAny_Tuple_spliced (thn (h pos pins s σ H _ I hq) fun us s1 ⟨xs, H1, I1, r, z, q⟩ => ⟨by rw [← r.length]; exact z, ?_⟩)
  have hf : H1 s1.heap.objs.size = none := I1.hok.fresh (Nat.le_refl _)
  refine ⟨.ref s1.heap.objs.size, upd H1 s1.heap.objs.size (.tup xs), I1.laid (t' := s1.toks) (fun b u e => Heap.get?_push_of_some _ e) (Nat.le_refl _) ?_, rfl, q _ hf⟩
  exact ⟨z, us, r, ⟨_, Heap.get?_push_size _ rfl, rfl, _, rfl⟩⟩
theorem pe_lst (h : PA X es t) : PE X (.List es pos) (tLst t) := by
  intro pins s σ H Q I hq
  refine wpAny_List_spliced (thn (h pos pins s σ H _ I hq) fun us s1 ⟨xs, H1, I1, r, z, q⟩ => ⟨by rw [← r.length]; exact z, ?_⟩)
  have hf : H1 s1.heap.objs.size = none := I1.hok.fresh (Nat.le_refl _)
  refine ⟨.ref s1.heap.objs.size, upd H1 s1.heap.objs.size (.lst xs), I1.laid (t' := s1.toks) (fun b u e => Heap.get?_push_of_some _ e) (Nat.le_refl _) ?_, rfl, q _ hf⟩
  exact ⟨z, us, 0, r, Heap.get?_push_size _ rfl⟩
end

/-! ### what a def promises -/
/-- a def's promise: the bound arguments in the parameters' order, the heap, the wanted end, the wanted exception -/
abbrev Sp := List V → Hp → VK → XK → Prop
/-- how an exception lies behind a call (file 08 gives it): the callers' frames, abstract heap and state ahead of the call, the wish, the exception, the state -/
abbrev CXT := List Env → Hp → Shared → XK → Value → Shared → Prop

/-- the state at a call -/
structure Env0 (P : Program) (w : World) (K : PySem.W.Frag) (mg : Str → Option Value) (base : Heap) (A : Around) (outer : List Env) (s : Shared) (H : Hp) : Prop where
  frames : A.frames = some outer
  mod : Mod K mg base
  bs : ∀ b o, base.get? b = some o → s.heap.get? b = some o ∧ H b = none
  bsz : base.objs.size ≤ s.heap.objs.size
  funs : s.heap.FunFrames base outer
  frf : ∀ b ∈ frs outer, H b = none
  hok : HOk P w H s.heap
  bare : AllBare s.gens
/-- a call's end -/
def CE (outer : List Env) (P : Program) (w : World) (H : Hp) (s : Shared) (Q : VK) (u : Value) (s' : Shared) : Prop :=
  ∃ v H', s'.os = s.os ∧ AllBare s'.gens ∧ Un (frs outer) [] H H' s.heap s'.heap ∧ HOk P w H' s'.heap ∧ RelV v u ∧ Q v H'
def CR (CX : CXT) (outer : List Env) (P : Program) (w : World) (H : Hp) (s : Shared) (Q : VK) (E : XK) (r : Result) (s' : Shared) : Prop :=
  match r with
  | .ok (.ret u) => CE outer P w H s Q u s'
  | .ok _ => False
  | .error e => CX outer H s E e s'
structure FnOk (P : Program) (w : World) (K : PySem.W.Frag) (mg : Str → Option Value) (base : Heap) (CX : CXT) (k : Nat) (f : Addr) (fd : FuncData) (ps : List Str) (sp : Sp) : Prop where
  len : ∀ vs H Q E, sp vs H Q E → vs.length = ps.length
  run : ∀ (A : Around) (outer : List Env) (s : Shared) (H : Hp) (args : Args) (us : List Value) (vs : List V) (Q : VK) (E : XK), Room k A → Env0 P w K mg base A outer s H → BindsTo s fd args (ps.zip us) → Vals vs us → sp vs H Q E →
    codeAny (model P w) A (.call (.ref f) args) (CR CX outer P w H s Q E) s

theorem Env0.make {P : Program} {w : World} {K : PySem.W.Frag} {mg : Str → Option Value} {base : Heap} {A : Around} {outer : List Env} {s : Shared} {H : Hp} (e : Env0 P w K mg base A outer s H) (C : Addr) (us : List Value) (kw : List (Str × Value)) :
    Env0 P w K mg base (A.under (.builtin "type.__call__" ⟨.ref C :: us, kw⟩)) outer s H := ⟨by first | exact e.frames | (simpa [Around.under, Code.envs, Code.isFrame, pushEnvs] using e.frames), e.mod, e.bs, e.bsz, e.funs, e.frf, e.hok, e.bare⟩

section
variable {X : Cx} {pins : List (Addr × Obj)} {σ : St} {H : Hp} {s s' : Shared}
/-- from a body: what a callee wants -/
theorem Inv.env0 (I : Inv X pins σ H s) : Env0 X.prog X.w X.K X.mg X.base X.A X.stack s H :=
  ⟨I.ok.frames, I.ok.mod, I.bs, Nat.le_trans I.ok.bsz I.sz, I.stack, I.stkFree, I.hok, I.bare⟩
/-- behind a call -/
theorem Inv.after {Q : VK} {u : Value} (I : Inv X pins σ H s) (h : CE X.stack X.prog X.w H s Q u s') : EP X pins σ Q u s' := by
  obtain ⟨v, H', os, bare, un, hok, r, q⟩ := h
  obtain ⟨hh, g, d, t, os'⟩ := s'
  obtain rfl : os' = s.os := os
  exact ⟨v, H', I.call (h' := hh) (g' := g) (d' := d) (t' := t) (ch := []) un hok bare (fun b z => absurd z (by simp)), r, q⟩
end

/-! ### calls -/
/-- f(..): the written arguments, then the defaults dvs; E: what is wanted of an exception -/
def tCall (sp : Sp) (dvs : List V) (E : XK) (t : TA) : TE := fun σ H Q => t σ H fun vs H1 => sp (vs ++ dvs) H1 Q E
/-- C(..): a new instance and its dict, then __init__ -/
def tMake (C : Addr) (sp : Sp) (dvs : List V) (E : XK) (t : TA) : TE := fun σ H Q => t σ H fun vs H1 => ∀ x dx, H1 x = none → H1 dx = none → dx ≠ x →
  sp (.ref x :: (vs ++ dvs)) (upd (upd H1 dx (.own x)) x (.ins C dx [])) (fun v H2 => v = .non ∧ Q (.ref x) H2) E

/-- how the parameters are bound: us the positional arguments, kw the keywords' values by name, ds the defaults that fill up -/
def Binds (K : PySem.W.Frag) (fd : FuncData) (ps : List Str) (ds : List Value) : Prop :=
  ∀ (s : Shared) (us : List Value), K.In s.heap → (us ++ ds).length = ps.length → BindsTo s fd ⟨us, []⟩ (ps.zip (us ++ ds))
/-- every parameter is given -/
theorem Binds.all {K : PySem.W.Frag} {fd : FuncData} {ps : List Str} (h : ∀ us : List Value, us.length = ps.length → bindArgs fd ⟨us, []⟩ = pure (ps.zip us)) : Binds K fd ps [] := fun s us _ hl => by
  rw [List.append_nil] at hl ⊢
  exact .of_eq (h us hl)

/-- an exception of a callee reaches what this body wants of exceptions -/
def Passes (CX : CXT) (X : Cx) (E : XK) : Prop := ∀ (pins : List (Addr × Obj)) (σ : St) (H : Hp) (s : Shared) (e : Value) (s' : Shared), Inv X pins σ H s → CX X.stack H s E e s' → X.xe e s'

section
variable {X : Cx} {CX : CXT} {k : Nat} {f C : Addr} {fd : FuncData} {ps : List Str} {sp : Sp} {dvs : List V} {ds : List Value} {E : XK} {x m : Str} {p pos apos : Pos} {e o : Expr} {es : List Expr} {ta : TE} {t : TA}

/-- the callee runs -/
theorem run_fn {pins : List (Addr × Obj)} {σ : St} {H : Hp} {s : Shared} {Q : VK} {us : List Value} {vs : List V} (F : FnOk X.prog X.w X.K X.mg X.base CX k f fd ps sp) (hr : Room k X.A) (hb : Binds X.K fd ps ds) (hd : Vals dvs ds) (hx : Passes CX X E)
    (I : Inv X pins σ H s) (r : Vals vs us) (h : sp (vs ++ dvs) H Q E) : wpAny (model X.prog X.w) X.A (call (.ref f) us) (EP X pins σ Q) X.xe s := by
  have r2 : Vals (vs ++ dvs) (us ++ ds) := r.append hd
  have hl : (us ++ ds).length = ps.length := by rw [← r2.length]; exact F.len _ _ _ _ h
  refine wpAny_call (codeAny_mono (F.run X.A X.stack s H ⟨us, []⟩ (us ++ ds) (vs ++ dvs) Q E hr I.env0 (hb s us I.kIn hl) r2 h) fun r s' hq => ?_)
  cases r with
  | error e => exact hx pins σ H s e s' I hq
  | ok fl =>
    cases fl with
    | ret u => exact I.after hq
    | next => exact False.elim hq
    | brk => exact False.elim hq
    | cont => exact False.elim hq

theorem pe_call (F : FnOk X.prog X.w X.K X.mg X.base CX k f fd ps sp) (hr : Room k X.A) (hg : Gl X x) (hm : X.mg x = some (.ref f)) (hk : PySem.W.keepIn X.K (.ref f) = true) (hb : Binds X.K fd ps ds) (hd : Vals dvs ds) (hx : Passes CX X E)
    (ha : PA X (e :: es) t) (hdb : (x == ("__debug__" : Str)) = false := by decide) (he : starEach (e :: es) X.env = (false, eval e X.env) :: starEach es X.env := by rfl) (hpl : (backTo pos (starEach es X.env)).any (·.1) = false := by rfl) :
    PE X (.Call (.Name x p) (e :: es) [] pos) (tCall sp dvs E t) := by
  intro pins s σ H Q I h
  refine wpAny_Call_Name_kw (ld_glob I hg hm ?_ hdb)
  refine PySem.W.callWith_K (h₀ := X.base) I.ok.mod.kin hk (thn (ha pos pins s σ H _ I h) fun us s1 ⟨vs, H1, I1, r, q⟩ => ⟨I1.kIn, ?_⟩) he hpl
  exact run_fn F hr hb hd hx I1 r q


/-- what a class must have to be made -/
structure Mk (K : PySem.W.Frag) (C f : Addr) : Prop where
  makes : PySem.W.makesIn K C = true
  init : PySem.W.findIn K (.ref C) "__init__" = some (some (.ref f))
  fn : PySem.W.isFn K (.ref f) = true
  kp : PySem.W.keepIn K (.ref C) = true

theorem run_make {pins : List (Addr × Obj)} {σ : St} {H : Hp} {s : Shared} {Q : VK} {us : List Value} {vs : List V} (M : Mk X.K C f) (F : FnOk X.prog X.w X.K X.mg X.base CX k f fd ps sp) (hr : Room (k + 1) X.A) (hb : Binds X.K fd ps ds) (hd : Vals dvs ds)
    (hx : Passes CX X E) (I : Inv X pins σ H s) (r : Vals vs us)
    (h : ∀ x dx, H x = none → H dx = none → dx ≠ x → sp (.ref x :: (vs ++ dvs)) (upd (upd H dx (.own x)) x (.ins C dx [])) (fun v H2 => v = .non ∧ Q (.ref x) H2) E) :
    wpAny (model X.prog X.w) X.A (call (.ref C) us) (EP X pins σ Q) X.xe s := by
  have hq := h (s.heap.objs.size + 1) s.heap.objs.size (I.hok.fresh (Nat.le_succ _)) (I.hok.fresh (Nat.le_refl _)) (Nat.ne_of_lt (Nat.lt_succ_self _))
  have I2 := Inv.made (C := C) I
  have r2 : Vals (V.ref (s.heap.objs.size + 1) :: (vs ++ dvs)) (Value.ref (s.heap.objs.size + 1) :: (us ++ ds)) := .cons rfl (r.append hd)
  have hl : (Value.ref (s.heap.objs.size + 1) :: us ++ ds).length = ps.length := by
    have e := r2.length
    rw [F.len _ _ _ _ hq] at e
    exact e.symm
  refine wpAny_call (make_map (f := f) I.kIn M.makes M.init (beq_iff_eq.mp M.fn) (codeAny_mono (F.run _ X.stack _ _ ⟨Value.ref (s.heap.objs.size + 1) :: us, []⟩ (Value.ref (s.heap.objs.size + 1) :: (us ++ ds)) _ _ E (hr.make C us [])
    (I2.env0.make C us []) (hb _ (Value.ref (s.heap.objs.size + 1) :: us) I2.kIn hl) r2 hq) fun r s' hq' => ?_))
  cases r with
  | error e => exact hx pins σ _ _ e s' I2 hq'
  | ok fl =>
    cases fl with
    | ret u =>
      obtain ⟨v, H', I3, rv, ev, q3⟩ := I2.after hq'
      subst ev
      exact ⟨rv, ⟨V.ref (s.heap.objs.size + 1), H', I3, rfl, q3⟩⟩
    | next => exact False.elim hq'
    | brk => exact False.elim hq'
    | cont => exact False.elim hq'
theorem pe_make (M : Mk X.K C f) (F : FnOk X.prog X.w X.K X.mg X.base CX k f fd ps sp) (hr : Room (k + 1) X.A) (hg : Gl X x) (hm : X.mg x = some (.ref C)) (hb : Binds X.K fd ps ds) (hd : Vals dvs ds) (hx : Passes CX X E)
    (ha : PA X (e :: es) t) (hdb : (x == ("__debug__" : Str)) = false := by decide) (he : starEach (e :: es) X.env = (false, eval e X.env) :: starEach es X.env := by rfl) (hpl : (backTo pos (starEach es X.env)).any (·.1) = false := by rfl) :
    PE X (.Call (.Name x p) (e :: es) [] pos) (tMake C sp dvs E t) := by
  intro pins s σ H Q I h
  refine wpAny_Call_Name_kw (ld_glob I hg hm ?_ hdb)
  refine PySem.W.callWith_K (h₀ := X.base) I.ok.mod.kin M.kp (thn (ha pos pins s σ H _ I h) fun us s1 ⟨vs, H1, I1, r, q⟩ => ⟨I1.kIn, ?_⟩) he hpl
  exact run_make M F hr hb hd hx I1 r q
end

/-! ### keywords -/
section
variable {X : Cx} {CX : CXT} {k : Nat} {f C : Addr} {fd : FuncData} {ps ks : List Str} {sp : Sp} {E : XK} {x m : Str} {p pos apos kpos : Pos} {e o : Expr} {es : List Expr} {kws : List Keyword} {te ta : TE} {t tk : TA} {nm : Option Str}

variable {g : List Value → List Value → List Value} {gV : List V → List V → List V}
end

/-! ### a def's body keeps its promise -/
/-- names: the parameters first -/
structure FnScope (N P : List Str) (sc : Scope) : Prop where
  kind : sc.kind = .function
  co : sc.isCoroutine = false
  gen : sc.isGenerator = false
  nd : N.Nodup
  pre : N.take P.length = P
  par : ∀ x ∈ P, sc.names.lookup x = some .local ∨ sc.names.lookup x = some .cell
  nofree : ∀ y ∈ sc.names, y.2 ≠ .free

theorem bindL_out {kindOf : Str → Option NameKind} {x : Str} : ∀ {binds : List (Str × Value)} {m : Str → Option Value}, (∀ v, (x, v) ∉ binds) → bindL kindOf binds m x = m x
  | [], _, _ => rfl
  | (n, v) :: r, m, h => by
    unfold bindL
    rw [bindL_out fun w hw => h w (List.mem_cons_of_mem _ hw)]
    split
    · have : x ≠ n := by rintro rfl; exact h v List.mem_cons_self
      simp [this]
    · rfl
theorem bindC_out {kindOf : Str → Option NameKind} {x : Str} : ∀ {binds : List (Str × Value)} {m : Str → Option Value}, (∀ v, (x, v) ∉ binds) → bindC kindOf binds m x = m x
  | [], _, _ => rfl
  | (n, v) :: r, m, h => by
    unfold bindC
    rw [bindC_out fun w hw => h w (List.mem_cons_of_mem _ hw)]
    split
    · rfl
    · have : x ≠ n := by rintro rfl; exact h v List.mem_cons_self
      simp [this]
theorem bindL_get {kindOf : Str → Option NameKind} {x : Str} {v : Value} : ∀ {P : List Str} {vs : List Value} {i : Nat} {m : Str → Option Value}, P.Nodup → P[i]? = some x → vs[i]? = some v → kindOf x = some .local →
    bindL kindOf (P.zip vs) m x = some v
  | [], _, _, _, _, h, _, _ => by simp at h
  | _ :: _, [], _, _, _, _, h, _ => by simp at h
  | p :: P, w :: vs, 0, m, nd, h1, h2, hk => by
    simp at h1 h2; subst h1; subst h2
    show bindL kindOf ((p, w) :: P.zip vs) m p = _
    unfold bindL
    rw [bindL_out fun v hv => (List.nodup_cons.mp nd).1 (List.of_mem_zip hv).1, if_pos hk]
    simp
  | p :: P, w :: vs, i + 1, m, nd, h1, h2, hk => by
    show bindL kindOf ((p, w) :: P.zip vs) m x = _
    unfold bindL
    exact bindL_get (i := i) (List.nodup_cons.mp nd).2 (by simpa using h1) (by simpa using h2) hk
theorem bindC_get {kindOf : Str → Option NameKind} {x : Str} {v : Value} : ∀ {P : List Str} {vs : List Value} {i : Nat} {m : Str → Option Value}, P.Nodup → P[i]? = some x → vs[i]? = some v → kindOf x ≠ some .local →
    bindC kindOf (P.zip vs) m x = some v
  | [], _, _, _, _, h, _, _ => by simp at h
  | _ :: _, [], _, _, _, _, h, _ => by simp at h
  | p :: P, w :: vs, 0, m, nd, h1, h2, hk => by
    simp at h1 h2; subst h1; subst h2
    show bindC kindOf ((p, w) :: P.zip vs) m p = _
    unfold bindC
    rw [bindC_out fun v hv => (List.nodup_cons.mp nd).1 (List.of_mem_zip hv).1, if_neg hk]
    simp
  | p :: P, w :: vs, i + 1, m, nd, h1, h2, hk => by
    show bindC kindOf ((p, w) :: P.zip vs) m x = _
    unfold bindC
    exact bindC_get (i := i) (List.nodup_cons.mp nd).2 (by simpa using h1) (by simpa using h2) hk

/-- the names' values at the entry -/
def start (N : List Str) (vs : List V) : St := vs.map some ++ List.replicate (N.length - vs.length) none

/-- the context of a def's body, at its entry; an exception leaves the frame, then lies as CX says -/
def cxOf (CX : CXT) (P : Program) (w : World) (K : PySem.W.Frag) (mg : Str → Option Value) (base : Heap) (N : List Str) (qual : Str) (scope : Scope) (f : Addr) (cd : Value) (A : Around) (outer : List Env) (s : Shared) (H : Hp) (E : XK) : Cx where
  prog := P
  w := w
  K := K
  mg := mg
  base := base
  A := A.deeper (envOfC qual scope s.heap.objs.size f cd)
  N := N
  s₀ := s
  H₀ := H
  env := envOfC qual scope s.heap.objs.size f cd
  outer := outer
  stack := envOfC qual scope s.heap.objs.size f cd :: outer
  ex := []
  calm := true
  fn := fun _ => true
  pn := []
  xe := fun e s' => wpAny (model P w) (A.deeper (envOfC qual scope s.heap.objs.size f cd)) (leaving (envOfC qual scope s.heap.objs.size f cd) e) (fun _ s'' => CX outer H s E e s'') (fun e' s'' => CX outer H s E e' s'') s'

theorem cell_has {sc : Scope} {n : Nat} {x : Str} (h : sc.names.lookup x = some .cell) : ∃ c, (cellsFrom n sc.names []).lookup x = some c := by
  have q := PySem.W.cellsFrom_some sc.names n [] (.inl h)
  exact Option.isSome_iff_exists.mp q

theorem inv_start {CX : CXT} {P : Program} {w : World} {K : PySem.W.Frag} {mg : Str → Option Value} {base : Heap} {N ps : List Str} {qual : Str} {scope : Scope} {f : Addr} {cd : Value} {A : Around} {outer : List Env} {s s1 : Shared} {H : Hp} {E : XK} {us : List Value} {vs : List V}
    (S : FnScope N ps scope) (hd : A.handled = none) (e0 : Env0 P w K mg base A outer s H) (hl : vs.length = ps.length) (r : Vals vs us)
    (x : InCallC s s.heap.objs.size (bindL (envOfC qual scope s.heap.objs.size f cd).kindOf (ps.zip us) fun _ => none) (cellsFrom (s.heap.objs.size + 1) scope.names []) (bindC (envOfC qual scope s.heap.objs.size f cd).kindOf (ps.zip us) fun _ => none) s1) :
    Inv (cxOf CX P w K mg base N qual scope f cd A outer s H E) [] (start N vs) H s1 := by
  have hpl : ps.length ≤ N.length := by have := congrArg List.length S.pre; rw [List.length_take] at this; omega
  obtain ⟨h1, tk, rfl, hk⟩ := x.done
  have noA : ∀ b : Addr, b ∉ (cxOf CX P w K mg base N qual scope f cd A outer s H E).ex := fun b z => absurd (show b ∈ ([] : List Addr) from z) (by simp)
  refine ⟨⟨e0.mod, S.kind, rfl, rfl, Nat.le_refl _, fun y z c h1 h2 => ?_, fun y hy => ?_, fun y c _ h => ?_, fun _ => hd, Around.frames_deeper e0.frames, .inr ⟨rfl, rfl⟩, fun b z => absurd z (noA b), e0.bs, e0.bsz, fun b _ _ => noA b, fun b z => absurd z (noA b), e0.funs, e0.frf⟩,
    rfl, e0.bare, Un.kept hk, ⟨_, x.toInCall.ns, fun i y v h1 h2 h3 => ?_⟩, fun y c h => ⟨_, x.cell y c h⟩, e0.hok.fresh (Nat.le_refl _), fun y c h => ?_, fun p hp => absurd (show p ∈ ([] : List (Addr × Obj)) from hp) (by simp), e0.hok.kept hk, ?_⟩
  · exact name_of_addr x.apart (PySem.mem_of_lookup h1) (PySem.mem_of_lookup h2)
  · have hy : scope.names.lookup y = some .cell ∨ scope.names.lookup y = some .free := hy
    rcases hy with hy | hy
    · exact cell_has hy
    · exact absurd rfl (S.nofree _ (PySem.mem_of_lookup hy))
  · exact Nat.le_of_lt (x.above y c (PySem.mem_of_lookup h))
  · have hi : i < vs.length := by
      unfold start at h2
      by_cases hi : i < vs.length
      · exact hi
      · rw [List.getElem?_append_right (by simpa using hi)] at h2
        rw [List.getElem?_replicate] at h2
        split at h2 <;> cases h2
    have ha : vs[i]? = some v := by
      unfold start at h2
      rw [List.getElem?_append_left (by simpa using hi), List.getElem?_map] at h2
      cases e : vs[i]? with
      | none => rw [e] at h2; cases h2
      | some a => rw [e] at h2; cases h2; rfl
    obtain ⟨u, hu, rv⟩ := r.get ha
    have hp : ps[i]? = some y := by
      rw [← S.pre, List.getElem?_take_of_lt (by omega)]; exact h1
    have ndP : ps.Nodup := by rw [← S.pre]; exact S.nd.sublist (List.take_sublist _ _)
    refine ⟨u, rv, ?_⟩
    rcases S.par y (List.mem_of_getElem? hp) with k | k
    · exact .inl ⟨k, bindL_get ndP hp hu k⟩
    · obtain ⟨c, e⟩ := cell_has (n := s.heap.objs.size + 1) k
      refine .inr ⟨.inl k, c, e, ?_⟩
      have q := x.cell y c e
      rw [bindC_get ndP hp hu (by show scope.names.lookup y ≠ _; rw [k]; decide)] at q
      exact q
  · exact e0.hok.fresh (Nat.le_of_lt (x.above y c (PySem.mem_of_lookup h)))
  · unfold start
    show _ = N.length
    rw [List.length_append, List.length_map, List.length_replicate]
    omega

/-- THE RULE: a def (or a method) of the text, by its body. The body's reading t is chosen for each entry; it is run at the parameters' values -/
theorem fn_of {CX : CXT} {P : Program} {w : World} {K : PySem.W.Frag} {mg : Str → Option Value} {base : Heap} {k : Nat} {f : Addr} {name qual : Str} {params : Arguments} {body : List Stmt} {scope : Scope} {dV kV doc pm cdv ct oc : Value} {an od : Option Addr}
    {osl : Array (Option Value)} {N ps : List Str} {sp : Sp} (lk : K.lookup f = some ⟨oc, od, .func (PySem.W.fnOf name qual params body scope dV kV doc pm an cdv ct), osl⟩) (hcd : PySem.W.codeIn K cdv qual = true) (S : FnScope N ps scope)
    (len : ∀ vs H Q E, sp vs H Q E → vs.length = ps.length)
    (hbody : ∀ (A : Around) (outer : List Env) (s : Shared) (H : Hp) (vs : List V) (Q : VK) (E : XK), Room k (A.deeper (envOfC qual scope s.heap.objs.size f cdv)) → sp vs H Q E →
      ∃ t, PSs (cxOf CX P w K mg base N qual scope f cdv A outer s H E) body t ∧ t { nx := fun _ H' => Q .non H', rt := Q } (start N vs) H) :
    FnOk P w K mg base CX (k + 1) f (PySem.W.fnOf name qual params body scope dV kV doc pm an cdv ct) ps sp := by
  refine ⟨len, fun A outer s H args us vs Q E hr e0 hb r hsp => ?_⟩
  have hl := len _ _ _ _ hsp
  have KX : K.In s.heap := e0.mod.kin.keeps fun b o e => (e0.bs b o e).1
  have lim : s.heap.NoLimit := e0.mod.nolimit.keeps fun b o e => (e0.bs b o e).1
  have hkind : ∀ y ∈ ps.zip us, scope.names.lookup y.1 = some .local ∨ (scope.names.lookup y.1 = some .cell ∧ ((cellsFrom (s.heap.objs.size + 1) scope.names []).lookup y.1).isSome = true) := fun ⟨n, v⟩ hy => by
    rcases S.par n (List.of_mem_zip hy).1 with q | q
    · exact .inl q
    · exact .inr ⟨q, PySem.W.cellsFrom_some _ _ _ (.inl q)⟩
  refine codeAny_call_function hr.depth (KX _ _ lk) rfl S.co S.gen rfl (PySem.W.codeRec_of KX hcd) (hb _ _ _ _ ?_)
  refine wpAny_newFunctionEnv_cells S.kind hkind fun env he s1 x => ?_
  subst he
  refine ⟨lim.keeps x.toInCall.keep, codeAny_func ?_⟩
  obtain ⟨t, ht, hq⟩ := hbody A outer s H vs Q E (hr.deeper _) hsp
  have I : Inv (cxOf CX P w K mg base N qual scope f cdv A outer s H E) [] (start N vs) H s1 := inv_start S hr.hd e0 hl r x
  refine wpAny_mono (ht [] s1 (start N vs) H _ I hq) (fun fl s' hs => ?_) fun e s' hs => hs
  have fin : ∀ {σ' : St} {H' : Hp} {v : V} {u : Value}, Inv (cxOf CX P w K mg base N qual scope f cdv A outer s H E) [] σ' H' s' → RelV v u → Q v H' → CE outer P w H s Q u s' :=
    fun {σ' H' v u} J rv q => ⟨v, H', J.os, J.bare, J.base, J.hok, rv, q⟩
  cases fl with
  | ret u =>
    obtain ⟨v, σ', H', J, rv, q⟩ := hs
    exact fin J rv q
  | next =>
    obtain ⟨σ', H', J, q⟩ := hs
    exact fin (v := V.non) (u := Value.none) J rfl q
  | brk =>
    obtain ⟨_, _, _, q⟩ := hs
    exact False.elim q
  | cont =>
    obtain ⟨_, _, _, q⟩ := hs
    exact False.elim q
end L2

namespace L2
open PySem PySem.Spec PyProof.Rows
section
variable {X : Cx} {x : Str} {p pos : Pos} {e : Expr} {es : List Expr} {t : TA} {id T : String} {r : List V → Hp → VK → Prop}

def tCB (r : List V → Hp → VK → Prop) (t : TA) : TE := fun σ H Q => t σ H fun vs H1 => r vs H1 Q
/-- f(e, ..), f a built-in function -/
theorem pe_callB (hc : CallR X (.builtin id) r) (hg : Gl X x) (hm : X.mg x = none) (hv : bootBuiltins x = some (.builtin id)) (ha : PA X (e :: es) t) (hn : x ≠ "__name__" := by decide) (hdb : (x == ("__debug__" : Str)) = false := by decide)
    (he : starEach (e :: es) X.env = (false, eval e X.env) :: starEach es X.env := by rfl) (hpl : (backTo pos (starEach es X.env)).any (·.1) = false := by rfl) : PE X (.Call (.Name x p) (e :: es) [] pos) (tCB r t) := by
  intro pins s σ H Q I h
  refine wpAny_Call_Name_kw (ld_blt I hg hm hv ?_ hn hdb)
  exact PyProof.Rows.callWith_builtin1 (thn (ha pos pins s σ H _ I h) fun us s1 ⟨vs, H1, I1, r1, q1⟩ => hc pins s1 σ H1 vs us Q I1 r1 q1) he hpl
/-- T(e, ..), T a built-in type -/
theorem pe_callTy (hc : CallR X (.type T) r) (hg : Gl X x) (hm : X.mg x = none) (hv : bootBuiltins x = some (.type T)) (ha : PA X (e :: es) t) (hn : x ≠ "__name__" := by decide) (hdb : (x == ("__debug__" : Str)) = false := by decide)
    (he : starEach (e :: es) X.env = (false, eval e X.env) :: starEach es X.env := by rfl) (hpl : (backTo pos (starEach es X.env)).any (·.1) = false := by rfl) : PE X (.Call (.Name x p) (e :: es) [] pos) (tCB r t) := by
  intro pins s σ H Q I h
  refine wpAny_Call_Name_kw (ld_blt I hg hm hv ?_ hn hdb)
  exact PyProof.Rows.callWith_type1 (thn (ha pos pins s σ H _ I h) fun us s1 ⟨vs, H1, I1, r1, q1⟩ => hc pins s1 σ H1 vs us Q I1 r1 q1) he hpl
end
end L2

namespace HT
open PySem PyProof.Rows



section
open PySem.SeqAt
open PySem.AutoSeq1 (wpAny_loadPart')
open PySem.MeetsSeq PySem.MeetsSeq2 PySem.MeetsSeq3

end

section
variable {prog : Program} {w : World} {A : Around} {E : Value → Shared → Prop} {s : Shared}



/-! ### t[a:b], not the whole -/
/-- a slice's bound as a place among n (d where it is left out) -/
def sIx (n d : Nat) : Option Int → Nat
  | none => d
  | some v => if v < 0 then (v + (n : Int)).toNat else min v.toNat n
theorem sIx_nat (n d k : Nat) : sIx n d (some (k : Int)) = min k n := by
  show (if (k : Int) < 0 then ((k : Int) + (n : Int)).toNat else min (k : Int).toNat n) = min k n
  rw [if_neg (by omega), Int.toNat_natCast]

end
end HT

namespace L2
open PySem PySem.Spec PyProof.Rows

/-! ### the parts of a slice -/
abbrev TO := St → Hp → (Option Int → Hp → Prop) → Prop
/-- a slice's part (left out, or an int) -/
def PO (X : Cx) (e : Option Expr) (t : TO) : Prop :=
  ∀ (pins : List (Addr × Obj)) (s : Shared) (σ : St) (H : Hp) (Q : Option Int → Hp → Prop), Inv X pins σ H s → t σ H Q →
    wpAny (model X.prog X.w) X.A (evalPart e X.env) (fun u s' => ∃ o H', Inv X pins σ H' s' ∧ IsPart u o ∧ Q o H') X.xe s
def tNoPart : TO := fun _ H Q => Q none H
def tPart (t : TE) : TO := fun σ H Q => t σ H fun x H1 => ∃ i, x = .int i ∧ Q (some i) H1


section
variable {X : Cx} {e : Expr} {te : TE} {lo hi : Option Expr} {tl th : TO} {pos p2 : Pos}

theorem po_none : PO X none tNoPart := by
  intro pins s σ H Q I h
  rw [evalPart_none]
  exact wpAny_pure ⟨none, H, I, .none, h⟩
theorem po_some (h : PE X e te) : PO X (some e) (tPart te) := by
  intro pins s σ H Q I hw
  rw [evalPart_some]
  refine thn (h pins s σ H _ I hw) fun u s1 ⟨x, H1, I1, r1, q1⟩ => ?_
  obtain ⟨i, rfl, q⟩ := q1
  obtain ⟨t, rfl⟩ := r1
  exact ⟨some i, H1, I1, .int i t, q⟩

/-- what a slice of a value is, by values: the slice object stands at sl -/
def SlR (X : Cx) (r : V → Option Int → Option Int → Hp → VK → Prop) : Prop :=
  ∀ (pins : List (Addr × Obj)) (s : Shared) (σ : St) (H : Hp) (x : V) (v vl vu : Value) (lo hi : Option Int) (sl : Addr) (Q : VK), Inv X pins σ H s → RelV x v → s.heap.IsSliceOf sl vl vu .none → IsPart vl lo → IsPart vu hi → r x lo hi H Q →
    ∃ T id, typeLookup (.type T) "__getitem__" = pure (some (.builtin id)) ∧ s.TypeIs v T ∧ wpAny (model X.prog X.w) X.A (getItem v (.ref sl)) (EP X pins σ Q) X.xe s
def tSl (r : V → Option Int → Option Int → Hp → VK → Prop) (te : TE) (tl th : TO) : TE := fun σ H Q => te σ H fun x H1 => tl σ H1 fun l H2 => th σ H2 fun u H3 => r x l u H3 Q
/-- a[lo:hi], any a -/
theorem pe_slice {r : V → Option Int → Option Int → Hp → VK → Prop} (hr : SlR X r) (he : PE X e te) (hl : PO X lo tl) (hu : PO X hi th) : PE X (.Subscript e (.Slice lo hi none p2) pos) (tSl r te tl th) := by
  intro pins s σ H Q I h
  refine Subscript_ (thn (he pins s σ H _ I h) fun v s1 ⟨x, H1, I1, r1, q1⟩ => ?_)
  refine wpAny_Slice (thn (hl pins s1 σ H1 _ I1 q1) fun vl s2 ⟨l, H2, I2, pl, q2⟩ => thn (hu pins s2 σ H2 _ I2 q2) fun vu s3 ⟨u, H3, I3, pu, q3⟩ => ?_)
  rw [evalPart_none]
  refine wpAny_pure ?_
  have I4 : Inv X pins σ H3 { s3 with heap := s3.heap.push { cls := .type "slice", data := .fields #[vl, vu, .none] } } := I3.kept (t' := s3.toks) fun b ob q => Heap.get?_push_of_some _ q
  obtain ⟨T, id, hT, ht, hg⟩ := hr pins { s3 with heap := s3.heap.push { cls := .type "slice", data := .fields #[vl, vu, .none] } } σ H3 x v vl vu l u s3.heap.objs.size Q I4 r1 (Heap.IsSliceOf.new ..) pl pu q3
  show wpAny (model X.prog X.w) X.A (subscriptTail e (.Slice lo hi none p2) v (.ref s3.heap.objs.size)) (EP X pins σ Q) X.xe { s3 with heap := s3.heap.push { cls := .type "slice", data := .fields #[vl, vu, .none] } }
  exact tail_any (ops := [.ref s3.heap.objs.size, v]) ht hT hg (by with_unfolding_all rfl)

/-- the items of xs[lo:hi] -/
def cutV (xs : List V) (lo hi : Option Int) : List V := (xs.drop (HT.sIx xs.length 0 lo)).take (HT.sIx xs.length xs.length hi - HT.sIx xs.length 0 lo)
theorem cutV_length (xs : List V) (lo hi : Option Int) : (cutV xs lo hi).length ≤ xs.length := by
  unfold cutV
  rw [List.length_take, List.length_drop]
  omega

/-! ### t < u, t + u -/
end
end L2

namespace L2
open PySem PySem.Spec PyProof.Rows

/-! ### places -/
/-- the place that an index of any sign means -/
def ixN (n : Nat) (i : Int) : Option Nat := if 0 ≤ i then (if i < n then some i.toNat else none) else if -(n : Int) ≤ i then some (i + n).toNat else none
def atI {α : Type} (xs : List α) (i : Int) : Option α := (ixN xs.length i).bind fun j => xs[j]?
theorem ixN_seq {n : Nat} {i : Int} {j : Nat} (h : ixN n i = some j) : seqIndex? i n = some j ∧ j < n ∧ -(n : Int) ≤ i ∧ i < n := by
  unfold ixN at h
  by_cases h0 : 0 ≤ i
  · rw [if_pos h0] at h
    by_cases h1 : i < n
    · rw [if_pos h1] at h
      have e : i.toNat = j := Option.some.inj h
      exact ⟨by rw [seqIndex_of h0 h1, e], by omega, by omega, h1⟩
    · rw [if_neg h1] at h; cases h
  · rw [if_neg h0] at h
    by_cases h1 : -(n : Int) ≤ i
    · rw [if_pos h1] at h
      have e : (i + n).toNat = j := Option.some.inj h
      exact ⟨by rw [seqIndex_neg (by omega) h1, e], by omega, h1, by omega⟩
    · rw [if_neg h1] at h; cases h
theorem atI_get {α : Type} {xs : List α} {i : Int} {v : α} (h : atI xs i = some v) : ∃ j, seqIndex? i xs.length = some j ∧ xs[j]? = some v ∧ j < xs.length ∧ -(xs.length : Int) ≤ i ∧ i < xs.length := by
  unfold atI at h
  cases e : ixN xs.length i with
  | none => rw [e] at h; cases h
  | some j =>
    rw [e] at h
    obtain ⟨h1, h2, h3, h4⟩ := ixN_seq e
    exact ⟨j, h1, h, h2, h3, h4⟩
theorem atI_nat {α : Type} {xs : List α} {j : Nat} {v : α} (h : xs[j]? = some v) : atI xs (j : Int) = some v := by
  have hj : j < xs.length := (List.getElem?_eq_some_iff.mp h).1
  have e : ixN xs.length (j : Int) = some j := by
    unfold ixN
    rw [if_pos (by omega), if_pos (by omega)]; simp
  unfold atI; rw [e]; exact h

/-! ### what may be subscripted -/
/-- what stands as an index of a plain subscript -/
def PlainIx (b : Expr) : Prop := ∀ o i, subscripted b false o i = operate [o, i] (getItem o i)
/-- a subscript by values -/
def IxR (X : Cx) (r : R2) : Prop :=
  ∀ (value slice : Expr) (pins : List (Addr × Obj)) (s : Shared) (σ : St) (H : Hp) (x y : V) (v u : Value) (Q : VK), Inv X pins σ H s → RelV x v → RelV y u → r x y H Q →
    subscripted slice false v u = operate [v, u] (getItem v u) → wpAny (model X.prog X.w) X.A (subscriptTail value slice v u) (EP X pins σ Q) X.xe s
/-- a call of a builtin's method by values: the receiver, the arguments -/
def MtR (X : Cx) (id : String) (r : V → List V → Hp → VK → Prop) : Prop :=
  ∀ (pins : List (Addr × Obj)) (s : Shared) (σ : St) (H : Hp) (x : V) (xs : List V) (v : Value) (us : List Value) (Q : VK), Inv X pins σ H s → RelV x v → Vals xs us → r x xs H Q →
    wpAny (model X.prog X.w) X.A (call (.builtin id) (v :: us)) (EP X pins σ Q) X.xe s
section
variable {X : Cx} {a b : Expr} {ta tb : TE} {pos : Pos}
/-- a[b] -/
theorem pe_ix {r : R2} (hr : IxR X r) (ha : PE X a ta) (hb : PE X b tb) (hs : PlainIx b) : PE X (.Subscript a b pos) (tOp r ta tb) := by
  intro pins s σ H Q I h
  exact Subscript_ (binT ha hb I h fun v u s2 x y H2 I2 rx ry q => hr a b pins s2 σ H2 x y v u Q I2 rx ry q (hs _ _))

def rIxL (K : PySem.W.Frag) : R2 := fun x y H Q => ∃ p xs i v, x = .ref p ∧ y = .int i ∧ SqL K H p xs ∧ atI xs i = some v ∧ Q v H
def rIxT (K : PySem.W.Frag) : R2 := fun x y H Q => ∃ p xs i v, x = .ref p ∧ y = .int i ∧ SqT K H p xs ∧ atI xs i = some v ∧ Q v H
theorem ix_list : IxR X (rIxL X.K) := by
  intro value slice pins s σ H x y v u Q I rx ry h hs
  obtain ⟨p, xs, i, z, rfl, rfl, hq, he, q⟩ := h
  cases rx
  obtain ⟨t, rfl⟩ := ry
  obtain ⟨its, r, pl, hz⟩ := I.list hq
  obtain ⟨j, h1, h2, h3, h4, h5⟩ := atI_get he
  obtain ⟨w, ew, rw'⟩ := r.get h2
  have hl := r.length
  have hn := line63
  have fin : EP X pins σ Q w s := ⟨z, H, I, rw', q⟩
  by_cases h0 : 0 ≤ i
  · have hj : i.toNat = j := by
      rw [seqIndex_of h0 h5] at h1
      exact Option.some.inj h1
    exact item_listR pl.isList h0 (by omega) (by rw [hj]; simpa using ew) fin hs
  · have hj : (i + (its.toArray.size : Int)).toNat = j := by
      rw [seqIndex_neg (by omega) h4] at h1
      rw [List.size_toArray, ← hl]
      exact Option.some.inj h1
    exact subscriptTail_builtinR (x := w) pl.isList.typeIs slot_list_getitem.lookup
      (wpAny_getItem_list_neg (Q := fun r s' => r = w ∧ EP X pins σ Q r s') pl.isList (by omega) (by rw [List.size_toArray] <;> omega) (by omega) (by rw [hj]; simpa using ew) ⟨rfl, fin⟩) hs
theorem ix_tup : IxR X (rIxT X.K) := by
  intro value slice pins s σ H x y v u Q I rx ry h hs
  obtain ⟨p, xs, i, z, rfl, rfl, hq, he, q⟩ := h
  cases rx
  obtain ⟨t, rfl⟩ := ry
  obtain ⟨its, r, pl, hz⟩ := I.tuple hq
  obtain ⟨j, h1, h2, h3, h4, h5⟩ := atI_get he
  obtain ⟨w, ew, rw'⟩ := r.get h2
  have hl := r.length
  have hn := line63
  have fin : EP X pins σ Q w s := ⟨z, H, I, rw', q⟩
  exact subscriptTail_builtinR (x := w) pl.typeIs slot_tuple_getitem.lookup
    (getItem_tuple (j := j) (Q := fun r s' => r = w ∧ EP X pins σ Q r s') pl (by omega) (by omega) (by rw [List.size_toArray, ← hl]; exact h1) (by simpa using ew) ⟨rfl, fin⟩) hs

/-! ### xs[i] = v, any sign -/
/-- the list's object behind a store -/
theorem mapSeq_set (its : List Value) (n j : Nat) (u : Value) : Obj.mapSeq (·.setIfInBounds j u) { cls := .type "list", data := .seq its.toArray n } = { cls := .type "list", data := .seq (its.set j u).toArray n } := by
  simp [Obj.mapSeq]
theorem Inv.lst {pins : List (Addr × Obj)} {σ : St} {H : Hp} {s : Shared} {p : Addr} {xs : List V} (I : Inv X pins σ H s) (h : H p = some (.lst xs)) :
    ∃ (its : List Value) (n : Nat), Vals xs its ∧ s.heap.get? p = some { cls := .type "list", data := .seq its.toArray n } ∧ xs.length ≤ sizeLine := by
  obtain ⟨z, its, n, r, e⟩ := I.hok p _ h
  exact ⟨its, n, r, e, z⟩
/-- the list at p is written by an update of its object -/
theorem Inv.lstUpd {pins : List (Addr × Obj)} {σ : St} {H : Hp} {s : Shared} {p : Addr} {xs ys : List V} {its its' : List Value} {n n' : Nat} {f : Obj → Obj} (I : Inv X pins σ H s) (h : H p = some (.lst xs))
    (ho : s.heap.get? p = some { cls := .type "list", data := .seq its.toArray n }) (hf : f { cls := .type "list", data := .seq its.toArray n } = { cls := .type "list", data := .seq its'.toArray n' }) (r : Vals ys its') (hz : ys.length ≤ sizeLine) (t : Nat) :
    Inv X pins σ (upd H p (.lst ys)) { s with heap := s.heap.update p f, toks := t } := by
  have e : (s.heap.update p f).get? p = some { cls := .type "list", data := .seq its'.toArray n' } := by
    rw [Heap.get?_update_self f ho (by rw [hf] <;> rfl), hf]
  refine I.write (x := p) (e := p) (by rw [h]; trivial) (.inl rfl) (fun b u hb q => (Heap.get?_update_other _ _ (Ne.symm hb)).trans q) ⟨_, e⟩ ?_
  exact ⟨hz, its', n', r, e⟩
def rSetL : V → V → V → Hp → (Hp → Prop) → Prop := fun o i v H Q => ∃ p xs k j, o = .ref p ∧ i = .int k ∧ H p = some (.lst xs) ∧ ixN xs.length k = some j ∧ Q (upd H p (.lst (xs.set j v)))
theorem set_list : PSet X rSetL := by
  intro pins s σ H o i v ov iv u Q I ro ri rv h
  obtain ⟨p, xs, k, j, rfl, rfl, hp, hj, q⟩ := h
  cases ro
  obtain ⟨t, rfl⟩ := ri
  obtain ⟨its, n, r, ho, hz⟩ := I.lst hp
  obtain ⟨h1, h2, h3, h4⟩ := ixN_seq hj
  have hl := r.length
  have hn := line63
  have I' : Inv X pins σ (upd H p (.lst (xs.set j v))) { s with heap := s.heap.update p (Obj.mapSeq (·.setIfInBounds j u)) } :=
    I.lstUpd hp ho (mapSeq_set its n j u) (r.set rv j) (by rw [List.length_set]; exact hz) s.toks
  by_cases h0 : 0 ≤ k
  · have hk : k.toNat = j := by
      rw [seqIndex_of h0 h4] at h1
      exact Option.some.inj h1
    exact PySem.W.ki_setAt ho h0 (by omega) (by rw [List.size_toArray, ← hl]; exact h4) (by rw [hk]; exact ⟨_, I', q⟩)
  · have hk : (k + (its.toArray.size : Int)).toNat = j := by
      rw [seqIndex_neg (by omega) h3] at h1
      rw [List.size_toArray, ← hl]
      exact Option.some.inj h1
    exact PySem.W.ki_setBack ho (by omega) (by rw [List.size_toArray, ← hl]; exact h3) (by omega) (by rw [hk]; exact ⟨_, I', q⟩)

/-! ### slices -/
theorem slice_bounds (lo hi : Option Int) (n : Nat) : (sliceBounds lo hi none n).1 = ((HT.sIx n 0 lo : Nat) : Int) ∧ (sliceBounds lo hi none n).2.1 = ((HT.sIx n n hi : Nat) : Int) ∧ (sliceBounds lo hi none n).2.2 = 1 := by
  refine ⟨?_, ?_, rfl⟩
  · cases lo with
    | none => simp [sliceBounds, HT.sIx]
    | some i =>
      simp only [sliceBounds, HT.sIx, Option.getD_none, show (1 : Int) > 0 by decide, if_true]
      by_cases h : i < 0
      · simp only [h, if_true] <;> omega
      · simp only [h, if_false] <;> omega
  · cases hi with
    | none => simp [sliceBounds, HT.sIx]
    | some i =>
      simp only [sliceBounds, HT.sIx, Option.getD_none, show (1 : Int) > 0 by decide, if_true]
      by_cases h : i < 0
      · simp only [h, if_true] <;> omega
      · simp only [h, if_false] <;> omega
theorem slicePick_cut (its : List Value) (lo hi : Option Int) : slicePick its.toArray lo hi none = ((its.drop (HT.sIx its.length 0 lo)).take (HT.sIx its.length its.length hi - HT.sIx its.length 0 lo)).toArray := by
  obtain ⟨h1, h2, h3⟩ := slice_bounds lo hi its.toArray.size
  unfold slicePick
  rw [h1, h2, h3]
  simp only [sliceRange_one, pick_run, List.size_toArray] <;> rfl
/-- xs[lo:hi] of a list: a new list -/
def rSlL (K : PySem.W.Frag) : V → Option Int → Option Int → Hp → VK → Prop := fun x lo hi H Q => ∃ a xs, x = .ref a ∧ SqL K H a xs ∧ ∀ p, H p = none → Q (.ref p) (upd H p (.lst (cutV xs lo hi)))
theorem sl_list : SlR X (rSlL X.K) := by
  intro pins s σ H x v vl vu lo hi sl Q I rx hs pl pu h
  obtain ⟨a, xs, rfl, hx, q⟩ := h
  cases rx
  obtain ⟨its, r, ht, hz⟩ := I.list hx
  have hlen := r.length
  refine ⟨"list", _, slot_list_getitem.lookup, ht.isList.typeIs, ?_⟩
  refine wpAny_getItem_list_slice ht.isList hs pl pu .none (by simp) ?_ (by rw [List.size_toArray] <;> omega)
  rw [slicePick_cut, ← hlen]
  refine ⟨.ref s.heap.objs.size, _, I.laid (t' := s.toks) (o := .lst (cutV xs lo hi)) (fun b ob q => Heap.get?_push_of_some _ q) (Nat.le_refl _) ?_, rfl, q _ (I.hok.fresh (Nat.le_refl _))⟩
  exact ⟨Nat.le_trans (cutV_length xs lo hi) hz, _, 0, (r.drop (HT.sIx xs.length 0 lo)).take (HT.sIx xs.length xs.length hi - HT.sIx xs.length 0 lo), Heap.get?_push_size _ rfl⟩

/-! ### in, not in: flat items -/
def flatV : V → Bool
  | .non => true
  | .bl _ => true
  | .int _ => true
  | .str _ => true
  | _ => false
/-- == of flat values -/
def eqV : V → V → Bool
  | .non, .non => true
  | .bl a, .bl b => a == b
  | .bl a, .int b => (if a then 1 else 0) == b
  | .int a, .bl b => a == (if b then 1 else 0)
  | .int a, .int b => a == b
  | .str a, .str b => a == b
  | _, _ => false
theorem eqAt_V {A : Around} {s : Shared} {y x : V} {u v : Value} (ry : RelV y u) (rx : RelV x v) (fy : flatV y = true) (fx : flatV x = true) : SeqAt.EqAt A s u v (eqV y x) := by
  cases y with
  | non =>
    cases ry
    cases x with
    | non => cases rx; exact SeqAt.EqAt.same _
    | bl b => cases rx; exact SeqAt.EqAt.none_bool b
    | int b => obtain ⟨t, rfl⟩ := rx; exact SeqAt.EqAt.none_int b t
    | str b => obtain ⟨t, rfl⟩ := rx; exact SeqAt.EqAt.none_str b t
    | _ => exact absurd (show false = true from fx) Bool.false_ne_true
  | bl a =>
    cases ry
    cases x with
    | non => cases rx; exact SeqAt.EqAt.bool_none a
    | bl b => cases rx; exact SeqAt.EqAt.bool_bool a b
    | int b => obtain ⟨t, rfl⟩ := rx; exact SeqAt.EqAt.bool_int a b t
    | str b => obtain ⟨t, rfl⟩ := rx; exact SeqAt.EqAt.bool_str a b t
    | _ => exact absurd (show false = true from fx) Bool.false_ne_true
  | int a =>
    obtain ⟨t', rfl⟩ := ry
    cases x with
    | non => cases rx; exact SeqAt.EqAt.int_none a t'
    | bl b => cases rx; exact SeqAt.EqAt.int_bool a t' b
    | int b => obtain ⟨t, rfl⟩ := rx; exact SeqAt.EqAt.int_int a t' b t
    | str b => obtain ⟨t, rfl⟩ := rx; exact SeqAt.EqAt.int_str a t' b t
    | _ => exact absurd (show false = true from fx) Bool.false_ne_true
  | str a =>
    obtain ⟨t', rfl⟩ := ry
    cases x with
    | non => cases rx; exact SeqAt.EqAt.str_none a t'
    | bl b => cases rx; exact SeqAt.EqAt.str_bool a t' b
    | int b => obtain ⟨t, rfl⟩ := rx; exact SeqAt.EqAt.str_int a t' b t
    | str b => obtain ⟨t, rfl⟩ := rx; exact SeqAt.EqAt.str_str a t' b t
    | _ => exact absurd (show false = true from fx) Bool.false_ne_true
  | _ => exact absurd (show false = true from fy) Bool.false_ne_true
/-- the items' answers, read off the values (a value's own answer does not lean on its token) -/
def eqU (x : V) (u : Value) : Bool := match u with
  | .none => eqV .non x
  | .bool b => eqV (.bl b) x
  | .int i _ => eqV (.int i) x
  | .str z _ => eqV (.str z) x
  | _ => false
theorem eqU_of {x y : V} {u : Value} (r : RelV y u) (f : flatV y = true) : eqU x u = eqV y x := by
  cases y with
  | non => cases r; rfl
  | bl b => cases r; rfl
  | int i => obtain ⟨t, rfl⟩ := r; rfl
  | str z => obtain ⟨t, rfl⟩ := r; rfl
  | _ => exact absurd (show false = true from f) Bool.false_ne_true
theorem any_eqU {x : V} : ∀ {xs : List V} {us : List Value}, Vals xs us → xs.all flatV = true → us.any (eqU x) = xs.any fun y => eqV y x
  | _, _, .nil, _ => rfl
  | y :: xs, u :: us, .cons r t, f => by
    rw [List.all_cons, Bool.and_eq_true] at f
    rw [List.any_cons, List.any_cons, eqU_of r f.1, any_eqU t f.2]
theorem mem_eqAt {A : Around} {s : Shared} {x : V} {v : Value} (rx : RelV x v) (fx : flatV x = true) : ∀ {xs : List V} {us : List Value}, Vals xs us → xs.all flatV = true → ∀ u ∈ us, SeqAt.EqAt A s u v (eqU x u)
  | _, _, .nil, _ => fun u hu => by cases hu
  | y :: xs, u :: us, .cons r t, f => fun u' hu => by
    rw [List.all_cons, Bool.and_eq_true] at f
    rcases List.mem_cons.mp hu with rfl | hu
    · rw [eqU_of r f.1]; exact eqAt_V r rx f.1 fx
    · exact mem_eqAt rx fx t f.2 u' hu
def inV (x : V) (xs : List V) : Bool := xs.any fun y => eqV y x
/-- x in a list or tuple of flat items -/
def rIn (K : PySem.W.Frag) (neg : Bool) : R2 := fun x y H Q => ∃ p xs, y = .ref p ∧ (SqL K H p xs ∨ SqT K H p xs) ∧ flatV x = true ∧ xs.all flatV = true ∧ Q (.bl (if neg then !inV x xs else inV x xs)) H
theorem op_in_seq : OpR X (compareOp .In) (rIn X.K false) := by
  intro pins s σ H x y v u Q I rx ry h
  obtain ⟨p, xs, rfl, hq, fx, fs, q⟩ := h
  cases ry
  rcases hq with hq | hq
  · obtain ⟨its, r, pl, hz⟩ := I.list hq
    refine SeqAt.in_listAt (eqU x) pl.isList (fun w hw => mem_eqAt rx fx r fs w (by simpa using hw)) ⟨.bl _, H, I, rfl, ?_⟩
    rw [show its.toArray.any (eqU x) = its.any (eqU x) by simp, any_eqU r fs]
    exact q
  · obtain ⟨its, r, pl, hz⟩ := I.tuple hq
    refine SeqAt.in_tupleAt (eqU x) pl (fun w hw => mem_eqAt rx fx r fs w (by simpa using hw)) ⟨.bl _, H, I, rfl, ?_⟩
    rw [show its.toArray.any (eqU x) = its.any (eqU x) by simp, any_eqU r fs]
    exact q
theorem op_notIn_seq : OpR X (compareOp .NotIn) (rIn X.K true) := by
  intro pins s σ H x y v u Q I rx ry h
  obtain ⟨p, xs, rfl, hq, fx, fs, q⟩ := h
  cases ry
  rcases hq with hq | hq
  · obtain ⟨its, r, pl, hz⟩ := I.list hq
    refine SeqAt.notIn_listAt (eqU x) pl.isList (fun w hw => mem_eqAt rx fx r fs w (by simpa using hw)) ⟨.bl _, H, I, rfl, ?_⟩
    rw [show its.toArray.any (eqU x) = its.any (eqU x) by simp, any_eqU r fs]
    exact q
  · obtain ⟨its, r, pl, hz⟩ := I.tuple hq
    refine SeqAt.notIn_tupleAt (eqU x) pl (fun w hw => mem_eqAt rx fx r fs w (by simpa using hw)) ⟨.bl _, H, I, rfl, ?_⟩
    rw [show its.toArray.any (eqU x) = its.any (eqU x) by simp, any_eqU r fs]
    exact q

/-! ### len, list(x), tuple(x) of any list or tuple that is read -/

/-! ### the call of a builtin's method: o.m(..) -/
/-- the value is of that builtin type -/
def tyV (K : PySem.W.Frag) (T : String) (x : V) (H : Hp) : Prop := match x with
  | .str _ => T = "str"
  | .int _ => T = "int"
  | .ref p => (T = "list" ∧ ∃ xs, SqL K H p xs) ∨ (T = "tuple" ∧ ∃ o, K.lookup p = some o ∧ o.cls = .type "tuple" ∧ o.dict = none) ∨
      (T = "dict" ∧ ((∃ kvs, H p = some (.dK kvs)) ∨ ∃ kvs, H p = some (.dT kvs))) ∨ (T = "set" ∧ ∃ S n, H p = some (.set S n))
  | _ => False
theorem tyV_is {pins : List (Addr × Obj)} {σ : St} {H : Hp} {s : Shared} {T : String} {x : V} {v : Value} (I : Inv X pins σ H s) (r : RelV x v) (ty : tyV X.K T x H) :
    s.TypeIs v T ∧ ∀ a, v = .ref a → ∃ ob, s.heap.get? a = some ob ∧ ob.dict = none := by
  cases x with
  | str z =>
    obtain ⟨t, rfl⟩ := r
    cases (show T = "str" from ty)
    exact ⟨typeIs_str s z t, fun _ e => nomatch e⟩
  | int i =>
    obtain ⟨t, rfl⟩ := r
    cases (show T = "int" from ty)
    exact ⟨typeIs_int s i t, fun _ e => nomatch e⟩
  | ref p =>
    cases r
    rcases ty with ⟨rfl, xs, hq⟩ | ⟨rfl, o, hk, hc, hd⟩ | ⟨rfl, hk⟩ | ⟨rfl, S, n, hk⟩
    · obtain ⟨its, _, pl, _⟩ := I.list hq
      refine ⟨pl.isList.typeIs, fun a e => ?_⟩
      cases e
      obtain ⟨o, n, e, c, hd, _⟩ := pl
      exact ⟨o, e, hd⟩
    · refine ⟨⟨o, I.kIn p o hk, hc⟩, fun a e => ?_⟩
      cases e
      exact ⟨o, I.kIn _ o hk, hd⟩
    · have z : ∃ o, s.heap.get? p = some o ∧ o.ExactDict := by
        rcases hk with ⟨kvs, hk⟩ | ⟨kvs, hk⟩
        · obtain ⟨_, _, _, _, o, _, _, e, ex, _⟩ := I.hok p _ hk
          exact ⟨o, e, ex⟩
        · obtain ⟨_, _, _, _, o, _, _, e, ex, _⟩ := I.hok p _ hk
          exact ⟨o, e, ex⟩
      obtain ⟨o, e, ex⟩ := z
      refine ⟨⟨o, e, ex.1⟩, fun a e2 => ?_⟩
      cases e2
      exact ⟨o, e, ex.2.1⟩
    · obtain ⟨o, _, _, _, e, ex, _⟩ := I.hok p _ hk
      refine ⟨⟨o, e, ex.1⟩, fun a e2 => ?_⟩
      cases e2
      exact ⟨o, e, ex.2.1⟩
  | _ => exact False.elim ty
def tBM0 (K : PySem.W.Frag) (T : String) (r : V → List V → Hp → VK → Prop) (to : TE) : TE := fun σ H Q => to σ H fun x H1 => tyV K T x H1 ∧ r x [] H1 Q
def tBM (K : PySem.W.Frag) (T : String) (r : V → List V → Hp → VK → Prop) (to : TE) (t : TA) : TE := fun σ H Q => to σ H fun x H1 => tyV K T x H1 ∧ t σ H1 fun xs H2 => r x xs H2 Q
variable {o e : Expr} {es : List Expr} {to : TE} {t : TA} {name : Str} {apos cpos : Pos} {T id : String} {r : V → List V → Hp → VK → Prop}
theorem pe_bm0 (pa : PlainAttrs T) (slot : Slot T name id) (hty : typeOf (.builtin id) = pure (.type "method_descriptor")) (hm : MtR X id r) (ho : PE X o to)
    (hbase : attributeBase o name X.env (eval o X.env) = eval o X.env := by rfl) (hline : (apos.endLine == cpos.line) = true := by rfl) : PE X (.Call (.Attribute o name apos) [] [] cpos) (tBM0 X.K T r to) := by
  intro pins s σ H Q I h
  refine wpAny_Call_method0_late hbase hline (thn (ho pins s σ H _ I h) fun v s1 ⟨x, H1, I1, r1, ty, q1⟩ => ?_)
  obtain ⟨h1, h2⟩ := tyV_is I1 r1 ty
  exact ⟨T, id, pa, slot, hty, h1, h2, Calls.callWith_builtin rfl (PySem.evalArgs_none (hm pins s1 σ H1 x [] v [] Q I1 r1 .nil q1))⟩
theorem pe_bm (pa : PlainAttrs T) (slot : Slot T name id) (hty : typeOf (.builtin id) = pure (.type "method_descriptor")) (hm : MtR X id r) (ho : PE X o to) (ha : PA X (e :: es) t)
    (hbase : attributeBase o name X.env (eval o X.env) = eval o X.env := by rfl)
    (hfew : ((backTo cpos (starEach (e :: es) X.env)).all (fun x => !x.1) && (backToKw cpos (keywordEach [] X.env)).all (fun x => x.1.isSome)
      && decide ((e :: es).length + ([] : List Keyword).length + (if ([] : List Keyword).isEmpty then 0 else 1) < 30)) = true := by rfl)
    (hline : (apos.endLine == cpos.line) = true := by rfl) (hs : starEach (e :: es) X.env = (false, eval e X.env) :: starEach es X.env := by rfl) (hplain : (backTo cpos (starEach es X.env)).any (·.1) = false := by rfl) :
    PE X (.Call (.Attribute o name apos) (e :: es) [] cpos) (tBM X.K T r to t) := by
  intro pins s σ H Q I h
  refine wpAny_Call_method_late hbase hfew hline rfl (thn (ho pins s σ H _ I h) fun v s1 ⟨x, H1, I1, r1, ty, q1⟩ => ?_)
  obtain ⟨h1, h2⟩ := tyV_is I1 r1 ty
  refine ⟨T, id, pa, slot, hty, h1, h2, ?_⟩
  have hA := ha cpos pins s1 σ H1 _ I1 q1
  rw [hs] at hA ⊢
  refine Calls.callWith_builtin (by show (false || (backTo cpos (starEach es X.env)).any (·.1)) = false; rw [hplain] <;> rfl) (Calls.evalArgs_plain ?_)
  exact thn hA fun us s2 ⟨vs, H2, I2, r2, q2⟩ => hm pins s2 σ H2 x vs v us Q I2 r1 r2 q2
/- xs.append(e), list.index on a module's tuple .. are MtR facts of 06m -/
end
end L2

namespace L2
open PySem PySem.Spec PyProof.Rows

def MtM (X : Cx) (id : String) (r : V → List V → Hp → VK → Prop) : Prop :=
  ∀ (pins : List (Addr × Obj)) (s : Shared) (σ : St) (H : Hp) (x : V) (xs : List V) (v : Value) (us : List Value) (Q : VK), Inv X pins σ H s → RelV x v → Vals xs us → r x xs H Q →
    wpAny (model X.prog X.w) X.A (call (.builtin id) (v :: us)) (EP X pins σ Q) X.xe s

/-! ### lists of values -/
theorem Vals.one : ∀ {x : V} {us : List Value}, Vals [x] us → ∃ u, us = [u] ∧ RelV x u
  | _, _, .cons r .nil => ⟨_, rfl, r⟩
theorem Vals.zero : ∀ {us : List Value}, Vals [] us → us = []
  | _, .nil => rfl
theorem Vals.dropLast {xs : List V} {us : List Value} (h : Vals xs us) : Vals xs.dropLast us.dropLast := by
  induction h with
  | nil => exact .nil
  | cons r t ih =>
    cases t with
    | nil => exact .nil
    | cons q t' => exact .cons r ih
theorem Vals.eraseIdx : ∀ {xs : List V} {us : List Value} (i : Nat), Vals xs us → Vals (xs.eraseIdx i) (us.eraseIdx i)
  | _, _, _, .nil => .nil
  | _, _, 0, .cons _ t => t
  | _, _, i + 1, .cons r t => .cons r (Vals.eraseIdx i t)
theorem Vals.reverse {xs : List V} {us : List Value} (h : Vals xs us) : Vals xs.reverse us.reverse := by
  induction h with
  | nil => exact .nil
  | cons r t ih => rw [List.reverse_cons, List.reverse_cons]; exact Vals.append ih (.cons r .nil)
theorem Vals.rep {xs : List V} {us : List Value} (h : Vals xs us) : ∀ k : Nat, Vals (List.replicate k xs).flatten (List.replicate k us).flatten
  | 0 => .nil
  | k + 1 => by
    rw [List.replicate_succ, List.replicate_succ, List.flatten_cons, List.flatten_cons]
    exact Vals.append h (Vals.rep h k)
theorem erase_last {α : Type} (l : List α) : l.eraseIdx (l.length - 1) = l.dropLast := by
  induction l with
  | nil => rfl
  | cons a r ih =>
    cases r with
    | nil => rfl
    | cons b r =>
      have e : (a :: b :: r).length - 1 = ((b :: r).length - 1) + 1 := by
        have h1 : (a :: b :: r).length = r.length + 2 := rfl
        have h2 : (b :: r).length = r.length + 1 := rfl
        omega
      rw [e, List.eraseIdx_cons_succ, ih]
      all_goals rfl
theorem len_erase {α : Type} : ∀ (l : List α) (i : Nat), (l.eraseIdx i).length ≤ l.length
  | [], _ => Nat.le_refl _
  | _ :: _, 0 => Nat.le_succ _
  | _ :: r, i + 1 => Nat.succ_le_succ (len_erase r i)
theorem foldl_rep (its : List Value) : ∀ (k : Nat) (acc : List Value),
    List.foldl (fun x1 x2 => x1 ++ x2) acc.toArray (List.replicate k its.toArray) = (acc ++ (List.replicate k its).flatten).toArray
  | 0, acc => by simp
  | k + 1, acc => by
    have e : acc.toArray ++ its.toArray = (acc ++ its).toArray := by simp
    have e2 : (acc ++ its) ++ (List.replicate k its).flatten = acc ++ (List.replicate (k + 1) its).flatten := by
      rw [List.replicate_succ, List.flatten_cons, List.append_assoc]
    rw [← e2, ← foldl_rep its k (acc ++ its), ← e, List.replicate_succ, List.foldl_cons]

section
variable {X : Cx} {pins : List (Addr × Obj)} {σ : St} {H : Hp} {s : Shared} {l b : Addr} {xs ys zs : List V}

/-! ### the two steps: a tracked list is rewritten, a new list is laid -/
theorem Inv.lset {its its' : List Value} {n : Nat} {f : Array Value → Array Value} {t' : Nat} (I : Inv X pins σ H s) (hH : H l = some (.lst xs))
    (e : s.heap.get? l = some { cls := .type "list", data := .seq its.toArray n }) (hf : f its.toArray = its'.toArray) (hv : Vals ys its') (hz : ys.length ≤ sizeLine) :
    Inv X pins σ (upd H l (.lst ys)) { s with heap := s.heap.update l (Obj.mapSeq f), toks := t' } := by
  have q := PySem.IsL.update e f
  rw [hf] at q
  refine I.write (x := l) (e := l) (by rw [hH]; exact trivial) (.inl rfl) (fun b' u hb hu => (Heap.get?_update_other s.heap (Obj.mapSeq f) (Ne.symm hb)).trans hu) ⟨_, q⟩ ?_
  exact ⟨hz, its', _, hv, q⟩
theorem Inv.lnew {its : List Value} {t' : Nat} (I : Inv X pins σ H s) (hv : Vals ys its) (hz : ys.length ≤ sizeLine) :
    Inv X pins σ (upd H s.heap.objs.size (.lst ys)) { s with heap := s.heap.push { cls := .type "list", data := .seq its.toArray }, toks := t' } :=
  I.laid (fun _ _ q => Heap.get?_push_of_some _ q) (Nat.le_refl _) ⟨hz, its, 0, hv, Heap.get?_push_size _ rfl⟩
theorem Inv.fresh (I : Inv X pins σ H s) : H s.heap.objs.size = none := I.hok.fresh (Nat.le_refl _)
theorem Inv.lstM (I : Inv X pins σ H s) (hH : H l = some (.lst xs)) : xs.length ≤ sizeLine ∧ ∃ (its : List Value) (n : Nat), Vals xs its ∧ xs.length = its.length ∧ s.heap.get? l = some { cls := .type "list", data := .seq its.toArray n } := by
  obtain ⟨z, its, n, r, e⟩ := I.hok l _ hH
  exact ⟨z, its, n, r, r.length, e⟩

theorem notLongL {n : Nat} (h : n ≤ sizeLine) : Builtin.List.listTooLong n = false := by
  unfold Builtin.List.listTooLong
  exact decide_eq_false (by omega)
end

section
variable {X : Cx}

/-! ### methods -/
def rAppend : V → List V → Hp → VK → Prop := fun x vs H Q => ∃ l xs y, x = .ref l ∧ vs = [y] ∧ H l = some (.lst xs) ∧ xs.length < sizeLine ∧ Q .non (upd H l (.lst (xs ++ [y])))
theorem mt_append : MtM X "list.append" rAppend := by
  intro pins s σ H x vs v us Q I rx rv h
  obtain ⟨l, xs, y, rfl, rfl, hH, hz, q⟩ := h
  cases rx
  obtain ⟨u, rfl, ru⟩ := rv.one
  obtain ⟨z, its, n, r, hl, e⟩ := I.lstM hH
  refine call_meets F.slot_list_append ⟨_, e, rfl⟩ F.entry_list_append (F.args_list_append_2 _ _) (PySem.list_append l its.toArray n u (by rw [List.size_toArray]; omega)) ⟨e, ?_⟩
  refine ⟨.non, _, I.lset (its' := its ++ [u]) hH e (by simp) (r.append (.cons ru .nil)) ?_, rfl, q⟩
  rw [List.length_append, List.length_singleton]
  omega

def rExtend : V → List V → Hp → VK → Prop := fun x vs H Q => ∃ l b xs zs, x = .ref l ∧ vs = [.ref b] ∧ H l = some (.lst xs) ∧ H b = some (.lst zs) ∧ xs.length + zs.length ≤ sizeLine ∧ Q .non (upd H l (.lst (xs ++ zs)))
theorem mt_extend : MtM X "list.extend" rExtend := by
  intro pins s σ H x vs v us Q I rx rv h
  obtain ⟨l, b, xs, zs, rfl, rfl, hH, hB, hz, q⟩ := h
  cases rx
  obtain ⟨u, rfl, ru⟩ := rv.one
  cases ru
  obtain ⟨z, its, n, r, hl, e⟩ := I.lstM hH
  obtain ⟨z2, its2, n2, r2, hl2, e2⟩ := I.lstM hB
  have hsz : its.toArray.size + its2.toArray.size ≤ sizeLine := by rw [List.size_toArray, List.size_toArray]; omega
  have hlong : ¬ (!its.toArray.isEmpty && Builtin.List.listTooLong (its.toArray.size + its2.toArray.size)) = true := by
    rw [notLongL hsz, Bool.and_false]
    exact Bool.false_ne_true
  refine call_meets F.slot_list_extend ⟨_, e, rfl⟩ F.entry_list_extend (F.args_list_extend_2 _ _)
    (AutoSeq1.list_extend_list_list_0 l its.toArray n b its2.toArray n2 hlong (by rw [List.size_toArray]; omega) (by omega)) ⟨e, e2, ?_⟩
  refine ⟨.non, _, I.lset (its' := its ++ its2) hH e (by simp) (r.append r2) ?_, rfl, q⟩
  rw [List.length_append]
  omega

def rPop : V → List V → Hp → VK → Prop := fun x vs H Q => ∃ l xs y, x = .ref l ∧ vs = [] ∧ H l = some (.lst xs) ∧ xs[xs.length - 1]? = some y ∧ Q y (upd H l (.lst xs.dropLast))
theorem mt_pop : MtM X "list.pop" rPop := by
  intro pins s σ H x vs v us Q I rx rv h
  obtain ⟨l, xs, y, rfl, rfl, hH, hy, q⟩ := h
  cases rx
  have hus := rv.zero
  subst hus
  obtain ⟨z, its, n, r, hl, e⟩ := I.lstM hH
  obtain ⟨u, hu, ru⟩ := r.get hy
  have hy' : its.toArray[its.toArray.size - 1]? = some u := by
    show its.toArray[its.length - 1]? = some u
    rw [← Array.getElem?_toList, ← hl]
    exact hu
  refine call_meets F.slot_list_pop ⟨_, e, rfl⟩ F.entry_list_pop (F.args_list_pop_1 _) (MeetsSeq.list_pop_last l its.toArray n u hy' (by rw [List.size_toArray]; omega)) ⟨e, ?_⟩
  refine ⟨y, _, I.lset (its' := its.dropLast) hH e ?_ r.dropLast ?_, ru, q⟩
  · show its.toArray.eraseIdxIfInBounds (its.toArray.size - 1) = its.dropLast.toArray
    rw [List.size_toArray, List.eraseIdxIfInBounds_toArray, erase_last]
  · rw [List.length_dropLast]
    omega

def rPopAt : V → List V → Hp → VK → Prop := fun x vs H Q => ∃ l xs i k y, x = .ref l ∧ vs = [.int i] ∧ H l = some (.lst xs) ∧ -(2 ^ 63) ≤ i ∧ i < 2 ^ 63 ∧ seqIndex? i xs.length = some k ∧ xs[k]? = some y ∧ Q y (upd H l (.lst (xs.eraseIdx k)))
theorem mt_popAt : MtM X "list.pop" rPopAt := by
  intro pins s σ H x vs v us Q I rx rv h
  obtain ⟨l, xs, i, k, y, rfl, rfl, hH, h1, h2, hk, hy, q⟩ := h
  cases rx
  obtain ⟨u, rfl, ru⟩ := rv.one
  obtain ⟨t, rfl⟩ := ru
  obtain ⟨z, its, n, r, hl, e⟩ := I.lstM hH
  obtain ⟨w, hw, rw'⟩ := r.get hy
  refine call_meets F.slot_list_pop ⟨_, e, rfl⟩ F.entry_list_pop (F.args_list_pop_2 _ _)
    (MeetsSeq.list_pop_at l its.toArray n i t k w (fitsIndex_both h1 h2) (by rw [List.size_toArray, ← hl]; exact hk) (by rw [← Array.getElem?_toList]; exact hw) (by rw [List.size_toArray]; omega)) ⟨e, ?_⟩
  refine ⟨y, _, I.lset (its' := its.eraseIdx k) hH e ?_ (r.eraseIdx k) ?_, rw', q⟩
  · show its.toArray.eraseIdxIfInBounds k = (its.eraseIdx k).toArray
    rw [List.eraseIdxIfInBounds_toArray]
  · have := len_erase xs k
    omega

def rReverse : V → List V → Hp → VK → Prop := fun x vs H Q => ∃ l xs, x = .ref l ∧ vs = [] ∧ H l = some (.lst xs) ∧ Q .non (upd H l (.lst xs.reverse))
theorem mt_reverse : MtM X "list.reverse" rReverse := by
  intro pins s σ H x vs v us Q I rx rv h
  obtain ⟨l, xs, rfl, rfl, hH, q⟩ := h
  cases rx
  have hus := rv.zero
  subst hus
  obtain ⟨z, its, n, r, hl, e⟩ := I.lstM hH
  refine call_meets F.slot_list_reverse ⟨_, e, rfl⟩ F.entry_list_reverse (F.args_list_reverse_1 _) (AutoSeq1.list_reverse_list_0 l its.toArray n (by rw [List.size_toArray]; omega)) ⟨e, ?_⟩
  refine ⟨.non, _, I.lset (its' := its.reverse) hH e (by simp) r.reverse ?_, rfl, q⟩
  rw [List.length_reverse]
  omega


/-! ### list + list, list += list, list * int -/
def rCat : R2 := fun x y H Q => ∃ l b xs zs, x = .ref l ∧ y = .ref b ∧ H l = some (.lst xs) ∧ H b = some (.lst zs) ∧ xs.length + zs.length ≤ sizeLine ∧ ∀ p, H p = none → Q (.ref p) (upd H p (.lst (xs ++ zs)))
theorem op_cat : OpR X (binaryOp .Add) rCat := by
  intro pins s σ H x y v u Q I rx ry h
  obtain ⟨l, b, xs, zs, rfl, rfl, hH, hB, hz, q⟩ := h
  cases rx
  cases ry
  obtain ⟨z, its, n, r, hl, e⟩ := I.lstM hH
  obtain ⟨z2, its2, n2, r2, hl2, e2⟩ := I.lstM hB
  refine PySem.P.add_list e e2 ?_ (by rw [List.size_toArray, List.size_toArray]; omega)
  have ea : its.toArray ++ its2.toArray = (its ++ its2).toArray := by simp
  rw [ea]
  exact ⟨.ref _, _, I.lnew (t' := s.toks) (r.append r2) (by rw [List.length_append]; omega), rfl, q _ I.fresh⟩
/-- a list times an int (a negative one is nothing) -/
def rRep : R2 := fun x y H Q => ∃ l k xs, x = .ref l ∧ y = .int k ∧ H l = some (.lst xs) ∧ -(2 ^ 63) ≤ k ∧ k < 2 ^ 63 ∧ xs.length * k.toNat ≤ sizeLine ∧
  ∀ p, H p = none → Q (.ref p) (upd H p (.lst (List.replicate k.toNat xs).flatten))
theorem len_rep {α : Type} (xs : List α) (k : Nat) : (List.replicate k xs).flatten.length = k * xs.length := by
  induction k with
  | zero => simp
  | succ k ih => rw [List.replicate_succ, List.flatten_cons, List.length_append, ih, Nat.succ_mul, Nat.add_comm]
theorem op_rep : OpR X (binaryOp .Mult) rRep := by
  intro pins s σ H x y v u Q I rx ry h
  obtain ⟨l, k, xs, rfl, rfl, hH, h1, h2, hz, q⟩ := h
  cases rx
  obtain ⟨t, rfl⟩ := ry
  obtain ⟨z, its, n, r, hl, e⟩ := I.lstM hH
  have hlen : its.toArray.size * k.toNat ≤ sizeLine := by rw [List.size_toArray, ← hl]; exact hz
  have hcap : ¬ its.toArray.size * k.toNat > (2 ^ 63 - 1) / 8 := by
    have : (sizeLine : Nat) ≤ (2 ^ 63 - 1) / 8 := by decide
    omega
  have hfit : ¬ (!Builtin.List.listFitsIndex k) = true := by
    rw [fitsIndex_both h1 h2]
    exact Bool.false_ne_true
  have hlong : ¬ Builtin.List.listTooLong (its.toArray.size * k.toNat) = true := by
    rw [notLongL hlen]
    exact Bool.false_ne_true
  have hnew : List.foldl (fun x1 x2 => x1 ++ x2) #[] (List.replicate (if its.toArray.isEmpty = true then 0 else k.toNat) its.toArray) = (List.replicate k.toNat its).flatten.toArray := by
    have f0 : ∀ m : Nat, List.foldl (fun x1 x2 => x1 ++ x2) #[] (List.replicate m its.toArray) = (List.replicate m its).flatten.toArray := fun m => by
      have := foldl_rep its m []
      rw [List.nil_append] at this
      exact this
    rw [f0]
    cases its with
    | nil => simp
    | cons a r' => rw [if_neg (by simp)]
  refine wpAny_binaryOp_repeat_ref (T := "list") (U := "int") (by decide) ⟨_, e, rfl⟩ (fun s' => typeIs_int s' k t) noFill_list_mul F.fills_int_mul F.slot_int_rmul repeat_list F.slot_int_index.lookup
    (call_meets F.slot_int_rmul (typeIs_int s k t) F.entry_int_rmul (F.args_int_rmul_2 _ _) (int___rmul___int_list k t l its.toArray n)
      ⟨e, rfl, ⟨_, e, rfl⟩, call_meets F.slot_list_mul ⟨_, e, rfl⟩ F.entry_list_mul (F.args_list_mul_2 _ _) (AutoListH.list___mul___list_int_3 l its.toArray n k t hfit hcap hlong) ⟨e, ?_⟩⟩)
  rw [hnew]
  exact ⟨.ref _, _, I.lnew (t' := s.toks) (r.rep k.toNat) (by rw [len_rep, Nat.mul_comm]; exact hz), rfl, q _ I.fresh⟩

/-! ### del xs[i] -/
end

/-! ### xs[a:b] = ys -/
section
variable {prog : Program} {w : World} {A : Around} {E : Value → Shared → Prop} {s : Shared}
set_option maxRecDepth 100000 in
end

section
variable {X : Cx}
end
end L2

namespace Att
open PySem PySem.W PySem.Calls PyProof.Rows

/-! ### the script -/
theorem ints_of_wellAll {P : Params} {h : Heap} : ∀ (ns : List Int) (vs : List Value), WellAll P h vs (ns.map WData.int) → IntsAre vs ns := by
  intro ns
  induction ns with
  | nil =>
    intro vs w
    rw [List.map_nil] at w
    cases w
    exact .nil
  | cons n ns ih =>
    intro vs w
    rw [List.map_cons] at w
    cases w with
    | cons a b =>
      cases a
      exact .cons _ _ (ih _ b)

theorem script_of {l : OpenLaw} {n : Nat} (hn : l.most = some n) {P : Params} {h : Heap} {args : List WData} {vals : List Value}
    (hpre : l.row.toRowW.claim.pre args = true) (hwl : WellAll P h vals args) :
    ∃ a vs ns, vals = [Value.ref a] ∧ args = [WData.list (ns.map WData.int)] ∧ h.get? a = some { cls := .type "list", data := .seq vs.toArray } ∧ IntsAre vs ns ∧ ns.length ≤ n := by
  have hsh : WShape.hasAll [] args [.list .int] = true := (pre_splitW hpre).1
  have hc : l.pre.holds [] { args := args } = true := (pre_splitW hpre).2
  obtain ⟨d, r, rfl, h1, h2⟩ := hasAllW_cons hsh
  obtain rfl := hasAllW_nil h2
  obtain ⟨xs, rfl, h3⟩ := hasW_list h1
  obtain ⟨ns, rfl⟩ := items_int h3
  have hlen : ns.length ≤ n := by
    unfold OpenLaw.pre at hc
    have h4 : (WTm.not (.lt (.lit (.int (n : Int))) (.len (.arg 0)))).holds [] { args := [.list (ns.map .int)] } = true := by
      have h4 := (holds_andW hc).1
      rw [hn] at h4
      exact h4
    have h5 := condW_of h4 (w_not (w_lt w_lit (w_len_list (w_arg rfl))))
    rw [List.length_map] at h5
    refine Nat.le_of_not_lt fun q => ?_
    have q' : (n : Int) < ((ns.length : Nat) : Int) := by omega
    first
      | (rw [decide_eq_true q'] at h5; exact absurd h5 (by decide))
      | (simp at h5; omega)
  cases hwl with
  | cons w1 w2 =>
    cases w2
    cases w1 with
    | list ho hall => exact ⟨_, _, ns, rfl, rfl, ho, ints_of_wellAll ns _ hall, hlen⟩

theorem post_true (l : OpenLaw) (args : List WData) : l.row.toRowW.claim.post args (.bool true) args = true :=
  postW_of (r := l.row.toRowW) (X := (true == true))
    (show WShape.has [] (.bool true) .bool = true by first | rfl | decide | simp [WShape.has, WShape.arms, WShape.armsAll])
    (show (WTm.eq .res (.lit (.bool true))).value [] { args := args, res := some (.bool true), after := args } = some (.bool (true == true)) from w_eq_bool (w_res rfl) w_lit) rfl

/-! ### the attachment: holds_open's last premise (the goal 'hc' behind k_head) from a wpAny of the law's body -/



/-! ### rules over ANY heap (no ledger) from facts about the written part K: the library's own take a ledger (News) for what they write -/
section
variable {prog : Program} {w : World} {A : Around} {E : Value → Shared → Prop} {s : Shared} {K : Frag}





/-! the whole heap as the ledger: makes every rule that writes through a ledger a rule over any heap -/

end
end Att

namespace L2
open PySem PySem.Spec PyProof.Rows

theorem vals_ints : ∀ {vs : List Value} {ns : List Int}, IntsAre vs ns → Vals (ns.map V.int) vs
  | _, _, .nil => .nil
  | _, _, .cons n t h => .cons ⟨t, rfl⟩ (vals_ints h)

/-- nothing is tracked but the script, known to the object (or it is an object of the module) -/
def Only (H : Hp) : Prop := ∀ b, H b = none ∨ ∃ o xs, H b = some (.frz o (.lst xs))

/-- THE HEAD: the law's promise, at the heap behind the top. F, the promise of the law's def, may use that base is part of the heap (so K.In base, base.Ns mainGlobals mg stand in Mod) -/
theorem law_call {P : Program} {w : World} {K : PySem.W.Frag} {mg mb : Str → Option Value} {CX : CXT} {k : Nat} {fa a : Addr} {fd : FuncData} {x : Str} {sp : Sp} {s₁ : Shared} {vs : List Value} {ns : List Int}
    (KX : K.In s₁.heap) (hns : s₁.heap.Ns mainGlobals mg) (hb : s₁.heap.Ns builtinsNs mb) (hbb : ∀ x : Str, x ≠ "__name__" → mb x = bootBuiltins x) (hlim : s₁.heap.NoLimit) (hg : s₁.gens = #[])
    (ha : s₁.heap.get? a = some { cls := .type "list", data := .seq vs.toArray }) (hi : IntsAre vs ns) (hl : ns.length ≤ sizeLine) (hr : Room k callerA)
    (F : ∀ base : Heap, K.In base → base.Ns mainGlobals mg → FnOk P w K mg base CX k fa fd [x] sp) (hbind : ∀ (s : Shared) (u : Value), BindsTo s fd ⟨[u], []⟩ [(x, u)])
    (hsp : ∀ H : Hp, Only H → SqL K H a (ns.map V.int) → sp [.ref a] H (fun v _ => v = .bl true) fun _ _ _ => False)
    (hCX : ∀ H e s', CX [] H s₁ (fun _ _ _ => False) e s' → False) :
    codeAny (model P w) callerA (.call (.ref fa) ⟨[.ref a], []⟩) (fun r s' => r = .ok (.ret (.bool true)) ∧ OldK s₁.heap s'.heap ∧ s'.os = s₁.os ∧ AllBare s'.gens) s₁ := by
  have rv := vals_ints hi
  have lenV := hi.length
  -- from an abstract heap in which nothing but the script may be tracked
  have core : ∀ H : Hp, Only H → SqL K H a (ns.map V.int) → HOk P w H s₁.heap → (∀ b, H b ≠ none → b = a) → (H a ≠ none → K.lookup a = none) →
      codeAny (model P w) callerA (.call (.ref fa) ⟨[.ref a], []⟩) (fun r s' => r = .ok (.ret (.bool true)) ∧ OldK s₁.heap s'.heap ∧ s'.os = s₁.os ∧ AllBare s'.gens) s₁ := by
    intro H hO hS hok hA hK
    have base_of : ∀ {b : Addr} {o : Obj}, s₁.heap.get? b = some o → H b = none → (hidT s₁.heap H).get? b = some o := fun e n => hidT_get e n
    have noA : ∀ {b : Addr} {o : Obj} {es : Array DictEntry} {ep : Nat}, s₁.heap.get? b = some o → o.data = .dict es ep → H b = none := fun {b o es ep} e d => by
      cases q : H b with
      | none => rfl
      | some u =>
        have e' : b = a := hA b (by rw [q]; simp)
        subst e'
        rw [ha] at e; cases e
        have d' : Data.seq vs.toArray _ = Data.dict es ep := d
        cases d'
    have nsK : ∀ {b : Addr} {m : Str → Option Value}, s₁.heap.Ns b m → (hidT s₁.heap H).Ns b m := fun {b m} ⟨o, es, ep, e, d, r⟩ => ⟨o, es, ep, base_of e (noA e d), d, r⟩
    have hKb : K.In (hidT s₁.heap H) := fun b o e => base_of (KX b o e) (by
      cases q : H b with
      | none => rfl
      | some u =>
        have e' : b = a := hA b (by rw [q]; simp)
        subst e'
        rw [hK (by rw [q]; simp)] at e; cases e)
    have hM : Mod K mg (hidT s₁.heap H) := ⟨hKb, nsK hns, ⟨mb, nsK hb, hbb⟩, let ⟨mc, h1, h2⟩ := hlim; ⟨mc, nsK h1, h2⟩⟩
    have e0 : Env0 P w K mg (hidT s₁.heap H) callerA [] s₁ H := ⟨rfl, hM, fun b o e => of_hidT e, Nat.le_of_eq (hidT_size _ _), trivial, fun b hb => absurd (show b ∈ ([] : List Addr) from hb) (by simp), hok, .of_eq hg⟩
    refine codeAny_mono ((F _ hKb (nsK hns)).run callerA [] s₁ H ⟨[.ref a], []⟩ [.ref a] [.ref a] _ _ hr e0 (hbind s₁ (.ref a)) (.cons rfl .nil) (hsp H hO hS)) fun r s' h => ?_
    cases r with
    | error e => exact (hCX H e s' h).elim
    | ok fl =>
      cases fl with
      | next => exact False.elim h
      | brk => exact False.elim h
      | cont => exact False.elim h
      | ret u =>
        obtain ⟨v, H', os, bare, un, hok', r', q⟩ := h
        have q' : v = .bl true := q
        subst q'
        obtain rfl : u = Value.bool true := r'
        refine ⟨rfl, OldK.of_keep fun b o e => ?_, os, bare⟩
        cases q : H b with
        | none => exact un.keep b o e q (by intro z; exact absurd (show b ∈ ([] : List Addr) from z) (by simp)) (by simp)
        | some u =>
          rcases hO b with z | ⟨ob, xs, z⟩
          · rw [q] at z; cases z
          · have z2 := un.frzs b ob _ z
            obtain ⟨e1, _⟩ := hok b _ z
            obtain ⟨e2, _⟩ := hok' b _ z2
            rw [e] at e1; cases e1
            exact e2
  cases hk : K.lookup a with
  | some o =>
    -- the script is one of the module's own objects
    have e := KX a o hk
    rw [ha] at e
    cases e
    refine core (fun _ => none) (fun _ => .inl rfl) (.inr ⟨_, vs.toArray, _, hk, rfl, rfl, rfl, by rw [List.size_toArray, lenV]; exact hl, by simpa using rv⟩) (fun b u z => by have z' : (none : Option HO) = some u := z; cases z') (fun b z => absurd rfl z) fun z => absurd rfl z
  | none =>
    refine core (fun b => if b = a then some (.frz { cls := .type "list", data := .seq vs.toArray } (.lst (ns.map V.int))) else none) (fun b => ?_) (.inl (.inr ⟨{ cls := .type "list", data := .seq vs.toArray }, if_pos rfl⟩)) (fun b u z => ?_) (fun b z => ?_) fun _ => hk
    · by_cases hb : b = a
      · exact .inr ⟨_, _, if_pos hb⟩
      · exact .inl (if_neg hb)
    · by_cases hb : b = a
      · have z' := (if_pos hb).symm.trans z
        cases z'
        subst hb
        exact ⟨ha, by rw [List.length_map]; exact hl, vs, _, rv, ha⟩
      · have z' := (if_neg hb).symm.trans z
        cases z'
    · by_cases hb : b = a
      · exact hb
      · exact absurd (if_neg hb) z
end L2

namespace L2
open PySem PySem.Spec PyProof.Rows

abbrev KOf {K : PySem.W.Frag} {h : Heap} (_ : K.In h) : PySem.W.Frag := K

end L2

/- THE LAST THEOREM (shape; LID, My.* are yours):
   My.Adr: a structure of the addresses that your layer names (classes, functions); My.Txt K t: a structure (Prop) of the equations over K;
   My.txt_mk : {K} {implicit addresses ..} (e1 : nsIn K mainGlobals "law" = some (some (.ref f))) (e2 : K.lookup f = some ⟨oc, od, .func (fnOf "law" "law" params body scope dV kV doc pm an cdv ct), sl⟩) (e3 : codeIn K cdv "law" = true) .. : ∃ t, My.Txt K t

set_option maxRecDepth 100000 in
set_option maxHeartbeats 0 in
theorem PySem.Challenge.cw_LID_holds : PySem.Challenge.rw_LID.Holds := by
  w_on; o_law; k_head; (case hw => w_witness2)
  k_fill
  refine L2.walk_of (l := PySem.Challenge.rw_LID) (n := 63) (k := 40) (x := "script") (CX := fun w => ..) (sp := fun _ => My.sp_law) rfl (by decide) rfl ⟨rfl, by decide, by decide⟩ (fun w h Y => PySem.W.kIn_of Y) ?F ?S ?C
  case F =>
    intro w mg fa h KX G hmg
    have T : ∃ t, My.Txt (L2.KOf KX) t := by
      dsimp only [L2.KOf]                          -- K must stand as «<heap const> w.params» for k_is
      refine' My.txt_mk ?e1 ?e2 ?e3 ..
      (case e1 => PySem.W.k_is)                    -- in the order: a name -> its address -> its object -> its parts
      (case e2 => PySem.W.k_is)
      ..
    obtain ⟨t, T⟩ := T
    have e0 := hmg.symm.trans (PySem.W.mg_of KX G T.law)
    cases e0                                       -- fa is the law's own address
    exact ⟨_, fun s u => .of_eq rfl, fun base kb nb => My.law_fn T kb nb⟩     -- if «.of_eq rfl» comes too early: refine' ⟨_, ?b, fun base kb nb => My.law_fn T kb nb⟩; exact fun s u => .of_eq rfl
  case S => exact fun w H a ns hl hO hS => ..
  case C => exact ..
(the tactic k_is has no namespace: write k_is) -/

/-! SHORT WORDS over the layer: a def of the text, its body, what a loop and a test want. -/
namespace L2
open PySem PySem.Spec PyProof.Rows

/-! ### the text by places -/
/-- the j-th statement of a class's body -/
def inClass (s : Stmt) (j : Nat) : Stmt := match s with
  | .ClassDef _ _ _ body _ _ _ _ _ _ _ => body.getD j (.Pass ⟨0, 0, 0, 0⟩)
  | _ => .Pass ⟨0, 0, 0, 0⟩
def defArgs (s : Stmt) : Arguments := match s with
  | .FunctionDef _ a _ _ _ _ _ _ _ _ => a
  | _ => { posonlyargs := [], args := [], vararg := none, kwonlyargs := [], kw_defaults := [], kwarg := none, defaults := [] }
def defBody (s : Stmt) : List Stmt := match s with
  | .FunctionDef _ _ b _ _ _ _ _ _ _ => b
  | _ => []
def defScope (s : Stmt) : Scope := match s with
  | .FunctionDef _ _ _ _ _ _ sc _ _ _ => sc
  | _ => { kind := .function, names := [], isGenerator := false, isCoroutine := false }

/-! ### no exception leaves a def -/
abbrev CX0 : CXT := fun _ _ _ _ _ _ => False
abbrev E0 : XK := fun _ _ _ => False
theorem pass0 {X : Cx} : Passes CX0 X E0 := fun _ _ _ _ _ _ _ h => h.elim

/-! ### a def (or method) of the text as it stands behind the top -/
structure Fun (K : PySem.W.Frag) (x qual : Str) (st : Stmt) (f : Addr) (fd : FuncData) : Prop where
  ex : ∃ (oc : Value) (od : Option Addr) (kV doc pm : Value) (an : Option Addr) (cdv ct : Value) (osl : Array (Option Value)),
    fd = PySem.W.fnOf x qual (defArgs st) (defBody st) (defScope st) .none kV doc pm an cdv ct ∧ K.lookup f = some ⟨oc, od, .func fd, osl⟩ ∧ PySem.W.codeIn K cdv qual = true
  kp : PySem.W.keepIn K (.ref f) = true
section
variable {P : Program} {w : World} {K : PySem.W.Frag} {mg : Str → Option Value} {base : Heap}
/-- THE RULE for a def: its body as a term of rules, and the reading of that term -/
theorem Fun.ok {x qual : Str} {st : Stmt} {f : Addr} {fd : FuncData} {N ps : List Str} {k : Nat} {sp : Sp} (F : Fun K x qual st f fd) (S : FnScope N ps (defScope st)) (len : ∀ vs H Q E, sp vs H Q E → vs.length = ps.length)
    (hbody : ∀ (cdv : Value) (A : Around) (outer : List Env) (s : Shared) (H : Hp) (vs : List V) (Q : VK) (E : XK), Room k (A.deeper (envOfC qual (defScope st) s.heap.objs.size f cdv)) → sp vs H Q E →
      ∃ t, PSs (cxOf CX0 P w K mg base N qual (defScope st) f cdv A outer s H E).nox (defBody st) t ∧ t { nx := fun _ H' => Q .non H', rt := Q } (start N vs) H) : FnOk P w K mg base CX0 (k + 1) f fd ps sp := by
  obtain ⟨oc, od, kV, doc, pm, an, cdv, ct, osl, rfl, lk, hcd⟩ := F.ex
  refine fn_of lk hcd S len fun A outer s H vs Q E hr hsp => ?_
  obtain ⟨t, h, q⟩ := hbody cdv A outer s H vs Q E hr hsp
  exact ⟨t, h.nox, q⟩
/-- how its arguments bind (no defaults): h is «fun _ _ _ _ _ _ us hl => match us, hl with | [_, _], _ => rfl», one _ a parameter -/
theorem Fun.binds {x qual : Str} {st : Stmt} {f : Addr} {fd : FuncData} {ps : List Str} (F : Fun K x qual st f fd)
    (h : ∀ (kV doc pm : Value) (an : Option Addr) (cdv ct : Value) (us : List Value), us.length = ps.length → bindArgs (PySem.W.fnOf x qual (defArgs st) (defBody st) (defScope st) .none kV doc pm an cdv ct) ⟨us, []⟩ = pure (ps.zip us)) : Binds K fd ps [] := by
  obtain ⟨oc, od, kV, doc, pm, an, cdv, ct, osl, rfl, lk, hcd⟩ := F.ex
  exact .all (h kV doc pm an cdv ct)
theorem fun_mk {x qual : Str} {st : Stmt} {f : Addr} {oc : Value} {od an : Option Addr} {osl : Array (Option Value)} {kV doc pm cdv ct : Value} (l : K.lookup f = some ⟨oc, od, .func (PySem.W.fnOf x qual (defArgs st) (defBody st) (defScope st) .none kV doc pm an cdv ct), osl⟩)
    (c : PySem.W.codeIn K cdv qual = true) (k : PySem.W.keepIn K (.ref f) = true) : Fun K x qual st f (PySem.W.fnOf x qual (defArgs st) (defBody st) (defScope st) .none kV doc pm an cdv ct) := ⟨⟨oc, od, kV, doc, pm, an, cdv, ct, osl, rfl, l, c⟩, k⟩
end

/-! ### expressions in short: the name that stands in the i-th slot -/
section
variable {X : Cx}
theorem pv (i : Nat) {x : Str} {pos : Pos} (hN : X.N[i]? = some x := by rfl) (hv : Vis X.env.scope x := by first | exact Or.inl rfl | exact Or.inr (Or.inl rfl) | exact Or.inr (Or.inr rfl)) (hd : (x == ("__debug__" : Str)) = false := by decide)
    (hcd : (x == ("__classdict__" : Str)) = false := by decide) : PE X (.Name x pos) (tVar i) := pe_var hN hv hd hcd
end

/-! ### tests -/
theorem iteF {A B : Prop} (h : B) : if false = true then A else B := by
  rw [if_neg Bool.false_ne_true]
  exact h
theorem iteT {A B : Prop} (h : A) : if true = true then A else B := by
  rw [if_pos rfl]
  exact h
theorem ite2 {c A B : Prop} [Decidable c] (h1 : c → A) (h2 : ¬ c → B) : if c then A else B := by
  by_cases h : c
  · rw [if_pos h]
    exact h1 h
  · rw [if_neg h]
    exact h2 h

/-! ### heaps -/
/-- all that was tracked is as it was -/
def Same (H H' : Hp) : Prop := ∀ b o, H b = some o → H' b = some o
theorem Same.trans {H H1 H2 : Hp} (a : Same H H1) (b : Same H1 H2) : Same H H2 := fun c o h => b c o (a c o h)
theorem Same.free {H H' : Hp} (e : Same H H') {l : Addr} (h : H' l = Option.none) : H l = Option.none := by
  cases q : H l with
  | none => rfl
  | some o =>
    rw [e l o q] at h
    cases h
theorem Same.seq {K : PySem.W.Frag} {H H' : Hp} {a : Addr} {xs : List V} (e : Same H H') (h : SqL K H a xs) : SqL K H' a xs := by
  rcases h with (h | ⟨o, h⟩) | h
  · exact .inl (.inl (e _ _ h))
  · exact .inl (.inr ⟨o, e _ _ h⟩)
  · exact .inr h

end L2

set_option Elab.async false
set_option linter.all false
set_option maxRecDepth 100000
set_option maxHeartbeats 4000000
namespace L2
open PySem PySem.Spec PyProof.Rows

/-! ### a list comprehension: its block as a context of its own -/
/-- the context of the block: s, H the state behind the new list; fp the iterator's records -/
def cxComp (X : Cx) (scope : Scope) (cl : List (Str × Addr)) (N : List Str) (s : Shared) (H : Hp) (fp : List Addr) : Cx :=
  { prog := X.prog, w := X.w, K := X.K, mg := X.mg, base := X.base, A := X.A, N := N, s₀ := s, H₀ := H, env := compEnvC scope cl s.heap.objs.size X.env,
    outer := X.stack, stack := X.stack, ex := fp, fn := fun _ => false, calm := X.calm, pn := [], xe := fun _ _ => False }
/-- the names that the block sees: its own one, then those of the def at the places js -/
def cNames (X : Cx) (x : Str) (js : List Nat) : List Str := x :: js.map fun j => X.N.getD j ""
def cVals (js : List Nat) (σ : St) : St := js.map fun j => (σ[j]?).getD none
/-- each place holds a name that is a cell of the def's and free in the block -/
structure FreeAt (X : Cx) (scope : Scope) (js : List Nat) : Prop where
  all : ∀ j ∈ js, ∃ y, X.N[j]? = some y ∧ (X.env.kindOf y = some .cell ∨ X.env.kindOf y = some .free) ∧ (y, NameKind.free) ∈ scope.names ∧
    ((relabel scope X.env).names.lookup y = some .cell ∨ (relabel scope X.env).names.lookup y = some .free)
theorem fa_nil {X : Cx} {scope : Scope} : FreeAt X scope [] := ⟨fun _ h => nomatch h⟩

theorem lookup_relabel {env : Env} : ∀ {names : List (Str × NameKind)} {y : Str} {k : NameKind},
    (names.map fun (n, k) => if (k == NameKind.free && env.scope.kind == .function && env.kindOf n == some .cell) then (n, NameKind.cell) else (n, k)).lookup y = some k →
    ∃ k', (y, k') ∈ names ∧ (k' = k ∨ (k = .cell ∧ k' = .free))
  | [], _, _, h => by simp at h
  | (n, k0) :: r, y, k, h => by
    by_cases hc : (k0 == NameKind.free && env.scope.kind == .function && env.kindOf n == some .cell) = true
    · rw [List.map_cons] at h
      dsimp only at h
      rw [if_pos hc] at h
      simp only [List.lookup_cons] at h
      have hf : k0 = .free := by
        rw [Bool.and_eq_true, Bool.and_eq_true] at hc
        exact beq_iff_eq.mp hc.1.1
      cases hx : y == n with
      | true =>
        rw [hx] at h
        have e := beq_iff_eq.mp hx
        subst e
        have e2 := Option.some.inj h
        exact ⟨k0, List.mem_cons_self, .inr ⟨e2.symm, hf⟩⟩
      | false =>
        rw [hx] at h
        obtain ⟨k', m, q⟩ := lookup_relabel h
        exact ⟨k', List.mem_cons_of_mem _ m, q⟩
    · rw [List.map_cons] at h
      dsimp only at h
      rw [if_neg hc] at h
      simp only [List.lookup_cons] at h
      cases hx : y == n with
      | true =>
        rw [hx] at h
        have e := beq_iff_eq.mp hx
        subst e
        have e2 := Option.some.inj h
        exact ⟨k0, List.mem_cons_self, .inl e2⟩
      | false =>
        rw [hx] at h
        obtain ⟨k', m, q⟩ := lookup_relabel h
        exact ⟨k', List.mem_cons_of_mem _ m, q⟩

section
variable {X : Cx} {pins : List (Addr × Obj)} {σ : St} {H : Hp} {s : Shared} {scope : Scope} {cl : List (Str × Addr)} {x : Str} {js : List Nat} {fp : List Addr}

theorem comp_ok (I : Inv X pins σ H s) (hk : scope.kind = .function) (hcell : ∀ y ∈ scope.names, y.2 ≠ .cell)
    (hcl1 : ∀ y c, cl.lookup y = some c → X.env.cells.lookup y = some c) (hcl2 : ∀ y, (y, NameKind.free) ∈ scope.names → ∃ c, cl.lookup y = some c)
    (hf : ∀ b ∈ fp, FpOk X pins H b) (hlt : ∀ b ∈ fp, b < s.heap.objs.size) : (cxComp X scope cl (cNames X x js) s H fp).Ok where
  mod := I.ok.mod
  kind := hk
  glob := I.ok.glob
  blt := I.ok.blt
  above := Nat.le_refl _
  inj := fun y z c h1 h2 => I.ok.inj y z c (hcl1 y c h1) (hcl1 z c h2)
  has := fun y hy => by
    have hy' : (relabel scope X.env).names.lookup y = some .cell ∨ (relabel scope X.env).names.lookup y = some .free := hy
    rcases hy' with h | h
    · obtain ⟨k', m, q⟩ := lookup_relabel h
      rcases q with q | ⟨_, q⟩
      · exact absurd q (hcell _ m)
      · subst q; exact hcl2 y m
    · obtain ⟨k', m, q⟩ := lookup_relabel h
      rcases q with q | ⟨q, _⟩
      · subst q; exact hcl2 y m
      · cases q
  cab := fun y c h _ => by cases h
  hd := I.ok.hd
  frames := I.ok.frames
  stk := .inl rfl
  exf := fun b hb => ⟨Nat.ne_of_lt (hlt b hb), fun y c h => (hf b hb).2.2.2.2.1 y c (hcl1 y c h)⟩
  bs := I.bs
  bsz := Nat.le_trans I.ok.bsz I.sz
  noex := fun b o e hb => by
    rcases (hf b hb).2.2.2.1 with z | z
    · exact I.ok.noex b o e z
    · exact absurd (Nat.lt_of_lt_of_le (Heap.lt_size e) (Nat.le_trans I.ok.bsz z)) (Nat.lt_irrefl _)
  exfs := fun b hb hz => (List.mem_cons.mp (I.stkSub b hz)).elim (hf b hb).2.1 (hf b hb).2.2.1
  funs := I.stack
  frf := I.stkFree

theorem comp_start {h₁ : Heap} {tk : Nat} (I : Inv X pins σ H s) (hk : scope.kind = .function) (hcell : ∀ y ∈ scope.names, y.2 ≠ .cell)
    (hcl1 : ∀ y c, cl.lookup y = some c → X.env.cells.lookup y = some c) (hcl2 : ∀ y, (y, NameKind.free) ∈ scope.names → ∃ c, cl.lookup y = some c) (hjs : FreeAt X scope js)
    (hf : ∀ b ∈ fp, FpOk X pins H b) (hlt : ∀ b ∈ fp, b < s.heap.objs.size) {m : Str → Option Value} (hn : h₁.Ns s.heap.objs.size m) (hkeep : ∀ b o, s.heap.get? b = some o → h₁.get? b = some o) :
    Inv (cxComp X scope cl (cNames X x js) s H fp) [] (none :: cVals js σ) H { s with heap := h₁, toks := tk } where
  ok := comp_ok I hk hcell hcl1 hcl2 hf hlt
  os := rfl
  bare := I.bare
  base := Un.kept hkeep
  loc := by
    refine ⟨m, hn, fun i y v h1 h2 h3 => ?_⟩
    cases i with
    | zero =>
      have z : (some none : Option (Option V)) = some (some v) := h2
      cases z
    | succ k =>
      have h1' : (js.map fun j => X.N.getD j "")[k]? = some y := h1
      have h2' : (js.map fun j => (σ[j]?).getD none)[k]? = some (some v) := h2
      rw [List.getElem?_map] at h1' h2'
      cases hj : js[k]? with
      | none => rw [hj] at h1'; cases h1'
      | some j =>
        rw [hj] at h1' h2'
        have e1 : X.N.getD j "" = y := Option.some.inj h1'
        have e2 : (σ[j]?).getD none = some v := Option.some.inj h2'
        obtain ⟨y', n1, n2, n3, n4⟩ := hjs.all j (List.mem_of_getElem? hj)
        have e3 : y' = y := by rw [← e1, List.getD_eq_getElem?_getD, n1]; rfl
        subst e3
        have e4 : σ[j]? = some (some v) := by
          cases q : σ[j]? with
          | none => rw [q] at e2; cases e2
          | some a => rw [q] at e2; exact congrArg some e2
        obtain ⟨m0, _, hl⟩ := I.loc
        obtain ⟨u, r, l⟩ := hl j y' v n1 e4 (n2.elim (fun z => Or.inr (Or.inl z)) fun z => Or.inr (Or.inr z))
        refine ⟨u, r, .inr ⟨n4, ?_⟩⟩
        rcases l with ⟨l, _⟩ | ⟨_, c, hc, hi⟩
        · exfalso
          rcases n2 with z | z <;> (rw [z] at l; cases l)
        · obtain ⟨c', hc'⟩ := hcl2 y' n3
          have e5 := hcl1 y' c' hc'
          rw [hc] at e5
          have e6 := Option.some.inj e5
          subst e6
          obtain ⟨o, ho, hd⟩ := hi
          exact ⟨c, hc', o, hkeep c o ho, hd⟩
  cell := fun y c h => by
    obtain ⟨v, o, ho, hd⟩ := I.cell y c (hcl1 y c h)
    exact ⟨v, o, hkeep c o ho, hd⟩
  free := I.hok.fresh (Nat.le_refl _)
  freeC := fun y c h => I.freeC y c (hcl1 y c h)
  pin := fun p hp => absurd (show p ∈ ([] : List (Addr × Obj)) from hp) (by simp)
  hok := I.hok.kept hkeep
  len := by
    show (none :: cVals js σ).length = (cNames X x js).length
    simp [cVals, cNames]
end

/-- the tests of a clause -/
def PIf (X : Cx) (ifs : List Expr) (t : TT) : Prop :=
  ∀ (pins : List (Addr × Obj)) (s : Shared) (σ : St) (H : Hp) (Q : Bool → Hp → Prop), Inv X pins σ H s → t σ H Q →
    wpAny (model X.prog X.w) X.A (forIn ifs true fun c r => if r = true then do let ok ← isTrue c X.env (eval c X.env); pure (ForInStep.yield ok) else pure (ForInStep.yield r)) (TP X pins σ Q) X.xe s
theorem pif_one {X : Cx} {c : Expr} {t : TT} (h : PT X c t) : PIf X [c] t := fun pins s σ H Q I q => wpAny_tests_one (h pins s σ H Q I q)

/-- [elt for x in iter if ..]: W an invariant by the turn and a measure; the list grows at D -/
def tComp (wi : TI) (tc : TT) (te : TE) (js : List Nat) : TE := fun σ H Q => wi σ H fun J H1 => ∀ D, H1 D = none →
  ∃ W : Nat → Nat → Hp → Prop, (∃ m, W 0 m (upd H1 D (.lst []))) ∧ ∀ i m H2, W i m H2 → (J.stop i H2 ∧ Q (.ref D) H2) ∨
    (J.go i H2 ∧ ∀ v H3, J.yld i H2 v H3 → tc (some v :: cVals js σ) H3 fun b H4 => if b = true then te (some v :: cVals js σ) H4 fun y H5 =>
      ∃ ys, H5 D = some (.lst ys) ∧ ys.length < sizeLine ∧ ∃ m', m' < m ∧ W (i + 1) m' (upd H5 D (.lst (ys ++ [y]))) else ∃ m', m' < m ∧ W (i + 1) m' H4)

section
variable {X : Cx} {elt iter : Expr} {x : Str} {px pos : Pos} {ifs : List Expr} {scope : Scope} {cl : List (Str × Addr)} {wi : TI} {tc : TT} {te : TE} {js : List Nat}

theorem comp_core {use : Option (Value → Sem Unit)} {Qv : Value → Shared → Prop} {pins : List (Addr × Obj)} {s : Shared} {σ : St} {H : Hp} {Q : VK}
    (hc : X.calm = true) (hi : PI X (.Name x px) iter wi) (hk : scope.kind = .function) (hcell : ∀ y ∈ scope.names, y.2 ≠ .cell) (hx : (relabel scope X.env).names.lookup x = some .local)
    (hcl1 : ∀ y c, cl.lookup y = some c → X.env.cells.lookup y = some c) (hcl2 : ∀ y, (y, NameKind.free) ∈ scope.names → ∃ c, cl.lookup y = some c) (hjs : FreeAt X scope js) (hnd : (cNames X x js).Nodup)
    (ht : ∀ s' H' fp, PIf (cxComp X scope cl (cNames X x js) s' H' fp) ifs tc) (he : ∀ s' H' fp, PE (cxComp X scope cl (cNames X x js) s' H' fp) elt te)
    (I : Inv X pins σ H s) (h : tComp wi tc te js σ H Q)
    (fin : ∀ (D C : Addr) (H' : Hp) (s' : Shared), Inv X pins σ H' s' → FpOk X pins H' C → (∃ m, s'.heap.Ns C m) → Q (.ref D) H' → compPost (model X.prog X.w) X.A X.xe use Qv (.ref D) C (.ok .next) s') :
    wpAny (model X.prog X.w) X.A (eval iter X.env) (fun xv s₁ => wpAny (model X.prog X.w) X.A (pyIter xv) (fun it s₂ => wpAny (model X.prog X.w) X.A (newList []) (fun acc s₃ =>
      wpAny (model X.prog X.w) X.A (newFunctionEnv scope X.env.globals cl [] X.env.qual none .none (some X.env)) (fun cenv s₄ =>
        codeAny (model X.prog X.w) X.A (.compStart (.ListComp elt [⟨.Name x px, iter, ifs, 0⟩] scope pos) 0 it acc { cenv with scope := relabel scope X.env })
          (compPost (model X.prog X.w) X.A X.xe use Qv acc cenv.locals) s₄) X.xe s₃) X.xe s₂) X.xe s₁) X.xe s := by
  refine thn (hi pins s σ H _ I h) fun v s1 h1 => thn h1 fun itv s2 h2 => ?_
  obtain ⟨it, fp, tn, J, H2, e, I2, T, st2, f2, hW⟩ := h2
  subst e
  obtain ⟨W, ⟨m0, w0⟩, turn⟩ := hW s2.heap.objs.size (I2.hok.fresh (Nat.le_refl _))
  have hlt2 : ∀ b ∈ fp, b < s2.heap.objs.size := fun b hb => let ⟨_, e, _⟩ := T.obj _ _ st2 b hb; Heap.lt_size e
  have I3 : Inv X pins σ (upd H2 s2.heap.objs.size (.lst [])) { s2 with heap := s2.heap.push { cls := .type "list", data := .seq ([] : List Value).toArray } } :=
    I2.lnew (t' := s2.toks) (its := []) .nil (Nat.zero_le _)
  refine wpAny_newObj_type ?_
  have k23 : ∀ b o, s2.heap.get? b = some o → (s2.heap.push { cls := .type "list", data := .seq ([] : List Value).toArray }).get? b = some o := fun b o e => Heap.get?_push_of_some _ e
  have sz3 : (s2.heap.push { cls := .type "list", data := .seq ([] : List Value).toArray }).objs.size = s2.heap.objs.size + 1 := Heap.size_push ..
  generalize hs3 : ({ s2 with heap := s2.heap.push { cls := .type "list", data := .seq ([] : List Value).toArray } } : Shared) = s3 at I3
  have hs3' : s3.heap = s2.heap.push { cls := .type "list", data := .seq ([] : List Value).toArray } := by rw [← hs3]
  have hlt3 : ∀ b ∈ fp, b < s3.heap.objs.size := fun b hb => by rw [hs3', sz3]; exact Nat.lt_succ_of_lt (hlt2 b hb)
  have f3 : ∀ b ∈ fp, FpOk X pins (upd H2 s2.heap.objs.size (.lst [])) b := fun b hb => ⟨by rw [upd_ne (Nat.ne_of_lt (hlt2 b hb))]; exact (f2 b hb).1, (f2 b hb).2⟩
  refine wpAny_newFunctionEnv hcell (by intro y hy; simp at hy) (fun h₁ hns hsb => ?_) hk
  have k34 : ∀ b o, s3.heap.get? b = some o → h₁.get? b = some o := fun b o e => hsb.extBut b o (Nat.ne_of_lt (Heap.lt_size e)) (Heap.get?_push_of_some _ e)
  have I4 := comp_start (x := x) (js := js) (tk := s3.toks + ([] : List (Str × Value)).length) I3 hk hcell hcl1 hcl2 hjs f3 hlt3 hns k34
  have st4 : tn 0 h₁ := T.keep 0 _ _ st2 fun b hb o e => k34 b o (by rw [hs3']; exact k23 b o e)
  -- the iterator's records stay what they are
  have stat : ∀ {H' : Hp}, (∀ b ∈ fp, H' b = none) → ∀ b ∈ fp, FpOk (cxComp X scope cl (cNames X x js) s3 (upd H2 s2.heap.objs.size (.lst [])) fp) [] H' b := fun hn b hb =>
    ⟨hn b hb, Nat.ne_of_lt (hlt3 b hb), fun hz => (List.mem_cons.mp (I3.stkSub b hz)).elim (f2 b hb).2.1 (f2 b hb).2.2.1, .inl hb, fun y c q => (f2 b hb).2.2.2.2.1 y c (hcl1 y c q), fun p hp => absurd (show p ∈ ([] : List (Addr × Obj)) from hp) (by simp)⟩
  have back : ∀ {σ' : St} {H' : Hp} {s' : Shared}, Inv (cxComp X scope cl (cNames X x js) s3 (upd H2 s2.heap.objs.size (.lst [])) fp) [] σ' H' s' → Inv X pins σ H' s' := fun {σ' H' s'} J' =>
    I3.call' (ch := fp) J'.os J'.base J'.hok J'.bare fun b hb => ⟨(f2 b hb).2.2.2.1, (f2 b hb).2.1, (f2 b hb).2.2.2.2.1, (f2 b hb).2.2.2.2.2⟩
  have loop : codeAny (model X.prog X.w) X.A (.compLoop (.ListComp elt [⟨.Name x px, iter, ifs, 0⟩] scope pos) 0 (.ref it) (.ref s2.heap.objs.size) (compEnvC scope cl s3.heap.objs.size X.env))
      (compPost (model X.prog X.w) X.A X.xe use Qv (.ref s2.heap.objs.size) s3.heap.objs.size) { s3 with heap := h₁, toks := s3.toks + ([] : List (Str × Value)).length } := by
    refine codeAny_compLoop_tests (fun n s' => ∃ i o H', Inv (cxComp X scope cl (cNames X x js) s3 (upd H2 s2.heap.objs.size (.lst [])) fp) [] (o :: cVals js σ) H' s' ∧ tn i s'.heap ∧ (∀ b ∈ fp, H' b = none) ∧ W i n H') ?_ m0
      ⟨0, none, _, I4, st4, fun b hb => (f3 b hb).1, w0⟩
    rintro n s5 ⟨i, o, H5, I5, st5, fr5, w5⟩
    rcases turn i n H5 w5 with ⟨stop, q⟩ | ⟨go, step⟩
    · refine thn (T.done (cxComp X scope cl (cNames X x js) s3 (upd H2 s2.heap.objs.size (.lst [])) fp) rfl rfl rfl hc i [] s5 _ H5 _ I5 (stat fr5) st5 stop) fun r s6 ⟨hr, I6⟩ => ?_
      subst hr
      exact fin _ _ H5 s6 (back I6) (I3.fpOk (Nat.le_refl _) I6.free) (let ⟨m, hm, _⟩ := I6.loc; ⟨m, hm⟩) q
    · refine thn (T.item (cxComp X scope cl (cNames X x js) s3 (upd H2 s2.heap.objs.size (.lst [])) fp) rfl rfl rfl hc i [] s5 _ H5 _ I5 (stat fr5) st5 go) fun r s6 ⟨u, hr, h6⟩ => ?_
      subst hr
      show wpAny _ _ (assign (.Name x px) _ u) _ _ s6
      intro Γ p hΓ
      have h6' := h6 Γ p hΓ
      obtain ⟨v, H6, I6, r6, y6, st6, fr6⟩ := h6'
      refine (?_ : wpAny _ _ _ _ _ s6) Γ p hΓ
      have I6' := I6.pinned (stat fr6) (T.obj _ _ st6)
      have hg : PG (cxComp X scope cl (cNames X x js) s3 (upd H2 s2.heap.objs.size (.lst [])) fp) (.Name x px) (gName 0) := pg_name (i := 0) hnd rfl (Or.inl hx) (.inr hx)
      refine wpAny_mono (hg _ s6 _ H6 v u (fun σ' H' => σ' = some v :: cVals js σ ∧ H' = H6) I6' r6 ⟨rfl, rfl⟩) (fun _ s7 q7 => ?_) (fun _ _ f => False.elim f)
      obtain ⟨σ7, H7, I7, e7, e8⟩ := q7
      subst e7 e8
      refine wpAny_mono (ht s3 _ fp _ s7 _ H7 _ I7 (step v H7 y6)) (fun ok s8 q8 => ?_) (fun _ _ f => False.elim f)
      obtain ⟨H8, I8, q8⟩ := q8
      have again : ∀ {s9 : Shared} {σ9 : St} {H9 : Hp} {m' : Nat}, Inv (cxComp X scope cl (cNames X x js) s3 (upd H2 s2.heap.objs.size (.lst [])) fp) ([] ++ pinsAt fp s6.heap) (some v :: cVals js σ) H9 s9 → m' < n → W (i + 1) m' H9 →
          ∃ m, m < n ∧ ∃ i o H', Inv (cxComp X scope cl (cNames X x js) s3 (upd H2 s2.heap.objs.size (.lst [])) fp) [] (o :: cVals js σ) H' s9 ∧ tn i s9.heap ∧ (∀ b ∈ fp, H' b = none) ∧ W i m H' := fun {s9 σ9 H9 m'} I9 hm w9 => by
        refine ⟨m', hm, i + 1, some v, H9, I9.unpinned, T.keep _ _ _ st6 fun b hb o e => (I9.pin (b, o) (List.mem_append_right _ (List.mem_append_right _ (mem_pinsAt hb e)))).1, fun b hb => ?_, w9⟩
        obtain ⟨o, e, d⟩ := T.obj _ _ st6 b hb
        exact (I9.pin (b, o) (List.mem_append_right _ (List.mem_append_right _ (mem_pinsAt hb e)))).2.1
      cases ok with
      | false =>
        rw [if_neg Bool.false_ne_true] at q8 ⊢
        obtain ⟨m', hm, w9⟩ := q8
        exact again (σ9 := []) I8 hm w9
      | true =>
        rw [if_pos rfl] at q8 ⊢
        refine wpAny_mono (he s3 _ fp _ s8 _ H8 _ I8 q8) (fun y s9 q9 => ?_) (fun _ _ f => False.elim f)
        obtain ⟨yv, H9, I9, r9, ys, hD, hl, m', hm, w9⟩ := q9
        refine wpAny_mono (mt_append (X := cxComp X scope cl (cNames X x js) s3 (upd H2 s2.heap.objs.size (.lst [])) fp) _ s9 _ H9 (.ref s2.heap.objs.size) [yv] (.ref s2.heap.objs.size) [y] (fun _ H' => H' = upd H9 s2.heap.objs.size (.lst (ys ++ [yv]))) I9 rfl (.cons r9 .nil) ⟨_, ys, yv, rfl, rfl, hD, hl, rfl⟩) (fun _ s10 q10 => ?_) (fun _ _ f => False.elim f)
        obtain ⟨_, H10, I10, _, e10⟩ := q10
        subst e10
        exact again (σ9 := []) I10 hm w9
  exact codeAny_compStart_list loop (T.self _ 0 _ _ _ st4 loop)

/-- the comprehension as an expression -/
theorem pe_comp (hc : X.calm = true) (hi : PI X (.Name x px) iter wi) (hk : scope.kind = .function) (hcell : ∀ y ∈ scope.names, y.2 ≠ .cell) (hnames : ∀ y ∈ scope.names, y.2 = .local → scope.names.lookup y.1 = some .local) (hx : (relabel scope X.env).names.lookup x = some .local)
    (hclos : closureFor scope X.env = pure cl) (hcl1 : ∀ y c, cl.lookup y = some c → X.env.cells.lookup y = some c) (hcl2 : ∀ y, (y, NameKind.free) ∈ scope.names → ∃ c, cl.lookup y = some c) (hjs : FreeAt X scope js) (hnd : (cNames X x js).Nodup)
    (ht : ∀ s' H' fp, PIf (cxComp X scope cl (cNames X x js) s' H' fp) ifs tc) (he : ∀ s' H' fp, PE (cxComp X scope cl (cNames X x js) s' H' fp) elt te)
    (hs : ∀ x, foldedSetIterable iter X.env x = pure x := by intro _; rfl) : PE X (.ListComp elt [⟨.Name x px, iter, ifs, 0⟩] scope pos) (tComp wi tc te js) := by
  intro pins s σ H Q I h
  rw [eval_ListComp]
  refine wpAny_comprehension_free (use := none) rfl hs hclos hk hnames (comp_core hc hi hk hcell hx hcl1 hcl2 hjs hnd ht he I h fun D C H' s' I' fC hC q => ?_)
  obtain ⟨m, hm⟩ := hC
  refine ⟨m, hm, fun h' sb => ?_⟩
  obtain ⟨f0, f1, f2, f3, f4, f5⟩ := fC
  exact ⟨.ref D, H', I'.turned (t' := s'.toks) (fun b o hb e => (sb.2 b hb).trans e) f0 f1 f3 f4 f5, rfl, q⟩

end
end L2


set_option Elab.async false
set_option linter.all false
set_option maxRecDepth 100000
set_option maxHeartbeats 4000000
namespace L2
open PySem PySem.Spec PyProof.Rows

/-! ### a def of the text: where it stands, what it promises -/
/-- the def st stands at the top by the name x -/
structure TopDef (K : PySem.W.Frag) (mg : Str → Option Value) (x : Str) (st : Stmt) : Prop where
  ex : ∃ (f : Addr) (fd : FuncData), Fun K x x st f fd ∧ mg x = some (.ref f)
theorem top_mk {K : PySem.W.Frag} {h : Heap} {mg : Str → Option Value} {x : Str} {st : Stmt} {f : Addr} {oc kV doc pm cdv ct : Value} {od an : Option Addr} {osl : Array (Option Value)} (X : K.In h) (G : h.Ns mainGlobals mg)
    (a : PySem.W.nsIn K mainGlobals x = some (some (.ref f)))
    (l : K.lookup f = some ⟨oc, od, .func (PySem.W.fnOf x x (defArgs st) (defBody st) (defScope st) .none kV doc pm an cdv ct), osl⟩)
    (c : PySem.W.codeIn K cdv x = true) (k : PySem.W.keepIn K (.ref f) = true) : TopDef K mg x st :=
  ⟨_, _, fun_mk l c k, PySem.W.mg_of X G a⟩
/-- the def by the name x keeps sp, within n calls of one another -/
structure Def (P : Program) (w : World) (K : PySem.W.Frag) (mg : Str → Option Value) (base : Heap) (n : Nat) (x : Str) (ps : List Str) (sp : Sp) : Prop where
  ex : ∃ (f : Addr) (fd : FuncData), FnOk P w K mg base CX0 n f fd ps sp ∧ Binds K fd ps [] ∧ PySem.W.keepIn K (.ref f) = true ∧ mg x = some (.ref f)
section
variable {P : Program} {w : World} {K : PySem.W.Frag} {mg : Str → Option Value} {base : Heap}
theorem def_of {x : Str} {st : Stmt} {N ps : List Str} {k : Nat} {sp : Sp} (T : TopDef K mg x st) (S : FnScope N ps (defScope st))
    (bd : ∀ (kV doc pm : Value) (an : Option Addr) (cdv ct : Value) (us : List Value), us.length = ps.length → bindArgs (PySem.W.fnOf x x (defArgs st) (defBody st) (defScope st) .none kV doc pm an cdv ct) ⟨us, []⟩ = pure (ps.zip us))
    (len : ∀ vs H Q E, sp vs H Q E → vs.length = ps.length)
    (body : ∀ (f : Addr) (cdv : Value) (A : Around) (outer : List Env) (s : Shared) (H : Hp) (vs : List V) (Q : VK) (E : XK), Room k (A.deeper (envOfC x (defScope st) s.heap.objs.size f cdv)) → sp vs H Q E →
      ∃ t, PSs (cxOf CX0 P w K mg base N x (defScope st) f cdv A outer s H E).nox (defBody st) t ∧ t { nx := fun _ H' => Q .non H', rt := Q } (start N vs) H) :
    Def P w K mg base (k + 1) x ps sp := by
  obtain ⟨f, fd, F, m⟩ := T.ex
  exact ⟨f, fd, F.ok S len (body f), F.binds bd, F.kp, m⟩
end
section
variable {X : Cx} {n : Nat} {x : Str} {ps : List Str} {sp : Sp} {e a b : Expr} {es : List Expr} {t : TA} {ta tb : TE} {p pos : Pos}
/-- f(..) of such a def -/
theorem pe_def (D : Def X.prog X.w X.K X.mg X.base n x ps sp) (hr : Room n X.A) (hg : Gl X x) (ha : PA X (e :: es) t) (hdb : (x == ("__debug__" : Str)) = false := by decide)
    (he : starEach (e :: es) X.env = (false, eval e X.env) :: starEach es X.env := by rfl) (hpl : (backTo pos (starEach es X.env)).any (·.1) = false := by rfl) :
    PE X (.Call (.Name x p) (e :: es) [] pos) (tCall sp [] E0 t) := by
  obtain ⟨f, fd, F, b, kp, m⟩ := D.ex
  exact pe_call F hr hg m kp b .nil pass0 ha hdb he hpl

/-! ### ints of any size -/
theorem op_mulK : OpR X (binaryOp .Mult) (rI IntMulOk fun i j => .int (i * j)) := opI fun _ _ _ _ _ _ _ hc q => PyProof.Rows.mul_int q hc

/-! ### isinstance(x, c) -/
theorem call_isi : CallR X (.builtin "isinstance") (fun xs H Q => ∃ (y : V) (c : V) (cv t : Value) (k : Bool), xs = [y, c] ∧ (∀ u, RelV c u → u = cv) ∧ TyOf X.K H y t ∧ PySem.W.kitOne X.K t cv = some k ∧ Q (.bl k) H) := by
  intro pins s σ H xs us Q I r h
  obtain ⟨y, c, cv, t, k, rfl, hc, ty, kt, q⟩ := h
  obtain ⟨u, w', rfl, r1, r2⟩ := vals2 r
  have e := hc _ r2
  subst e
  exact isinst_ok I r1 ty kt fun tk => ⟨.bl k, H, I.tok tk, rfl, q⟩
/-! ### sep.join(a list of texts) -/
theorem strs_of {ys : List Str} : ∀ {us : List Value}, Vals (ys.map V.str) us → StrsAre us ys := by
  induction ys with
  | nil =>
    intro us r
    cases r
    exact .nil
  | cons y r ih =>
    intro us q
    cases q with
    | cons a b =>
      obtain ⟨t, rfl⟩ := a
      exact .cons y t (ih b)
def rJoin (K : PySem.W.Frag) : V → List V → Hp → VK → Prop := fun x vs H Q => ∃ (sep : Str) (l : Addr) (ys : List Str), x = .str sep ∧ vs = [.ref l] ∧ SqL K H l (ys.map V.str) ∧ (ys.map (·.length)).sum + ys.length * sep.length ≤ 16777216 ∧ Q (.str (Txt.join sep ys)) H
theorem mt_join : MtM X "str.join" (rJoin X.K) := by
  intro pins s σ H x vs v us Q I rx rv h
  obtain ⟨sep, l, ys, rfl, rfl, hq, hz, q⟩ := h
  obtain ⟨t, rfl⟩ := rx
  obtain ⟨u, rfl, ru⟩ := rv.one
  cases ru
  obtain ⟨its, r, p, _⟩ := I.list hq
  exact join_list p.isList (by simpa using strs_of r) hz fun t' k => ⟨.str _, H, I.tok k, ⟨_, rfl⟩, q⟩
end
end L2


set_option Elab.async false
set_option linter.all false
set_option maxRecDepth 100000
set_option maxHeartbeats 4000000
namespace L2
open PySem PySem.Spec PySem.Calls PyProof.Rows PySem.W PySem.Builtin.Getset_descriptor
/-- what the fragment says of an own class of exceptions, for isinstance -/
structure ExcCls (K : Frag) (D : Addr) : Prop where
  ga : findIn K (.ref D) "__getattribute__" = some (some (.builtin "BaseException.__getattribute__"))
  gt : findIn K (.ref D) "__getattr__" = some none
  cl : ∃ cd, clsIn K D = some cd
  ha : findIn K (.ref D) "__class__" = some (some (.builtin "object.__class__"))
  hn : specialIn K (.builtin "object.__class__") "__get__" = some (some (.builtin "getset_descriptor.__get__"))
  tk : takesIn K (.builtin "object.__class__") = some true
  hb : mroIn K D (.type "BaseException") = some true
  hm : mroIn K D (.type "object") = some true
section
variable {prog : Program} {w : World} {A : Around} {E : Value → Shared → Prop} {s : Shared} {K : Frag} {x D : Addr}
/-- an object of the class D, whatever else is in it -/
def OfCls (x D : Addr) (h : Heap) : Prop := ∃ ox, h.get? x = some ox ∧ ox.cls = .ref D
theorem OfCls.type {M : Model} {h : Heap} (I : OfCls x D h) : Looks M h (typeOf (.ref x)) (.ref D) := by
  obtain ⟨ox, a, b⟩ := I
  exact b ▸ (Looks.ld a).andThen .now
theorem exc_find {M : Model} {h : Heap} (c : ExcCls K D) (X : K.In h) :
    Looks M h (Builtin.ObjectAttr.find (.ref x) (.ref D) "__class__") (.bind (.builtin "getset_descriptor.__get__") (.builtin "object.__class__")) := by
  have l1 := looks_findIn (M := M) X c.ha
  have l2 := looks_specialIn (M := M) X c.hn
  have l3 := looks_takesIn (M := M) X c.tk
  have l4 : Looks M h (Builtin.ObjectAttr.dataDescriptor? (some (.builtin "object.__class__")) (some (.builtin "getset_descriptor.__get__"))) (some (.builtin "getset_descriptor.__get__", .builtin "object.__class__")) := l3.andThen .now
  exact l1.andThen (Looks.andThen (show Looks M h (Builtin.ObjectAttr.getOf (some (.builtin "object.__class__"))) _ from l2) (l4.andThen (Looks.tag .now)))
theorem exc_get {R : Result → Shared → Prop} {tp : Value} (c : ExcCls K D) (X : K.In s.heap) (I : OfCls x D s.heap) (h : R (.ok (.ret (.ref D))) s) :
    codeAny (model prog w) A (.call (.builtin "getset_descriptor.__get__") ⟨[.builtin "object.__class__", .ref x, tp], []⟩) R s := by
  obtain ⟨hh, g, dr, t, os⟩ := s
  have l0 := I.type (M := model prog w)
  have l1 := looks_mroIn (M := model prog w) X c.hm
  refine codeAny_call_builtin (KF.slot_gs).plain KF.entry_gs ?_
  refine (KF.slot_gs).check _ _ _ _ _ _ _ _ KF.type_class (KF.args_gs _ _ _) ?_
  unfold Builtin.«getset_descriptor.__get__» descrGet; rw [dga_obj]
  refine wpAny_bind (wpAny_pure ?_)
  unfold descrGetter descrCheckInstance descrNameAndClass isInstance; simp only [KF.owner_class]
  repeat lk
  refine ⟨Code.quiet_builtin _ (by decide +kernel), codeAny_builtin KF.entry_class ?_⟩; unfold Builtin.«object.__class__» shownTypeOf
  repeat lk
  exact h
theorem exc_class {Q : Option Value → Shared → Prop} (c : ExcCls K D) (X : K.In s.heap) (I : OfCls x D s.heap) (h : Q (some (.ref D)) { s with toks := s.toks + 1 }) :
    wpAny (model prog w) A (getAttr? (.ref x) "__class__") Q E s := by
  obtain ⟨hh, g, d, t, os⟩ := s
  have L0 := I.type (M := model prog w)
  have L1 := looks_findIn (M := model prog w) X c.ga
  have L2 := looks_findIn (M := model prog w) X c.gt
  have LB := looks_mroIn (M := model prog w) X c.hb
  have L3 := exc_find (M := model prog w) (x := x) c X
  unfold getAttr? getAttrBy? getAttrBy
  refine wpAny_bind (wpAny_mkText (wpAny_bind (wpAny_attempt (wpAny_holding (wpAny_bind (L0.at (wpAny_bind (L1.at ?_))))))))
  show wpAny _ _ (getAttrByItsOwn (.ref x) _ (.ref D) (.builtin "BaseException.__getattribute__") false false) _ _ _
  unfold getAttrByItsOwn
  show wpAny _ _ (typeLookup (.ref D) "__getattr__" >>= _) _ _ _
  refine wpAny_bind (L2.at ?_)
  refine wpAny_bind (wpAny_attempt (wpAny_holding ?_))
  show wpAny _ _ (boundAndCalled (.builtin "BaseException.__getattribute__") (.ref x) _) _ _ _
  unfold boundAndCalled
  have FB := (F.attrBase_ValueError).ga
  refine wpAny_bind (wpAny_of_eq (FB.bind (.ref x)) ?_)
  show wpAny _ _ (call (.builtin "BaseException.__getattribute__") [.ref x, _]) _ _ _
  refine wpAny_call (codeAny_call_builtin FB.plain F.entry_bexc_ga ?_)
  have kd : builtinKind "BaseException.__getattribute__" = some .slot := by decide +kernel
  have sp : splitId "BaseException.__getattribute__" = some ("BaseException", "__getattribute__") := by decide +kernel
  have ar := F.args_bexc_ga (.ref x) (.str "__class__" t)
  simp only [checkBuiltinCall, kd, sp]
  unfold isInstance
  refine wpAny_bind (wpAny_bind (L0.at (LB.at ?_)))
  rw [if_neg (by decide)]
  refine wpAny_of_eq ar ?_
  unfold Builtin.«object.__getattribute__»
  refine wpAny_bind (wpAny_pure (wpAny_bind (wpAny_pure (wpAny_bind (L0.at (wpAny_bind (L3.at ?_)))))))
  unfold Builtin.ObjectAttr.bindTo
  refine wpAny_bind (wpAny_holding (wpAny_call (exc_get (s := ⟨hh, g, d, t + 1, os⟩) c X I ?_)))
  refine wpAny_pure ?_
  exact handed_on rfl (wpAny_pure h)
theorem kitx_exc (c : ExcCls K D) : KitX K (.ref x) (.ref D) (OfCls x D) where
  ty := fun _ _ _ I => I.type
  it := fun _ _ X _ => by
    obtain ⟨cd, hcd⟩ := c.cl
    unfold clsIn at hcd
    split at hcd
    · rename_i c' d' cd' sl' ho
      intro A' Q' E' s' k q
      unfold isType loadHead
      exact wpAny_bind (wpAny_loadPart (k _ _ (X _ _ ho)) (wpAny_pure q))
    · cases hcd
  ne := fun h tp dd its n sl X htp => by
    obtain ⟨cd, hcd⟩ := c.cl
    refine Bool.eq_false_iff.mpr fun q => ?_
    have e : D = tp := Value.ref.inj (beq_iff_eq.mp q)
    subst e
    unfold clsIn at hcd
    split at hcd
    · rename_i c' d' cd' sl' ho
      have z := (X _ _ ho).symm.trans htp
      cases z
    · cases hcd
  ca := fun X I k => exc_class c X I k
end
end L2


set_option Elab.async false
set_option linter.all false
set_option maxRecDepth 100000
set_option maxHeartbeats 4000000
namespace L2
open PySem PySem.Spec PyProof.Rows
section
variable {P : Program} {w : World} {H : Hp} {h : Heap} {a : Addr} {o : HO}
theorem ObjOk.there (x : ObjOk P w H h a o) : ∃ ob, h.get? a = some ob := by
  cases o with
  | lst xs => obtain ⟨_, _, _, _, e⟩ := x; exact ⟨_, e⟩
  | tup xs => obtain ⟨_, _, _, ⟨_, e, _⟩⟩ := x; exact ⟨_, e⟩
  | dK kvs => obtain ⟨_, _, _, _, o, _, _, e, _⟩ := x; exact ⟨_, e⟩
  | dT kvs => obtain ⟨_, _, _, _, o, _, _, e, _⟩ := x; exact ⟨_, e⟩
  | set S n => obtain ⟨o, _, _, _, e, _⟩ := x; exact ⟨_, e⟩
  | ins C dx fs => obtain ⟨_, _, _, e, _⟩ := x; exact ⟨_, e⟩
  | own y => exact x
  | xd fs => obtain ⟨_, ⟨_, _, _, e, _⟩, _⟩ := x; exact ⟨_, e⟩
  | rng lo hi => obtain ⟨_, _, _, e⟩ := x; exact ⟨_, e⟩
  | frz ob u => obtain ⟨e, _⟩ := x; exact ⟨_, e⟩
  | tbl ps => exact ⟨_, (show h.get? a = some _ from x)⟩
  | met f y => exact ⟨_, (show h.get? a = some _ from x)⟩
  | ext φ => obtain ⟨_, e, _⟩ := x; exact e
end

/-! ### how an exception lies behind a call: ea the object, C its class; whatever is tracked, or stood ahead of the call, stands in B, which stays -/
def Flies (P : Program) (w : World) (outer : List Env) (H : Hp) (s : Shared) (ea : Addr) (C : Value) (H' : Hp) (s' : Shared) : Prop := ∃ (t : Addr) (B : Heap),
  s'.os = s.os ∧ AllBare s'.gens ∧ Un (frs outer) [] H H' s.heap s'.heap ∧ HOk P w H' s'.heap ∧ Heap.FlyingW B outer ea C (.ref t) s'.heap ∧ H' ea = none ∧ s.heap.get? ea = none ∧
  ∀ b o, s'.heap.get? b = some o → b ∉ frs outer → ((∃ u, H' b = some u) ∨ ∃ o', s.heap.get? b = some o') → B.get? b = some o
def CXr (P : Program) (w : World) : CXT := fun outer H s E e s' => ∃ (ea : Addr) (C : Value) (H' : Hp), e = .ref ea ∧ Flies P w outer H s ea C H' s' ∧ E C none H'

/-! ### raise: the exception leaves the def -/
section
variable {P : Program} {w : World} {K : PySem.W.Frag} {mg : Str → Option Value} {base : Heap} {N : List Str} {qual : Str} {scope : Scope} {f : Addr} {cd : Value} {A : Around} {outer : List Env} {s : Shared} {H : Hp} {E : XK}
theorem raise_leaves {pins : List (Addr × Obj)} {σ : St} {H1 : Hp} {s₂ : Shared} {h' : Heap} {ea C : Addr} {vs : List Value} (I : Inv (cxOf (CXr P w) P w K mg base N qual scope f cd A outer s H E) pins σ H1 s₂)
    (hx : Heap.MadeExcOf s₂.heap h' ea (.ref C) vs) (q : E (.ref C) none H1) : (cxOf (CXr P w) P w K mg base N qual scope f cd A outer s H E).xe (.ref ea) { s₂ with heap := h' } := by
  have hin : ∀ en ∈ (envOfC qual scope s.heap.objs.size f cd :: outer), ∀ b, en.frame = some b → b ∈ frs (envOfC qual scope s.heap.objs.size f cd :: outer) := fun en he b hb => List.mem_filterMap.mpr ⟨en, he, hb⟩
  show wpAny (model P w) (A.deeper (envOfC qual scope s.heap.objs.size f cd)) (leaving (envOfC qual scope s.heap.objs.size f cd) (.ref ea)) _ _ _
  refine wpAny_leaves_madeW (base := PySem.W.hideAll s₂.heap (frs (envOfC qual scope s.heap.objs.size f cd :: outer))) (h := s₂.heap) I.ok.frames rfl (fun b o z => PySem.W.of_hideAll _ z) (PySem.W.funFrames_hide I.stack hin) hx fun h'' t fl _ _ up => ?_
  have keepB : ∀ b o, s₂.heap.get? b = some o → b ∉ frs (envOfC qual scope s.heap.objs.size f cd :: outer) → h''.get? b = some o := fun b o e n => fl.1 b o (PySem.W.hideAll_get _ e n)
  have notF : ∀ b o, s.heap.get? b = some o → b ∉ frs outer → b ∉ frs (envOfC qual scope s.heap.objs.size f cd :: outer) := fun b o e n z =>
    (List.mem_cons.mp (I.stkSub b z)).elim (fun z => absurd (Nat.lt_of_lt_of_le (Heap.lt_size e) I.ok.above) (by rw [z]; exact Nat.lt_irrefl _)) n
  have trk : ∀ b u, H1 b = some u → b ∉ frs (envOfC qual scope s.heap.objs.size f cd :: outer) := fun b u e z => by
    have := I.stkFree b z
    rw [e] at this; cases this
  have ntrk : ∀ b, s₂.heap.get? b = none → H1 b = none := fun b e => by
    cases z : H1 b with
    | none => rfl
    | some u => obtain ⟨ob, e2⟩ := (I.hok b u z).there; rw [e] at e2; cases e2
  have hthere : ∀ b o, s.heap.get? b = some o → ∃ o', s₂.heap.get? b = some o' := fun b o e => I.base.there b o e (fun z => nomatch z)
  refine ⟨ea, .ref C, H1, rfl, ⟨t, _, I.os, I.bare, ⟨?_, ?_, fun b o e n z => I.base.free b o e n z, ?_, I.base.tups, I.base.frzs, I.base.tbls⟩, ?_, fl, ntrk _ hx.new, ?_, ?_⟩, q⟩
  · exact fun b o e n hb z => keepB b o (I.base.keep b o e n hb z) (notF b o e hb)
  · intro b o e n hb z
    obtain ⟨sl, e1⟩ := I.base.slot b o e n hb z
    obtain ⟨_, o', e2, nf⟩ := I.ok.funs.mem hb
    have e3 : some o' = some o := e2.symm.trans e
    cases e3
    obtain ⟨sl', e4⟩ := up b _ (hx.keeps b _ e1) nf
    exact ⟨sl', e4⟩
  · intro b o e z
    by_cases hb : b ∈ frs outer
    · obtain ⟨sl, e1⟩ := I.base.slot b o e (I.ok.frf b hb) hb z
      obtain ⟨_, o', e2, nf⟩ := I.ok.funs.mem hb
      have e3 : some o' = some o := e2.symm.trans e
      cases e3
      obtain ⟨sl', e4⟩ := up b _ (hx.keeps b _ e1) nf
      exact ⟨_, e4⟩
    · obtain ⟨o', e1⟩ := hthere b o e
      exact ⟨o', keepB b o' e1 (notF b o e hb)⟩
  · intro b u e
    exact (I.hok b u e).stay (fun c v hc e' => keepB c v e' (hc.elim (fun z => by subst z; exact trk _ _ e) fun z => trk _ _ z)) (fun _ z => z) fun _ _ z => z
  · cases z : s.heap.get? ea with
    | none => rfl
    | some o => obtain ⟨o', e⟩ := hthere ea o z; rw [hx.new] at e; cases e
  · intro b o e n hb
    have key : ∃ o2, s₂.heap.get? b = some o2 ∧ b ∉ frs (envOfC qual scope s.heap.objs.size f cd :: outer) := by
      rcases hb with ⟨u, hu⟩ | ⟨o', ho⟩
      · obtain ⟨ob, e2⟩ := (I.hok b u hu).there
        exact ⟨ob, e2, trk b u hu⟩
      · obtain ⟨o2, e2⟩ := hthere b o' ho
        exact ⟨o2, e2, notF b o' ho n⟩
    obtain ⟨o2, e2, n2⟩ := key
    have e3 := keepB b o2 e2 n2
    rw [e] at e3
    cases e3
    exact PySem.W.hideAll_get _ e2 n2
end
end L2


set_option Elab.async false
set_option linter.all false
set_option maxRecDepth 100000
set_option maxHeartbeats 4000000
namespace L2
open PySem PySem.Spec PyProof.Rows PySem.W

/-! ### raise X(..) of an own class without __init__ -/
abbrev bmV : List Value := [.type "ValueError", .type "Exception", .type "BaseException", .type "object"]
theorem exc_obj {K : Frag} {h : Heap} {C : Addr} {bmB : List Value} {newId : String} (X : K.In h) (q : excIn K C bmB newId = true) :
    ∃ bm N nm qn bs hd sn sub ab col dd k0 k1 k2 k3 k5 mN, h.get? C = some (excClassObj nm qn C N bs bm hd sn sub ab col dd k0 k1 k2 k3 k5 newId) ∧ h.Ns N mN ∧ mN "__init__" = none ∧ OwnTail h bmB bm := by
  unfold excIn at q
  split at q
  · rename_i d0 c0 sl0 lk
    split at q
    · rename_i C1 bm1 j0 j1 j2 j3 n1 j5 em es
      simp only [Bool.not_eq_true', beq_iff_eq, Bool.and_eq_true] at q
      obtain ⟨⟨⟨⟨⟨e1, e2⟩, nodel⟩, tl⟩, ok⟩, ni⟩ := q
      subst e1 e2
      obtain ⟨nm1, bs1, mro1, ns1, qn1, hd1, sn1, sub1, ab1, col1, del1⟩ := c0
      dsimp only at em nodel ok ni
      subst em nodel
      have esl : sl0 = #[j0, j1, j2, j3, some (.builtin n1), j5] := by
        obtain ⟨l0⟩ := sl0
        simp only at es
        rw [es]
      subst esl
      exact ⟨_, _, _, _, _, _, _, _, _, _, _, _, _, _, _, _, _, X _ _ lk, .of_isNs (isNs_of_in X ok), nsMap_none_of_in X ok ni, tail_of_in X tl⟩
    · cases q
  · cases q

section
variable {P : Program} {w : World} {K : Frag} {mg : Str → Option Value} {base : Heap} {N : List Str} {qual : Str} {scope : Scope} {f : Addr} {cd : Value} {A : Around} {outer : List Env} {s : Shared} {H : Hp} {E : XK}
end

/-! ### a def that may raise -/

/-! ### except X -/
structure CatchCls (K : Frag) (D : Addr) : Prop where
  cl : ∃ cd, clsIn K D = some cd
  ty : typeIn K (.ref D) = some (.type "type")
  hb : mroIn K D (.type "BaseException") = some true
theorem exc_matches {M : Model} {A : Around} {E : Value → Shared → Prop} {s : Shared} {K : Frag} {e C D : Addr} {Q : Bool → Shared → Prop} (X : K.In s.heap) (I : OfCls e C s.heap) (c : CatchCls K D) {b : Bool} (hm : mroIn K C (.ref D) = some b) (hq : Q b s) :
    wpAny M A (excMatches (.ref e) (.ref D)) Q E s := by
  obtain ⟨hh, g, d, t, os⟩ := s
  have l0 := I.type (M := M)
  obtain ⟨ob, ho, hc⟩ := Option.map_eq_some_iff.mp c.ty
  have l1 : Looks M hh (typeOf (.ref D)) (.type "type") := hc ▸ (Looks.ld (X _ _ ho)).andThen .now
  have l2 : Looks M hh (isType (.ref D)) true := by
    obtain ⟨cd, hcd⟩ := c.cl
    unfold clsIn at hcd
    split at hcd
    · rename_i c' d' cd' sl' lo
      intro A' Q' E' s' k q
      unfold isType loadHead
      exact wpAny_bind (wpAny_loadPart (k _ _ (X _ _ lo)) (wpAny_pure q))
    · cases hcd
  have l3 := looks_mroIn (M := M) X c.hb
  have l4 := looks_mroIn (M := M) X hm
  have l5 : Looks M hh (isInstance (.ref D) (.type "tuple")) false := l1.andThen (Looks.of_pure tc_notTuple)
  have l6 : Looks M hh (isExcClass (.ref D)) true := l2.andThen (by exact l3)
  unfold excMatches
  refine wpAny_bind (l5.at ?_)
  rw [if_neg (by decide)]
  refine wpAny_bind (wpAny_pure ?_)
  simp only [List.forIn_cons, List.forIn_nil]
  refine wpAny_bind (wpAny_bind (wpAny_bind (l6.at ?_)))
  rw [if_neg (by decide)]
  refine wpAny_pure (wpAny_pure (wpAny_bind (l0.at (wpAny_bind (wpAny_bind (wpAny_bind (l4.at ?_)))))))
  cases b with
  | true => exact wpAny_pure (wpAny_pure (wpAny_pure hq))
  | false => exact wpAny_pure (wpAny_pure (wpAny_pure hq))
end L2


set_option Elab.async false
set_option linter.all false
set_option maxRecDepth 100000
set_option maxHeartbeats 4000000
namespace L2
open PySem PySem.Spec PyProof.Rows PySem.W

/-- the context of an except suite -/
def Cx.mark (X : Cx) (ea : Addr) : Cx := { X with A := X.A.mark (some (.ref ea)), calm := false }
section
variable {X : Cx} {pins : List (Addr × Obj)} {σ : St} {H H' : Hp} {s s' : Shared}
theorem Inv.mark (I : Inv X pins σ H s) (ea : Addr) : Inv (X.mark ea) pins σ H s :=
  ⟨⟨I.ok.mod, I.ok.kind, I.ok.glob, I.ok.blt, I.ok.above, I.ok.inj, I.ok.has, I.ok.cab, (fun z => by cases z), I.ok.frames, I.ok.stk, I.ok.exf, I.ok.bs, I.ok.bsz, I.ok.noex, I.ok.exfs, I.ok.funs, I.ok.frf⟩,
    I.os, I.bare, I.base, I.loc, I.cell, I.free, I.freeC, I.pin, I.hok, I.len⟩
theorem Inv.unmark {ea : Addr} (I : Inv (X.mark ea) pins σ H s) (ok : X.Ok) : Inv X pins σ H s :=
  ⟨ok, I.os, I.bare, I.base, I.loc, I.cell, I.free, I.freeC, I.pin, I.hok, I.len⟩
/-- an untracked object of ours is tracked from now on -/
theorem Inv.track {a : Addr} {φ : Heap → Prop} (I : Inv X pins σ H s) (n : H a = none) (new : X.s₀.heap.get? a = none) (hL : a ≠ X.env.locals) (hc : ∀ x c, X.env.cells.lookup x = some c → c ≠ a) (hp : ∀ p ∈ X.pn ++ pins, p.1 ≠ a)
    (p : φ s.heap) (there : ∃ o, s.heap.get? a = some o) (st : ∀ h1 h2 : Heap, φ h1 → (∀ o, h1.get? a = some o → h2.get? a = some o) → φ h2) : Inv X pins σ (upd H a (.ext φ)) s :=
  ⟨I.ok, I.os, I.bare, ⟨I.base.keep, I.base.slot, fun b o e z hx => by rw [upd_ne (fun q => by rw [q, new] at e; cases e)]; exact I.base.free b o e z hx, I.base.there,
      fun b xs e => by have q := I.base.tups b xs e; rw [upd_ne (ne_of_none q n)]; exact q, fun b o u e => by have q := I.base.frzs b o u e; rw [upd_ne (ne_of_none q n)]; exact q,
      fun b ps e => by obtain ⟨m, q⟩ := I.base.tbls b ps e; exact ⟨m, by rw [upd_ne (ne_of_none q n)]; exact q⟩⟩,
    I.loc, I.cell, by rw [upd_ne (Ne.symm hL)]; exact I.free, fun x c e => by rw [upd_ne (hc x c e)]; exact I.freeC x c e,
    fun q hq => by obtain ⟨a1, a2, a3⟩ := I.pin q hq; exact ⟨a1, by rw [upd_ne (hp q hq)]; exact a2, a3⟩,
    fun b u e => by
      by_cases hb : b = a
      · subst hb
        rw [upd_same] at e
        cases e
        exact ⟨p, there, st⟩
      · rw [upd_ne hb] at e
        exact (I.hok b u e).stay (fun _ _ _ z => z) (fun c z => by rw [upd_ne (ne_of_none z n)]; exact z) fun c xs z => by rw [upd_ne (ne_of_none z n)]; exact z,
    I.len⟩
/-- a name of the frame's is gone -/
theorem Inv.unname {i : Nat} {x : Str} {v : Option Value} {m : Str → Option Value} {h' : Heap} {tk : Nat} (I : Inv X pins σ H s) (hN : X.N.Nodup) (hi : X.N[i]? = some x)
    (hm : s.heap.Ns X.env.locals m) (hn : h'.Ns X.env.locals fun y => if y = x then v else m y) (hs : Heap.SameBut X.env.locals s.heap h') : Inv X pins (σ.set i none) H { s with heap := h', toks := tk } := by
  have old : ∀ b o, X.s₀.heap.get? b = some o → b ≠ X.env.locals := fun b o e => Nat.ne_of_lt (Nat.lt_of_lt_of_le (Heap.lt_size e) I.ok.above)
  have cellK : ∀ y c, X.env.cells.lookup y = some c → ∀ u, s.heap.IsCell c u → h'.IsCell c u := fun y c e u z => z.sameBut hs (I.cne y c e)
  refine ⟨I.ok, I.os, I.bare, ⟨fun b o e n hb hx => (hs.2 b (old b o e)).trans (I.base.keep b o e n hb hx), fun b o e n hb hx => ?_, I.base.free, fun b o e hx => ?_, I.base.tups, I.base.frzs, I.base.tbls⟩, ⟨_, hn, fun j y u e1 e2 e3 => ?_⟩,
    fun y c e => ?_, I.free, I.freeC, fun p hp => ?_, fun b u e => ?_, by simpa using I.len⟩
  · obtain ⟨sl, z⟩ := I.base.slot b o e n hb hx
    exact ⟨sl, (hs.2 b (old b o e)).trans z⟩
  · obtain ⟨o', z⟩ := I.base.there b o e hx
    exact ⟨o', (hs.2 b (old b o e)).trans z⟩
  · by_cases hj : j = i
    · subst hj
      have e4 : (σ.set j none)[j]? = some (some u) := e2
      by_cases hl : j < σ.length
      · rw [List.getElem?_set_self hl] at e4
        cases e4
      · rw [List.getElem?_eq_none (by rw [List.length_set]; omega)] at e4
        cases e4
    · have e4 : (σ.set i none)[j]? = some (some u) := e2
      rw [List.getElem?_set_ne (Ne.symm hj)] at e4
      obtain ⟨m0, hm0, hl⟩ := I.loc
      have em : m0 = m := by
        obtain ⟨o1, es1, ep1, g1, d1, _, r1⟩ := hm0
        obtain ⟨o2, es2, ep2, g2, d2, _, r2⟩ := hm
        rw [g1] at g2
        cases g2
        rw [d1] at d2
        cases d2
        funext z
        exact (r1 z).symm.trans (r2 z)
      subst em
      obtain ⟨u', r', q⟩ := hl j y u e1 e4 e3
      refine ⟨u', r', ?_⟩
      rcases q with ⟨k, e⟩ | ⟨k, c, e, z⟩
      · refine .inl ⟨k, ?_⟩
        have ne : y ≠ x := fun e => hj (nodup_ix hN e1 (e ▸ hi))
        show (if y = x then v else m0 y) = some u'
        rw [if_neg ne]
        exact e
      · exact .inr ⟨k, c, e, cellK y c e _ z⟩
  · obtain ⟨u, z⟩ := I.cell y c e
    exact ⟨u, cellK y c e u z⟩
  · obtain ⟨a1, a2, a3, a4⟩ := I.pin p hp
    exact ⟨(hs.2 _ a3).trans a1, a2, a3, a4⟩
  · have nl : ∀ c z, H c = some z → c ≠ X.env.locals := fun c z q e => by rw [e, I.free] at q; cases q
    exact (I.hok b u e).stay (fun c z hc q => (hs.2 c (hc.elim (fun k => by rw [k]; exact nl b u e) fun k => nl c _ k)).trans q) (fun _ z => z) fun _ _ z => z
/-- the frame again, at a heap in which B stays -/
theorem Inv.caught {ea : Addr} {C : Value} (I : Inv X pins σ H s) {t : Addr} {B : Heap} {h6 : Heap} {tk : Nat} (ho : s'.os = s.os) (hg : AllBare s'.gens) (un : Un (frs X.stack) [] H H' s.heap s'.heap) (hok : HOk X.prog X.w H' s'.heap)
    (cov : ∀ b o, s'.heap.get? b = some o → b ∉ frs X.stack → ((∃ u, H' b = some u) ∨ ∃ o', s.heap.get? b = some o') → B.get? b = some o) (st : B.StaysIn h6) (up : s'.heap.UpToSlots h6) : Inv X pins σ H' { s' with heap := h6, toks := tk } := by
  have fr := I.stack
  have frf : ∀ b u, H' b = some u → b ∉ frs X.stack := fun b u e z => by
    obtain ⟨_, o, e2, _⟩ := fr.mem z
    have q := un.free b o e2 (I.stkFree b z) (by simp)
    rw [e] at q; cases q
  have slotK : ∀ b o, s.heap.get? b = some o → b ∈ frs X.stack → ∃ sl, h6.get? b = some { o with slots := sl } := fun b o e hb => by
    obtain ⟨_, o', e2, nf⟩ := fr.mem hb
    have e3 : some o' = some o := e2.symm.trans e
    cases e3
    obtain ⟨sl, e4⟩ := un.slot b _ e (I.stkFree b hb) hb (by simp)
    obtain ⟨sl', e5⟩ := up b _ e4 nf
    exact ⟨sl', e5⟩
  have u6 : Un (frs X.stack) [] H H' s.heap h6 := by
    refine ⟨fun b o e n hb hx => st b o (cov b o (un.keep b o e n hb hx) hb (.inr ⟨o, e⟩)), fun b o e n hb hx => slotK b o e hb, un.free, fun b o e hx => ?_, un.tups, un.frzs, un.tbls⟩
    by_cases hb : b ∈ frs X.stack
    · obtain ⟨sl, z⟩ := slotK b o e hb
      exact ⟨_, z⟩
    · obtain ⟨o', z⟩ := un.there b o e hx
      exact ⟨o', st b o' (cov b o' z hb (.inr ⟨o, e⟩))⟩
  have k6 : HOk X.prog X.w H' h6 := fun b u e => (hok b u e).stay (fun c z hc q => by
    have tr : ∃ v, H' c = some v := hc.elim (fun k => ⟨u, by rw [k]; exact e⟩) fun k => ⟨_, k⟩
    obtain ⟨v, hv⟩ := tr
    exact st c z (cov c z q (frf c v hv) (.inl ⟨v, hv⟩))) (fun _ z => z) fun _ _ z => z
  exact I.call' (s' := { s' with heap := h6, toks := tk }) (ch := []) ho u6 k6 hg fun b hb => nomatch hb
end
end L2


set_option Elab.async false
set_option linter.all false
set_option maxRecDepth 100000
set_option maxHeartbeats 4000000
namespace L2
open PySem PySem.Spec PyProof.Rows PySem.W

/-! ### try: f(..) except Y as n: suite -/

/-! ### isinstance(an exception that was caught, c) -/
end L2


set_option Elab.async false
set_option linter.all false
set_option maxRecDepth 100000
set_option maxHeartbeats 4000000
namespace L2
open PySem PySem.Spec PyProof.Rows PySem.W
section
variable {X : Cx}
/-! ### == of two tuples of ints -/

/-! ### a, b = a list -/

/-! ### a comprehension's free names -/
theorem clo_aux {env : Env} : ∀ (names : List (Str × NameKind)) (acc : List (Str × Addr)), (∀ y, (y, NameKind.free) ∈ names → ∃ c, env.cells.lookup y = some c) →
    ∃ cl : List (Str × Addr), (forIn names acc (fun x r => match x with
        | (name, kind) => if (kind == NameKind.free) = true then do let a ← cellOf env name; pure (ForInStep.yield ((name, a) :: r)) else pure (ForInStep.yield r)) : Sem _) = pure cl ∧
      (∀ y c, cl.lookup y = some c → acc.lookup y = some c ∨ env.cells.lookup y = some c) ∧ (∀ y, (y, NameKind.free) ∈ names → ∃ c, cl.lookup y = some c) ∧ ∀ y, (∃ c, acc.lookup y = some c) → ∃ c, cl.lookup y = some c
  | [], acc, _ => ⟨acc, rfl, fun _ _ h => .inl h, (fun _ h => nomatch h), fun _ h => h⟩
  | (nm, kd) :: r, acc, h => by
    by_cases hk : kd = .free
    · subst hk
      obtain ⟨c, hc⟩ := h nm List.mem_cons_self
      obtain ⟨cl, e, p1, p2, p3⟩ := clo_aux r ((nm, c) :: acc) fun y hy => h y (List.mem_cons_of_mem _ hy)
      refine ⟨cl, ?_, fun y d hd => ?_, fun y hy => ?_, fun y hy => ?_⟩
      · rw [List.forIn_cons]
        have z : cellOf env nm = pure c := by unfold cellOf; rw [hc]
        simp only [z, beq_self_eq_true, if_true]
        exact e
      · rcases p1 y d hd with q | q
        · rw [List.lookup_cons] at q
          cases hy : y == nm with
          | true =>
            rw [hy] at q
            have e1 := beq_iff_eq.mp hy
            subst e1
            cases q
            exact .inr hc
          | false => rw [hy] at q; exact .inl q
        · exact .inr q
      · rcases List.mem_cons.mp hy with q | q
        · cases q
          exact p3 nm ⟨c, by rw [List.lookup_cons, beq_self_eq_true]⟩
        · exact p2 y q
      · obtain ⟨d, hd⟩ := hy
        refine p3 y ?_
        rw [List.lookup_cons]
        cases y == nm with
        | true => exact ⟨c, rfl⟩
        | false => exact ⟨d, hd⟩
    · obtain ⟨cl, e, p1, p2, p3⟩ := clo_aux r acc fun y hy => h y (List.mem_cons_of_mem _ hy)
      refine ⟨cl, ?_, p1, fun y hy => ?_, p3⟩
      · rw [List.forIn_cons]
        have z : (kd == NameKind.free) = false := by simpa using hk
        simp only [z, Bool.false_eq_true, if_false]
        exact e
      · rcases List.mem_cons.mp hy with q | q
        · cases q; exact absurd rfl hk
        · exact p2 y q
theorem clo_of {scope : Scope} {env : Env} (h : ∀ y, (y, NameKind.free) ∈ scope.names → ∃ c, env.cells.lookup y = some c) :
    ∃ cl, closureFor scope env = pure cl ∧ (∀ y c, cl.lookup y = some c → env.cells.lookup y = some c) ∧ ∀ y, (y, NameKind.free) ∈ scope.names → ∃ c, cl.lookup y = some c := by
  obtain ⟨cl, e, p1, p2, _⟩ := clo_aux (env := env) scope.names [] h
  refine ⟨cl, ?_, fun y c hc => (p1 y c hc).elim (fun z => by cases z) fun z => z, p2⟩
  unfold closureFor
  show (forIn scope.names [] _ >>= fun s => pure s) = pure cl
  rw [bind_pure]
  exact e
/-- what the block's free names ask: each is one of those at js -/
theorem free_of {scope : Scope} {js : List Nat} {pins : List (Addr × Obj)} {σ : St} {H : Hp} {s : Shared} (I : Inv X pins σ H s) (hf : ∀ y, (y, NameKind.free) ∈ scope.names → X.env.kindOf y = some .cell ∨ X.env.kindOf y = some .free) :
    ∀ y, (y, NameKind.free) ∈ scope.names → ∃ c, X.env.cells.lookup y = some c := fun y hy => I.ok.has y (hf y hy)
variable {elt iter : Expr} {x : Str} {px pos : Pos} {ifs : List Expr} {scope : Scope} {wi : TI} {tc : TT} {te : TE} {js : List Nat}
theorem pe_compF (hc : X.calm = true) (hi : PI X (.Name x px) iter wi) (hk : scope.kind = .function) (hcell : ∀ y ∈ scope.names, y.2 ≠ .cell) (hnames : ∀ y ∈ scope.names, y.2 = .local → scope.names.lookup y.1 = some .local) (hx : (relabel scope X.env).names.lookup x = some .local)
    (hf : ∀ p ∈ scope.names, p.2 = .free → X.env.kindOf p.1 = some .cell ∨ X.env.kindOf p.1 = some .free) (hjs : FreeAt X scope js) (hnd : (cNames X x js).Nodup)
    (ht : ∀ cl s' H' fp, PIf (cxComp X scope cl (cNames X x js) s' H' fp) ifs tc) (he : ∀ cl s' H' fp, PE (cxComp X scope cl (cNames X x js) s' H' fp) elt te)
    (hs : ∀ x, foldedSetIterable iter X.env x = pure x := by intro _; rfl) : PE X (.ListComp elt [⟨.Name x px, iter, ifs, 0⟩] scope pos) (tComp wi tc te js) := by
  intro pins s σ H Q I h
  obtain ⟨cl, e, p1, p2⟩ := clo_of (free_of (js := js) I fun y hy => hf (y, .free) hy rfl)
  exact pe_comp hc hi hk hcell hnames hx e p1 p2 hjs hnd (ht cl) (he cl) hs pins s σ H Q I h
end
end L2


set_option Elab.async false
set_option maxRecDepth 100000
set_option maxHeartbeats 4000000
/-! ### the law's call, with the bound of its ints' bits -/
namespace L2
open PySem PySem.Spec PyProof.Rows PySem.W
theorem weight_mem : ∀ {ns : List Int} {n : Int}, n ∈ ns → WData.weight (.int n) ≤ WData.weightAll (ns.map WData.int)
  | [], _, h => nomatch h
  | m :: r, n, h => by
    show _ ≤ WData.weight (.int m) + 1 + WData.weightAll (r.map WData.int)
    rcases List.mem_cons.mp h with e | e
    · subst e; omega
    · have := weight_mem (ns := r) e
      omega
theorem bits_weight (n : Int) : Builtin.Int.intBits n = WData.weight (.int n) := by
  show _ = if n == 0 then 0 else n.natAbs.log2 + 1
  unfold Builtin.Int.intBits
  by_cases h : n = 0
  · subst h; rfl
  · simp [h]
theorem script_bits {ns : List Int} (h : WData.layableAll [.list (ns.map .int)] = true) : ∀ n ∈ ns, Builtin.Int.intBits n ≤ 1048576 := fun n hn => by
  have h1 : WData.layable (.list (ns.map .int)) = true := by
    simpa [WData.layableAll] using h
  have h2 : WData.weight (.list (ns.map .int)) ≤ 2 ^ 20 := by
    unfold WData.layable at h1
    rw [Bool.and_eq_true, Bool.and_eq_true] at h1
    exact of_decide_eq_true h1.2
  have h3 : WData.weightAll (ns.map WData.int) ≤ 2 ^ 20 := h2
  have h4 := weight_mem hn
  rw [bits_weight]
  omega
theorem walk_bits {l : OpenLaw} {n k : Nat} {q : Program} {loose : List Str} {XP : (Str → Option Value) → Heap → Prop} {YP : World → Heap → Prop} {d : DefRec} {K : Params → Frag} {CX : CXT} {sp : Frag → Sp} {x : Str}
    (hn : l.most = some n) (hn2 : n ≤ sizeLine) (hdf : d.params.defaults = []) (hr : Room k callerA) (hY : ∀ (w : World) (h : Heap), YP w h → (K w.params).In h)
    (F : ∀ (w : World) (mg : Str → Option Value) (fa : Addr) (h : Heap), (K w.params).In h → h.Ns mainGlobals mg → mg d.name = some (.ref fa) →
      ∃ fd : FuncData, (∀ (s : Shared) (u : Value), BindsTo s fd ⟨[u], []⟩ [(x, u)]) ∧ ∀ base : Heap, (K w.params).In base → base.Ns mainGlobals mg → FnOk l.prog w (K w.params) mg base CX k fa fd [x] (sp (K w.params)))
    (hsp : ∀ (K : Frag) (H : Hp) (a : Addr) (ns : List Int), ns.length ≤ n → (∀ m ∈ ns, Builtin.Int.intBits m ≤ 1048576) → Only H → SqL K H a (ns.map V.int) → sp K [.ref a] H (fun v _ => v = .bl true) fun _ _ _ => False)
    (hCX : ∀ (H : Hp) (s : Shared) (e : Value) (s' : Shared), CX [] H s (fun _ _ _ => False) e s' → False) : WalkO q loose XP YP l.row.toRowW d [] (fun f vs => PySem.call f vs) := by
  intro w s₀ s₁ mg mb G Y fa o pm cd doc dV kV ho hd hcd hD hmg hg args vals as hpre hlay hrd hwl hlo
  obtain rfl : dV = .none := Dflts.none hD hdf
  obtain rfl : kV = .none := Dflts.noKw hD
  obtain ⟨a, vs, ns, rfl, rfl, hobj, hints, hlen⟩ := Att.script_of hn hpre hwl
  have KX := hY w _ Y
  obtain ⟨fd, hb, hF⟩ := F w mg fa _ KX G.T.g hmg
  have c := law_call KX G.T.g G.T.b G.T.builtins G.T.nolimit hg hobj hints (Nat.le_trans hlen hn2) hr hF hb (fun H hO hS => hsp (K w.params) H a ns hlen (script_bits hlay) hO hS) fun H e s' => hCX H s₁ e s'
  refine enter_call (codeAny_mono c fun r s' hq => ?_)
  obtain ⟨rfl, h2, h3, h4⟩ := hq
  exact ⟨.inl ⟨.bool true, .bool true, [], rfl, fun _ => rfl, .bool true, Att.post_true l _, fun _ => ⟨List.Pairwise.nil, fun _ hm => (nomatch hm)⟩⟩, h2, h3, h4⟩
end L2


namespace L2
open PySem PySem.Spec PyProof.Rows

/-! ### lists of pairs as tables -/
section
variable {κ : Type} [DecidableEq κ]



end


/-! ### a tracked dict, its keys ints and texts or tuples of these -/


section
variable {P : Program} {w : World} {H : Hp} {h : Heap} {a : Addr}
end



section
variable {X : Cx} {pins : List (Addr × Obj)} {σ : St} {H : Hp} {s : Shared} {a : Addr} {y v : V} {u r : Value} {o : Option V} {A : Around} {E : Value → Shared → Prop}


end

section
variable {X : Cx} {pins : List (Addr × Obj)} {σ : St} {H : Hp} {s : Shared} {a : Addr} {kvs : List (Key × V)} {k : Key} {u : Value} {A : Around} {E : Value → Shared → Prop}
end


/-! ### readings and rules -/



section
variable {X : Cx} {o i e value : Expr} {pos pos' tpos : Pos} {td ty tv : TE}
end


/-! ### displays -/
section
variable {X : Cx} {pos : Pos}
end




/-! ### methods -/
/-- a method call o.m(e) of a built-in, with one argument: what must be seen of the text -/
structure M1 (X : Cx) (o : Expr) (m : Str) (apos : Pos) (e : Expr) (cpos : Pos) : Prop where
  base : attributeBase o m X.env (eval o X.env) = eval o X.env
  few : ((backTo cpos (starEach [e] X.env)).all (fun x => !x.1) && (backToKw cpos (keywordEach [] X.env)).all (fun x => x.1.isSome)
    && decide (([e] : List Expr).length + ([] : List Keyword).length + (if ([] : List Keyword).isEmpty then 0 else 1) < 30)) = true
  line : (apos.endLine == cpos.line) = true
  trees : backTo cpos (starEach [e] X.env) = [(false, eval e X.env)]


section
variable {X : Cx} {pins : List (Addr × Obj)} {σ : St} {H : Hp} {s : Shared} {a : Addr} {y d : V} {u r : Value} {o : Option V} {A : Around} {E : Value → Shared → Prop}
end

section
variable {X : Cx} {o e f : Expr} {apos cpos : Pos} {td ty tx : TE}
end

/-! ### dict(d): a copy -/
section
variable {X : Cx} {pins : List (Addr × Obj)} {σ : St} {H : Hp} {s : Shared} {a : Addr} {kvs : List (Key × V)} {A : Around} {E : Value → Shared → Prop}
end


section
variable {X : Cx} {pins : List (Addr × Obj)} {σ : St} {H : Hp} {s : Shared} {a : Addr} {y : V} {u : Value} {A : Around} {E : Value → Shared → Prop}
end
end L2


set_option Elab.async false
set_option linter.all false
set_option maxRecDepth 100000
set_option maxHeartbeats 4000000
namespace L2
open PySem PySem.Spec PyProof.Rows
/-! ### list(reversed(a list)) -/
section
variable {prog : Program} {w : World} {A : Around} {E : Value → Shared → Prop} {s : Shared} {R : Result → Shared → Prop} {l it S : Addr} {items : Array Value}
end
end L2


set_option Elab.async false
set_option linter.all false
set_option maxRecDepth 100000
set_option maxHeartbeats 4000000
namespace L2
open PySem PySem.Spec PyProof.Rows
/-! ### a method of whatever class the object is of -/
/-- the method m of the class C keeps sp -/
structure MethOk (P : Program) (w : World) (K : PySem.W.Frag) (mg : Str → Option Value) (base : Heap) (C : Addr) (m : Str) (k : Nat) (ps : List Str) (sp : Sp) : Prop where
  cl : Cls K C
  ex : ∃ (f : Addr) (fd : FuncData), Meth K C m f ∧ FnOk P w K mg base CX0 k f fd ps sp ∧ Binds K fd ps []
section
variable {X : Cx} {o e : Expr} {es : List Expr} {ta te : TE} {t : TA} {m x : Str} {k : Nat} {p pos apos p2 pos2 : Pos} {C : Addr}
def tMethD (X : Cx) (k : Nat) (m : Str) (ta : TE) (t : TA) : TE := fun σ H Q => ta σ H fun x H1 => ∃ (a C dx : Addr) (fs : List (Str × V)) (ps : List Str) (sp : Sp), x = .ref a ∧ H1 a = some (.ins C dx fs) ∧ fs.lookup m = none ∧
  MethOk X.prog X.w X.K X.mg X.base C m k ps sp ∧ t σ H1 fun vs H2 => sp (.ref a :: vs) H2 Q E0
/-- o.m() -/
theorem pe_methD0 {pl : Sem Bool} (he : PE X o ta) (hr : Room k X.A)
    (ht : eval (.Call (.Attribute o m apos) [] [] pos) X.env = (do
      let ov ← eval o X.env
      standAt apos.atName
      let (f, first) ← holding [ov] (getMethod ov m pl)
      callWith pos f first (backTo pos (starEach [] X.env)) (backToKw pos (keywordEach [] X.env))) := by rfl) :
    PE X (.Call (.Attribute o m apos) [] [] pos) (tMethD X k m ta tNil) := by
  intro pins s σ H Q I h
  refine PySem.W.methodCall_KW (pl := pl) (thn (he pins s σ H _ I h) fun u s1 ⟨y, H1, I1, ry, a, C, dx, fs, ps, sp, ey, ea, lo, M, q⟩ => ?_) ht
  subst ey
  have eu : u = Value.ref a := ry
  subst eu
  obtain ⟨f, fd, hm, G, hb⟩ := M.ex
  refine getmeth_ok I1 ea M.cl hm lo ?_
  exact PySem.W.callWith_K0 (first := [.ref a]) I1.kIn hm.kp (run_fn (us := [.ref a]) (vs := [.ref a]) G hr hb .nil pass0 I1 (.cons rfl .nil) q)
/-! ### C(), no __init__ of its own -/
structure Mk0 (K : PySem.W.Frag) (C : Addr) : Prop where
  makes : PySem.W.makesIn K C = true
  init : PySem.W.findIn K (.ref C) "__init__" = some (some (.builtin "object.__init__"))
  kp : PySem.W.keepIn K (.ref C) = true
def tMakeN (C : Addr) : TE := fun _ H Q => ∀ a dx, H a = none → H dx = none → dx ≠ a → Q (.ref a) (upd (upd H dx (.own a)) a (.ins C dx []))
theorem pe_makeN (M : Mk0 X.K C) (hg : Gl X x) (hm : X.mg x = some (.ref C)) (hdb : (x == ("__debug__" : Str)) = false := by decide) : PE X (.Call (.Name x p) [] [] pos) (tMakeN C) := by
  intro pins s σ H Q I h
  refine wpAny_Call_Name_kw (ld_glob I hg hm ?_ hdb)
  refine PySem.W.callWith_K0 I.kIn M.kp (wpAny_call ?_)
  have Y := PySem.W.makes_of (M := model X.prog X.w) I.kIn M.makes
  refine make_map0 I.kIn M.makes M.init (fun self => PySem.W.Looks.of_pure (PySem.W.oi_bind self)) ?_
  have I2 := Inv.made (C := C) I
  have e2 : ((s.heap.push PySem.W.emptyDict).push (PySem.W.instObj C s.heap.objs.size)).get? (s.heap.objs.size + 1) = some (PySem.W.instObj C s.heap.objs.size) := by
    have z := Heap.get?_push_size (s.heap.push PySem.W.emptyDict) (o := PySem.W.instObj C s.heap.objs.size) rfl
    rwa [Heap.size_push] at z
  have t1 : PySem.W.Looks (model X.prog X.w) ((s.heap.push PySem.W.emptyDict).push (PySem.W.instObj C s.heap.objs.size)) (typeOf (.ref (s.heap.objs.size + 1))) (.ref C) := (PySem.W.Looks.ld e2).andThen .now
  have t2 : PySem.W.Looks (model X.prog X.w) ((s.heap.push PySem.W.emptyDict).push (PySem.W.instObj C s.heap.objs.size)) (isInstance (.ref (s.heap.objs.size + 1)) (.type "object")) true :=
    t1.andThen (Y.top.keeps fun b q z => Heap.get?_push_of_some _ (Heap.get?_push_of_some _ z))
  have z := h (s.heap.objs.size + 1) s.heap.objs.size (I.hok.fresh (Nat.le_succ _)) (I.hok.fresh (Nat.le_refl _)) (Nat.ne_of_lt (Nat.lt_succ_self _))
  refine codeAny_call_builtin PySem.W.oi_plain PySem.W.entry_oi (PySem.W.check_slot (i := "object.__init__") (owner := "object") (n := "__init__") (self := .ref (s.heap.objs.size + 1)) (rest := []) (kw := []) PySem.W.oi_kind PySem.W.oi_split t2 (PySem.W.oi_args _) ?_)
  rw [PySem.W.oi_run]
  exact wpAny_pure (And.intro rfl ⟨V.ref (s.heap.objs.size + 1), _, I2, rfl, z⟩)
/-! ### list(reversed(e)) -/
/-! ### != of two lists of texts -/
end
end L2


set_option Elab.async false
set_option linter.all false
set_option maxRecDepth 100000
set_option maxHeartbeats 4000000
namespace Mine
open PySem
/-! ### sayings as trees -/
inductive W5 where
  | more | less | greater | lesser | leads
def W5.str : W5 → Str
  | .more => "more" | .less => "less" | .greater => "greater" | .lesser => "lesser" | .leads => "leads"
inductive Tr where
  | never | always | lp | lq
  | no (t : Tr)
  | fold (w : W5) (a b : Tr)
def Tr.size : Tr → Nat
  | .no t => t.size + 1
  | .fold _ a b => a.size + b.size + 1
  | _ => 1
theorem Tr.size_pos : ∀ t : Tr, 1 ≤ t.size
  | .never | .always | .lp | .lq => Nat.le_refl _
  | .no _ => Nat.le_add_left _ _
  | .fold _ _ _ => Nat.le_add_left _ _
def Tr.words : Tr → List Str
  | .never => ["never"]
  | .always => ["always"]
  | .lp => ["p"]
  | .lq => ["q"]
  | .no t => "not" :: t.words
  | .fold w a b => "(" :: (a.words ++ w.str :: (b.words ++ [(")" : Str)]))
def Tr.text : Tr → Str
  | .never => "never"
  | .always => "always"
  | .lp => "p"
  | .lq => "q"
  | .no t => "not " ++ t.text
  | .fold w a b => "( " ++ a.text ++ " " ++ w.str ++ " " ++ b.text ++ " )"
theorem sapp (a b c : Str) : a ++ b ++ c = a ++ (b ++ c) := congrArg Str.mk (Array.append_assoc ..)
theorem words_cons : ∀ t : Tr, ∃ x r, t.words = x :: r
  | .never => ⟨_, _, rfl⟩
  | .always => ⟨_, _, rfl⟩
  | .lp => ⟨_, _, rfl⟩
  | .lq => ⟨_, _, rfl⟩
  | .no _ => ⟨_, _, rfl⟩
  | .fold _ _ _ => ⟨_, _, rfl⟩
theorem sjoin_app (sep : Str) (y : Str) (ys : List Str) : ∀ (x : Str) (xs : List Str), Str.join sep ((x :: xs) ++ (y :: ys)) = Str.join sep (x :: xs) ++ sep ++ Str.join sep (y :: ys)
  | x, [] => rfl
  | x, z :: r => by
    have ih := sjoin_app sep y ys z r
    show x ++ sep ++ Str.join sep ((z :: r) ++ (y :: ys)) = x ++ sep ++ Str.join sep (z :: r) ++ sep ++ Str.join sep (y :: ys)
    rw [ih]
    simp only [sapp]
theorem sjoin_words (sep : Str) (t : Tr) (y : Str) (ys : List Str) : Str.join sep (t.words ++ (y :: ys)) = Str.join sep t.words ++ sep ++ Str.join sep (y :: ys) := by
  obtain ⟨x, r, e⟩ := words_cons t
  rw [e]
  exact sjoin_app sep y ys x r
theorem not_str : ("not " : Str) = "not" ++ " " := by decide +kernel
theorem op_str : ("( " : Str) = "(" ++ " " := by decide +kernel
theorem cl_str : (" )" : Str) = " " ++ ")" := by decide +kernel
theorem text_join : ∀ t : Tr, Str.join " " t.words = t.text
  | .never => rfl
  | .always => rfl
  | .lp => rfl
  | .lq => rfl
  | .no t => by
    have ih := text_join t
    obtain ⟨x, r, e⟩ := words_cons t
    show Str.join " " ("not" :: t.words) = "not " ++ t.text
    rw [not_str, ← ih, e]
    rfl
  | .fold w a b => by
    have ia := text_join a
    have ib := text_join b
    obtain ⟨x, r, e⟩ := words_cons a
    obtain ⟨x2, r2, e2⟩ := words_cons b
    have h1 : Str.join " " ("(" :: (a.words ++ w.str :: (b.words ++ [(")" : Str)]))) = "(" ++ " " ++ Str.join " " (a.words ++ w.str :: (b.words ++ [(")" : Str)])) := by rw [e]; rfl
    have h2 : Str.join " " (w.str :: (b.words ++ [(")" : Str)])) = w.str ++ " " ++ Str.join " " (b.words ++ [(")" : Str)]) := by rw [e2]; rfl
    have h3 : Str.join " " [(")" : Str)] = ")" := rfl
    show Str.join " " ("(" :: (a.words ++ w.str :: (b.words ++ [(")" : Str)]))) = "( " ++ a.text ++ " " ++ w.str ++ " " ++ b.text ++ " )"
    rw [h1, sjoin_words, h2, sjoin_words, h3, ia, ib, op_str, cl_str]
    simp only [sapp]
/-! ### a text is of one tree -/
def W5.chars : W5 → List Nat
  | .more => [109, 111, 114, 101]
  | .less => [108, 101, 115, 115]
  | .greater => [103, 114, 101, 97, 116, 101, 114]
  | .lesser => [108, 101, 115, 115, 101, 114]
  | .leads => [108, 101, 97, 100, 115]
theorem W5.chars_str (w : W5) : w.str.cps.toList = w.chars := by cases w <;> decide +kernel
def Tr.chars : Tr → List Nat
  | .never => [110, 101, 118, 101, 114]
  | .always => [97, 108, 119, 97, 121, 115]
  | .lp => [112]
  | .lq => [113]
  | .no t => [110, 111, 116, 32] ++ t.chars
  | .fold w a b => [40, 32] ++ a.chars ++ [32] ++ w.chars ++ [32] ++ b.chars ++ [32, 41]
theorem sapp_cps (a b : Str) : (a ++ b).cps.toList = a.cps.toList ++ b.cps.toList := by
  show (a.cps ++ b.cps).toList = _
  exact Array.toList_append
theorem s_not : ("not " : Str).cps.toList = [110, 111, 116, 32] := by decide +kernel
theorem s_op : ("( " : Str).cps.toList = [40, 32] := by decide +kernel
theorem s_cl : (" )" : Str).cps.toList = [32, 41] := by decide +kernel
theorem s_sp : (" " : Str).cps.toList = [32] := by decide +kernel
theorem chars_text : ∀ t : Tr, t.text.cps.toList = t.chars
  | .never => by decide +kernel
  | .always => by decide +kernel
  | .lp => by decide +kernel
  | .lq => by decide +kernel
  | .no t => by
    show (("not " : Str) ++ t.text).cps.toList = _
    rw [sapp_cps, s_not, chars_text t]
    rfl
  | .fold w a b => by
    show (("( " : Str) ++ a.text ++ " " ++ w.str ++ " " ++ b.text ++ " )").cps.toList = _
    simp only [sapp_cps, s_op, s_cl, s_sp, chars_text a, chars_text b, W5.chars_str]
    rfl
theorem text_len : ∀ t : Tr, t.text.length ≤ 16 * t.size := by
  have key : ∀ t : Tr, t.chars.length ≤ 16 * t.size := by
    intro t
    induction t with
    | no t ih => simp only [Tr.chars, Tr.size, List.length_append, List.length_cons, List.length_nil]; omega
    | fold w a b ia ib =>
      have hw : w.chars.length ≤ 7 := by cases w <;> decide
      simp only [Tr.chars, Tr.size, List.length_append, List.length_cons, List.length_nil]; omega
    | _ => decide
  intro t
  have e : t.text.length = t.chars.length := by
    rw [← chars_text t, Array.length_toList]
    rfl
  rw [e]
  exact key t
/-! ### worths, putting in, the parts in their order -/
def Tr.post : Tr → List Tr
  | .no t => t.post ++ [.no t]
  | .fold w a b => a.post ++ b.post ++ [.fold w a b]
  | t => [t]
theorem post_len : ∀ t : Tr, t.post.length = t.size
  | .no t => by simp [Tr.post, Tr.size, post_len t]
  | .fold w a b => by simp [Tr.post, Tr.size, post_len a, post_len b]; omega
  | .never => rfl
  | .always => rfl
  | .lp => rfl
  | .lq => rfl
end Mine


set_option Elab.async false
set_option linter.all false
set_option maxRecDepth 100000
set_option maxHeartbeats 4000000
namespace L2
open PySem PySem.Spec PyProof.Rows

/-! ### data in the heap: ints, truths, texts, None, and tuples of these -/
mutual
def Dat (K : PySem.W.Frag) (H : Hp) : PyData → V → Prop
  | .none, v => v = .non
  | .bool b, v => v = .bl b
  | .int i, v => v = .int i
  | .str x, v => v = .str x
  | .tuple ds, v => ∃ a xs, v = .ref a ∧ SqT K H a xs ∧ DatAll K H ds xs
  | .list _, _ => False
  | .dict _, _ => False
def DatAll (K : PySem.W.Frag) (H : Hp) : List PyData → List V → Prop
  | [], xs => xs = []
  | d :: ds, xs => ∃ x r, xs = x :: r ∧ Dat K H d x ∧ DatAll K H ds r
end
/-- tuples, and what is frozen, stay -/
structure Tst (H H' : Hp) : Prop where
  t : ∀ b xs, H b = some (.tup xs) → H' b = some (.tup xs)
  f : ∀ b o u, H b = some (.frz o u) → H' b = some (.frz o u)
theorem Same.ts {H H' : Hp} (e : Same H H') : Tst H H' := ⟨fun b xs h => e b _ h, fun b o u h => e b _ h⟩
theorem SqT.ts {K : PySem.W.Frag} {H H' : Hp} {a : Addr} {xs : List V} (h : SqT K H a xs) (e : Tst H H') : SqT K H' a xs := by
  rcases h with (h | ⟨o, h⟩) | h
  · exact .inl (.inl (e.t _ _ h))
  · exact .inl (.inr ⟨o, e.f _ _ _ h⟩)
  · exact .inr h
mutual
theorem Dat.ts {K : PySem.W.Frag} {H H' : Hp} (e : Tst H H') : ∀ {d : PyData} {v : V}, Dat K H d v → Dat K H' d v
  | .none, _, h => h
  | .bool _, _, h => h
  | .int _, _, h => h
  | .str _, _, h => h
  | .tuple _, _, ⟨a, xs, h1, h2, h3⟩ => ⟨a, xs, h1, h2.ts e, DatAll.ts e h3⟩
  | .list _, _, h => h
  | .dict _, _, h => h
theorem DatAll.ts {K : PySem.W.Frag} {H H' : Hp} (e : Tst H H') : ∀ {ds : List PyData} {xs : List V}, DatAll K H ds xs → DatAll K H' ds xs
  | [], _, h => h
  | _ :: _, _, ⟨x, r, h1, h2, h3⟩ => ⟨x, r, h1, Dat.ts e h2, DatAll.ts e h3⟩
end
mutual
theorem Dat.reads {X : Cx} {pins : List (Addr × Obj)} {σ : St} {H : Hp} {s : Shared} (I : Inv X pins σ H s) : ∀ (d : PyData) {v : V} {u : Value}, Dat X.K H d v → RelV v u → ∃ as, Reads s.heap u d as
  | .none, _, _, h, r => by
    cases (show _ = V.non from h)
    cases (show _ = Value.none from r)
    exact ⟨[], .none⟩
  | .bool b, _, _, h, r => by
    cases (show _ = V.bl b from h)
    cases (show _ = Value.bool b from r)
    exact ⟨[], .bool b⟩
  | .int i, _, _, h, r => by
    cases (show _ = V.int i from h)
    obtain ⟨t, q⟩ := (show ∃ t, _ = Value.int i t from r)
    cases q
    exact ⟨[], .int i t⟩
  | .str x, _, _, h, r => by
    cases (show _ = V.str x from h)
    obtain ⟨t, q⟩ := (show ∃ t, _ = Value.str x t from r)
    cases q
    exact ⟨[], .str x t⟩
  | .tuple ds, _, _, ⟨a, xs, h1, h2, h3⟩, r => by
    cases h1
    cases (show _ = Value.ref a from r)
    obtain ⟨its, rv, ⟨o, ho, hc, n, hd⟩, _⟩ := I.tuple h2
    obtain ⟨as, ra⟩ := DatAll.reads I ds h3 rv
    exact ⟨as, .tuple ho hc hd (by simpa using ra)⟩
  | .list _, _, _, h, _ => False.elim h
  | .dict _, _, _, h, _ => False.elim h
theorem DatAll.reads {X : Cx} {pins : List (Addr × Obj)} {σ : St} {H : Hp} {s : Shared} (I : Inv X pins σ H s) : ∀ (ds : List PyData) {xs : List V} {us : List Value}, DatAll X.K H ds xs → Vals xs us → ∃ as, ReadsAll s.heap us ds as
  | [], _, _, h, r => by
    cases (show _ = ([] : List V) from h)
    cases r
    exact ⟨[], .nil⟩
  | d :: ds, _, _, ⟨x, t, h1, h2, h3⟩, r => by
    cases h1
    cases r with
    | cons r1 r2 =>
      obtain ⟨as, a1⟩ := Dat.reads I d h2 r1
      obtain ⟨bs, b1⟩ := DatAll.reads I ds h3 r2
      exact ⟨as ++ bs, .cons a1 b1⟩
end
/-- such data, or a list of such data -/
def DatX (K : PySem.W.Frag) (H : Hp) (d : PyData) (v : V) : Prop := Dat K H d v ∨ ∃ ds a xs, d = .list ds ∧ v = .ref a ∧ SqL K H a xs ∧ DatAll K H ds xs
theorem DatX.reads {X : Cx} {pins : List (Addr × Obj)} {σ : St} {H : Hp} {s : Shared} {d : PyData} {v : V} {u : Value} (I : Inv X pins σ H s) (h : DatX X.K H d v) (r : RelV v u) : ∃ as, Reads s.heap u d as := by
  rcases h with h | ⟨ds, a, xs, rfl, rfl, h2, h3⟩
  · exact Dat.reads I d h r
  · cases (show _ = Value.ref a from r)
    obtain ⟨its, rv, ⟨o, n, ho, hc, _, hd⟩, _⟩ := I.list h2
    obtain ⟨as, ra⟩ := DatAll.reads I ds h3 rv
    exact ⟨a :: as, .list ho hc hd (by simpa using ra)⟩
section
variable {X : Cx}
def rEqD (K : PySem.W.Frag) : R2 := fun x y H Q => ∃ d e, DatX K H d x ∧ DatX K H e y ∧ SeqAt.shaped d = true ∧ SeqAt.shaped e = true ∧ Q (.bl (PyData.eqv d e)) H
theorem op_eqD (hu : X.A.units + 64 < cLine) : OpR X (compareOp .Eq) (rEqD X.K) := by
  intro pins s σ H x y v u Q I rx ry h
  obtain ⟨d, e, hd, he, sd, se, q⟩ := h
  obtain ⟨as, ra⟩ := hd.reads I rx
  obtain ⟨bs, rb⟩ := he.reads I ry
  exact eq_dataH ra rb sd se hu ⟨.bl _, H, I, rfl, q⟩
/-! ### isinstance of a tuple, a list that is read -/
/-! ### all, any of a list of truths -/
end
/-! ### the same, where the context's K is named (within a comprehension the reading may not name the context) -/
section
variable {X : Cx} {K : PySem.W.Frag}
end
/-! ### what such data say when they are compared -/
/-! ### a tuple, an int that stands at the top -/
theorem topint_mk {K : PySem.W.Frag} {h : Heap} {mg : Str → Option Value} {x : Str} {v : Value} {n : Int} (X : K.In h) (G : h.Ns mainGlobals mg) (e : PySem.W.nsIn K mainGlobals x = some (some v)) (q : ∃ t, v = .int n t) : ∃ t, mg x = some (.int n t) := by
  obtain ⟨t, rfl⟩ := q
  exact ⟨t, PySem.W.mg_of X G e⟩
end L2


set_option Elab.async false
namespace Mine
namespace Lo
end Lo

/-! ### stretches and lines, as they are told -/
namespace Ln
/-! ### the stretch in which x lies -/
end Ln
end Mine


set_option Elab.async false
set_option linter.all false
set_option maxRecDepth 100000
set_option maxHeartbeats 4000000
namespace Mine
open PySem L2
/-! ### small numbers -/
abbrev bits (x : Int) : Nat := Builtin.Int.intBits x
/-! ### items of the script -/
theorem at_of {xs : List V} {i : Int} {x : V} (h0 : 0 ≤ i) (h : xs[i.toNat]? = some x) : atI xs i = some x := by
  have ek : i = ((i.toNat : Nat) : Int) := by omega
  rw [ek]
  exact atI_nat h
/-- a script as the law has it: a list of at most 63 ints, each of at most 2 ** 20 bits; it is frozen -/
structure Scr (K : PySem.W.Frag) (H : Hp) (a : Addr) (ns : List Int) : Prop where
  sq : (∃ o, H a = some (.frz o (.lst (ns.map V.int)))) ∨ ∃ (o : Obj) (its : Array Value) (n : Nat), K.lookup a = some o ∧ o.cls = .type "list" ∧ o.dict = none ∧ o.data = .seq its n ∧ its.size ≤ sizeLine ∧ Vals (ns.map V.int) its.toList
  few : ns.length ≤ 63
  bit : ∀ n ∈ ns, bits n ≤ 1048576
theorem Scr.l {K : PySem.W.Frag} {H : Hp} {a : Addr} {ns : List Int} (S : Scr K H a ns) : SqL K H a (ns.map V.int) := S.sq.elim (fun h => .inl (.inr h)) .inr
theorem Scr.ts {K : PySem.W.Frag} {H H' : Hp} {a : Addr} {ns : List Int} (S : Scr K H a ns) (e : Tst H H') : Scr K H' a ns := ⟨S.sq.elim (fun ⟨o, h⟩ => .inl ⟨o, e.f _ _ _ h⟩) .inr, S.few, S.bit⟩
theorem scr_of {K : PySem.W.Frag} {H : Hp} {a : Addr} {ns : List Int} (O : Only H) (h : SqL K H a (ns.map V.int)) (few : ns.length ≤ 63) (bit : ∀ n ∈ ns, bits n ≤ 1048576) : Scr K H a ns := by
  refine ⟨?_, few, bit⟩
  rcases h with (h | h) | h
  · exfalso
    rcases O a with z | ⟨o, xs, z⟩
    · rw [h] at z; cases z
    · rw [h] at z; cases z
  · exact .inl h
  · exact .inr h
theorem same_new {H : Hp} {p : Addr} (h : H p = none) (o : HO) : Same H (upd H p o) := fun b u q => by rw [upd_ne (ne_of_none q h)]; exact q
/-! ### fractions, stretches, lines as data -/
section
variable {K : PySem.W.Frag} {H H' : Hp} {a : Addr} {v e : V} {p q m h : Int} {s : St4} {L : List St4}
end
mutual
theorem eqv_self : ∀ d : PyData, d.canLay0 = true → PyData.eqv d d = true
  | .none, _ => by simp [PyData.eqv]
  | .bool _, _ => by simp [PyData.eqv]
  | .int _, _ => by simp [PyData.eqv]
  | .str _, _ => by simp [PyData.eqv]
  | .list xs, h => by simp only [PyData.eqv]; exact eqvAll_self xs (by simpa [PyData.canLay0] using h)
  | .tuple xs, h => by simp only [PyData.eqv]; exact eqvAll_self xs (by simpa [PyData.canLay0] using h)
  | .dict _, h => by simp [PyData.canLay0] at h
theorem eqvAll_self : ∀ xs : List PyData, PyData.canLayAll0 xs = true → PyData.eqvAll xs xs = true
  | [], _ => by simp [PyData.eqvAll]
  | x :: xs, h => by
    have h' : x.canLay0 = true ∧ PyData.canLayAll0 xs = true := by simpa [PyData.canLayAll0] using h
    simp [PyData.eqvAll, eqv_self x h'.1, eqvAll_self xs h'.2]
end
end Mine


set_option Elab.async false
set_option linter.all false
set_option maxRecDepth 100000
set_option maxHeartbeats 4000000
namespace Mine
open PySem L2
/-! ### what stands in the heap -/
/-- tuples and instances stay -/
def fixO : HO → Bool
  | .tup _ => true
  | .ins _ _ _ => true
  | .own _ => true
  | .frz _ _ => true
  | _ => false
def Kp (H H' : Hp) : Prop := ∀ b o, H b = some o → fixO o = true → H' b = some o
theorem Kp.trans {H H1 H2 : Hp} (a : Kp H H1) (b : Kp H1 H2) : Kp H H2 := fun c o h f => b c o (a c o h f) f
theorem Kp.of {H H' : Hp} (e : Same H H') : Kp H H' := fun b o h _ => e b o h
theorem kp_new {H : Hp} {p : Addr} (h : H p = none) (o : HO) : Kp H (upd H p o) := Kp.of (fun b u z => by rw [upd_ne (ne_of_none z h)]; exact z)
theorem kp_mut {H : Hp} {l : Addr} {o u : HO} (h : H l = some o) (f : fixO o = false) : Kp H (upd H l u) := fun b z hb fz => by
  rw [upd_ne (ne_of hb h fun e => by rw [e, f] at fz; cases fz)]
  exact hb
theorem kit_same {K : PySem.W.Frag} {t : Value} : PySem.W.kitOne K t t = some true := by unfold PySem.W.kitOne; rw [if_pos (beq_self_eq_true t)]
/-- all but c stays -/
def SB (c : V) (H H' : Hp) : Prop := ∀ b o, H b = some o → V.ref b ≠ c → H' b = some o
theorem SB.refl (c : V) (H : Hp) : SB c H H := fun _ _ h _ => h
theorem SB.trans {c : V} {H H1 H2 : Hp} (a : SB c H H1) (b : SB c H1 H2) : SB c H H2 := fun d o h n => b d o (a d o h n) n
theorem SB.of {c : V} {H H' : Hp} (e : Same H H') : SB c H H' := fun b o h _ => e b o h
theorem SB.kp {c : V} {H H' : Hp} (e : SB c H H') (hc : ∀ a o, c = .ref a → H a = some o → fixO o = false) : Kp H H' := fun b o h f => e b o h fun z => by
  rw [hc b o z.symm h] at f
  cases f
theorem sb_upd {a : Addr} (H : Hp) (u : HO) : SB (.ref a) H (upd H a u) := fun b o h n => by
  rw [upd_ne fun z => n (by rw [z])]
  exact h
/-- the law's tuples -/
inductive Tu (H : Hp) : Addr → Tr → Prop where
  | never {a} : H a = some (.tup [.str "never"]) → Tu H a .never
  | always {a} : H a = some (.tup [.str "always"]) → Tu H a .always
  | lp {a} : H a = some (.tup [.str "p"]) → Tu H a .lp
  | lq {a} : H a = some (.tup [.str "q"]) → Tu H a .lq
  | no {a b t} : H a = some (.tup [.str "not", .ref b]) → Tu H b t → Tu H a (.no t)
  | fold {a b d w x y} : H a = some (.tup [.str (W5.str w), .ref b, .ref d]) → Tu H b x → Tu H d y → Tu H a (.fold w x y)
theorem Tu.to {H H' : Hp} {a : Addr} {t : Tr} (h : Tu H a t) (e : Kp H H') : Tu H' a t := by
  induction h with
  | never h => exact .never (e _ _ h rfl)
  | always h => exact .always (e _ _ h rfl)
  | lp h => exact .lp (e _ _ h rfl)
  | lq h => exact .lq (e _ _ h rfl)
  | no h _ ih => exact .no (e _ _ h rfl) ih
  | fold h _ _ i1 i2 => exact .fold (e _ _ h rfl) i1 i2
/-- the program's classes -/
structure CCs where
  (ne al le no mo ls gr lr ld : Addr)
def CCs.fold (c : CCs) : W5 → Addr
  | .more => c.mo | .less => c.ls | .greater => c.gr | .lesser => c.lr | .leads => c.ld
def fName (x : V) : List (Str × V) := [("name", x)]
def fPart (x : V) : List (Str × V) := [("part", x)]
def fTwo (x y : V) : List (Str × V) := [("one", x), ("other", y)]
inductive Ob (c : CCs) (H : Hp) : Addr → Tr → Prop where
  | never {a dx} : H a = some (.ins c.ne dx []) → Ob c H a .never
  | always {a dx} : H a = some (.ins c.al dx []) → Ob c H a .always
  | lp {a dx} : H a = some (.ins c.le dx (fName (.str "p"))) → Ob c H a .lp
  | lq {a dx} : H a = some (.ins c.le dx (fName (.str "q"))) → Ob c H a .lq
  | no {a dx b t} : H a = some (.ins c.no dx (fPart (.ref b))) → Ob c H b t → Ob c H a (.no t)
  | fold {a dx b d w x y} : H a = some (.ins (c.fold w) dx (fTwo (.ref b) (.ref d))) → Ob c H b x → Ob c H d y → Ob c H a (.fold w x y)
theorem Ob.to {c : CCs} {H H' : Hp} {a : Addr} {t : Tr} (h : Ob c H a t) (e : Kp H H') : Ob c H' a t := by
  induction h with
  | never h => exact .never (e _ _ h rfl)
  | always h => exact .always (e _ _ h rfl)
  | lp h => exact .lp (e _ _ h rfl)
  | lq h => exact .lq (e _ _ h rfl)
  | no h _ ih => exact .no (e _ _ h rfl) ih
  | fold h _ _ i1 i2 => exact .fold (e _ _ h rfl) i1 i2
/-- things one by one -/
inductive All2 {α β : Type} (R : α → β → Prop) : List α → List β → Prop where
  | nil : All2 R [] []
  | cons {a b as bs} : R a b → All2 R as bs → All2 R (a :: as) (b :: bs)
theorem All2.imp {α β : Type} {R R' : α → β → Prop} (f : ∀ a b, R a b → R' a b) {as : List α} {bs : List β} (h : All2 R as bs) : All2 R' as bs := by
  induction h with
  | nil => exact .nil
  | cons r _ ih => exact .cons (f _ _ r) ih
theorem All2.app {α β : Type} {R : α → β → Prop} {as cs : List α} {bs ds : List β} (h : All2 R as bs) (k : All2 R cs ds) : All2 R (as ++ cs) (bs ++ ds) := by
  induction h with
  | nil => exact k
  | cons r _ ih => exact .cons r ih
theorem All2.rev {α β : Type} {R : α → β → Prop} {as : List α} {bs : List β} (h : All2 R as bs) : All2 R as.reverse bs.reverse := by
  induction h with
  | nil => exact .nil
  | cons r _ ih => rw [List.reverse_cons, List.reverse_cons]; exact ih.app (.cons r .nil)
theorem All2.len {α β : Type} {R : α → β → Prop} {as : List α} {bs : List β} (h : All2 R as bs) : as.length = bs.length := by
  induction h with
  | nil => rfl
  | cons _ _ ih => rw [List.length_cons, List.length_cons, ih]
/-- the last one apart -/
theorem All2.last {α β : Type} {R : α → β → Prop} {as : List α} {bs : List β} (h : All2 R as bs) (n : as ≠ []) : ∃ as' a bs' b, as = as' ++ [a] ∧ bs = bs' ++ [b] ∧ R a b ∧ All2 R as' bs' := by
  have h' := h.rev
  have n' : as.reverse ≠ [] := fun z => n (List.reverse_eq_nil_iff.mp z)
  have e1 : as = as.reverse.reverse := (List.reverse_reverse _).symm
  have e2 : bs = bs.reverse.reverse := (List.reverse_reverse _).symm
  rw [e1, e2]
  revert h' n'
  generalize as.reverse = u
  generalize bs.reverse = v
  intro h' n'
  cases h' with
  | nil => exact absurd rfl n'
  | cons r k => exact ⟨_, _, _, _, List.reverse_cons, List.reverse_cons, r, k.rev⟩
theorem snoc_last {α : Type} (ys : List α) (a : α) : (ys ++ [a])[(ys ++ [a]).length - 1]? = some a := by simp
/-- objects, each with its tree -/
abbrev ObV (c : CCs) (H : Hp) (v : V) (t : Tr) : Prop := ∃ a, v = .ref a ∧ Ob c H a t
theorem ObV.to {c : CCs} {H H' : Hp} (e : Kp H H') (v : V) (t : Tr) (h : ObV c H v t) : ObV c H' v t := by
  obtain ⟨a, r, o⟩ := h
  exact ⟨a, r, o.to e⟩
/-- what a saying is made of -/
def Tr.kids : Tr → List Tr
  | .no t => [t]
  | .fold _ a b => [a, b]
  | _ => []
def sizes (ts : List Tr) : Nat := (ts.map Tr.size).sum
theorem sizes_app (a b : List Tr) : sizes (a ++ b) = sizes a + sizes b := by simp [sizes]
theorem kids_size (t : Tr) : sizes t.kids + 1 = t.size := by cases t <;> simp [sizes, Tr.kids, Tr.size]
/-- the parts as laid_out meets them -/
theorem post_rev (t : Tr) : t.post.reverse = t :: (t.kids.reverse.flatMap fun x => x.post.reverse) := by
  cases t <;> simp [Tr.post, Tr.kids]
/-- a piece: a word or a saying -/
inductive Pc where
  | w (x : Str)
  | t (t : Tr)
def Tr.pieces : Tr → List Pc
  | .never => [.w "never"]
  | .always => [.w "always"]
  | .lp => [.w "p"]
  | .lq => [.w "q"]
  | .no t => [.w "not", .t t]
  | .fold w a b => [.w "(", .t a, .w w.str, .t b, .w ")"]
inductive PcV (c : CCs) (H : Hp) : V → Pc → Prop where
  | w (x : Str) : PcV c H (.str x) (.w x)
  | t {a : Addr} {t : Tr} : Ob c H a t → PcV c H (.ref a) (.t t)
theorem min_is (i j : Int) : (if j < i then j else i) = min i j := by
  rw [Int.min_def]; split <;> split <;> omega
theorem max_is (i j : Int) : (if j > i then j else i) = max i j := by
  rw [Int.max_def]; split <;> split <;> omega
end Mine

namespace L2
open PySem PySem.Spec PyProof.Rows
/-- the method m of the class C is the def st -/
structure MethF (K : PySem.W.Frag) (C : Addr) (m qual : Str) (st : Stmt) : Prop where
  cl : Cls K C
  ex : ∃ (f : Addr) (fd : FuncData), Meth K C m f ∧ Fun K m qual st f fd
section
variable {P : Program} {w : World} {K : PySem.W.Frag} {mg : Str → Option Value} {base : Heap}
theorem meth_of {C : Addr} {m qual : Str} {st : Stmt} {N ps : List Str} {k : Nat} {sp : Sp} (T : MethF K C m qual st) (S : FnScope N ps (defScope st))
    (bd : ∀ (kV doc pm : Value) (an : Option Addr) (cdv ct : Value) (us : List Value), us.length = ps.length → bindArgs (PySem.W.fnOf m qual (defArgs st) (defBody st) (defScope st) .none kV doc pm an cdv ct) ⟨us, []⟩ = pure (ps.zip us))
    (len : ∀ vs H Q E, sp vs H Q E → vs.length = ps.length)
    (body : ∀ (f : Addr) (cdv : Value) (A : Around) (outer : List Env) (s : Shared) (H : Hp) (vs : List V) (Q : VK) (E : XK), Room k (A.deeper (envOfC qual (defScope st) s.heap.objs.size f cdv)) → sp vs H Q E →
      ∃ t, PSs (cxOf CX0 P w K mg base N qual (defScope st) f cdv A outer s H E).nox (defBody st) t ∧ t { nx := fun _ H' => Q .non H', rt := Q } (start N vs) H) :
    MethOk P w K mg base C m (k + 1) ps sp := by
  obtain ⟨f, fd, hm, G⟩ := T.ex
  exact ⟨T.cl, f, fd, hm, G.ok S len (body f), G.binds bd⟩
/-- the class C, by the name x, is made with its __init__ -/
structure MkF (K : PySem.W.Frag) (mg : Str → Option Value) (x : Str) (C : Addr) (qual : Str) (st : Stmt) : Prop where
  cl : Cls K C
  mg_ : mg x = some (.ref C)
  ex : ∃ (f : Addr) (fd : FuncData), Mk K C f ∧ Fun K "__init__" qual st f fd
structure MkOk (P : Program) (w : World) (K : PySem.W.Frag) (mg : Str → Option Value) (base : Heap) (x : Str) (C : Addr) (k : Nat) (ps : List Str) (sp : Sp) : Prop where
  mg_ : mg x = some (.ref C)
  ex : ∃ (f : Addr) (fd : FuncData), Mk K C f ∧ FnOk P w K mg base CX0 k f fd ps sp ∧ Binds K fd ps []
theorem mk_of {C : Addr} {x qual : Str} {st : Stmt} {N ps : List Str} {k : Nat} {sp : Sp} (T : MkF K mg x C qual st) (S : FnScope N ps (defScope st))
    (bd : ∀ (kV doc pm : Value) (an : Option Addr) (cdv ct : Value) (us : List Value), us.length = ps.length → bindArgs (PySem.W.fnOf "__init__" qual (defArgs st) (defBody st) (defScope st) .none kV doc pm an cdv ct) ⟨us, []⟩ = pure (ps.zip us))
    (len : ∀ vs H Q E, sp vs H Q E → vs.length = ps.length)
    (body : ∀ (f : Addr) (cdv : Value) (A : Around) (outer : List Env) (s : Shared) (H : Hp) (vs : List V) (Q : VK) (E : XK), Room k (A.deeper (envOfC qual (defScope st) s.heap.objs.size f cdv)) → sp vs H Q E →
      ∃ t, PSs (cxOf CX0 P w K mg base N qual (defScope st) f cdv A outer s H E).nox (defBody st) t ∧ t { nx := fun _ H' => Q .non H', rt := Q } (start N vs) H) :
    MkOk P w K mg base x C (k + 1) ps sp := by
  obtain ⟨f, fd, hm, G⟩ := T.ex
  exact ⟨T.mg_, f, fd, hm, G.ok S len (body f), G.binds bd⟩
end
section
variable {X : Cx} {x : Str} {C : Addr} {k : Nat} {ps : List Str} {sp : Sp} {e : Expr} {es : List Expr} {t : TA} {p pos : Pos}
theorem pe_mk (M : MkOk X.prog X.w X.K X.mg X.base x C k ps sp) (hr : Room (k + 1) X.A) (hg : Gl X x) (ha : PA X (e :: es) t) (hdb : (x == ("__debug__" : Str)) = false := by decide)
    (he : starEach (e :: es) X.env = (false, eval e X.env) :: starEach es X.env := by rfl) (hpl : (backTo pos (starEach es X.env)).any (·.1) = false := by rfl) :
    PE X (.Call (.Name x p) (e :: es) [] pos) (tMake C sp [] E0 t) := by
  obtain ⟨f, fd, hm, G, hb⟩ := M.ex
  exact pe_make hm G hr hg M.mg_ hb .nil pass0 ha hdb he hpl
end
end L2
namespace Mine
open PySem L2
/-! ### the classes -/
def CCs.of (c : CCs) : Tr → Addr
  | .never => c.ne
  | .always => c.al
  | .lp => c.le
  | .lq => c.le
  | .no _ => c.no
  | .fold w _ _ => c.fold w
theorem look_part (x : V) : (fPart x).lookup ("part" : Str) = some x := by unfold fPart; rw [List.lookup_cons, beq_self_eq_true]
theorem look_one (x y : V) : (fTwo x y).lookup ("one" : Str) = some x := by unfold fTwo; rw [List.lookup_cons, beq_self_eq_true]
theorem look_other (x y : V) : (fTwo x y).lookup ("other" : Str) = some y := by
  unfold fTwo
  rw [List.lookup_cons, show (("other" : Str) == ("one" : Str)) = false by decide +kernel]
  show List.lookup ("other" : Str) [("other", y)] = some y
  rw [List.lookup_cons, beq_self_eq_true]
abbrev NoF (m : Str) : Prop := m ≠ "name" ∧ m ≠ "part" ∧ m ≠ "one" ∧ m ≠ "other"
theorem look_none {m a : Str} {x : V} {r : List (Str × V)} (h : m ≠ a) (k : r.lookup m = none) : ((a, x) :: r).lookup m = none := by
  rw [List.lookup_cons, beq_eq_false_iff_ne.mpr h]
  exact k
theorem Ob.cls {c : CCs} {H : Hp} {a : Addr} {t : Tr} (h : Ob c H a t) : ∃ dx fs, H a = some (.ins (c.of t) dx fs) ∧ ∀ m, NoF m → fs.lookup m = none := by
  cases h with
  | never h => exact ⟨_, _, h, fun m _ => rfl⟩
  | always h => exact ⟨_, _, h, fun m _ => rfl⟩
  | lp h => exact ⟨_, _, h, fun m n => look_none n.1 rfl⟩
  | lq h => exact ⟨_, _, h, fun m n => look_none n.1 rfl⟩
  | no h _ => exact ⟨_, _, h, fun m n => look_none n.2.1 rfl⟩
  | fold h _ _ => exact ⟨_, _, h, fun m n => look_none n.2.2.1 (look_none n.2.2.2 rfl)⟩
structure Fx (K : PySem.W.Frag) (c : CCs) : Prop where
  cl : ∀ t, Cls K (c.of t)
  ha : ∀ t, PySem.W.findIn K (.ref (c.of t)) "__class__" = some (some (.builtin "object.__class__"))
  hm : ∀ t, PySem.W.mroIn K (c.of t) (.type "object") = some true
  ks : ∀ t, PySem.W.kitOne K (.ref (c.of t)) (.type "str") = some false
  hn : PySem.W.specialIn K (.builtin "object.__class__") "__get__" = some (some (.builtin "getset_descriptor.__get__"))
  tk : PySem.W.takesIn K (.builtin "object.__class__") = some true
  nName : NoAttr K c.le "name"
  nPart : NoAttr K c.no "part"
  nOne : ∀ w, NoAttr K (c.fold w) "one"
  nOther : ∀ w, NoAttr K (c.fold w) "other"
theorem Fx.ty {K : PySem.W.Frag} {c : CCs} (T : Fx K c) {H : Hp} {a : Addr} {t : Tr} (h : Ob c H a t) : TyOf K H (.ref a) (.ref (c.of t)) := by
  obtain ⟨dx, fs, e, _⟩ := h.cls
  exact .ins e (T.cl t) (T.ha t) T.hn T.tk (T.hm t)
/-- the word of a tuple -/
def Tr.word : Tr → Str
  | .never => "never"
  | .always => "always"
  | .lp => "p"
  | .lq => "q"
  | .no _ => "not"
  | .fold u _ _ => u.str
/-! ### promises -/
def spMade (c : CCs) (t : Tr) : Sp := fun vs H Q _ => ∃ a, vs = [.ref a] ∧ Ob c H a t ∧ ∀ l us, H l = none → All2 (ObV c H) us t.kids → Q (.ref l) (upd H l (.lst us))
def spLaid (c : CCs) (t : Tr) : Sp := fun vs H Q _ => ∃ a, vs = [.ref a] ∧ Ob c H a t ∧ t.size ≤ 1000 ∧ ∀ l us H', Same H H' → H l = none → H' l = some (.lst us) → All2 (ObV c H') us t.post → Q (.ref l) H'
def spInit1 (C : Addr) (fl : V → List (Str × V)) : Sp := fun vs H Q _ => ∃ (a dx : Addr) (x : V), vs = [.ref a, x] ∧ H a = some (.ins C dx []) ∧ Q .non (upd H a (.ins C dx (fl x)))
def spInit2 (C : Addr) : Sp := fun vs H Q _ => ∃ (a dx : Addr) (x y : V), vs = [.ref a, x, y] ∧ H a = some (.ins C dx []) ∧ Q .non (upd H a (.ins C dx (fTwo x y)))
theorem putF_two (x y : V) : putF "other" y (putF "one" x []) = fTwo x y := by
  show (if ("one" : Str) = "other" then [(("one" : Str), y)] else (("one" : Str), x) :: putF "other" y []) = _
  rw [if_neg (by decide +kernel)]
  rfl
end Mine

namespace Mine
open PySem L2
def W5.cls : W5 → Str
  | .more => "More" | .less => "Less" | .greater => "Greater" | .lesser => "Lesser" | .leads => "Leads"
theorem upd_none {H : Hp} {l p : Addr} {o : HO} (h : upd H l o p = none) : H p = none := by
  by_cases e : p = l
  · subst e; rw [upd_same] at h; cases h
  · rw [upd_ne e] at h; exact h
/-- a new instance, its attributes stored -/
theorem same_made {H : Hp} {C z dz : Addr} {fs : List (Str × V)} (hz : H z = none) (hd : H dz = none) (ne : dz ≠ z) : Same H (upd (upd (upd H dz (.own z)) z (.ins C dz [])) z (.ins C dz fs)) := fun b o h => by
  rw [upd_ne (ne_of_none h hz), upd_ne (ne_of_none h hz), upd_ne (ne_of_none h hd)]
  exact h
theorem made_fold {c : CCs} {H : Hp} {z dz b d : Addr} {u : W5} {t t' : Tr} {Q : VK} (hz : H z = none) (hd : H dz = none) (ne : dz ≠ z) (o : Ob c H b t) (o' : Ob c H d t') (q : ∀ e H', Same H H' → Ob c H' e (.fold u t t') → Q (.ref e) H') :
    Q (.ref z) (upd (upd (upd H dz (.own z)) z (.ins (c.fold u) dz [])) z (.ins (c.fold u) dz (fTwo (.ref b) (.ref d)))) := by
  have sm := same_made (C := c.fold u) (fs := fTwo (.ref b) (.ref d)) hz hd ne
  exact q z _ sm (.fold upd_same (o.to (Kp.of sm)) (o'.to (Kp.of sm)))

end Mine
namespace Mine
open PySem L2
theorem flat_len : ∀ ts : List Tr, (ts.flatMap fun x => x.post.reverse).length = sizes ts
  | [] => rfl
  | t :: r => by
    rw [List.flatMap_cons, List.length_append, List.length_reverse, post_len, flat_len r]
    simp [sizes]
theorem sizes_rev (ts : List Tr) : sizes ts.reverse = sizes ts := by simp [sizes]
theorem len_sizes : ∀ ts : List Tr, ts.length ≤ sizes ts
  | [] => Nat.le_refl _
  | t :: r => by
    have h := len_sizes r
    have p := t.size_pos
    have e : sizes (t :: r) = t.size + sizes r := by simp [sizes]
    rw [e, List.length_cons]; omega
theorem kids_len (t : Tr) : t.kids.length ≤ 2 := by cases t <;> simp [Tr.kids]
theorem drop_at {α : Type} {xs : List α} {i : Nat} {x : α} (h : xs[i]? = some x) : xs.drop i = x :: xs.drop (i + 1) := by
  obtain ⟨hi, e⟩ := List.getElem?_eq_some_iff.mp h
  rw [List.drop_eq_getElem_cons hi, e]
theorem words_len : ∀ t : Tr, t.words.length ≤ 4 * t.size
  | .no t => by have := words_len t; simp only [Tr.words, Tr.size, List.length_cons]; omega
  | .fold w a b => by have := words_len a; have := words_len b; simp only [Tr.words, Tr.size, List.length_cons, List.length_append, List.length_nil]; omega
  | .never => by decide
  | .always => by decide
  | .lp => by decide
  | .lq => by decide
end Mine


set_option Elab.async false
set_option linter.all false
set_option maxRecDepth 100000
set_option maxHeartbeats 4000000
namespace Mine
open PySem L2
theorem ite_yes {a b : Str} {A B : Prop} (h : a = b) (k : A) : if decide (V.str a = V.str b) = true then A else B := by
  rw [decide_eq_true (congrArg V.str h), if_pos rfl]
  exact k
theorem ite_no {a b : Str} {A B : Prop} (h : a ≠ b) (k : B) : if decide (V.str a = V.str b) = true then A else B := by
  rw [decide_eq_false (fun z => h (V.str.inj z)), if_neg Bool.false_ne_true]
  exact k
theorem in_yes {x : V} {xs : List V} {A B : Prop} (h : inV x xs = true) (k : A) : if (if false = true then !inV x xs else inV x xs) = true then A else B := by
  rw [if_neg Bool.false_ne_true, h, if_pos rfl]
  exact k
theorem in_no {x : V} {xs : List V} {A B : Prop} (h : inV x xs = false) (k : B) : if (if false = true then !inV x xs else inV x xs) = true then A else B := by
  rw [if_neg Bool.false_ne_true, h, if_neg Bool.false_ne_true]
  exact k
/-- a number that a script's cell may be -/
def Cel (m : Int) : Prop := 0 ≤ m ∧ Builtin.Int.intBits m ≤ 1048576
theorem cel0 : Cel 0 := ⟨Int.le_refl _, by decide⟩
theorem bits_abs (z : Int) : Builtin.Int.intBits (if z < 0 then -z else z) = Builtin.Int.intBits z := by
  unfold Builtin.Int.intBits
  by_cases h : z < 0
  · rw [if_pos h]
    simp
  · rw [if_neg h]
theorem cel_abs {z : Int} (h : Builtin.Int.intBits z ≤ 1048576) : Cel (if z < 0 then -z else z) := ⟨by split <;> omega, by rw [bits_abs]; exact h⟩
theorem cel_small {z : Int} (h0 : 0 ≤ z) (h : z < 2 ^ 64) : Cel z := ⟨h0, Nat.le_trans (intBits_le_64 (by omega) h) (by decide)⟩
theorem Scr.to {K : PySem.W.Frag} {H H' : Hp} {a : Addr} {ns : List Int} (h : Scr K H a ns) (e : Same H H') : Scr K H' a ns := h.ts e.ts
/-! ### promises of the law's own defs -/
def spMixed (K : PySem.W.Frag) : Sp := fun vs H Q _ => ∃ (a : Addr) (ns : List Int) (k : Int), vs = [.ref a, .int k] ∧ Scr K H a ns ∧ 0 ≤ k ∧ k ≤ 100 ∧ ∀ (D : Addr) (ms : List Int) (H' : Hp), Same H H' → H D = none → H' D = some (.lst (ms.map V.int)) → (∀ m ∈ ms, Cel m) → Q (.ref D) H'
def spNext : Sp := fun vs H Q _ => ∃ (l : Addr) (ms : List Int), vs = [.ref l] ∧ H l = some (.lst (ms.map V.int)) ∧ (∀ m ∈ ms, Cel m) ∧ ∀ (i : Int) (ms' : List Int) (H' : Hp), Cel i → (∀ m ∈ ms', Cel m) → SB (.ref l) H H' → H' l = some (.lst (ms'.map V.int)) → Q (.int i) H'
def spSaying (n : Nat) : Sp := fun vs H Q _ => ∃ (l : Addr) (ms : List Int) (r : Int) (b : Bool), vs = [.ref l, .int r, .bl b] ∧ H l = some (.lst (ms.map V.int)) ∧ (∀ m ∈ ms, Cel m) ∧ 1 ≤ r ∧ r ≤ n ∧
  ∀ (a : Addr) (t : Tr) (ms' : List Int) (H' : Hp), (t.size : Int) ≤ r → (∀ m ∈ ms', Cel m) → SB (.ref l) H H' → H' l = some (.lst (ms'.map V.int)) → Tu H' a t → Q (.ref a) H'
def spText (n : Nat) : Sp := fun vs H Q _ => ∃ (a : Addr) (t : Tr), vs = [.ref a] ∧ Tu H a t ∧ t.size ≤ n ∧ t.size ≤ 1000 ∧ Q (.str t.text) H
end Mine
namespace L2
open PySem PySem.Spec PyProof.Rows
/-! ### t[lo:hi], also the whole -/
namespace HT
variable {prog : Program} {w : World} {A : Around} {E : Value → Shared → Prop} {s : Shared}
end HT
section
variable {X : Cx}
end
end L2
namespace Mine
open PySem L2
theorem cut_int (ms : List Int) (lo hi : Option Int) : ∃ ms' : List Int, cutV (ms.map V.int) lo hi = ms'.map V.int ∧ ∀ m ∈ ms', m ∈ ms := by
  refine ⟨(ms.drop (_root_.HT.sIx (ms.map V.int).length 0 lo)).take (_root_.HT.sIx (ms.map V.int).length (ms.map V.int).length hi - _root_.HT.sIx (ms.map V.int).length 0 lo), ?_, fun m h => List.mem_of_mem_drop (List.mem_of_mem_take h)⟩
  unfold cutV
  rw [List.map_take, List.map_drop]
theorem mul_ok_r {a b : Int} (h : Builtin.Int.intBits b ≤ 64) : IntMulOk a b := .of_right h
theorem mul_ok_l {a b : Int} (h : Builtin.Int.intBits a ≤ 64) : IntMulOk a b := .of_left h
abbrev mixNames : List Str := ["_law_script", "_law_least", "_law_as_they_stand", "_law_made", "_law_k", "_law_cell"]
end Mine
namespace Mine
open PySem L2
theorem word_at (m : Int) (h0 : 0 ≤ m) (h : m < 5) : ∃ u : W5, atI [V.str "more", .str "less", .str "greater", .str "lesser", .str "leads"] m = some (.str u.str) := by
  have hm : m = 0 ∨ m = 1 ∨ m = 2 ∨ m = 3 ∨ m = 4 := by omega
  rcases hm with rfl | rfl | rfl | rfl | rfl
  · exact ⟨.more, rfl⟩
  · exact ⟨.less, rfl⟩
  · exact ⟨.greater, rfl⟩
  · exact ⟨.lesser, rfl⟩
  · exact ⟨.leads, rfl⟩
theorem two_at {x y : V} (m : Int) (h : m = 0 ∨ m = 1) : ∃ z, atI [x, y] m = some z ∧ (z = x ∨ z = y) := by
  rcases h with rfl | rfl
  · exact ⟨x, rfl, .inl rfl⟩
  · exact ⟨y, rfl, .inr rfl⟩
theorem lst_fx {H : Hp} {l : Addr} {xs : List V} (e : H l = some (.lst xs)) : ∀ a o, V.ref l = .ref a → H a = some o → fixO o = false := fun a o z1 z2 => by cases z1; rw [e] at z2; cases z2; rfl
end Mine
namespace Mine
open PySem L2
theorem same_made0 {H : Hp} {C z dz : Addr} (hz : H z = none) (hd : H dz = none) : Same H (upd (upd H dz (.own z)) z (.ins C dz [])) := fun b o h => by
  rw [upd_ne (ne_of_none h hz), upd_ne (ne_of_none h hd)]
  exact h
end Mine
namespace Mine
open PySem L2
end Mine
namespace L2
open PySem PySem.Spec PyProof.Rows
end L2
namespace Mine
open PySem L2
def spLaw (K : PySem.W.Frag) : Sp := fun vs H Q _ => ∃ (a : Addr) (ns : List Int), vs = [.ref a] ∧ Scr K H a ns ∧ ∀ H', Q (.bl true) H'
/-! ### comprehensions without a test -/

end Mine
namespace Mine
open PySem L2
theorem w_not (u : W5) : u.str ≠ "not" := by cases u <;> decide +kernel
theorem w_len (u : W5) : u.str.length ≤ 7 := by cases u <;> decide +kernel
end Mine


set_option Elab.async false
set_option linter.all false
set_option maxRecDepth 100000
set_option maxHeartbeats 4000000
namespace Mine
open PySem L2
def W5.ix : W5 → Nat | .more => 0 | .less => 1 | .greater => 2 | .lesser => 3 | .leads => 4
def Tr.kind : Tr → Nat | .never => 0 | .always => 1 | .lp => 2 | .lq => 2 | .no _ => 3 | .fold u _ _ => 4 + u.ix
structure Kt (K : PySem.W.Frag) (c : CCs) (cS : Addr) : Prop where
  s : ∀ t, PySem.W.kitOne K (.ref (c.of t)) (.ref cS) = some true
  k0 : ∀ t, PySem.W.kitOne K (.ref (c.of t)) (.ref c.ne) = some (decide (t.kind = 0))
  k1 : ∀ t, PySem.W.kitOne K (.ref (c.of t)) (.ref c.al) = some (decide (t.kind = 1))
  k2 : ∀ t, PySem.W.kitOne K (.ref (c.of t)) (.ref c.le) = some (decide (t.kind = 2))
  k3 : ∀ t, PySem.W.kitOne K (.ref (c.of t)) (.ref c.no) = some (decide (t.kind = 3))
  k4 : ∀ t, PySem.W.kitOne K (.ref (c.of t)) (.ref c.mo) = some (decide (t.kind = 4))
  k5 : ∀ t, PySem.W.kitOne K (.ref (c.of t)) (.ref c.ls) = some (decide (t.kind = 5))
  k6 : ∀ t, PySem.W.kitOne K (.ref (c.of t)) (.ref c.gr) = some (decide (t.kind = 6))
  k7 : ∀ t, PySem.W.kitOne K (.ref (c.of t)) (.ref c.lr) = some (decide (t.kind = 7))
  k8 : ∀ t, PySem.W.kitOne K (.ref (c.of t)) (.ref c.ld) = some (decide (t.kind = 8))
structure KtA (K : PySem.W.Frag) (mg : Str → Option Value) (c : CCs) (cS cF : Addr) : Prop where
  kt : Kt K c cS
  kf : ∀ t, PySem.W.kitOne K (.ref (c.of t)) (.ref cF) = some (decide (4 ≤ t.kind))
  mS : mg "Saying" = some (.ref cS)
  mF : mg "Fold" = some (.ref cF)
  m0 : mg "Never" = some (.ref c.ne)
  m1 : mg "Always" = some (.ref c.al)
  m2 : mg "Letter" = some (.ref c.le)
  m3 : mg "Not" = some (.ref c.no)
  m4 : mg "More" = some (.ref c.mo)
  m5 : mg "Less" = some (.ref c.ls)
  m6 : mg "Greater" = some (.ref c.gr)
  m7 : mg "Lesser" = some (.ref c.lr)
  m8 : mg "Leads" = some (.ref c.ld)
end Mine


set_option Elab.async false
set_option linter.all false
set_option maxRecDepth 100000
set_option maxHeartbeats 4000000
namespace Mine
open PySem L2
/-! ### rows: a word and numbers of rows ahead -/
end Mine


set_option Elab.async false
set_option linter.all false
set_option maxRecDepth 100000
set_option maxHeartbeats 4000000
namespace L2
open PySem PySem.Spec PyProof.Rows
section
variable {X : Cx} {pins : List (Addr × Obj)} {σ : St} {H H' : Hp} {s s' : Shared} {h' : Heap}
/-- several records of ours have turned -/
theorem Inv.turnedL {t' : Nat} {fp : List Addr} (I : Inv X pins σ H s) (kp : ∀ b o, b ∉ fp → s.heap.get? b = some o → h'.get? b = some o) (hf : ∀ b ∈ fp, FpOk X pins H b) : Inv X pins σ H { s with heap := h', toks := t' } := by
  have far : ∀ b u, H b = some u → b ∉ fp := fun b u e z => by
    have := (hf b z).1
    rw [e] at this; cases this
  refine I.step (ch := fp) (g' := s.gens) (d' := s.drawn) (fun b hb => ⟨(hf b hb).2.2.2.1, (hf b hb).2.1, (hf b hb).2.2.2.2.1, (hf b hb).2.2.2.2.2⟩) (fun b o _ _ hc e _ => kp b o hc e) (fun b o _ _ hc e _ => ⟨o.slots, kp b o hc e⟩) (fun _ _ _ _ n => n)
    (fun b o hc e => ⟨o, kp b o hc e⟩) (fun _ _ e => e) (fun _ _ _ e => e) (fun b ps e => ⟨#[], by rw [e]; simp⟩) (fun m hm => ?_) (fun b u e => ?_) I.bare
  · obtain ⟨o, es, ep, ho, r⟩ := hm
    exact ⟨o, es, ep, kp _ o (fun z => (hf _ z).2.1 rfl) ho, r⟩
  · exact (I.hok b u e).stay (fun c v hc q => kp c v (hc.elim (fun z => by rw [z]; exact far b u e) fun z => far c _ z) q) (fun _ q => q) fun _ _ q => q
/-- what lies there untracked is tracked from now on -/
theorem Inv.trackO {a : Addr} {o : HO} (I : Inv X pins σ H s) (n : H a = none) (new : X.s₀.heap.get? a = none) (hL : a ≠ X.env.locals) (hc : ∀ x c, X.env.cells.lookup x = some c → c ≠ a) (hp : ∀ p ∈ X.pn ++ pins, p.1 ≠ a)
    (p : ObjOk X.prog X.w (upd H a o) s.heap a o) : Inv X pins σ (upd H a o) s :=
  ⟨I.ok, I.os, I.bare, ⟨I.base.keep, I.base.slot, fun b o e z hx => by rw [upd_ne (fun q => by rw [q, new] at e; cases e)]; exact I.base.free b o e z hx, I.base.there,
      fun b xs e => by have q := I.base.tups b xs e; rw [upd_ne (ne_of_none q n)]; exact q, fun b o u e => by have q := I.base.frzs b o u e; rw [upd_ne (ne_of_none q n)]; exact q,
      fun b ps e => by obtain ⟨m, q⟩ := I.base.tbls b ps e; exact ⟨m, by rw [upd_ne (ne_of_none q n)]; exact q⟩⟩,
    I.loc, I.cell, by rw [upd_ne (Ne.symm hL)]; exact I.free, fun x c e => by rw [upd_ne (hc x c e)]; exact I.freeC x c e,
    fun q hq => by obtain ⟨a1, a2, a3⟩ := I.pin q hq; exact ⟨a1, by rw [upd_ne (hp q hq)]; exact a2, a3⟩,
    fun b u e => by
      by_cases hb : b = a
      · subst hb
        rw [upd_same] at e
        cases e
        exact p
      · rw [upd_ne hb] at e
        exact (I.hok b u e).stay (fun _ _ _ z => z) (fun c z => by rw [upd_ne (ne_of_none z n)]; exact z) fun c xs z => by rw [upd_ne (ne_of_none z n)]; exact z,
    I.len⟩
end

/-! ### what yields a new tuple at each turn -/
/-- src: what stands in the tuple of turn i -/
def ItT (go : Nat → Hp → Prop) (src : Nat → Hp → List V → Prop) (n : Nat → Hp → Prop) : It :=
  ⟨go, fun i H v H' => ∃ (T : Addr) (vs : List V), H T = none ∧ v = .ref T ∧ H' = upd H T (.tup vs) ∧ src i H vs, n⟩
/-- one turn, by the library's walk that yields tuples -/
theorem turn_item {X : Cx} {elts : List Expr} {kk : Nat} {tpos : Pos} {I₀ : Addr} {fp' wr fp : List Addr} {n : Nat} {Pt : Nat → Array Value → Prop} {St : Nat → Heap → Prop} {Mid : Nat → Addr → Heap → Prop} (W : WalksT X.prog X.w X.A I₀ fp' wr n Pt St Mid)
    {pins : List (Addr × Obj)} {s : Shared} {σ : L2.St} {H : Hp} {E : Value → Shared → Prop} {i : Nat} {vs : List V} {src : Nat → Hp → List V → Prop} {tn : Nat → Heap → Prop} (I : Inv X pins σ H s) (hf : ∀ b ∈ fp, FpOk X pins H b) (hob : ∀ b ∈ fp, ∃ o, s.heap.get? b = some o) (hw : ∀ b ∈ wr, b ∈ fp) (hi : i < n) (st : St i s.heap)
    (hv : ∀ vals, Pt i vals → Vals vs vals.toList) (hz : vs.length ≤ sizeLine) (hsrc : src i H vs) (htn : ∀ h, St (i + 1) h → tn (i + 1) h) {gop stp : Nat → Hp → Prop} :
    wpAny (model X.prog X.w) X.A (pyNext (.ref I₀)) (fun r s1 => ∃ u, r = some u ∧
      wpAny (model X.prog X.w) X.A (letOwnedTupleGo (.Tuple elts kk tpos) (.ref I₀) u) (fun _ s2 => ∃ x H', Inv X pins σ H' s2 ∧ RelV x u ∧ (ItT gop src stp).yld i H x H' ∧ tn (i + 1) s2.heap ∧ ∀ b ∈ fp, H' b = none) E s1) E s := by
  refine W.item i s _ _ hi st fun T vals h1 tk hP hT hTup hM kp => ?_
  refine ⟨.ref T, rfl, W.go elts kk tpos i T { s with heap := h1, toks := tk } _ _ hM fun h2 hst kp2 => ?_⟩
  have I1 : Inv X pins σ H { s with heap := h2, toks := tk } := I.turnedL (fun b o hb e => kp2 b o (fun z => hb (hw b z)) (kp b o (fun z => hb (hw b z)) e)) hf
  have nT : H T = none := I.hok.fresh hT
  have tup : h2.IsTuple T vals := by
    obtain ⟨o, e, r⟩ := hTup
    exact ⟨o, kp2 T o (W.apart i T h1 hM) e, r⟩
  have new : X.s₀.heap.get? T = none := by
    cases z : X.s₀.heap.get? T with
    | none => rfl
    | some o => exact absurd (Nat.lt_of_lt_of_le (Heap.lt_size z) (Nat.le_trans I.sz hT)) (Nat.lt_irrefl _)
  refine ⟨.ref T, upd H T (.tup vs), I1.trackO nT new (Nat.ne_of_gt (Nat.lt_of_lt_of_le I.lt hT)) (fun x c e z => ?_) (fun p hp z => ?_) ⟨hz, vals.toList, hv vals hP, (by rw [Array.toArray_toList]; exact tup)⟩, rfl, ⟨T, vs, nT, rfl, rfl, hsrc⟩, htn _ hst, fun b hb => ?_⟩
  · obtain ⟨v, o, ho, _⟩ := I.cell x c e
    exact absurd (Nat.lt_of_lt_of_le (Heap.lt_size ho) (by rw [z]; exact hT)) (Nat.lt_irrefl _)
  · exact absurd (Nat.lt_of_lt_of_le (Heap.lt_size (I.pin p hp).1) (by rw [z]; exact hT)) (Nat.lt_irrefl _)
  · have e0 := (hf b hb).1
    obtain ⟨o, ho⟩ := hob b hb
    have bT : b ≠ T := fun z => absurd (Nat.lt_of_lt_of_le (Heap.lt_size ho) (by rw [z]; exact hT)) (Nat.lt_irrefl _)
    rw [upd_ne bT]
    exact e0
/-! ### enumerate of a list -/
def srcE (K : PySem.W.Frag) (a : Addr) : Nat → Hp → List V → Prop := fun i H vs => ∃ x, vs = [.int i, x] ∧ ∀ xs, SqL K H a xs → xs[i]? = some x
def ItE (K : PySem.W.Frag) (a : Addr) : It := ItT (fun i H => ∃ xs x, SqL K H a xs ∧ xs[i]? = some x) (srcE K a) fun i H => ∃ xs, SqL K H a xs ∧ xs.length ≤ i
theorem isList_ne {h : Heap} {a b : Addr} {its : Array Value} {o : Obj} {T : String} (l : h.IsList a its) (e : h.get? b = some o) (c : o.cls = .type T) (n : T ≠ "list") : a ≠ b := fun z => by
  obtain ⟨o', e', c', _⟩ := l
  rw [z, e] at e'
  cases e'
  rw [c] at c'
  exact n (Value.type.inj c')
theorem turn_enum {P : Program} {w : World} {K : PySem.W.Frag} {elts : List Expr} {kk : Nat} {tpos : Pos} (a e it : Addr) (hei : e ≠ it) :
    Turn P w K (.Tuple elts kk tpos) (ItE K a) [e, it] e (fun i h => (∃ old, IsEnum h e it i old) ∧ h.IsListIter it a i) where
  mem := by simp
  obj := fun i h st b hb => by
    obtain ⟨⟨old, he⟩, o, ho, _, hd⟩ := st
    rcases List.mem_cons.mp hb with rfl | hb
    · exact ⟨_, he, fun v z => by cases z⟩
    · rw [List.mem_singleton.mp hb]
      exact ⟨o, ho, fun v z => by rw [hd] at z; cases z⟩
  keep := fun i h h' st k => by
    obtain ⟨⟨old, he⟩, l⟩ := st
    exact ⟨⟨old, k e (by simp) _ he⟩, l.at fun o z => k it (by simp) o z⟩
  item := by
    intro X hP hw hK hc i pins s σ H E I hf st hg
    subst hP hw hK
    obtain ⟨xs, x, hq, hx⟩ := hg
    obtain ⟨its, rv, p, hz⟩ := I.list hq
    obtain ⟨u, hu, ru⟩ := rv.get hx
    obtain ⟨⟨old, he⟩, hit⟩ := st
    have hL := p.isList
    have ne1 : a ≠ e := isList_ne hL he rfl (by decide)
    have ne2 : a ≠ it := by
      obtain ⟨o, ho, hc', _⟩ := id hit
      exact isList_ne hL ho hc' (by decide)
    have W := WalksT.enumerateD (A := X.A) (Draws.list (prog := X.prog) (w := X.w) (A := X.A.in1) (I.ok.hd hc) it a ne2 its.toArray) e hei (by simp; exact ⟨hei, Ne.symm ne1⟩) (by simp)
    refine turn_item (fp := [e, it]) (vs := [.int i, x]) (src := srcE X.K a) (tn := fun i h => (∃ old, IsEnum h e it i old) ∧ h.IsListIter it a i) W I hf (fun b hb => ?_) (fun b hb => hb) (by have := (List.getElem?_eq_some_iff.mp hu).1; simpa using this) ⟨⟨old, he⟩, hit, hL⟩ (fun vals hP => ?_) (by show 2 ≤ sizeLine; decide) ⟨x, rfl, fun ys hy => by rw [I.list_inj hy hq]; exact hx⟩ fun h st => ⟨?_, st.2.1⟩
    · rcases List.mem_cons.mp hb with rfl | hb
      · exact ⟨_, he⟩
      · rw [List.mem_singleton.mp hb]
        obtain ⟨o, ho, _⟩ := id hit
        exact ⟨o, ho⟩
    · obtain ⟨t, y, hy, rfl⟩ := hP
      have ey : y = u := by
        have : its[i]? = some y := by simpa using hy
        rw [hu] at this
        exact (Option.some.inj this).symm
      subst ey
      exact .cons ⟨t, rfl⟩ (.cons ru .nil)
    · obtain ⟨old', z⟩ := st.1
      exact ⟨old', z⟩
  done := by
    intro X hP hw hK hc i pins s σ H E I hf st hg
    subst hP hw hK
    obtain ⟨xs, hq, hx⟩ := hg
    obtain ⟨its, rv, p, hz⟩ := I.list hq
    obtain ⟨⟨old, he⟩, hit⟩ := st
    have hl := rv.length
    obtain ⟨f0, f1, f2, f3, f4, f5⟩ := hf it (by simp)
    exact wpAny_pyNext_enum_end (I.ok.hd hc) he hit p.isList (by simp; omega) fun h' eb => ⟨rfl, I.turned (t' := s.toks) (fun b o hb e => eb b o hb e) f0 f1 f3 f4 f5⟩
  self := fun _ _ _ _ _ st h => by
    obtain ⟨⟨old, he⟩, _⟩ := st
    exact wpAny_pyIter_enum he h
section
variable {X : Cx}
def iEnum (K : PySem.W.Frag) (tl : TE) : TI := fun σ H R => tl σ H fun x H1 => ∃ a, x = .ref a ∧ (∃ xs, SqL K H1 a xs) ∧ R (ItE K a) H1
theorem pi_enum {elts : List Expr} {kk : Nat} {tpos p pos : Pos} {e : Expr} {te : TE} (hg : Gl X "enumerate") (hm : X.mg "enumerate" = none) (he : PE X e te)
    (hs : starEach [e] X.env = [(false, eval e X.env)] := by rfl) : PI X (.Tuple elts kk tpos) (.Call (.Name "enumerate" p) [e] [] pos) (iEnum X.K te) := by
  intro pins s σ H R I h
  have b1 : bootBuiltins "enumerate" = some (.type "enumerate") := by decide +kernel
  refine wpAny_Call_Name_kw (ld_blt I hg hm b1 ?_ (by decide) (by decide))
  refine PyProof.Rows.callWith_type1 ?_ hs (by rfl)
  rw [hs]
  refine Calls.spliced_cons (thn (he pins s σ H _ I h) fun u s1 ⟨y, H1, I1, ry, a, ey, ⟨xs, hq⟩, q⟩ => ?_)
  subst ey
  have eu : u = Value.ref a := ry
  subst eu
  refine Calls.spliced_nil ?_
  obtain ⟨its, rv, pl, hz⟩ := I1.list hq
  refine call_enumerate_list pl.isList fun h' e1 e2 e3 kp => ?_
  have I2 : Inv X pins σ H1 { s1 with heap := h' } := I1.kept (t' := s1.toks) kp
  refine wpAny_pyIter_enum (s := { s1 with heap := h' }) e1 ?_
  refine ⟨_, [s1.heap.objs.size + 1, s1.heap.objs.size], _, ItE X.K a, H1, rfl, I2, turn_enum a _ _ (Nat.ne_of_gt (Nat.lt_succ_self _)), ⟨⟨_, e1⟩, e2⟩, fun b hb => ?_, q⟩
  have nb : s1.heap.objs.size ≤ b := by
    rcases List.mem_cons.mp hb with rfl | hb
    · exact Nat.le_succ _
    · rw [List.mem_singleton.mp hb]; exact Nat.le_refl _
  exact I1.fpOk nb (I1.hok.fresh nb)
end
/-- over a list that the body leaves as it is, with the turns' numbers -/
theorem for_enum {K : PySem.W.Frag} {a : Addr} {xs : List V} {g : TG} {tb : TS} {D : Ends} {σ : St} {H : Hp} (Pv : Nat → St → Hp → Prop) (h0 : Pv 0 σ H) (hl : ∀ i σ H, i ≤ xs.length → Pv i σ H → SqL K H a xs)
    (hs : ∀ i x T σ H, xs[i]? = some x → Pv i σ H → H T = none → g (.ref T) σ (upd H T (.tup [.int i, x])) fun σ2 H2 => tb { D with nx := Pv (i + 1), ct := Pv (i + 1), bk := D.nx } σ2 H2) (hd : ∀ σ H, Pv xs.length σ H → D.nx σ H) :
    ∃ W : Nat → Nat → St → Hp → Prop, (∃ m, W 0 m σ H) ∧ ∀ i m σ H, W i m σ H →
      ((ItE K a).stop i H ∧ D.nx σ H) ∨ ((ItE K a).go i H ∧ ∃ N : St → Hp → Prop, (∀ σ' H', N σ' H' → ∃ m', m' < m ∧ W (i + 1) m' σ' H') ∧ ∀ x H', (ItE K a).yld i H x H' → g x σ H' fun σ2 H2 => tb { D with nx := N, ct := N, bk := D.nx } σ2 H2) := by
  refine ⟨fun i m σ H => m = xs.length - i ∧ i ≤ xs.length ∧ Pv i σ H, ⟨xs.length, by simp, Nat.zero_le _, h0⟩, ?_⟩
  rintro i m σ H ⟨rfl, hi, p⟩
  have q := hl i σ H hi p
  by_cases hlt : i < xs.length
  · refine .inr ⟨⟨xs, xs[i], q, by simp [hlt]⟩, Pv (i + 1), fun σ' H' p' => ⟨xs.length - (i + 1), by omega, rfl, hlt, p'⟩, fun x H' y => ?_⟩
    obtain ⟨T, vs, nT, rfl, rfl, x, rfl, hx⟩ := y
    exact hs i x T σ H (hx xs q) p nT
  · have e : i = xs.length := by omega
    subst e
    exact .inl ⟨⟨xs, q, Nat.le_refl _⟩, hd σ H p⟩
end L2


set_option Elab.async false
set_option linter.all false
set_option maxRecDepth 100000
set_option maxHeartbeats 4000000
namespace L2
open PySem PySem.Spec PyProof.Rows PySem.AutoSeq1
/-! ### enumerate of a tuple -/
section
variable {prog : Program} {w : World} {A : Around} {E : Value → Shared → Prop} {s : Shared}
end
section
variable {X : Cx}
end
end L2


set_option Elab.async false
set_option linter.all false
set_option maxRecDepth 100000
set_option maxHeartbeats 4000000
namespace L2
open PySem PySem.Spec PyProof.Rows
/-! ### zip of two lists -/
section
variable {X : Cx}
end
end L2


set_option Elab.async false
set_option linter.all false
set_option maxRecDepth 100000
set_option maxHeartbeats 4000000
namespace L2
open PySem PySem.Spec PyProof.Rows
/-! ### list.insert at a place that is not below nought -/
section
variable {X : Cx}
end
end L2


set_option Elab.async false
set_option linter.all false
set_option maxRecDepth 100000
set_option maxHeartbeats 4000000
namespace L2
open PySem PySem.Spec PyProof.Rows
/-! ### in and not in, of data in a list -/
section
variable {X : Cx}
end
end L2


set_option Elab.async false
set_option linter.all false
set_option maxRecDepth 100000
set_option maxHeartbeats 4000000
namespace L2
open PySem PySem.Spec PyProof.Rows
section
variable {X : Cx}
/-! ### l.index(x) of data -/
end
end L2


set_option Elab.async false
set_option linter.all false
set_option maxRecDepth 100000
set_option maxHeartbeats 4000000
namespace Mine
open PySem L2
/-! ### rows as data -/
end Mine


set_option Elab.async false
set_option linter.all false
set_option maxRecDepth 100000
set_option maxHeartbeats 4000000
namespace Mine
open PySem L2
/-! ### rows by their kinds -/
inductive Gr where
  | ne | al | p | q
  | no (i : Nat)
  | fold (u : W5) (i j : Nat)
/-! ### each row a saying of letters -/
/-- the dict of how many each word takes -/
def TK : List (Str × Int) := [("never", 0), ("always", 0), ("p", 0), ("q", 0), ("not", 1), ("more", 2), ("less", 2), ("greater", 2), ("lesser", 2), ("leads", 2)]
/-! ### the rows of a tree -/
end Mine


set_option Elab.async false
set_option linter.all false
set_option maxRecDepth 100000
set_option maxHeartbeats 4000000
namespace L2
open PySem PySem.Spec PyProof.Rows
/-! ### for x in reversed(a list) -/
def Itv (K : PySem.W.Frag) (a : Addr) (n : Nat) : It :=
  ⟨fun i H => ∃ xs x, SqL K H a xs ∧ xs.length = n ∧ i < n ∧ xs[n - 1 - i]? = some x, fun i H x H' => H' = H ∧ ∀ xs, SqL K H a xs → xs[n - 1 - i]? = some x, fun i _ => i = n⟩
theorem turn_rev {P : Program} {w : World} {K : PySem.W.Frag} {tg : Expr} (a it : Addr) (n : Nat) : Turn P w K tg (Itv K a n) [it] it (fun i h => h.IsRevIter it a ((n : Int) - 1 - (i : Int))) where
  mem := by simp
  obj := fun i h st b hb => by
    have e : b = it := by simpa using hb
    subst e
    obtain ⟨o, e, c, d⟩ := st
    exact ⟨o, e, fun v z => by rw [d] at z; cases z⟩
  keep := fun i h h' st k => st.at fun o e => k it (by simp) o e
  item := by
    intro X hP hw hK hc i pins s σ H E I hf st hg
    subst hP hw hK
    obtain ⟨xs, x, hq, hn, hi, hx⟩ := hg
    obtain ⟨its, rv, p, hz⟩ := I.list hq
    obtain ⟨u, hu, ru⟩ := rv.get hx
    obtain ⟨f0, f1, f2, f3, f4, f5⟩ := hf it (by simp)
    have e : (n : Int) - 1 - (i : Int) = ((n - 1 - i : Nat) : Int) := by omega
    rw [e] at st
    refine wpAny_pyNext_rev_item st p.isList (x := u) (by simpa using hu) fun h' st' sb => ?_
    have e2 : ((n - 1 - i : Nat) : Int) - 1 = (n : Int) - 1 - ((i + 1 : Nat) : Int) := by omega
    rw [e2] at st'
    have I1 : Inv X pins σ H { s with heap := h' } := I.turned (t' := s.toks) (fun b o hb e => (sb.2 b hb).trans e) f0 f1 f3 f4 f5
    obtain ⟨o, e, c, d⟩ := id st'
    exact ⟨u, rfl, go_of (s := { s with heap := h' }) e c d (by decide) ⟨x, H, I1, ru, ⟨rfl, fun ys hy => by rw [I.list_inj hy hq]; exact hx⟩, st', fun b hb => (hf b hb).1⟩⟩
  done := by
    intro X hP hw hK hc i pins s σ H E I hf st hg
    subst hP hw hK
    have hi : i = n := hg
    subst hi
    obtain ⟨f0, f1, f2, f3, f4, f5⟩ := hf it (by simp)
    have e : (i : Int) - 1 - (i : Int) = -1 := by omega
    rw [e] at st
    exact wpAny_pyNext_rev_end (I.ok.hd hc) st fun h' eb => ⟨rfl, I.turned (t' := s.toks) (fun b o hb e => eb b o hb e) f0 f1 f3 f4 f5⟩
  self := fun _ _ _ _ _ st h => wpAny_pyIter_revIter st h
section
variable {X : Cx} {tg : Expr}
def iRev (K : PySem.W.Frag) (tl : TE) : TI := fun σ H R => tl σ H fun x H1 => ∃ a xs, x = .ref a ∧ SqL K H1 a xs ∧ R (Itv K a xs.length) H1
theorem pi_rev {p pos : Pos} {e : Expr} {te : TE} (hg : Gl X "reversed") (hm : X.mg "reversed" = none) (he : PE X e te)
    (hs : starEach [e] X.env = [(false, eval e X.env)] := by rfl) : PI X tg (.Call (.Name "reversed" p) [e] [] pos) (iRev X.K te) := by
  intro pins s σ H R I h
  have b1 : bootBuiltins "reversed" = some (.type "reversed") := by decide +kernel
  refine wpAny_Call_Name_kw (ld_blt I hg hm b1 ?_ (by decide) (by decide))
  refine PyProof.Rows.callWith_type1 ?_ hs (by rfl)
  rw [hs]
  refine Calls.spliced_cons (thn (he pins s σ H _ I h) fun u s1 ⟨y, H1, I1, ry, a, xs, ey, hq, q⟩ => ?_)
  subst ey
  have eu : u = Value.ref a := ry
  subst eu
  refine Calls.spliced_nil ?_
  obtain ⟨its, rv, pl, hz⟩ := I1.list hq
  refine call_reversed_list pl.isList ?_
  have hlen : its.toArray.size = xs.length := by rw [List.size_toArray]; exact rv.length.symm
  rw [hlen]
  have hit : (s1.heap.push (revObj a ((xs.length : Int) - 1))).IsRevIter s1.heap.objs.size a ((xs.length : Int) - 1) := ⟨_, Heap.get?_push_size _ rfl, rfl, rfl⟩
  have I2 : Inv X pins σ H1 { s1 with heap := s1.heap.push (revObj a ((xs.length : Int) - 1)) } := I1.kept (t' := s1.toks) fun b o e => Heap.get?_push_of_some _ e
  refine wpAny_pyIter_revIter (s := { s1 with heap := s1.heap.push (revObj a ((xs.length : Int) - 1)) }) hit ?_
  have hit' : (s1.heap.push (revObj a ((xs.length : Int) - 1))).IsRevIter s1.heap.objs.size a ((xs.length : Int) - 1 - ((0 : Nat) : Int)) := by simpa using hit
  refine ⟨_, [s1.heap.objs.size], _, Itv X.K a xs.length, H1, rfl, I2, turn_rev a _ _, hit', fun b hb => ?_, q⟩
  have e : b = s1.heap.objs.size := by simpa using hb
  subst e
  exact I1.fpOk (Nat.le_refl _) (I1.hok.fresh (Nat.le_refl _))
end
/-- over a list that the body leaves as it is, from its end -/
theorem for_rev {K : PySem.W.Frag} {a : Addr} {xs : List V} {g : TG} {tb : TS} {D : Ends} {σ : St} {H : Hp} (Pv : Nat → St → Hp → Prop) (h0 : Pv 0 σ H) (hl : ∀ i σ H, i ≤ xs.length → Pv i σ H → SqL K H a xs)
    (hs : ∀ i x σ H, xs.reverse[i]? = some x → Pv i σ H → g x σ H fun σ2 H2 => tb { D with nx := Pv (i + 1), ct := Pv (i + 1), bk := D.nx } σ2 H2) (hd : ∀ σ H, Pv xs.length σ H → D.nx σ H) :
    ∃ W : Nat → Nat → St → Hp → Prop, (∃ m, W 0 m σ H) ∧ ∀ i m σ H, W i m σ H →
      ((Itv K a xs.length).stop i H ∧ D.nx σ H) ∨ ((Itv K a xs.length).go i H ∧ ∃ N : St → Hp → Prop, (∀ σ' H', N σ' H' → ∃ m', m' < m ∧ W (i + 1) m' σ' H') ∧ ∀ x H', (Itv K a xs.length).yld i H x H' → g x σ H' fun σ2 H2 => tb { D with nx := N, ct := N, bk := D.nx } σ2 H2) := by
  refine ⟨fun i m σ H => m = xs.length - i ∧ i ≤ xs.length ∧ Pv i σ H, ⟨xs.length, by simp, Nat.zero_le _, h0⟩, ?_⟩
  rintro i m σ H ⟨rfl, hi, p⟩
  have q := hl i σ H hi p
  by_cases hlt : i < xs.length
  · have hj : xs.length - 1 - i < xs.length := by omega
    refine .inr ⟨⟨xs, xs[xs.length - 1 - i], q, rfl, hlt, by simp [hj]⟩, Pv (i + 1), fun σ' H' p' => ⟨xs.length - (i + 1), by omega, rfl, hlt, p'⟩, fun x H' y => ?_⟩
    obtain ⟨e, y⟩ := y
    subst e
    refine hs i x σ _ ?_ p
    rw [List.getElem?_reverse hlt]
    exact y xs q
  · have e : i = xs.length := by omega
    subst e
    exact .inl ⟨rfl, hd σ H p⟩
/-! ### text.split(sep) -/
section
variable {X : Cx}
theorem cat_inj (c : Nat) : ∀ (p q r r' : List Nat), c ∉ p → c ∉ q → p ++ c :: r = q ++ c :: r' → p = q ∧ r = r'
  | [], [], r, r', _, _, h => ⟨rfl, (List.cons.inj h).2⟩
  | [], y :: q, r, r', _, hq, h => absurd (List.cons.inj h).1 (fun z => hq (by rw [z]; simp))
  | x :: p, [], r, r', hp, _, h => absurd (List.cons.inj h).1 (fun z => hp (by rw [← z]; simp))
  | x :: p, y :: q, r, r', hp, hq, h => by
    obtain ⟨e, h'⟩ := List.cons.inj h
    obtain ⟨e1, e2⟩ := cat_inj c p q r r' (fun z => hp (List.mem_cons_of_mem _ z)) (fun z => hq (List.mem_cons_of_mem _ z)) h'
    exact ⟨by rw [e, e1], e2⟩
theorem cat_no (c : Nat) (p q r : List Nat) (hp : c ∉ p) (h : p = q ++ c :: r) : False := hp (by rw [h]; simp)
theorem str_ext {x y : Str} (h : x.cps.toList = y.cps.toList) : x = y := by
  cases x; cases y
  congr 1
  exact Array.toList_inj.mp h
theorem cps_app (a b : Str) : (a ++ b).cps.toList = a.cps.toList ++ b.cps.toList := by
  show (a.cps ++ b.cps).toList = _
  exact Array.toList_append
/-- words without the sign, put together, come apart in one way -/
theorem join_inj (c : Nat) : ∀ (ps qs : List Str), ps ≠ [] → qs ≠ [] → (∀ p ∈ ps, c ∉ p.cps.toList) → (∀ q ∈ qs, c ∉ q.cps.toList) → Str.join ⟨#[c]⟩ ps = Str.join ⟨#[c]⟩ qs → ps = qs
  | [], _, h, _, _, _, _ => absurd rfl h
  | _, [], _, h, _, _, _ => absurd rfl h
  | [p], [q], _, _, hp, hq, h => by
    have h' : p = q := h
    rw [h']
  | [p], q :: q2 :: qs, _, _, hp, hq, h => by
    exfalso
    have h' : p = q ++ ⟨#[c]⟩ ++ Str.join ⟨#[c]⟩ (q2 :: qs) := h
    have e := congrArg (fun s : Str => s.cps.toList) h'
    simp only [cps_app] at e
    exact cat_no c _ q.cps.toList (Str.join ⟨#[c]⟩ (q2 :: qs)).cps.toList (hp p (by simp)) (by rw [e]; simp)
  | p :: p2 :: ps, [q], _, _, hp, hq, h => by
    exfalso
    have h' : p ++ ⟨#[c]⟩ ++ Str.join ⟨#[c]⟩ (p2 :: ps) = q := h
    have e := congrArg (fun s : Str => s.cps.toList) h'
    simp only [cps_app] at e
    exact cat_no c _ p.cps.toList (Str.join ⟨#[c]⟩ (p2 :: ps)).cps.toList (hq q (by simp)) (by rw [← e]; simp)
  | p :: p2 :: ps, q :: q2 :: qs, _, _, hp, hq, h => by
    have h' : p ++ ⟨#[c]⟩ ++ Str.join ⟨#[c]⟩ (p2 :: ps) = q ++ ⟨#[c]⟩ ++ Str.join ⟨#[c]⟩ (q2 :: qs) := h
    have e := congrArg (fun s : Str => s.cps.toList) h'
    simp only [cps_app] at e
    have e' : p.cps.toList ++ c :: (Str.join ⟨#[c]⟩ (p2 :: ps)).cps.toList = q.cps.toList ++ c :: (Str.join ⟨#[c]⟩ (q2 :: qs)).cps.toList := by simpa using e
    obtain ⟨e1, e2⟩ := cat_inj c _ _ _ _ (hp p (by simp)) (hq q (by simp)) e'
    have ih := join_inj c (p2 :: ps) (q2 :: qs) (by simp) (by simp) (fun x hx => hp x (by simp at hx ⊢; right; exact hx)) (fun x hx => hq x (by simp at hx ⊢; right; exact hx)) (str_ext e2)
    rw [str_ext e1, ih]
theorem split_ne (x y : Str) : Txt.split x y ≠ [] := by
  unfold Txt.split
  split
  · simp
  · split
    · simp
    · intro h
      have := congrArg List.length h
      rw [length_partsBetween] at this
      simp at this
theorem split_words {c : Nat} {ws : List Str} (h0 : ws ≠ []) (h : ∀ w ∈ ws, c ∉ w.cps.toList) : Txt.split (Str.join ⟨#[c]⟩ ws) ⟨#[c]⟩ = ws :=
  join_inj c _ _ (split_ne _ _) h0 (StrLaws.split_free _ c) h (StrLaws.join_split _ _)
theorem vals_strs : ∀ (l : List (Str × Tok)), Vals ((l.map (·.1)).map V.str) (strValues l)
  | [] => .nil
  | (x, t) :: r => .cons ⟨t, rfl⟩ (vals_strs r)
theorem len_split (x y : Str) : (Txt.split x y).length ≤ x.length + 2 := by
  unfold Txt.split
  split
  · simp
  · split
    · simp
    · rw [length_partsBetween]
      have := StrLaws.occ_length_le x y 0 x.length (x.length + 1)
      omega
def rSplit : V → List V → Hp → VK → Prop := fun x vs H Q => ∃ (t y : Str), x = .str t ∧ vs = [.str y] ∧ (y.length == 0) = false ∧ t.length ≤ 1000000 ∧ ∀ p, H p = none → Q (.ref p) (upd H p (.lst ((Txt.split t y).map V.str)))
theorem mt_split : MtM X "str.split" rSplit := by
  intro pins s σ H x vs v us Q I rx rv h
  obtain ⟨t, y, rfl, rfl, hy, hz, q⟩ := h
  obtain ⟨tx, rfl⟩ := rx
  obtain ⟨u, rfl, ty, rfl⟩ := rv.one
  have hsz : t.length ≤ sizeLine := Nat.le_trans hz (by decide)
  have hln := len_split t y
  have hl : ((Txt.split t y).map V.str).length ≤ sizeLine := by
    rw [List.length_map]
    exact Nat.le_trans hln (Nat.le_trans (Nat.add_le_add_right hz 2) (by decide))
  cases h1 : (decide (t.length < y.length) || decide (Builtin.Str.strKind t < Builtin.Str.strKind y))
  · cases hf : (Builtin.Str.occurrences t y 0 t.length (t.length + 1)).isEmpty
    · have es : Txt.split t y = Builtin.Str.partsBetween t (Builtin.Str.occurrences t y 0 t.length (t.length + 1)) y.length := by
        unfold Txt.split
        rw [if_neg (ne_true_of_eq_false h1), if_neg (ne_true_of_eq_false hf)]
      refine call_meets F.slot_str_split (typeIs_str _ _ _) F.entry_str_split (F.args_str_split_2 _ _) (meets_str_split_sep t y tx ty h1 hy hf hsz (by rw [← es]; rw [List.length_map] at hl; exact hl)) ?_
      show wants _ _ _ { s with toks := _, heap := s.heap.push { cls := .type "list", data := .seq (strsFrom s.toks (Builtin.Str.partsBetween t (Builtin.Str.occurrences t y 0 t.length (t.length + 1)) y.length)).toArray } }
      rw [strsFrom_eq]
      refine ⟨.ref s.heap.objs.size, _, I.lnew (ys := (Txt.split t y).map V.str) ?_ hl, rfl, q _ I.fresh⟩
      have z := vals_strs (numbered s.toks (Builtin.Str.partsBetween t (Builtin.Str.occurrences t y 0 t.length (t.length + 1)) y.length))
      rw [numbered_texts, ← es] at z
      rw [← es]
      exact z
    · have es : Txt.split t y = [t] := by
        unfold Txt.split
        rw [if_neg (ne_true_of_eq_false h1), if_pos hf]
      rw [es] at q hl
      exact call_meets F.slot_str_split (typeIs_str _ _ _) F.entry_str_split (F.args_str_split_2 _ _) (meets_str_split_not_found t y tx ty h1 hy hf)
        ⟨.ref s.heap.objs.size, _, I.lnew (its := [.str t tx]) (ys := [.str t]) (.cons ⟨_, rfl⟩ .nil) hl, rfl, q _ I.fresh⟩
  · have es : Txt.split t y = [t] := by
      unfold Txt.split
      rw [if_pos h1]
    rw [es] at q hl
    exact call_meets F.slot_str_split (typeIs_str _ _ _) F.entry_str_split (F.args_str_split_2 _ _) (meets_str_split_cannot_occur t y tx ty h1)
      ⟨.ref s.heap.objs.size, _, I.lnew (its := [.str t tx]) (ys := [.str t]) (.cons ⟨_, rfl⟩ .nil) hl, rfl, q _ I.fresh⟩
end
end L2


set_option Elab.async false
set_option linter.all false
set_option maxRecDepth 100000
set_option maxHeartbeats 4000000
namespace Mine
open PySem L2
/-! ### reading texts: no program in it -/
def takes (w : Str) : Option Int := PyProof.Rows.KTD.datumAt w TK
def fitB (w x : Str) : Bool :=
  if x = "saying" then decide (w = "(") || (decide (takes w = some 0) || decide (takes w = some 1))
  else if x = "fold" then decide (takes w = some 2) else decide (w = x)
/-- what is wanted behind a word (the first one next) -/
def nexts (w : Str) (S : List Str) : List Str := (if w = "(" then [("saying" : Str), "fold", "saying", ")"] else []) ++ ((if w = "not" then [("saying" : Str)] else []) ++ S)
def faultF : List Str → List Str → Nat → Option Nat
  | [], [], _ => none
  | _ :: _, [], k => some k
  | [], _ :: _, k => some k
  | x :: S, w :: ws, k => if fitB w x = true then faultF (nexts w S) ws (k + 1) else some k
theorem nexts_op (S : List Str) : nexts "(" S = ("saying" : Str) :: ("fold" : Str) :: ("saying" : Str) :: (")" : Str) :: S := by
  unfold nexts
  rw [if_pos rfl, if_neg (by decide +kernel)]
  rfl
theorem nexts_not (S : List Str) : nexts "not" S = ("saying" : Str) :: S := by
  unfold nexts
  rw [if_neg (by decide +kernel), if_pos rfl]
  rfl
theorem nexts_else {w : Str} (h1 : w ≠ "(") (h2 : w ≠ "not") (S : List Str) : nexts w S = S := by
  unfold nexts
  rw [if_neg h1, if_neg h2]
  rfl
theorem W5.takes (u : W5) : takes u.str = some 2 := by cases u <;> decide +kernel
theorem W5.nop (u : W5) : u.str ≠ "(" := by cases u <;> decide +kernel
theorem W5.nno (u : W5) : u.str ≠ "not" := by cases u <;> decide +kernel
theorem fit_not : fitB "not" "saying" = true := by decide +kernel
theorem fit_op : fitB "(" "saying" = true := by decide +kernel
theorem fit_cl : fitB ")" ")" = true := by decide +kernel
theorem fit_fold (u : W5) : fitB u.str "fold" = true := by cases u <;> decide +kernel
theorem fault_go {x w : Str} {S ws : List Str} {k : Nat} (h : fitB w x = true) : faultF (x :: S) (w :: ws) k = faultF (nexts w S) ws (k + 1) := by
  show (if fitB w x = true then _ else _) = _
  rw [if_pos h]
theorem fault_tree : ∀ (t : Tr) (S r : List Str) (k : Nat), faultF (("saying" : Str) :: S) (t.words ++ r) k = faultF S r (k + t.words.length)
  | .never, S, r, k => by
    show faultF (("saying" : Str) :: S) (("never" : Str) :: r) k = _
    rw [fault_go (by decide +kernel), nexts_else (by decide +kernel) (by decide +kernel)]
    rfl
  | .always, S, r, k => by
    show faultF (("saying" : Str) :: S) (("always" : Str) :: r) k = _
    rw [fault_go (by decide +kernel), nexts_else (by decide +kernel) (by decide +kernel)]
    rfl
  | .lp, S, r, k => by
    show faultF (("saying" : Str) :: S) (("p" : Str) :: r) k = _
    rw [fault_go (by decide +kernel), nexts_else (by decide +kernel) (by decide +kernel)]
    rfl
  | .lq, S, r, k => by
    show faultF (("saying" : Str) :: S) (("q" : Str) :: r) k = _
    rw [fault_go (by decide +kernel), nexts_else (by decide +kernel) (by decide +kernel)]
    rfl
  | .no t, S, r, k => by
    show faultF (("saying" : Str) :: S) (("not" : Str) :: (t.words ++ r)) k = _
    rw [fault_go fit_not, nexts_not, fault_tree t]
    congr 1
    show k + 1 + t.words.length = k + (t.words.length + 1)
    omega
  | .fold u a b, S, r, k => by
    have e : (Tr.fold u a b).words ++ r = ("(" : Str) :: (a.words ++ (u.str :: (b.words ++ ((")" : Str) :: r)))) := by simp [Tr.words]
    rw [e, fault_go fit_op, nexts_op, fault_tree a, fault_go (fit_fold u), nexts_else u.nop u.nno, fault_tree b, fault_go fit_cl, nexts_else (by decide +kernel) (by decide +kernel)]
    congr 1
    simp [Tr.words]
    omega
theorem fault_text (t : Tr) : faultF ["saying"] t.words 0 = none := by
  have h := fault_tree t [] [] 0
  rw [List.append_nil] at h
  rw [h]
  rfl
/-! ### made of words, from the end -/
/-- the things made, the words of folds that wait: the last one first -/
inductive MkS : Str → List Tr → List W5 → List Tr → List W5 → Prop where
  | op (a b : Tr) (u : W5) (M : List Tr) (F : List W5) : MkS "(" (a :: b :: M) (u :: F) (.fold u a b :: M) F
  | no (a : Tr) (M : List Tr) (F : List W5) : MkS "not" (a :: M) F (.no a :: M) F
  | fw (u : W5) (M : List Tr) (F : List W5) : MkS u.str M F M (u :: F)
  | cl (M : List Tr) (F : List W5) : MkS ")" M F M F
  | leaf (t : Tr) (h : t.kids = []) (M : List Tr) (F : List W5) : MkS t.word M F (t :: M) F
inductive MkR : List Str → List Tr → List W5 → List Tr → List W5 → Prop where
  | nil (M : List Tr) (F : List W5) : MkR [] M F M F
  | cons {w : Str} {ws : List Str} {M M1 M2 : List Tr} {F F1 F2 : List W5} : MkS w M F M1 F1 → MkR ws M1 F1 M2 F2 → MkR (w :: ws) M F M2 F2
theorem MkR.app {ws vs : List Str} {M M1 M2 : List Tr} {F F1 F2 : List W5} (h : MkR ws M F M1 F1) (k : MkR vs M1 F1 M2 F2) : MkR (ws ++ vs) M F M2 F2 := by
  induction h with
  | nil => exact k
  | cons s _ ih => exact .cons s (ih k)
theorem mk_tree : ∀ (t : Tr) (M : List Tr) (F : List W5), MkR t.words.reverse M F (t :: M) F
  | .never, M, F => .cons (.leaf .never rfl M F) (.nil _ _)
  | .always, M, F => .cons (.leaf .always rfl M F) (.nil _ _)
  | .lp, M, F => .cons (.leaf .lp rfl M F) (.nil _ _)
  | .lq, M, F => .cons (.leaf .lq rfl M F) (.nil _ _)
  | .no t, M, F => by
    show MkR ((("not" : Str) :: t.words).reverse) M F _ F
    rw [List.reverse_cons]
    exact (mk_tree t M F).app (.cons (.no t M F) (.nil _ _))
  | .fold u a b, M, F => by
    have e : (Tr.fold u a b).words.reverse = (")" : Str) :: (b.words.reverse ++ (u.str :: (a.words.reverse ++ [("(" : Str)]))) := by simp [Tr.words]
    rw [e]
    exact .cons (.cl M F) ((mk_tree b M F).app (.cons (.fw u (b :: M) F) ((mk_tree a (b :: M) (u :: F)).app (.cons (.op a b u M F) (.nil _ _)))))
theorem MkR.head {w : Str} {ws : List Str} {M M2 : List Tr} {F F2 : List W5} (h : MkR (w :: ws) M F M2 F2) : ∃ M1 F1, MkS w M F M1 F1 ∧ MkR ws M1 F1 M2 F2 := by
  cases h with
  | cons s r => exact ⟨_, _, s, r⟩
/-- a word without the blank -/
theorem words_free : ∀ t : Tr, ∀ w ∈ t.words, 32 ∉ w.cps.toList := by
  intro t
  induction t with
  | no t ih =>
    intro w h
    rcases List.mem_cons.mp h with rfl | h
    · decide +kernel
    · exact ih w h
  | fold u a b ia ib =>
    intro w h
    have e : w = "(" ∨ w ∈ a.words ∨ w = u.str ∨ w ∈ b.words ∨ w = ")" := by simpa [Tr.words] using h
    rcases e with rfl | h | rfl | h | rfl
    · decide +kernel
    · exact ia w h
    · cases u <;> decide +kernel
    · exact ib w h
    · decide +kernel
  | _ =>
    intro w h
    rw [List.mem_singleton.mp h]
    decide +kernel
theorem blank_is : (" " : Str) = ⟨#[32]⟩ := by decide +kernel
theorem split_text (t : Tr) : Txt.split t.text " " = t.words := by
  rw [← text_join t, blank_is]
  obtain ⟨x, r, e⟩ := words_cons t
  exact split_words (by rw [e]; simp) (words_free t)
end Mine


set_option Elab.async false
set_option linter.all false
set_option maxRecDepth 100000
set_option maxHeartbeats 4000000
namespace Mine
open PySem L2
/-! ### a pile of what is open: no program in it -/
inductive Pl where
  | whole | no | one | fold | other | fin
  deriving DecidableEq
def Pl.str : Pl → Str
  | .whole => "whole" | .no => "not" | .one => "one" | .fold => "fold" | .other => "other" | .fin => "end"
def wIn : Pl → List Str
  | .one => [("fold" : Str), "saying", ")"]
  | .other => [(")" : Str)]
  | _ => []
/-- what the uppermost wants, then what those below want -/
def wTop : Pl → List Pl → List Str
  | .whole, _ => ["saying"]
  | .no, _ => ["saying"]
  | .one, _ => [("saying" : Str), "fold", "saying", ")"]
  | .other, _ => [("saying" : Str), ")"]
  | .fold, _ => [("fold" : Str), "saying", ")"]
  | .fin, [] => []
  | .fin, _ :: _ => [(")" : Str)]
def wants : List Pl → List Str
  | [] => []
  | t :: r => wTop t r ++ r.flatMap wIn
/-- below the uppermost -/
inductive Low : List Pl → Prop where
  | whole : Low [.whole]
  | no {r : List Pl} : Low r → Low (.no :: r)
  | one {r : List Pl} : Low r → Low (.one :: r)
  | other {r : List Pl} : Low r → Low (.other :: r)
inductive Pile : List Pl → Prop where
  | low {r : List Pl} : Low r → Pile r
  | fin0 : Pile [.fin]
  | fold {r : List Pl} : Low r → Pile (.fold :: r)
  | fin {r : List Pl} : Low r → Pile (.fin :: r)
def doneP : List Pl → List Pl
  | [] => []
  | .no :: r => doneP r
  | .one :: r => .fold :: r
  | _ :: r => .fin :: r
theorem Low.ne {r : List Pl} (h : Low r) : ∃ t r', r = t :: r' := by cases h <;> exact ⟨_, _, rfl⟩
theorem done_low {r : List Pl} (h : Low r) : Pile (doneP r) ∧ wants (doneP r) = r.flatMap wIn := by
  induction h with
  | whole => exact ⟨.fin0, rfl⟩
  | no _ ih => exact ih
  | one h ih => exact ⟨.fold h, rfl⟩
  | other h ih =>
    obtain ⟨t, r', rfl⟩ := h.ne
    exact ⟨.fin h, rfl⟩
theorem done_len : ∀ r : List Pl, (doneP r).length ≤ r.length
  | [] => Nat.le_refl _
  | .no :: r => by have := done_len r; show (doneP r).length ≤ r.length + 1; omega
  | .one :: r => Nat.le_refl _
  | .whole :: r => Nat.le_refl _
  | .fold :: r => Nat.le_refl _
  | .other :: r => Nat.le_refl _
  | .fin :: r => Nat.le_refl _
def isFold (w : Str) : Bool := decide (takes w = some 2)
def isLeaf (w : Str) : Bool := decide (takes w = some 0)
/-- a word taken: the pile behind it -/
def takeP : List Pl → Str → Option (List Pl)
  | [], _ => none
  | .fold :: r, w => if isFold w = true then some (.other :: r) else none
  | .fin :: r, w => if w = ")" ∧ r ≠ [] then some (doneP r) else none
  | t :: r, w => if w = "not" then some (.no :: t :: r) else if w = "(" then some (.one :: t :: r) else if isLeaf w = true then some (doneP (t :: r)) else none
theorem takes_not : takes "not" = some 1 := by decide +kernel
theorem takes_op : takes "(" = none := by decide +kernel
/-- only not takes one -/
theorem takes_one {w : Str} (h : takes w = some 1) : w = "not" := by
  unfold takes TK at h
  simp only [PyProof.Rows.KTD.datumAt] at h
  repeat' split at h
  all_goals first | (rename_i e; simpa using of_decide_eq_true e) | (cases h; done) | (simp at h)
theorem fit_say (w : Str) : fitB w "saying" = (decide (w = "(") || (isLeaf w || decide (w = "not"))) := by
  unfold fitB isLeaf
  rw [if_pos rfl]
  congr 2
  by_cases h : w = "not"
  · subst h; rw [takes_not]; rfl
  · rw [decide_eq_false h, decide_eq_false (fun z => h (takes_one z))]
theorem fit_fo (w : Str) : fitB w "fold" = isFold w := by
  unfold fitB isFold
  rw [if_neg (by decide +kernel), if_pos rfl]
theorem fit_end (w : Str) : fitB w ")" = decide (w = ")") := by
  unfold fitB
  rw [if_neg (by decide +kernel), if_neg (by decide +kernel)]
theorem fold_ne {w : Str} (h : isFold w = true) : w ≠ "(" ∧ w ≠ "not" := by
  have h' := of_decide_eq_true h
  refine ⟨fun z => ?_, fun z => ?_⟩
  · subst z; rw [takes_op] at h'; cases h'
  · subst z; rw [takes_not] at h'; cases h'
/-- both ways of walking agree, word by word -/
theorem low_take {t : Pl} {r : List Pl} (h : Low (t :: r)) (w : Str) :
    (∀ p, takeP (t :: r) w = some p → Pile p ∧ fitB w "saying" = true ∧ wants p = nexts w ((t :: r).flatMap wIn)) ∧ (takeP (t :: r) w = none → fitB w "saying" = false) ∧ wants (t :: r) = ("saying" : Str) :: (t :: r).flatMap wIn := by
  have e : takeP (t :: r) w = (if w = "not" then some (.no :: t :: r) else if w = "(" then some (.one :: t :: r) else if isLeaf w = true then some (doneP (t :: r)) else none) := by cases h <;> rfl
  have ew : wants (t :: r) = ("saying" : Str) :: (t :: r).flatMap wIn := by cases h <;> rfl
  refine ⟨fun p hp => ?_, fun hp => ?_, ew⟩
  · rw [e] at hp
    rw [fit_say]
    by_cases h1 : w = "not"
    · subst h1
      rw [if_pos rfl] at hp
      cases hp
      refine ⟨.low (.no h), by simp, ?_⟩
      rw [nexts_not]
      rfl
    · rw [if_neg h1] at hp
      by_cases h2 : w = "("
      · subst h2
        rw [if_pos rfl] at hp
        cases hp
        refine ⟨.low (.one h), by simp, ?_⟩
        rw [nexts_op]
        rfl
      · rw [if_neg h2] at hp
        by_cases h3 : isLeaf w = true
        · rw [if_pos h3] at hp
          cases hp
          obtain ⟨d1, d2⟩ := done_low h
          refine ⟨d1, by rw [h3]; simp, ?_⟩
          rw [d2, nexts_else h2 h1]
        · rw [if_neg h3] at hp
          cases hp
  · rw [e] at hp
    rw [fit_say]
    by_cases h1 : w = "not"
    · rw [if_pos h1] at hp; cases hp
    · rw [if_neg h1] at hp
      by_cases h2 : w = "("
      · rw [if_pos h2] at hp; cases hp
      · rw [if_neg h2] at hp
        by_cases h3 : isLeaf w = true
        · rw [if_pos h3] at hp; cases hp
        · rw [decide_eq_false h1, decide_eq_false h2, eq_false_of_ne_true h3]
          rfl
theorem pile_take {p : List Pl} (h : Pile p) (w : Str) :
    (∀ p', takeP p w = some p' → Pile p' ∧ ∃ x S, wants p = x :: S ∧ fitB w x = true ∧ wants p' = nexts w S) ∧ (takeP p w = none → wants p = [] ∨ ∃ x S, wants p = x :: S ∧ fitB w x = false) := by
  cases h with
  | low h =>
    obtain ⟨t, r, rfl⟩ := h.ne
    obtain ⟨a, b, c⟩ := low_take h w
    refine ⟨fun p' hp => ?_, fun hp => .inr ⟨_, _, c, b hp⟩⟩
    obtain ⟨a1, a2, a3⟩ := a p' hp
    exact ⟨a1, _, _, c, a2, a3⟩
  | fin0 =>
    refine ⟨fun p' hp => ?_, fun _ => .inl rfl⟩
    have e : takeP [.fin] w = (if w = ")" ∧ ([] : List Pl) ≠ [] then some (doneP []) else none) := rfl
    rw [e, if_neg (fun z => z.2 rfl)] at hp
    cases hp
  | @fold r h =>
    have e : takeP (.fold :: r) w = if isFold w = true then some (.other :: r) else none := rfl
    refine ⟨fun p' hp => ?_, fun hp => .inr ⟨_, _, rfl, ?_⟩⟩
    · rw [e] at hp
      by_cases h1 : isFold w = true
      · rw [if_pos h1] at hp
        cases hp
        obtain ⟨n1, n2⟩ := fold_ne h1
        exact ⟨.low (.other h), _, _, rfl, by rw [fit_fo]; exact h1, by rw [nexts_else n1 n2]; rfl⟩
      · rw [if_neg h1] at hp; cases hp
    · rw [e] at hp
      rw [fit_fo]
      by_cases h1 : isFold w = true
      · rw [if_pos h1] at hp; cases hp
      · exact eq_false_of_ne_true h1
  | @fin r h =>
    obtain ⟨t, r', rfl⟩ := h.ne
    have e : takeP (.fin :: t :: r') w = if w = ")" ∧ t :: r' ≠ [] then some (doneP (t :: r')) else none := rfl
    refine ⟨fun p' hp => ?_, fun hp => .inr ⟨_, _, rfl, ?_⟩⟩
    · rw [e] at hp
      by_cases h1 : w = ")"
      · rw [if_pos ⟨h1, by simp⟩] at hp
        cases hp
        obtain ⟨d1, d2⟩ := done_low h
        refine ⟨d1, _, _, rfl, by rw [fit_end]; exact decide_eq_true h1, ?_⟩
        rw [d2, nexts_else (by rw [h1]; decide +kernel) (by rw [h1]; decide +kernel)]
        rfl
      · rw [if_neg (fun z => h1 z.1)] at hp; cases hp
    · rw [e] at hp
      rw [fit_end]
      by_cases h1 : w = ")"
      · rw [if_pos ⟨h1, by simp⟩] at hp; cases hp
      · exact decide_eq_false h1
def faultP : List Pl → List Str → Nat → Option Nat
  | p, [], k => if p = [.fin] then none else some k
  | p, w :: ws, k => match takeP p w with | some p' => faultP p' ws (k + 1) | none => some k
theorem wants_nil {p : List Pl} (h : Pile p) : wants p = [] ↔ p = [.fin] := by
  constructor
  · intro z
    cases h with
    | low h => cases h <;> cases z
    | fin0 => rfl
    | fold h => cases z
    | fin h => obtain ⟨t, r', rfl⟩ := h.ne; cases z
  · intro z; subst z; rfl
theorem fault_pile : ∀ (ws : List Str) (p : List Pl) (k : Nat), Pile p → faultP p ws k = faultF (wants p) ws k
  | [], p, k, h => by
    show (if p = [.fin] then none else some k) = _
    by_cases z : p = [.fin]
    · rw [if_pos z, z]; rfl
    · rw [if_neg z]
      cases e : wants p with
      | nil => exact absurd ((wants_nil h).mp e) z
      | cons x S => rfl
  | w :: ws, p, k, h => by
    obtain ⟨a, b⟩ := pile_take h w
    show (match takeP p w with | some p' => faultP p' ws (k + 1) | none => some k) = _
    cases e : takeP p w with
    | none =>
      rcases b e with z | ⟨x, S, z, f⟩
      · rw [z]; rfl
      · rw [z]
        show _ = if fitB w x = true then _ else _
        rw [f, if_neg Bool.false_ne_true]
    | some p' =>
      obtain ⟨h', x, S, z, f, z'⟩ := a p' e
      show faultP p' ws (k + 1) = _
      rw [z, fault_go f, fault_pile ws p' (k + 1) h', z']
/-! ### words without a fault are a saying's -/
theorem datum_in : ∀ (l : List (Str × Int)) (w : Str) (n : Int), PyProof.Rows.KTD.datumAt w l = some n → (w, n) ∈ l
  | [], w, n, h => by cases h
  | (k, m) :: l, w, n, h => by
    by_cases e : w = k
    · have h' : (if decide (w = k) = true then some m else PyProof.Rows.KTD.datumAt w l) = some n := h
      rw [if_pos (decide_eq_true e)] at h'
      cases h'
      rw [e]
      simp
    · have h' : (if decide (w = k) = true then some m else PyProof.Rows.KTD.datumAt w l) = some n := h
      rw [if_neg (by simpa using e)] at h'
      exact List.mem_cons_of_mem _ (datum_in l w n h')
theorem leaf_is {w : Str} (h : isLeaf w = true) : ∃ t : Tr, t.words = [w] ∧ t.size = 1 := by
  have h1 := datum_in TK w 0 (of_decide_eq_true h)
  unfold TK at h1
  simp at h1
  rcases h1 with rfl | rfl | rfl | rfl
  · exact ⟨.never, rfl, rfl⟩
  · exact ⟨.always, rfl, rfl⟩
  · exact ⟨.lp, rfl, rfl⟩
  · exact ⟨.lq, rfl, rfl⟩
theorem fold_is {w : Str} (h : isFold w = true) : ∃ u : W5, w = u.str := by
  have h1 := datum_in TK w 2 (of_decide_eq_true h)
  unfold TK at h1
  simp at h1
  rcases h1 with rfl | rfl | rfl | rfl | rfl
  · exact ⟨.more, rfl⟩
  · exact ⟨.less, rfl⟩
  · exact ⟨.greater, rfl⟩
  · exact ⟨.lesser, rfl⟩
  · exact ⟨.leads, rfl⟩
theorem fault_head {x : Str} {S ws : List Str} {k : Nat} (h : faultF (x :: S) ws k = none) : ∃ w r, ws = w :: r ∧ fitB w x = true ∧ faultF (nexts w S) r (k + 1) = none := by
  cases ws with
  | nil => cases h
  | cons w r =>
    have h' : (if fitB w x = true then faultF (nexts w S) r (k + 1) else some k) = none := h
    by_cases f : fitB w x = true
    · rw [if_pos f] at h'
      exact ⟨w, r, rfl, f, h'⟩
    · rw [if_neg f] at h'; cases h'
theorem saying_of : ∀ (n : Nat) (S ws : List Str) (k : Nat), ws.length ≤ n → faultF (("saying" : Str) :: S) ws k = none → ∃ (t : Tr) (r : List Str) (j : Nat), ws = t.words ++ r ∧ faultF S r j = none
  | 0, S, ws, k, hn, h => by
    obtain ⟨w, r, rfl, _⟩ := fault_head h
    simp at hn
  | n + 1, S, ws, k, hn, h => by
    obtain ⟨w, r, rfl, f, h1⟩ := fault_head h
    have hr : r.length ≤ n := by simpa using hn
    rw [fit_say] at f
    by_cases h2 : w = "("
    · subst h2
      rw [nexts_op] at h1
      obtain ⟨a, r1, j1, rfl, h3⟩ := saying_of n _ r _ hr h1
      obtain ⟨w2, r2, rfl, f2, h4⟩ := fault_head h3
      rw [fit_fo] at f2
      obtain ⟨u, rfl⟩ := fold_is f2
      rw [nexts_else u.nop u.nno] at h4
      have hr2 : r2.length ≤ n := by
        simp only [List.length_append, List.length_cons] at hr
        omega
      obtain ⟨b, r3, j3, rfl, h5⟩ := saying_of n _ r2 _ hr2 h4
      obtain ⟨w3, r4, rfl, f3, h6⟩ := fault_head h5
      rw [fit_end] at f3
      have e3 := of_decide_eq_true f3
      subst e3
      rw [nexts_else (by decide +kernel) (by decide +kernel)] at h6
      exact ⟨.fold u a b, r4, _, by simp [Tr.words], h6⟩
    · by_cases h3 : w = "not"
      · subst h3
        rw [nexts_not] at h1
        obtain ⟨t, r1, j1, rfl, h4⟩ := saying_of n _ r _ hr h1
        exact ⟨.no t, r1, j1, rfl, h4⟩
      · rw [decide_eq_false h2, decide_eq_false h3, Bool.false_or, Bool.or_false] at f
        rw [nexts_else h2 h3] at h1
        obtain ⟨t, e, _⟩ := leaf_is f
        exact ⟨t, r, _, by rw [e]; rfl, h1⟩
theorem text_of {ws : List Str} (h : faultF [("saying" : Str)] ws 0 = none) : ∃ t : Tr, ws = t.words := by
  obtain ⟨t, r, j, rfl, h1⟩ := saying_of _ _ ws 0 (Nat.le_refl _) h
  cases r with
  | nil => exact ⟨t, by simp⟩
  | cons x r => cases h1
/-! ### parts counted by words -/
def small (w : Str) : Bool := !(decide (w = "(") || (decide (w = ")") || isFold w))
theorem small_w (u : W5) : small u.str = false := by cases u <;> decide +kernel
theorem count_parts : ∀ t : Tr, t.words.countP small + t.words.countP (fun w : Str => decide (w = "(")) = t.size
  | .never => by decide +kernel
  | .always => by decide +kernel
  | .lp => by decide +kernel
  | .lq => by decide +kernel
  | .no t => by
    have ih := count_parts t
    have s1 : small "not" = true := by decide +kernel
    have s2 : decide (("not" : Str) = "(") = false := by decide +kernel
    show (("not" : Str) :: t.words).countP small + (("not" : Str) :: t.words).countP (fun w : Str => decide (w = "(")) = t.size + 1
    rw [List.countP_cons, List.countP_cons, s1, s2, if_pos rfl, if_neg Bool.false_ne_true]
    omega
  | .fold u a b => by
    have ia := count_parts a
    have ib := count_parts b
    have s1 : small "(" = false := by decide +kernel
    have s2 : small ")" = false := by decide +kernel
    have s3 : decide ((")" : Str) = "(") = false := by decide +kernel
    have s4 : decide (u.str = "(") = false := decide_eq_false u.nop
    have s5 : decide (("(" : Str) = "(") = true := by decide +kernel
    have s6 := small_w u
    show (("(" : Str) :: (a.words ++ u.str :: (b.words ++ [(")" : Str)]))).countP small + (("(" : Str) :: (a.words ++ u.str :: (b.words ++ [(")" : Str)]))).countP (fun w : Str => decide (w = "(")) = a.size + b.size + 1
    simp only [List.countP_cons, List.countP_append, List.countP_nil, s1, s2, s3, s4, s6, decide_true, if_true, Bool.false_eq_true, if_false, decide_false]
    omega
end Mine


set_option Elab.async false
set_option linter.all false
set_option maxRecDepth 100000
set_option maxHeartbeats 4000000
namespace L2
open PySem PySem.Spec PyProof.Rows
section
variable {X : Cx}
/-! ### l.count(x) of flat things -/
theorem count_eqU {x : V} : ∀ {xs : List V} {us : List Value}, Vals xs us → xs.all flatV = true → us.countP (eqU x) = xs.countP (fun y => eqV y x)
  | _, _, .nil, _ => rfl
  | _, _, .cons r t, f => by
    rw [List.all_cons, Bool.and_eq_true] at f
    rw [List.countP_cons, List.countP_cons, eqU_of r f.1, count_eqU t f.2]
def rCountF : V → List V → Hp → VK → Prop := fun x vs H Q => ∃ (l : Addr) (ys : List V) (y : V), x = .ref l ∧ vs = [y] ∧ H l = some (.lst ys) ∧ ys.all flatV = true ∧ flatV y = true ∧ Q (.int ((ys.countP fun e => eqV e y : Nat) : Int)) H
theorem mt_countF : MtM X "list.count" rCountF := by
  intro pins s σ H x vs v us Q I rx rv h
  obtain ⟨l, ys, y, rfl, rfl, hH, fl, fy, q⟩ := h
  cases rx
  obtain ⟨u, rfl, ru⟩ := vals1 rv
  obtain ⟨z, its, n, r, hl, e⟩ := I.lstM hH
  have ec : its.toArray.toList.countP (eqU y) = ys.countP (fun e => eqV e y) := count_eqU r fl
  have q' : Q (.int ((its.toArray.toList.countP (eqU y) : Nat) : Int)) H := by rw [ec]; exact q
  exact call_meets F.slot_list_count ⟨_, e, rfl⟩ F.entry_list_count (F.args_list_count_2 _ _)
    (PySem.SeqAt.list_countAt l its.toArray n _ _ u (eqU y)) ⟨e, fun w hw => mem_eqAt ru fy r fl w (by simpa using hw), ⟨.int _, H, I.tok _, ⟨_, rfl⟩, q'⟩⟩
end
end L2
namespace Mine
open PySem L2
/-! ### a comprehension with a test -/
theorem comp_filt {K : PySem.W.Frag} {wi : TI} {tc : TT} {te : TE} {js : List Nat} {σ : St} {H : Hp} {Q : VK} {xs : List V} (p : V → Bool) (g : V → V) (Src : Addr → Hp → Prop)
    (hwi : ∀ R : It → Hp → Prop, (∀ l H, Src l H → R (Itl K l) H) → wi σ H R) (hsrc : ∀ l H', Src l H' → H' l = some (.lst xs) ∧ Same H H') (hx : xs.length ≤ 1000)
    (ht : ∀ (i : Nat) v H' (N : Bool → Hp → Prop), xs[i]? = some v → Same H H' → (∀ H'', Same H' H'' → N (p v) H'') → tc (some v :: cVals js σ) H' N)
    (hs : ∀ (i : Nat) v H' (N : VK), xs[i]? = some v → p v = true → Same H H' → (∀ H'', Same H' H'' → N (g v) H'') → te (some v :: cVals js σ) H' N)
    (hd : ∀ D H', Same H H' → H D = none → H' D = some (.lst ((xs.filter p).map g)) → Q (.ref D) H') : tComp wi tc te js σ H Q := by
  refine hwi _ fun l H1 src => ?_
  intro D hD
  obtain ⟨e, s1⟩ := hsrc l H1 src
  have nl : l ≠ D := ne_of_none e hD
  have hD0 : H D = none := s1.free hD
  refine ⟨fun i m H' => m = xs.length - i ∧ i ≤ xs.length ∧ H' l = some (.lst xs) ∧ Same H H' ∧ H' D = some (.lst (((xs.take i).filter p).map g)), ⟨xs.length, rfl, Nat.zero_le _, by rw [upd_ne nl]; exact e, s1.trans (same_new hD _), upd_same⟩, ?_⟩
  rintro i m H2 ⟨rfl, hi, e2, s2, eD⟩
  by_cases hlt : i < xs.length
  · refine .inr ⟨⟨xs, xs[i], SqL.of e2, by simp [hlt]⟩, fun v H3 y => ?_⟩
    obtain ⟨eh, y⟩ := y
    subst eh
    have hv := y xs (SqL.of e2)
    have tk : xs.take (i + 1) = xs.take i ++ [v] := by rw [List.take_add_one, hv]; rfl
    have hln : ((xs.take i).filter p).length ≤ i := Nat.le_trans (List.length_filter_le _ _) (by rw [List.length_take]; omega)
    refine ht i v _ _ hv s2 fun H4 s4 => ?_
    by_cases hp : p v = true
    · rw [if_pos hp]
      refine hs i v H4 _ hv hp (s2.trans s4) fun H5 s5 => ?_
      have e5 := s5 _ _ (s4 _ _ eD)
      refine ⟨_, e5, by rw [List.length_map]; exact Nat.lt_of_le_of_lt (show _ ≤ 1000 by omega) (by decide), xs.length - (i + 1), by omega, rfl, hlt, ?_, fun d u z => ?_, ?_⟩
      · rw [upd_ne nl]; exact s5 _ _ (s4 _ _ e2)
      · rw [upd_ne (ne_of_none z hD0)]; exact s5 _ _ (s4 _ _ (s2 _ _ z))
      · rw [upd_same, tk, List.filter_append, List.filter_cons_of_pos hp, List.map_append]
        rfl
    · rw [if_neg hp]
      refine ⟨xs.length - (i + 1), by omega, rfl, hlt, s4 _ _ e2, s2.trans s4, ?_⟩
      rw [tk, List.filter_append, List.filter_cons_of_neg hp, List.map_append]
      have z := s4 _ _ eD
      simpa using z
  · have ei : i = xs.length := by omega
    subst ei
    rw [List.take_length] at eD
    exact .inl ⟨⟨xs, SqL.of e2, Nat.le_refl _⟩, hd D H2 s2 hD0 eD⟩
end Mine


set_option Elab.async false
set_option linter.all false
set_option maxRecDepth 100000
set_option maxHeartbeats 4000000
namespace L2
open PySem PySem.Spec PyProof.Rows
variable {X : Cx}
/-! ### items without a star: by the constructor alone -/
def plainArg (e : Expr) : Bool := match e with
  | .Starred _ _ => false
  | _ => true
theorem star_plain {e : Expr} {es : List Expr} {env : Env} (h : plainArg e = true) : starEach (e :: es) env = (false, eval e env) :: starEach es env := by
  cases e <;> first | rfl | cases h
theorem paS {e : Expr} {es : List Expr} {te : TE} {t : TA} (ha : PE X e te) (hr : PA X es t) (h : plainArg e = true := by rfl) : PA X (e :: es) (tCons te t) := pa_cons ha hr (star_plain h)
end L2


set_option Elab.async false
set_option linter.all false
set_option maxRecDepth 100000
set_option maxHeartbeats 4000000
namespace L2
open PySem PySem.Spec PyProof.Rows
variable {X : Cx}
/-! ### written texts, many at once -/
def kStr : Expr → Option Str
  | .Constant (.str x) _ _ => some x
  | _ => none
def kStrs : List Expr → Option (List Str)
  | [] => some []
  | e :: es => match kStr e, kStrs es with
    | some x, some xs => some (x :: xs)
    | _, _ => none
def tStrs (xs : List Str) : TA := fun _ H Q => Q (xs.map V.str) H
theorem pa_strs : ∀ {es : List Expr} {xs : List Str}, kStrs es = some xs → PA X es (tStrs xs)
  | [], xs, h => by
    cases h
    exact pa_nil
  | e :: es, xs, h => by
    unfold kStrs at h
    cases h1 : kStr e with
    | none => rw [h1] at h; cases h
    | some x =>
      cases h2 : kStrs es with
      | none => rw [h1, h2] at h; cases h
      | some ys =>
        rw [h1, h2] at h
        cases h
        have ih := pa_strs h2
        cases e with
        | Constant k j pos =>
          cases k with
          | str y => cases h1; exact paS pe_str ih
          | _ => cases h1
        | _ => cases h1
end L2


set_option Elab.async false
set_option linter.all false
set_option maxRecDepth 100000
set_option maxHeartbeats 4000000
namespace L2
open PySem PySem.Spec PyProof.Rows
/-! ### what is never come to -/
/-! ### sum of a list of ints -/
/-! ### TABLE.get(x) of a dict at a file's top -/
structure TopDict (K : PySem.W.Frag) (mg : Str → Option Value) (x : Str) (D : List (Str × Int)) : Prop where
  ex : ∃ a o es ep, mg x = some (.ref a) ∧ (a == sysModules) = false ∧ K.lookup a = some o ∧ o.ExactDict ∧ o.data = .dict es ep ∧ KTD.Rows (fun (n : Int) v => ∃ t, v = Value.int n t) es.toList D
theorem topdict_mk {K : PySem.W.Frag} {h : Heap} {mg : Str → Option Value} {x : Str} {a : Addr} {es : Array DictEntry} {ep : Nat} {D : List (Str × Int)} (X : K.In h) (G : h.Ns mainGlobals mg)
    (e : PySem.W.nsIn K mainGlobals x = some (some (.ref a))) (l : K.lookup a = some ⟨.type "dict", none, .dict es ep, #[]⟩) (hs : (a == sysModules) = false) (r : KTD.Rows (fun (n : Int) v => ∃ t, v = Value.int n t) es.toList D) : TopDict K mg x D :=
  ⟨a, _, es, ep, PySem.W.mg_of X G e, hs, l, ⟨rfl, rfl, rfl⟩, rfl, r⟩
def tTGet (D : List (Str × Int)) (ty : TE) : TE := fun σ H Q => ty σ H fun y H1 => ∃ k, y = .str k ∧ Q (match KTD.datumAt k D with | some n => .int n | none => .non) H1
theorem pe_tget {X : Cx} {x : Str} {D : List (Str × Int)} {e : Expr} {p apos cpos : Pos} {ty : TE} (T : TopDict X.K X.mg x D) (hg : Gl X x) (he : PE X e ty) (m : M1 X (.Name x p) "get" apos e cpos) (hdb : (x == ("__debug__" : Str)) = false := by decide) :
    PE X (.Call (.Attribute (.Name x p) "get" apos) [e] [] cpos) (tTGet D ty) := by
  intro pins s σ H Q I h
  obtain ⟨a, o, es, ep, hm, hs, lk, xd, dt, rw'⟩ := T.ex
  have tab : ∀ {s1 : Shared} {H1 : Hp}, Inv X pins σ H1 s1 → KTD.TextTab s1.heap a (D.map fun q => (q.1, KTD.Dat.flat (.int q.2))) := fun {s1 H1} I1 =>
    ⟨hs, o, es, ep, I1.kIn _ _ lk, xd, dt, KTD.Rows.mono (R' := KTD.Dat.At s1.heap) (f := fun n => KTD.Dat.flat (.int n)) (fun n v z => by obtain ⟨t, rfl⟩ := z; exact PyProof.V.Flat.int n t) rw'⟩
  refine wpAny_Call_method m.base m.few m.line PySem.F.plainAttrs_dict PySem.F.slot_dict_get PySem.F.type_dict_get (ld_glob I hg hm ?_ hdb)
  have T1 : KTD.Here s.heap s.heap a _ := ⟨tab I, fun _ _ z => z⟩
  refine ⟨T1.typeIs, T1.noDict, ?_⟩
  rw [m.trees]
  refine Calls.callWith_builtin rfl (Calls.evalArgs_plain (Calls.spliced_cons (thn (he pins s σ H _ I h) fun iv s2 ⟨y, H2, I2, ry, k, ek, q2⟩ => Calls.spliced_nil ?_)))
  subst ek
  obtain ⟨t, rfl⟩ := ry
  have T2 : KTD.Here s2.heap s2.heap a _ := ⟨tab I2, fun _ _ z => z⟩
  have dm : ∀ D' : List (Str × Int), KTD.datumAt k (D'.map fun q => (q.1, KTD.Dat.flat (.int q.2))) = (KTD.datumAt k D').map fun n => KTD.Dat.flat (.int n) := by
    intro D'
    induction D' with
    | nil => rfl
    | cons c D' ih =>
      show (if decide (k = c.1) = true then _ else KTD.datumAt k (D'.map _)) = Option.map _ (if decide (k = c.1) = true then _ else KTD.datumAt k D')
      split
      · rfl
      · exact ih
  refine call_meetsIn PySem.F.slot_dict_get T2.typeIs PySem.F.entry_dict_get (PySem.F.args_dict_get_2 _ _) KTD.meets_get1 ⟨T2, fun d v e1 e2 => ?_, fun e1 => ?_⟩
  · rw [dm] at e1
    cases hn : KTD.datumAt k D with
    | none => rw [hn] at e1; cases e1
    | some n =>
      rw [hn] at e1 q2
      cases e1
      obtain ⟨t', rfl⟩ := PyProof.V.Flat.int_inv e2
      exact ⟨.int n, H2, I2.tok _, ⟨t', rfl⟩, q2⟩
  · rw [dm] at e1
    cases hn : KTD.datumAt k D with
    | none =>
      rw [hn] at q2
      exact ⟨.non, H2, I2.tok _, rfl, q2⟩
    | some n => rw [hn] at e1; cases e1
end L2


set_option Elab.async false
set_option linter.all false
set_option maxRecDepth 100000
set_option maxHeartbeats 4000000
namespace L2
open PySem
/-- an own class of exceptions, above which others of one's own may stand, with an __init__ of its own -/
def XAt (h : Heap) (C : Addr) (bmB : List Value) (newId : String) (fI : Addr) : Prop :=
  ∃ nm qn N bs bm hd sn sub ab col dd k0 k1 k2 k3 k5 mN oI, h.get? C = some (excClassObj nm qn C N bs bm hd sn sub ab col dd k0 k1 k2 k3 k5 newId) ∧ h.Ns N mN ∧ mN "__init__" = some (.ref fI) ∧ OwnTail h bmB bm ∧ h.get? fI = some oI ∧ oI.cls = .type "function"
section
variable {prog : Program} {w : World} {A : Around} {E : Value → Shared → Prop} {h : Heap} {g : Array GenState} {d : Drawn} {t : Nat} {os : OsState}
variable {C fI : Addr} {bmB : List Value} {B newId initId : String}
/-- what the new exception and its tuple lie as -/
abbrev withTup (h : Heap) (us : List Value) : Heap := h.push { cls := .type "tuple", data := .seq us.toArray }
abbrev withExc (h : Heap) (C : Addr) (us : List Value) : Heap := (withTup h us).push { cls := .ref C, data := .fields #[.ref h.objs.size, .none, .none, .none, .bool false, .none] }
theorem withExc_keeps (us : List Value) {b : Addr} {o : Obj} (e : h.get? b = some o) : (withExc h C us).get? b = some o := Heap.get?_push_of_some _ (Heap.get?_push_of_some _ e)
theorem withExc_at (us : List Value) : (withExc h C us).get? (h.objs.size + 1) = some { cls := .ref C, data := .fields #[.ref h.objs.size, .none, .none, .none, .bool false, .none] } := by heap_get
theorem type_call_init (F : ExcBaseFacts B newId initId bmB) {us : List Value} {Q : Fin → Shared → Prop} (x : XAt h C bmB newId fI) (hz : us.length ≤ sizeLine)
    (hq : wpAny (model prog w) A (call (.ref fI) (.ref (h.objs.size + 1) :: us)) (fun r s' => r = .none ∧ Q (.done (.ret (.ref (h.objs.size + 1)))) s') E ⟨withExc h C us, g, d, t, os⟩) :
    wpAny (model prog w) A (Builtin.«type.__call__» ⟨.ref C :: us, []⟩) Q E ⟨h, g, d, t, os⟩ := by
  obtain ⟨nm, qn, N, bs, bm, hd, sn, sub, ab, col, dd, k0, k1, k2, k3, k5, mN, oI, hC, hn, hi, T, hfI, hfc⟩ := x
  have hself : (Value.ref C :: bm).contains (.ref C) = true := by simp
  have hC2 := withExc_keeps (C := C) us hC
  have hn2 : (withExc h C us).Ns N mN := hn.keeps fun b o e => withExc_keeps us e
  have T2 : OwnTail (withExc h C us) bmB bm := T.keeps fun b o e => withExc_keeps us e
  have he2 := withExc_at (h := h) (C := C) us
  repeat (first | with_reducible refine wpAny_loadPart_at hC ?_ | with_reducible refine wpAny_madeBy_exc hC ?_ | wp_step)
  refine codeAny_call_builtin_code (Code.quiet_builtin _ F.quiet) (wpAny_check_new_subT F T hC (codeAny_exc_new_subT F T hC ?_ hz))
  show wpAny _ _ _ _ _ _
  unfold isInstance
  repeat (first | with_reducible refine wpAny_loadPart_at he2 ?_ | (with_reducible refine wpAny_isSubtype_exc hC2 ?_; rw [hself]) | wp_step)
  show wpAny _ _ (typeLookup (.ref C) _) _ _ _
  refine wpAny_typeLookup_tail hC2 hn2 T2 F.mroIs F.init.lookup ?_
  rw [hi]
  refine wpAny_holding (wpAny_bind ?_)
  unfold bindSpecial
  refine wpAny_bind (wpAny_typeOf (T := "function") ⟨_, withExc_keeps us hfI, hfc⟩ ?_)
  rw [if_pos (by decide)]
  refine wpAny_pure (wpAny_bind (wpAny_mono hq (fun r s' z => ?_) fun _ _ z => z))
  obtain ⟨rfl, z⟩ := z
  wp_walk
  exact z
theorem call_init (F : ExcBaseFacts B newId initId bmB) {us : List Value} {Q : Value → Shared → Prop} (x : XAt h C bmB newId fI) (hz : us.length ≤ sizeLine)
    (hq : wpAny (model prog w) (A.under (.builtin "type.__call__" ⟨.ref C :: us, []⟩)) (call (.ref fI) (.ref (h.objs.size + 1) :: us)) (fun r s' => r = .none ∧ Q (.ref (h.objs.size + 1)) s') E ⟨withExc h C us, g, d, t, os⟩) :
    wpAny (model prog w) A (call (.ref C) us) Q E ⟨h, g, d, t, os⟩ := by
  obtain ⟨nm, qn, N, bs, bm, hd, sn, sub, ab, col, dd, k0, k1, k2, k3, k5, mN, oI, hC, r⟩ := id x
  have f1 := tc_lookup
  have f2 := tc_bind (.ref C)
  have hT : (⟨h, g, d, t, os⟩ : Shared).TypeIs (.ref C) "type" := ⟨_, hC, rfl⟩
  refine wpAny_call (codeAny_of_tree ?_)
  show wpAny _ _ (callAny (.ref C) _) _ _ _
  repeat (any_goals (first | assumption | with_reducible refine wpAny_loadPart_at hC ?_ | wp_step))
  exact ⟨rfl, codeAny_call_builtin_at (Code.quiet_builtin _ (by decide +kernel)) entry_typeCall (wpAny_check_type_call_sub hC (type_call_init F x hz hq))⟩
end
end L2


set_option Elab.async false
set_option linter.all false
set_option maxRecDepth 100000
set_option maxHeartbeats 4000000
namespace L2
open PySem
/-! ### an exception on its way, with its own dict: what is known of the object at e -/
def XTr (g base : Heap) (e : Addr) (cl : Value) (dc : Option Addr) (fl : Value) : Prop :=
  ∃ oe vs T oT ts, g.get? e = some oe ∧ (oe.cls = cl ∧ oe.dict = dc) ∧ oe.data = .fields vs ∧ vs[1]? = some (.ref T) ∧ base.get? T = none ∧ T ≠ e ∧ g.get? T = some oT ∧ oT.data = .fields ts ∧ ts[3]? = some fl
def XNote (base : Heap) (l : List Env) (e : Addr) (cl : Value) (dc : Option Addr) (fl : Value) (g g' : Heap) : Prop := base.StaysIn g' ∧ g'.FunFrames base l ∧ XTr g' base e cl dc fl ∧ g.UpToSlots g'
def XFly (base : Heap) (l : List Env) (e : Addr) (cl : Value) (dc : Option Addr) (fl : Value) (g : Heap) : Prop := base.StaysIn g ∧ base.get? e = none ∧ g.FunFrames base l ∧ XTr g base e cl dc fl
theorem no_record {g : Heap} {e b : Addr} {oe o : Obj} {vs : Array Value} (he : g.get? e = some oe) (hd : oe.data = .fields vs) (hb : g.get? b = some o) (n : ∀ ws, o.data ≠ .fields ws) : b ≠ e := fun z => by
  subst z
  rw [he] at hb
  cases hb
  exact n vs hd
theorem dict_mapFields (f : Array Value → Array Value) (o : Obj) : (Obj.mapFields f o).dict = o.dict := by
  obtain ⟨c, d, dt, sl⟩ := o
  cases dt <;> rfl
section
variable {M : Model} {A : Around} {E : Value → Shared → Prop} {s : Shared} {base : Heap} {env : Env} {outer l : List Env} {L e : Addr} {cl fl : Value} {dc : Option Addr} {Q : Unit → Shared → Prop}
/-- a new entry of the traceback is put at the exception's head -/
theorem entered {oe : Obj} {vs : Array Value} {hd0 : Value} {more : Bool} (hfr : A.frames = some (env :: outer)) (hl : s.heap.FunFrames base (env :: outer)) (hf : env.frame = some L)
    (he : s.heap.get? e = some oe) (kb : base.StaysIn s.heap) (en : base.get? e = none) (hd : oe.data = .fields vs) (z1 : 1 < vs.size) (k : ∀ g', XNote base (env :: outer) e oe.cls oe.dict (rawInt L) s.heap g' → Q () { s with heap := g' }) :
    wpAny M A (do let a ← frameOf env; let pl ← entryPlaceOf L more; let b ← EntryCells.newEntry hd0 a .none (rawInt L) .none pl; setField (.ref e) 1 b) Q E s := by
  have nf : e ∉ (env :: outer).filterMap (·.frame) := fun hm => by
    obtain ⟨_, o, ho, n⟩ := hl.mem hm
    exact no_record he hd ho n rfl
  refine wpAny_bind (wpAny_frameOf_fun hfr hl hf fun g1 sm => wpAny_bind (wpAny_entryPlaceOf fun pl hpl => ?_))
  unfold EntryCells.newEntry newFields
  refine wpAny_bind (wpAny_newObj_type ?_ (hpl.sizeOk5 _ _ _ _ _))
  have a1 : g1.get? e = some oe := (sm.2.1 e nf).trans he
  have b1 : base.StaysIn g1 := fun b o z => (sm.2.1 b fun hm => by rw [(hl.mem hm).1] at z; cases z).trans (kb b o z)
  have a2 := Heap.get?_push_of_some (h := g1) { cls := .type "traceback", dict := none, data := .fields ([hd0, .ref L, .none, rawInt L, .none] ++ (if pl.isEmpty then List.replicate 6 Value.none else pl)).toArray } a1
  refine wpAny_setField a2 hd z1 (k _ ?_)
  have ne : g1.objs.size ≠ e := Nat.ne_of_gt (Heap.lt_size a1)
  have d3 := Obj.data_mapFields hd (·.setIfInBounds 1 (Value.ref g1.objs.size))
  have a3 := Heap.get?_update_self (Obj.mapFields (·.setIfInBounds 1 (Value.ref g1.objs.size))) a2 (Obj.isFreed_of_fields d3)
  have t3 := (Heap.get?_update_other (g1.push { cls := .type "traceback", dict := none, data := .fields ([hd0, .ref L, .none, rawInt L, .none] ++ (if pl.isEmpty then List.replicate 6 Value.none else pl)).toArray })
    (Obj.mapFields (·.setIfInBounds 1 (Value.ref g1.objs.size))) (Ne.symm ne)).trans (Heap.get?_push_size g1 rfl)
  have stay : ∀ b o, b ≠ e → g1.get? b = some o → ((g1.push { cls := .type "traceback", dict := none, data := .fields ([hd0, .ref L, .none, rawInt L, .none] ++ (if pl.isEmpty then List.replicate 6 Value.none else pl)).toArray }).update e
      (Obj.mapFields (·.setIfInBounds 1 (Value.ref g1.objs.size)))).get? b = some o := fun b o z hb => by
    rw [Heap.get?_update_other _ _ (Ne.symm z)]
    exact Heap.get?_push_of_some _ hb
  refine ⟨fun b o z => stay b o (fun q => by rw [q, en] at z; cases z) (b1 b o z), hl.of_keeps fun b o hb n => ?_, ?_, fun b o hb n => ?_⟩
  · obtain ⟨sl, z⟩ := sm.2.2 b o hb
    exact ⟨_, stay b _ (no_record he hd hb n) z, rfl⟩
  · exact ⟨_, _, g1.objs.size, _, _, a3, ⟨Obj.cls_mapFields _ _, dict_mapFields _ _⟩, d3, by simp [z1], b1.fresh, ne, t3, rfl, by first | (simp; done) | (rcases hpl with rfl | ⟨_, _, _, _, _, _, _, rfl⟩ <;> simp)⟩
  · obtain ⟨sl, z⟩ := sm.2.2 b o hb
    exact ⟨sl, stay b _ (no_record he hd hb n) z⟩
/-- no frame holds the exception -/
theorem unheld (kb : base.StaysIn s.heap) (hl : s.heap.FunFrames base l) (ht : XTr s.heap base e cl dc fl) (k : ∀ g', XNote base l e cl dc .none s.heap g' → Q () { s with heap := g' }) : wpAny M A (setFlight (.ref e) none) Q E s := by
  obtain ⟨oe, vs, T, oT, ts, he, hc, hd, h1, nT, ne, hT, dT, h3⟩ := ht
  have z3 : 3 < ts.size := (Array.getElem?_eq_some_iff.mp h3).1
  have other : ∀ b, b ≠ T → (s.heap.update T (Obj.mapFields (·.setIfInBounds 3 ((none : Option Addr).elim Value.none fun f => rawInt f)))).get? b = s.heap.get? b := fun b z => Heap.get?_update_other _ _ (Ne.symm z)
  unfold setFlight
  refine wpAny_bind (wpAny_field he hd h1 ?_)
  rw [if_pos (show (Value.ref T != Value.none) = true by simp)]
  refine wpAny_setField hT dT z3 (k _ ⟨fun b o z => (other b fun q => by rw [q, nT] at z; cases z).trans (kb b o z), hl.of_keeps fun b o hb n => ⟨o, (other b (no_record hT dT hb n)).trans hb, rfl⟩, ?_, fun b o hb n => ⟨o.slots, (other b (no_record hT dT hb n)).trans hb⟩⟩)
  exact ⟨oe, vs, T, _, _, (other e (Ne.symm ne)).trans he, hc, hd, h1, nT, ne, Heap.get?_update_self _ hT (Obj.isFreed_of_fields (Obj.data_mapFields dT _)), Obj.data_mapFields dT _, by simp [z3]⟩
/-- the frame's entry, the first one -/
theorem noted_first {oe : Obj} {vs : Array Value} (hfr : A.frames = some (env :: outer)) (hl : s.heap.FunFrames base (env :: outer)) (hf : env.frame = some L) (he : s.heap.get? e = some oe) (kb : base.StaysIn s.heap) (en : base.get? e = none)
    (hd : oe.data = .fields vs) (h1 : vs[1]? = some .none) (k : ∀ g', XNote base (env :: outer) e oe.cls oe.dict (rawInt L) s.heap g' → Q () { s with heap := g' }) : wpAny M A (noteFrame (.ref e) env) Q E s := by
  unfold noteFrame
  simp only [hf]
  refine wpAny_bind (wpAny_field he hd h1 ?_)
  rw [if_neg (by decide)]
  exact entered hfr hl hf he kb en hd (Array.getElem?_eq_some_iff.mp h1).1 k
/-- .. a further one -/
theorem noted_next (hfr : A.frames = some (env :: outer)) (hl : s.heap.FunFrames base (env :: outer)) (hf : env.frame = some L) (ht : XTr s.heap base e cl dc .none) (kb : base.StaysIn s.heap) (en : base.get? e = none)
    (k : ∀ g', XNote base (env :: outer) e cl dc (rawInt L) s.heap g' → Q () { s with heap := g' }) : wpAny M A (noteFrame (.ref e) env) Q E s := by
  obtain ⟨oe, vs, T, oT, ts, he, ⟨rfl, rfl⟩, hd, h1, nT, ne, hT, dT, h3⟩ := ht
  unfold noteFrame
  simp only [hf]
  refine wpAny_bind (wpAny_field he hd h1 ?_)
  rw [if_pos (show (Value.ref T != Value.none) = true by simp)]
  refine wpAny_bind (wpAny_field hT dT h3 ?_)
  rw [if_neg (show ¬ ((Value.none == rawInt L) = true) by simp [rawInt])]
  refine wpAny_bind (wpAny_setField hT dT (Array.getElem?_eq_some_iff.mp h3).1 ?_)
  have other : ∀ b, b ≠ T → (s.heap.update T (Obj.mapFields (·.setIfInBounds 3 Value.none))).get? b = s.heap.get? b := fun b z => Heap.get?_update_other _ _ (Ne.symm z)
  refine entered hfr (hl.of_keeps fun b o hb n => ⟨o, (other b (no_record hT dT hb n)).trans hb, rfl⟩) hf ((other e (Ne.symm ne)).trans he) (fun b o z => (other b fun q => by rw [q, nT] at z; cases z).trans (kb b o z)) en hd (Array.getElem?_eq_some_iff.mp h1).1 fun g' x => k g' ?_
  exact ⟨x.1, x.2.1, x.2.2.1, fun b o hb n => x.2.2.2 b o ((other b (no_record hT dT hb n)).trans hb) n⟩
/-- the exception leaves the frame in which it was raised -/
theorem leaves_first {oe : Obj} {vs : Array Value} (hfr : A.frames = some (env :: outer)) (hl : s.heap.FunFrames base (env :: outer)) (hf : env.frame = some L) (he : s.heap.get? e = some oe) (kb : base.StaysIn s.heap) (en : base.get? e = none)
    (hd : oe.data = .fields vs) (h1 : vs[1]? = some .none) (k : ∀ g', XFly base outer e oe.cls oe.dict .none g' → s.heap.UpToSlots g' → Q () { s with heap := g' }) : wpAny M A (leaving env (.ref e)) Q E s := by
  unfold leaving
  refine wpAny_bind (noted_first hfr hl hf he kb en hd h1 fun g1 ⟨k1, k2, k3, k4⟩ => ?_)
  refine unheld (s := { s with heap := g1 }) k1 k2 k3 fun g2 ⟨j1, ⟨_, _, j2⟩, j3, j4⟩ => ?_
  exact k g2 ⟨j1, en, j2, j3⟩ (k4.trans j4)
/-- .. one through which it goes -/
theorem leaves_next (hfr : A.frames = some (env :: outer)) (hf : env.frame = some L) (x : XFly base (env :: outer) e cl dc .none s.heap) (k : ∀ g', XFly base outer e cl dc .none g' → s.heap.UpToSlots g' → Q () { s with heap := g' }) : wpAny M A (leaving env (.ref e)) Q E s := by
  obtain ⟨f1, f2, f3, f4⟩ := x
  unfold leaving
  refine wpAny_bind (noted_next hfr f3 hf f4 f1 f2 fun g1 ⟨k1, k2, k3, k4⟩ => ?_)
  refine unheld (s := { s with heap := g1 }) k1 k2 k3 fun g2 ⟨j1, ⟨_, _, j2⟩, j3, j4⟩ => ?_
  exact k g2 ⟨j1, f2, j2, j3⟩ (k4.trans j4)
/-- it is looked at by the frame that may catch it; it lands there -/
theorem looked (hfr : A.frames = some (env :: outer)) (hf : env.frame = some L) (x : XFly base (env :: outer) e cl dc .none s.heap) (k : ∀ g', XFly base (env :: outer) e cl dc (rawInt L) g' → s.heap.UpToSlots g' → Q () { s with heap := g' }) : wpAny M A (noteFrame (.ref e) env) Q E s := by
  obtain ⟨f1, f2, f3, f4⟩ := x
  exact noted_next hfr f3 hf f4 f1 f2 fun g1 ⟨k1, k2, k3, k4⟩ => k g1 ⟨k1, f2, k2, k3⟩ k4
theorem landed (x : XFly base l e cl dc fl s.heap) (k : ∀ g', XFly base l e cl dc .none g' → s.heap.UpToSlots g' → Q () { s with heap := g' }) : wpAny M A (setFlight (.ref e) none) Q E s := by
  obtain ⟨f1, f2, f3, f4⟩ := x
  exact unheld f1 f3 f4 fun g1 ⟨k1, k2, k3, k4⟩ => k g1 ⟨k1, f2, k2, k3⟩ k4
end
end L2


set_option Elab.async false
set_option linter.all false
set_option maxRecDepth 100000
set_option maxHeartbeats 4000000
namespace L2
open PySem PySem.Spec PySem.Calls PyProof.Rows PySem.W PySem.Builtin PySem.Builtin.ObjectAttr
/-- above the class stand own ones, then ValueError -/
def overV : List Value → Bool
  | [] => false
  | v :: r => (v :: r == bmV) || (match v with | .ref _ => overV r | _ => false)
theorem refuse_overV (self : Value) : ∀ {l : List Value}, overV l = true → refuseLoop self "__setattr__" l = pure ()
  | [], e => by cases e
  | v :: r, e => by
    rcases (Bool.or_eq_true _ _).mp e with z | z
    · rw [beq_iff_eq.mp z]
      exact PySem.F.store_ValueError.passes self
    · cases v with
      | ref c => rw [refuseLoop_ref]; exact refuse_overV self z
      | _ => cases z
/-- what the fragment says of such a class, for the fields of its exceptions -/
structure XFld (K : Frag) (C : Addr) : Prop where
  ex : ∃ cd, clsIn K C = some cd ∧ overV cd.mro = true ∧ cd.hasDict = true
  sa : findIn K (.ref C) "__setattr__" = some (some (.builtin "object.__setattr__"))
  ec : ExcCls K C
section
variable {prog : Program} {w : World} {A : Around} {s : Shared} {K : Frag} {x C : Addr} {ox : Obj} {od : Option Obj} {name : Str} {v : Value}
theorem x_osa {R : Result → Shared → Prop} {tk : Tok} (X : K.In s.heap) (c : XFld K C) (I : W.InstAt s.heap x ox C od) (ha : NoAttr K C name)
    (h : wpAny (model prog w) A.in1 (storeInOwnDict (.ref x) (.ref C) (.str name tk) name v false)
      (fun fin s' => match fin with | .done f => R (.ok f) s' | .again c' => c'.quiet = true ∧ codeAny (model prog w) A c' R s') (fun e s' => R (.error e) s') s) :
    codeAny (model prog w) A (.call (.builtin "object.__setattr__") ⟨[.ref x, .str name tk, v], []⟩) R s := by
  obtain ⟨cd, hc, ho, _⟩ := c.ex
  have SF := PySem.F.store_object
  have T := I.type (M := model prog w)
  have inst : Looks (model prog w) s.heap (isInstance (.ref x) (.type "object")) true := T.andThen (looks_mroIn X c.ec.hm)
  have mro : Looks (model prog w) s.heap (mroOf (.ref C)) cd.mro := (looks_clsIn X hc).andThen .now
  refine codeAny_call_builtin SF.slot.plain SF.entry (check_slot (M := model prog w) (s := s) (i := "object.__setattr__") (owner := "object") (n := "__setattr__") (self := .ref x) (rest := [.str name tk, v]) (kw := []) SF.kind SF.split inst (SF.args (.ref x) (.str name tk) v) ?_)
  rw [osa_eq, refuse_eq]
  refine wpAny_bind (wpAny_bind (T.here (wpAny_bind (mro.here ?_))))
  rw [refuse_overV _ ho]
  exact wpAny_pure (wpAny_bind (T.here (wpAny_bind ((looks_findIn X (show findIn K (.ref C) name = some none from ha)).here (wpAny_bind (wpAny_pure h))))))
/-- a field is put where there is a dict already -/
theorem x_put {E : Value → Shared → Prop} {dx : Addr} {mA : Str → Option Value} {ns : List Str} {Q : Unit → Shared → Prop} (X : K.In s.heap) (c : XFld K C) (hx : s.heap.get? x = some ox) (hcl : ox.cls = .ref C) (nc : notCls ox = true) (hd : ox.dict = some dx) (ne : dx ≠ x) (nsd : s.heap.Ns1 dx mA) (ha : NoAttr K C name)
    (hw : PySem.Within mA ns) (hsz : ns.length ≤ sizeLine) (h : ∀ h', h'.Ns1 dx (fun y => if y = name then some v else mA y) → Heap.SameBut dx s.heap h' → Q () { s with heap := h', toks := s.toks + 2 }) :
    wpAny (model prog w) A (setAttr (.ref x) name v) Q E s := by
  obtain ⟨ob, ho, _⟩ := lookIn_ns nsd
  have I : W.InstAt s.heap x ox C (some ob) := ⟨hx, hcl, nc, by rw [hd]; exact ho⟩
  refine set_plain X I c.sa (x_osa (s := { s with toks := s.toks + 1 }) X c I ha ?_)
  obtain ⟨cd, hc, _, hdd⟩ := c.ex
  obtain ⟨oc, odi, oda, osl⟩ := ox
  dsimp only at hcl hd
  subst hcl hd
  refine wpAny_bind (wpAny_pure (wpAny_bind (wpAny_bind (wpAny_loadPart hx (wpAny_bind (W.Looks.here (s := { s with toks := s.toks + 1 }) (looks_clsIn X hc) ?_))))))
  rw [hdd]
  refine wpAny_pure (a := some dx) (wpAny_bind (wpAny_pure (wpAny_bind ?_)))
  refine wpAny_nsSet1 (s := { s with toks := s.toks + 1 }) nsd fun h2 hn2 hs2 => ?_
  obtain ⟨oD, esD, epD, hoD, hdD, hcD⟩ := hn2.count (PySem.Within.cons name v hw)
  refine wpAny_bind (wpAny_lookBehind hoD (by rw [hdD]; exact pastItsLine_dict (Nat.le_trans hcD (by rw [List.length_cons]; omega))) ?_)
  exact wpAny_pure (h _ hn2 hs2)
/-- the first field: the dict is made -/
theorem x_put0 {E : Value → Shared → Prop} {Q : Unit → Shared → Prop} (X : K.In s.heap) (c : XFld K C) (hx : s.heap.get? x = some ox) (hcl : ox.cls = .ref C) (hdt : ∃ vs, ox.data = .fields vs) (hd : ox.dict = none) (ha : NoAttr K C name)
    (h : ∀ h', h'.get? x = some { ox with dict := some s.heap.objs.size } → h'.Ns1 s.heap.objs.size (fun y => if y = name then some v else none) → (∀ b o, b ≠ x → s.heap.get? b = some o → h'.get? b = some o) → Q () { s with heap := h', toks := s.toks + 2 }) :
    wpAny (model prog w) A (setAttr (.ref x) name v) Q E s := by
  obtain ⟨vs, hdt⟩ := hdt
  have I : W.InstAt s.heap x ox C none := ⟨hx, hcl, by unfold notCls; rw [hdt], by rw [hd]; exact True.intro⟩
  refine set_plain X I c.sa (x_osa (s := { s with toks := s.toks + 1 }) X c I ha ?_)
  obtain ⟨cd, hc, _, hdd⟩ := c.ex
  obtain ⟨oc, odi, oda, osl⟩ := ox
  dsimp only at hcl hd hdt
  subst hcl hd hdt
  have lt := Heap.lt_size hx
  have e1 : (s.heap.push { cls := .type "dict", data := .dict #[] }).get? x = some ⟨.ref C, none, .fields vs, osl⟩ := Heap.get?_push_of_some _ hx
  refine wpAny_bind (wpAny_pure (wpAny_bind (wpAny_bind (wpAny_loadPart hx (wpAny_bind (W.Looks.here (s := { s with toks := s.toks + 1 }) (looks_clsIn X hc) ?_))))))
  rw [hdd]
  have go : wpAny (model prog w) A.in1 (do let d ← alloc { cls := .type "dict", data := .dict #[] }; update x fun o => { o with dict := some d }; dictMade (.ref C) x d)
      (fun r s1 => ∃ h1, r = some s.heap.objs.size ∧ s1 = { s with heap := h1, toks := s.toks + 1 } ∧ h1.get? x = some ⟨.ref C, some s.heap.objs.size, .fields vs, osl⟩ ∧ h1.Ns s.heap.objs.size (fun _ => none) ∧ ∀ b o, b ≠ x → s.heap.get? b = some o → h1.get? b = some o) (fun _ _ => False) { s with toks := s.toks + 1 } := by
    refine wpAny_bind (wpAny_alloc' (wpAny_bind (wpAny_update' e1 (wpAny_pure ⟨_, rfl, rfl, ?_, ?_, ?_⟩))))
    · exact Heap.get?_update_self _ e1 rfl
    · exact ⟨_, #[], _, (Heap.get?_update_ne _ _ _ _ (Nat.ne_of_gt lt)).trans (Heap.get?_push_at rfl rfl), rfl, (fun e z => absurd z (by simp)), fun _ => rfl⟩
    · exact fun b o nb z => (Heap.get?_update_ne _ _ _ _ nb).trans (Heap.get?_push_of_some _ z)
  change wpAny (model prog w) A.in1 (do let d ← alloc { cls := .type "dict", data := .dict #[] }; update x fun o => { o with dict := some d }; dictMade (.ref C) x d) _ _ _
  refine wpAny_mono go (fun r s1 z => ?_) (fun _ _ z => z.elim)
  obtain ⟨h1, rfl, rfl, gx, gn, gk⟩ := z
  show wpAny _ _ (storeInDict s.heap.objs.size (.str name s.toks) name v) _ _ _
  unfold storeInDict newKeyGuard
  refine wpAny_bind (wpAny_pure (wpAny_bind (wpAny_nsSet1 (s := { s with heap := h1, toks := s.toks + 1 }) (Heap.Ns1.of_empty gn) fun h2 hn2 hs2 => ?_)))
  obtain ⟨oD, esD, epD, hoD, hdD, hcD⟩ := hn2.count (PySem.Within.cons name v PySem.Within.nil)
  refine wpAny_bind (wpAny_lookBehind hoD (by rw [hdD]; exact pastItsLine_dict (Nat.le_trans hcD (by rw [List.length_cons, List.length_nil, sizeLine_eq]; omega))) ?_)
  refine wpAny_pure (h _ ((hs2.2 x (Nat.ne_of_lt lt)).trans gx) hn2 fun b o nb z => (hs2.2 b (Nat.ne_of_lt (Heap.lt_size z))).trans (gk b o nb z))
end
end L2


set_option Elab.async false
set_option linter.all false
set_option maxRecDepth 100000
set_option maxHeartbeats 4000000
namespace L2
open PySem PySem.Spec PySem.Calls PyProof.Rows PySem.W
/-- an exception that was made and not yet raised: its class, its dict -/
def XNew (e C : Addr) (dc : Option Addr) (h : Heap) : Prop := ∃ t, h.get? e = some { cls := .ref C, dict := dc, data := .fields #[.ref t, .none, .none, .none, .bool false, .none] }
/-- the dict of an exception -/
def XDict (d : Addr) (fs : List (Str × V)) (h : Heap) : Prop := ∃ mA, h.Ns1 d mA ∧ (∀ f, RelO (fs.lookup f) (mA f)) ∧ PySem.Within mA (fs.map (·.1)) ∧ fs.length ≤ 100
/-- an exception that was caught -/
def XGot (e C : Addr) (dc : Option Addr) (h : Heap) : Prop := ∃ o vs, h.get? e = some o ∧ o.cls = .ref C ∧ o.dict = dc ∧ o.data = .fields vs
theorem XNew.stay {e C : Addr} {dc : Option Addr} {h1 h2 : Heap} (x : XNew e C dc h1) (k : ∀ o, h1.get? e = some o → h2.get? e = some o) : XNew e C dc h2 := let ⟨t, z⟩ := x; ⟨t, k _ z⟩
theorem XGot.stay {e C : Addr} {dc : Option Addr} {h1 h2 : Heap} (x : XGot e C dc h1) (k : ∀ o, h1.get? e = some o → h2.get? e = some o) : XGot e C dc h2 := let ⟨o, vs, z, r⟩ := x; ⟨o, vs, k _ z, r⟩
theorem XDict.stay {d : Addr} {fs : List (Str × V)} {h1 h2 : Heap} (x : XDict d fs h1) (k : ∀ o, h1.get? d = some o → h2.get? d = some o) : XDict d fs h2 := by
  obtain ⟨mA, ⟨od, es, ep, e, c⟩, r⟩ := x
  exact ⟨mA, ⟨od, es, ep, k _ e, c⟩, r⟩
theorem XDict.there {d : Addr} {fs : List (Str × V)} {h : Heap} (x : XDict d fs h) : ∃ o, h.get? d = some o := by
  obtain ⟨mA, ⟨od, es, ep, e, c⟩, r⟩ := x
  exact ⟨_, e⟩
section
variable {P : Program} {w : World} {H : Hp} {h : Heap} {e C d : Addr} {dc : Option Addr} {fs : List (Str × V)}
theorem xnew_ok (x : XNew e C dc h) : ObjOk P w H h e (.ext (XNew e C dc)) := ⟨x, let ⟨_, z⟩ := x; ⟨_, z⟩, fun _ _ a k => a.stay k⟩
theorem xdict_ok (x : XDict d fs h) : ObjOk P w H h d (.ext (XDict d fs)) := ⟨x, x.there, fun _ _ a k => a.stay k⟩
end
/-- the field put, as a map and as a list of pairs -/
theorem xdict_put {d : Addr} {fs : List (Str × V)} {h h' : Heap} {mA : Str → Option Value} {f : Str} {y : V} {u : Value} (r : ∀ g, RelO (fs.lookup g) (mA g)) (wi : PySem.Within mA (fs.map (·.1))) (z : fs.length < 100) (ry : RelV y u)
    (n : h'.Ns1 d (fun g => if g = f then some u else mA g)) : XDict d (putF f y fs) h' := by
  refine ⟨_, n, fun g => ?_, fun g hg => ?_, ?_⟩
  · show RelO ((putF f y fs).lookup g) (if g = f then some u else mA g)
    rw [lookup_putF]
    by_cases q : g = f
    · rw [if_pos q, if_pos q]; exact ry
    · rw [if_neg q, if_neg q]; exact r g
  · by_cases q : g = f
    · rw [q]; exact (keys_putF f y fs).1
    · exact (keys_putF f y fs).2 g (wi g fun z => hg (by show (if g = f then some u else mA g) = none; rw [if_neg q]; exact z))
  · have := length_putF f y fs
    omega
section
variable {X : Cx} {pins : List (Addr × Obj)} {σ : St} {H : Hp} {s : Shared} {a C d : Addr} {fs : List (Str × V)} {f : Str} {y : V} {u : Value} {A : Around} {E : Value → Shared → Prop} {Q : Unit → Shared → Prop}
theorem xset_ok (I : Inv X pins σ H s) (ea : H a = some (.ext (XNew a C (some d)))) (ed : H d = some (.ext (XDict d fs))) (ne : d ≠ a) (c : XFld X.K C) (n : NoAttr X.K C f) (hl : fs.length < 100) (ry : RelV y u)
    (h : ∀ s', Inv X pins σ (upd H d (.ext (XDict d (putF f y fs)))) s' → Q () s') : wpAny (model X.prog X.w) A (setAttr (.ref a) f u) Q E s := by
  obtain ⟨⟨t, gx⟩, _, _⟩ := (show ObjOk X.prog X.w H s.heap a (.ext (XNew a C (some d))) from I.hok a _ ea)
  obtain ⟨⟨mA, nsd, r, wi, _⟩, _, _⟩ := (show ObjOk X.prog X.w H s.heap d (.ext (XDict d fs)) from I.hok d _ ed)
  refine x_put I.kIn c gx rfl rfl rfl ne nsd n wi (by rw [List.length_map, sizeLine_eq]; omega) fun h' n' sb => h _ ?_
  have x' := xdict_put (d := d) (h := s.heap) r wi hl ry n'
  exact I.write (x := d) (e := d) (by rw [ed]; exact True.intro) (.inl rfl) (fun b q hb z => (sb.2 b hb).trans z) x'.there (xdict_ok x')
theorem xset0_ok (I : Inv X pins σ H s) (ea : H a = some (.ext (XNew a C none))) (c : XFld X.K C) (n : NoAttr X.K C f) (ry : RelV y u)
    (hL : ∀ b, s.heap.objs.size ≤ b → b ≠ X.env.locals ∧ (∀ x c, X.env.cells.lookup x = some c → c ≠ b) ∧ (∀ p ∈ X.pn ++ pins, p.1 ≠ b) ∧ X.s₀.heap.get? b = none)
    (h : ∀ s' b, H b = none → Inv X pins σ (upd (upd H a (.ext (XNew a C (some b)))) b (.ext (XDict b [(f, y)]))) s' → Q () s') : wpAny (model X.prog X.w) A (setAttr (.ref a) f u) Q E s := by
  obtain ⟨⟨t, gx⟩, _, _⟩ := (show ObjOk X.prog X.w H s.heap a (.ext (XNew a C none)) from I.hok a _ ea)
  refine x_put0 I.kIn c gx rfl ⟨_, rfl⟩ rfl n fun h' g' n' kp => ?_
  have fr : H s.heap.objs.size = none := I.hok.fresh (Nat.le_refl _)
  have ne : s.heap.objs.size ≠ a := fun z => by rw [z, ea] at fr; cases fr
  have x' : XDict s.heap.objs.size [(f, y)] h' := xdict_put (fs := []) (h := s.heap) (mA := fun _ => none) (fun _ => True.intro) (fun g z => absurd rfl z) (by decide) ry n'
  have I1 : Inv X pins σ (upd H a (.ext (XNew a C (some s.heap.objs.size)))) { s with heap := h', toks := s.toks + 2 } :=
    I.write (x := a) (e := a) (by rw [ea]; exact True.intro) (.inl rfl) (fun b q hb z => kp b q hb z) ⟨_, g'⟩ (xnew_ok ⟨t, g'⟩)
  obtain ⟨l1, l2, l3, l4⟩ := hL _ (Nat.le_refl _)
  exact h _ s.heap.objs.size fr (I1.track (by rw [upd_ne ne]; exact fr) l4 l1 l2 l3 x' x'.there fun _ _ z k => z.stay k)
end
/-- what is known of addresses above the heap -/
theorem Inv.above {X : Cx} {pins : List (Addr × Obj)} {σ : St} {H : Hp} {s : Shared} (I : Inv X pins σ H s) : ∀ b, s.heap.objs.size ≤ b → b ≠ X.env.locals ∧ (∀ x c, X.env.cells.lookup x = some c → c ≠ b) ∧ (∀ p ∈ X.pn ++ pins, p.1 ≠ b) ∧ X.s₀.heap.get? b = none := fun b hb => by
  have no : ∀ o, s.heap.get? b = some o → False := fun o z => absurd (Heap.lt_size z) (Nat.not_lt.mpr hb)
  refine ⟨fun z => ?_, fun x c k q => ?_, fun p hp q => ?_, ?_⟩
  · obtain ⟨mm, ⟨o, _, _, g, _⟩, _⟩ := I.loc
    rw [← z] at g
    exact no _ g
  · obtain ⟨v, o, g, _⟩ := I.cell x c k
    rw [q] at g
    exact no _ g
  · obtain ⟨g, _⟩ := I.pin p hp
    rw [q] at g
    exact no _ g
  · exact Heap.get?_none_of_le (Nat.le_trans I.sz hb)
/-! ### self.f = value, in the __init__ of an exception -/
def sFldX (K : Frag) (ta tv : TE) (f : Str) : TS := fun D σ H => tv σ H fun y H1 => ta σ H1 fun x H2 => ∃ a C, x = .ref a ∧ XFld K C ∧ NoAttr K C f ∧
  ((H2 a = some (.ext (XNew a C none)) ∧ ∀ d, H2 d = none → D.nx σ (upd (upd H2 a (.ext (XNew a C (some d)))) d (.ext (XDict d [(f, y)])))) ∨
   ∃ d fs, H2 a = some (.ext (XNew a C (some d))) ∧ H2 d = some (.ext (XDict d fs)) ∧ d ≠ a ∧ fs.length < 100 ∧ D.nx σ (upd H2 d (.ext (XDict d (putF f y fs)))))
theorem ps_fldX {X : Cx} {o value : Expr} {f : Str} {pos pos' : Pos} {ta tv : TE} (ha : PE X o ta) (hv : PE X value tv) (hs : swapsWith value (some (.Attribute o f pos')) pos.line X.env = pure false) : PS X (.Assign [.Attribute o f pos'] value pos) (sFldX X.K ta tv f) := by
  intro pins s σ H D I h
  refine plainObj_wpAny_Assign_Attribute (thn (hv pins s σ H _ I h) fun u s1 ⟨y, H1, I1, ry, q⟩ => thn (ha pins s1 σ H1 _ I1 q) fun ov s2 ⟨x, H2, I2, rx, a, C, ex, c, n, q2⟩ => ?_) hs
  subst ex
  cases (show ov = Value.ref a from rx)
  rcases q2 with ⟨ea, q2⟩ | ⟨d, fs, ea, ed, ne, l, q2⟩
  · exact xset0_ok I2 ea c n ry I2.above fun s3 b hb I3 => ⟨σ, _, I3, q2 b hb⟩
  · exact xset_ok I2 ea ed ne c n l ry fun s3 I3 => ⟨σ, _, I3, q2⟩
end L2


set_option Elab.async false
set_option linter.all false
set_option maxRecDepth 100000
set_option maxHeartbeats 4000000
namespace L2
open PySem PySem.Spec PySem.Calls PyProof.Rows PySem.W
/-! ### what the fragment says of a class of exceptions with an __init__ of its own -/
def excInI (K : Frag) (C : Addr) (bmB : List Value) (newId : String) (fI : Addr) : Bool := match K.lookup C with
  | some ⟨.type "type", _, .cls cl, sl⟩ => (match cl.mro, sl.toList with
    | .ref C1 :: bm, [_, _, _, _, some (.builtin i), _] => (C1 == C && i == newId && !cl.hasDel && tailIn K bmB bm) && (nsOkIn K cl.ns && nsIn K cl.ns "__init__" == some (some (.ref fI)) && isFn K (.ref fI))
    | _, _ => false)
  | _ => false
theorem ns_some_of {K : Frag} {h : Heap} {N : Addr} {m : Str → Option Value} {n : Str} {v : Value} (X : K.In h) (G : h.Ns N m) (q : nsIn K N n = some (some v)) : m n = some v := by
  obtain ⟨o, es, ep, ho, hd, _, hf⟩ := G
  unfold nsIn at q
  split at q
  · rename_i z
    have e := X _ _ z
    rw [ho] at e
    cases e
    cases hd
    split at q
    · rename_i en he
      cases q
      rw [← hf]
      unfold nsFind findBy
      rw [← Array.find?_toList, he]
      rfl
    · split at q <;> cases q
  · cases q
theorem xat_of {K : Frag} {h : Heap} {C fI : Addr} {bmB : List Value} {newId : String} (X : K.In h) (q : excInI K C bmB newId fI = true) : XAt h C bmB newId fI := by
  unfold excInI at q
  split at q
  · rename_i d0 c0 sl0 lk
    split at q
    · rename_i C1 bm1 j0 j1 j2 j3 n1 j5 em es
      simp only [Bool.not_eq_true', beq_iff_eq, Bool.and_eq_true] at q
      obtain ⟨⟨⟨⟨e1, e2⟩, nodel⟩, tl⟩, ⟨ok, ni⟩, fn⟩ := q
      subst e1 e2
      obtain ⟨nm1, bs1, mro1, ns1, qn1, hd1, sn1, sub1, ab1, col1, del1⟩ := c0
      dsimp only at em nodel ok ni
      subst em nodel
      have esl : sl0 = #[j0, j1, j2, j3, some (.builtin n1), j5] := by
        obtain ⟨l0⟩ := sl0
        simp only at es
        rw [es]
      subst esl
      have G : h.Ns ns1 (h.nsMap ns1) := .of_isNs (isNs_of_in X ok)
      obtain ⟨ob, ho, hc⟩ := Option.map_eq_some_iff.mp (show typeIn K (.ref fI) = some (.type "function") from beq_iff_eq.mp fn)
      exact ⟨_, _, _, _, _, _, _, _, _, _, _, _, _, _, _, _, _, ob, X _ _ lk, G, ns_some_of X G ni, tail_of_in X tl, X _ _ ho, hc⟩
    · cases q
  · cases q
/-! ### C(..) of such a class -/
section
variable {X : Cx} {k : Nat} {f C : Addr} {fd : FuncData} {ps : List Str} {sp : Sp} {x : Str} {p pos : Pos} {e : Expr} {es : List Expr} {t : TA}
theorem run_makeX0 {pins : List (Addr × Obj)} {σ : St} {H : Hp} {s : Shared} {R : Hp → Prop} {us : List Value} {vs : List V} (F : FnOk X.prog X.w X.K X.mg X.base CX0 k f fd ps sp) (xi : excInI X.K C bmV "ValueError.__new__" f = true) (hr : Room (k + 1) X.A) (hb : Binds X.K fd ps [])
    (I : Inv X pins σ H s) (r : Vals vs us) (hz : vs.length ≤ 1000) (q : sp (.ref (s.heap.objs.size + 1) :: vs) (upd H (s.heap.objs.size + 1) (.ext (XNew (s.heap.objs.size + 1) C none))) (fun v H2 => v = .non ∧ R H2) E0) : wpAny (model X.prog X.w) X.A (call (.ref C) us) (fun u s' => u = .ref (s.heap.objs.size + 1) ∧ ∃ H', Inv X pins σ H' s' ∧ R H') X.xe s := by
  have lz : us.length ≤ sizeLine := by rw [← r.length, sizeLine_eq]; omega
  have I1 : Inv X pins σ (upd H (s.heap.objs.size + 1) (.ext (XNew (s.heap.objs.size + 1) C none))) { s with heap := withExc s.heap C us, toks := s.toks } :=
    I.laid (fun b o z => withExc_keeps us z) (Nat.le_succ _) (xnew_ok ⟨_, withExc_at us⟩)
  have r1 : Vals (V.ref (s.heap.objs.size + 1) :: vs) (Value.ref (s.heap.objs.size + 1) :: us) := .cons rfl r
  have hl : (Value.ref (s.heap.objs.size + 1) :: us).length = ps.length := by rw [← r1.length]; exact F.len _ _ _ _ q
  have bnd := hb { s with heap := withExc s.heap C us, toks := s.toks } (Value.ref (s.heap.objs.size + 1) :: us) I1.kIn (by rw [List.append_nil]; exact hl)
  rw [List.append_nil] at bnd
  obtain ⟨hh, g, d, tk, os⟩ := s
  refine call_init PySem.F.excBase_ValueError (xat_of I.kIn xi) lz ?_
  refine wpAny_call (codeAny_mono (F.run _ X.stack _ _ ⟨_, []⟩ _ _ _ E0 (hr.make C us []) (I1.env0.make C us []) bnd r1 q) fun res s1 hq => ?_)
  cases res with
  | error ex => exact hq.elim
  | ok fl =>
    cases fl with
    | ret u =>
      obtain ⟨v, H2, I2, rv, ev, q2⟩ := I1.after hq
      subst ev
      exact ⟨rv, rfl, H2, I2, q2⟩
    | next => exact False.elim hq
    | brk => exact False.elim hq
    | cont => exact False.elim hq
end
/-! ### raise of an exception that was made -/
theorem x_raise {prog : Program} {w : World} {A : Around} {E : Value → Shared → Prop} {s : Shared} {env : Env} {ex : Expr} {pos : Pos} {Q : Flow → Shared → Prop} {C : Addr} {bmB : List Value} {newId : String} (hbase : bmB.contains (.type "BaseException") = true) (hh : A.handled = none)
    (h : wpAny (model prog w) A (eval ex env) (fun v s₁ => ∃ e dc, v = .ref e ∧ (∃ fI, XAt s₁.heap C bmB newId fI) ∧ XNew e C dc s₁.heap ∧ E (.ref e) s₁) E s) : wpAny (model prog w) A (exec (.Raise (some ex) none pos) env) Q E s := by
  rw [arm_exec_Raise]
  refine wpAny_bind (wpAny_standAt ?_)
  show wpAny _ _ (raiseStmt env (some (do let v ← eval ex env; standAt pos; pure v)) none) _ _ _
  unfold raiseStmt
  refine wpAny_bind (wpAny_bind (wpAny_mono h (fun v s1 z => wpAny_bind (wpAny_standAt (wpAny_pure ?_))) fun _ _ z => z))
  obtain ⟨e, dc, rfl, ⟨fI, nm, qn, N, bs, bm, hd, sn, sub, ab, col, dd, k0, k1, k2, k3, k5, mN, oI, gC, _, _, T, _, _⟩, ⟨t, ge⟩, hE⟩ := z
  have hcB : (Value.ref C :: bm).contains (.type "BaseException") = true := by rw [List.contains_cons, T.hasType hbase, Bool.or_true]
  obtain ⟨hp, g, d, tk, os⟩ := s1
  repeat (first | with_reducible refine wpAny_loadPart_at ge ?_ | with_reducible refine wpAny_loadPart_at gC ?_ | (with_reducible refine wpAny_isSubtype_exc gC ?_; rw [hcB]) | wp_step)
  exact wpAny_raiseNew_none hh hE
end L2


set_option Elab.async false
set_option linter.all false
set_option maxRecDepth 100000
set_option maxHeartbeats 4000000
namespace L2
open PySem PySem.Spec PySem.Calls PyProof.Rows PySem.W
/-- a is tracked no more -/
def del (a : Addr) (H : Hp) : Hp := fun b => if b = a then none else H b
theorem del_same {a : Addr} {H : Hp} : del a H a = none := if_pos rfl
theorem del_ne {a b : Addr} {H : Hp} (n : b ≠ a) : del a H b = H b := if_neg n
/-! ### how an exception lies behind a call: ea the object, C its class, dc its dict; whatever is tracked, or stood ahead of the call, stands in B, which stays -/
def FliesD (P : Program) (w : World) (outer : List Env) (H : Hp) (s : Shared) (ea : Addr) (C : Value) (dc : Option Addr) (H' : Hp) (s' : Shared) : Prop := ∃ (B : Heap),
  s'.os = s.os ∧ AllBare s'.gens ∧ Un (frs outer) [] H H' s.heap s'.heap ∧ HOk P w H' s'.heap ∧ XFly B outer ea C dc .none s'.heap ∧ H' ea = none ∧ s.heap.get? ea = none ∧
  ∀ b o, s'.heap.get? b = some o → b ∉ frs outer → ((∃ u, H' b = some u) ∨ ∃ o', s.heap.get? b = some o') → B.get? b = some o
def CXd (P : Program) (w : World) : CXT := fun outer H s E e s' => ∃ (ea : Addr) (C : Value) (dc : Option Addr) (H' : Hp), e = .ref ea ∧ FliesD P w outer H s ea C dc H' s' ∧ E C dc H'
section
variable {P : Program} {w : World} {K : PySem.W.Frag} {mg : Str → Option Value} {base : Heap} {N : List Str} {qual : Str} {scope : Scope} {f : Addr} {cd : Value} {A : Around} {outer : List Env} {s : Shared} {H : Hp} {E : XK}
/-- the one that was made here leaves the def -/
theorem leaves_made {pins : List (Addr × Obj)} {σ : St} {H1 : Hp} {s₂ : Shared} {ea C : Addr} {dc : Option Addr} (I : Inv (cxOf (CXd P w) P w K mg base N qual scope f cd A outer s H E) pins σ H1 s₂)
    (hx : H1 ea = some (.ext (XNew ea C dc))) (new : s.heap.get? ea = none) (q : E (.ref C) dc (del ea H1)) : (cxOf (CXd P w) P w K mg base N qual scope f cd A outer s H E).xe (.ref ea) s₂ := by
  have FR : ∀ b, b ∈ frs (envOfC qual scope s.heap.objs.size f cd :: outer) → b = s.heap.objs.size ∨ b ∈ frs outer := fun b z => List.mem_cons.mp (I.stkSub b z)
  have hin : ∀ en ∈ (envOfC qual scope s.heap.objs.size f cd :: outer), ∀ b, en.frame = some b → b ∈ ea :: frs (envOfC qual scope s.heap.objs.size f cd :: outer) := fun en he b hb => List.mem_cons_of_mem _ (List.mem_filterMap.mpr ⟨en, he, hb⟩)
  obtain ⟨⟨t, ge⟩, _, _⟩ := (show ObjOk P w H1 s₂.heap ea (.ext (XNew ea C dc)) from I.hok ea _ hx)
  show wpAny (model P w) (A.deeper (envOfC qual scope s.heap.objs.size f cd)) (leaving (envOfC qual scope s.heap.objs.size f cd) (.ref ea)) _ _ _
  refine leaves_first (base := PySem.W.hideAll s₂.heap (ea :: frs (envOfC qual scope s.heap.objs.size f cd :: outer))) I.ok.frames (PySem.W.funFrames_hide I.stack hin) rfl ge (fun b o z => PySem.W.of_hideAll _ z) (PySem.W.hideAll_none _ List.mem_cons_self) rfl rfl fun h'' fl up => ?_
  have trk : ∀ b u, H1 b = some u → b ∉ frs (envOfC qual scope s.heap.objs.size f cd :: outer) := fun b u e z => by
    have := I.stkFree b z
    rw [e] at this; cases this
  have keepB : ∀ b o, s₂.heap.get? b = some o → b ≠ ea → b ∉ frs (envOfC qual scope s.heap.objs.size f cd :: outer) → h''.get? b = some o := fun b o e z n =>
    fl.1 b o (PySem.W.hideAll_get _ e fun k => (List.mem_cons.mp k).elim z n)
  have neS : ∀ b o, s.heap.get? b = some o → b ≠ ea := fun b o e z => by rw [z, new] at e; cases e
  have notF : ∀ b o, s.heap.get? b = some o → b ∉ frs outer → b ∉ frs (envOfC qual scope s.heap.objs.size f cd :: outer) := fun b o e n z =>
    (FR b z).elim (fun z => absurd (Nat.lt_of_lt_of_le (Heap.lt_size e) I.ok.above) (by rw [z]; exact Nat.lt_irrefl _)) n
  have hthere : ∀ b o, s.heap.get? b = some o → ∃ o', s₂.heap.get? b = some o' := fun b o e => I.base.there b o e (fun z => nomatch z)
  have slotK : ∀ b o, s.heap.get? b = some o → b ∈ frs outer → ∃ sl, h''.get? b = some { o with slots := sl } := fun b o e hb => by
    obtain ⟨sl, e1⟩ := I.base.slot b o e (I.ok.frf b hb) hb (fun z => nomatch z)
    obtain ⟨_, o', e2, nf⟩ := I.ok.funs.mem hb
    have e3 : some o' = some o := e2.symm.trans e
    cases e3
    obtain ⟨sl', e4⟩ := up b _ e1 nf
    exact ⟨sl', e4⟩
  refine ⟨ea, .ref C, dc, del ea H1, rfl, ⟨_, I.os, I.bare, ⟨?_, ?_, ?_, ?_, ?_, ?_, ?_⟩, ?_, fl, del_same, new, ?_⟩, q⟩
  · exact fun b o e n hb z => keepB b o (I.base.keep b o e n hb z) (neS b o e) (notF b o e hb)
  · exact fun b o e n hb z => slotK b o e hb
  · exact fun b o e n z => by rw [del_ne (neS b o e)]; exact I.base.free b o e n z
  · intro b o e z
    by_cases hb : b ∈ frs outer
    · obtain ⟨sl, e1⟩ := slotK b o e hb
      exact ⟨_, e1⟩
    · obtain ⟨o', e1⟩ := hthere b o e
      exact ⟨o', keepB b o' e1 (neS b o e) (notF b o e hb)⟩
  · intro b xs e
    have z := I.base.tups b xs e
    rw [del_ne fun k => by rw [k, hx] at z; cases z]
    exact z
  · intro b o u e
    have z := I.base.frzs b o u e
    rw [del_ne fun k => by rw [k, hx] at z; cases z]
    exact z
  · intro b ps e
    obtain ⟨m, z⟩ := I.base.tbls b ps e
    exact ⟨m, by rw [del_ne fun k => by rw [k, hx] at z; cases z]; exact z⟩
  · intro b u e
    have nb : b ≠ ea := fun z => by rw [z, del_same] at e; cases e
    rw [del_ne nb] at e
    refine (I.hok b u e).stay (fun c v hc e' => ?_) (fun c z => ?_) fun c xs z => ?_
    · have tc : ∃ v', H1 c = some v' ∧ c ≠ ea := hc.elim (fun z => ⟨u, by rw [z]; exact e, by rw [z]; exact nb⟩) fun z => ⟨_, z, fun k => by rw [k, hx] at z; cases z⟩
      obtain ⟨v', z1, z2⟩ := tc
      exact keepB c v e' z2 (trk c v' z1)
    · rw [del_ne fun k => by rw [k, hx] at z; cases z]
      exact z
    · rw [del_ne fun k => by rw [k, hx] at z; cases z]
      exact z
  · intro b o e n hb
    have key : ∃ o2, s₂.heap.get? b = some o2 ∧ b ≠ ea ∧ b ∉ frs (envOfC qual scope s.heap.objs.size f cd :: outer) := by
      rcases hb with ⟨u, hu⟩ | ⟨o', ho⟩
      · have nb : b ≠ ea := fun z => by rw [z, del_same] at hu; cases hu
        rw [del_ne nb] at hu
        obtain ⟨ob, e2⟩ := (I.hok b u hu).there
        exact ⟨ob, e2, nb, trk b u hu⟩
      · obtain ⟨o2, e2⟩ := hthere b o' ho
        exact ⟨o2, e2, neS b o' ho, notF b o' ho n⟩
    obtain ⟨o2, e2, n1, n2⟩ := key
    have e3 := keepB b o2 e2 n1 n2
    rw [e] at e3
    cases e3
    exact PySem.W.hideAll_get _ e2 fun k => (List.mem_cons.mp k).elim n1 n2
/-! ### raise C(..) -/
end
end L2


set_option Elab.async false
set_option linter.all false
set_option maxRecDepth 100000
set_option maxHeartbeats 4000000
namespace L2
open PySem PySem.Spec PySem.Calls PyProof.Rows PySem.W PySem.Builtin.Getset_descriptor
theorem XFly.got {base g : Heap} {l : List Env} {e C : Addr} {fl : Value} {dc : Option Addr} (x : XFly base l e (.ref C) dc fl g) : XGot e C dc g := by
  obtain ⟨_, _, _, oe, vs, _, _, _, a, b, c, _⟩ := x
  exact ⟨oe, vs, a, b.1, b.2, c⟩
theorem XGot.of {e C : Addr} {dc : Option Addr} {h : Heap} (x : XGot e C dc h) : OfCls e C h := let ⟨o, _, a, b, _⟩ := x; ⟨o, a, b⟩
/-! ### a def that may raise an exception with fields -/
structure DefD (P : Program) (w : World) (K : Frag) (mg : Str → Option Value) (base : Heap) (n : Nat) (x : Str) (ps : List Str) (sp : Sp) : Prop where
  ex : ∃ (f : Addr) (fd : FuncData), FnOk P w K mg base (CXd P w) n f fd ps sp ∧ Binds K fd ps [] ∧ keepIn K (.ref f) = true ∧ mg x = some (.ref f)
theorem defd_of {P : Program} {w : World} {K : Frag} {mg : Str → Option Value} {base : Heap} {x : Str} {st : Stmt} {N ps : List Str} {k : Nat} {sp : Sp} (T : TopDef K mg x st) (S : FnScope N ps (defScope st))
    (bd : ∀ (kV doc pm : Value) (an : Option Addr) (cdv ct : Value) (us : List Value), us.length = ps.length → bindArgs (fnOf x x (defArgs st) (defBody st) (defScope st) .none kV doc pm an cdv ct) ⟨us, []⟩ = pure (ps.zip us))
    (len : ∀ vs H Q E, sp vs H Q E → vs.length = ps.length)
    (body : ∀ (f : Addr) (cdv : Value) (A : Around) (outer : List Env) (s : Shared) (H : Hp) (vs : List V) (Q : VK) (E : XK), Room k (A.deeper (envOfC x (defScope st) s.heap.objs.size f cdv)) → sp vs H Q E →
      ∃ t, PSs (cxOf (CXd P w) P w K mg base N x (defScope st) f cdv A outer s H E) (defBody st) t ∧ t { nx := fun _ H' => Q .non H', rt := Q } (start N vs) H) :
    DefD P w K mg base (k + 1) x ps sp := by
  obtain ⟨f, fd, F, m⟩ := T.ex
  obtain ⟨oc, od, kV, doc, pm, an, cdv, ct, osl, rfl, lk, hcd⟩ := id F.ex
  exact ⟨f, _, fn_of lk hcd S len fun A outer s H vs Q E hr h => body f cdv A outer s H vs Q E hr h, F.binds bd, F.kp, m⟩
section
variable {P : Program} {w : World} {K : PySem.W.Frag} {mg : Str → Option Value} {base : Heap} {N : List Str} {qual : Str} {scope : Scope} {f : Addr} {cd : Value} {A : Around} {outer : List Env} {s : Shared} {H : Hp} {E : XK}
end
/-! ### e.f of an exception that was caught -/
theorem x_get {prog : Program} {w : World} {A : Around} {E : Value → Shared → Prop} {s : Shared} {K : Frag} {x C dx : Addr} {mA : Str → Option Value} {name : Str} {v : Value} {expr : Bool} {Q : Value → Shared → Prop} (X : K.In s.heap) (c : XFld K C) (g : XGot x C (some dx) s.heap) (n : s.heap.Ns1 dx mA) (ha : NoAttr K C name) (hv : mA name = some v) (hh : handedIn v = true) (h : Q v { s with toks := s.toks + 1 }) :
    wpAny (model prog w) A (getAttr (.ref x) name expr) Q E s := by
  obtain ⟨ox, vs, hx, hcl, hdx, hdt⟩ := g
  obtain ⟨od, ho, hl⟩ := lookIn_ns n
  have I : W.InstAt s.heap x ox C (some od) := ⟨hx, hcl, by unfold notCls; rw [hdt], by rw [hdx]; exact ho⟩
  obtain ⟨cd, hc, _, hdd⟩ := c.ex
  have hf : findObj K C (some od) name = some (.value v) := findObj_own (by unfold hasDictIn; rw [hc]; exact hdd) (show findIn K (.ref C) name = some none from ha) rfl (by rw [hl, hv])
  obtain ⟨hh', g, d, t, os⟩ := s
  have L0 := I.type (M := model prog w)
  have L1 := looks_findIn (M := model prog w) X c.ec.ga
  have L2 := looks_findIn (M := model prog w) X c.ec.gt
  have LB := looks_mroIn (M := model prog w) X c.ec.hb
  have L3 := looks_find (M := model prog w) X I hf
  unfold getAttr getAttrBy
  refine wpAny_bind (wpAny_mkText (wpAny_holding (wpAny_bind (L0.at (wpAny_bind (L1.at ?_))))))
  show wpAny _ _ (getAttrByItsOwn (.ref x) _ (.ref C) (.builtin "BaseException.__getattribute__") _ _) _ _ _
  unfold getAttrByItsOwn
  show wpAny _ _ (typeLookup (.ref C) "__getattr__" >>= _) _ _ _
  refine wpAny_bind (L2.at ?_)
  refine wpAny_bind (wpAny_attempt (wpAny_holding ?_))
  have FB := (F.attrBase_ValueError).ga
  have kd : builtinKind "BaseException.__getattribute__" = some .slot := by decide +kernel
  have spl : splitId "BaseException.__getattribute__" = some ("BaseException", "__getattribute__") := by decide +kernel
  have ar := F.args_bexc_ga (.ref x) (.str name t)
  rw [show callGetattribute (.ref x) (.str name t) (.builtin "BaseException.__getattribute__") expr = boundAndCalled (.builtin "BaseException.__getattribute__") (.ref x) (.str name t) by unfold callGetattribute; cases expr <;> rfl]
  unfold boundAndCalled
  refine wpAny_bind (wpAny_of_eq (FB.bind (.ref x)) ?_)
  show wpAny _ _ (call (.builtin "BaseException.__getattribute__") [.ref x, _]) _ _ _
  refine wpAny_call (codeAny_call_builtin FB.plain F.entry_bexc_ga ?_)
  simp only [checkBuiltinCall, kd, spl]
  unfold isInstance
  refine wpAny_bind (wpAny_bind (L0.at (LB.at ?_)))
  rw [if_neg (by decide)]
  refine wpAny_of_eq ar ?_
  unfold Builtin.«object.__getattribute__»
  refine wpAny_bind (wpAny_pure (wpAny_bind (wpAny_pure (wpAny_bind (L0.at (wpAny_bind (L3.at ?_)))))))
  refine wpAny_pure ?_
  exact handed_on hh h
section
variable {X : Cx}
def tFldG (K : Frag) (ta : TE) (f : Str) : TE := fun σ H Q => ta σ H fun x H1 => ∃ a C d fs v, x = .ref a ∧ H1 a = some (.ext (XGot a C (some d))) ∧ H1 d = some (.ext (XDict d fs)) ∧ XFld K C ∧ NoAttr K C f ∧ fs.lookup f = some v ∧ Q v H1
theorem pe_fldGK {K : Frag} {e : Expr} {f : Str} {pos : Pos} {ta : TE} (eK : X.K = K) (he : PE X e ta) (hb : attributeBase e f X.env (eval e X.env) = eval e X.env) : PE X (.Attribute e f pos) (tFldG K ta f) := by
  subst eK
  intro pins s σ H Q I h
  refine attr_of hb (thn (he pins s σ H _ I h) fun u s1 ⟨x, H1, I1, rx, a, C, d, fs, v, ex, ea, ed, c, n, l, q⟩ => ?_)
  subst ex
  cases (show u = Value.ref a from rx)
  obtain ⟨mA, nsd, r, _, _⟩ := (show ObjOk X.prog X.w H1 s1.heap d (.ext (XDict d fs)) from I1.hok d _ ed).1
  obtain ⟨u, hu, ru⟩ := RelO.some_of (v := v) (o := mA f) (by rw [← l]; exact r f)
  exact x_get I1.kIn c (show ObjOk X.prog X.w H1 s1.heap a (.ext (XGot a C (some d))) from I1.hok a _ ea).1 nsd n hu (handed_of ru) ⟨v, H1, I1.tok _, ru, q⟩
/-! ### isinstance(such an exception, c) -/
theorem call_isiGK {K : Frag} (eK : X.K = K) : CallR X (.builtin "isinstance") (fun xs H Q => ∃ (ea : Addr) (c : V) (cv : Value) (C : Addr) (dc : Option Addr) (k : Bool), xs = [.ref ea, c] ∧ (∀ u, RelV c u → u = cv) ∧ H ea = some (.ext (XGot ea C dc)) ∧ ExcCls K C ∧ kitOne K (.ref C) cv = some k ∧ Q (.bl k) H) := by
  subst eK
  intro pins s σ H xs us Q I r h
  obtain ⟨ea, c, cv, C, dc, k, rfl, hc, he, ec, kt, q⟩ := h
  obtain ⟨u, w', rfl, r1, r2⟩ := vals2 r
  have e := hc _ r2
  subst e
  cases (show u = Value.ref ea from r1)
  obtain ⟨p, _, _⟩ := (show ObjOk X.prog X.w H s.heap ea (.ext (XGot ea C dc)) from I.hok ea _ he)
  exact kia_one (kitx_exc ec) I.kIn p.of kt (fun z => nomatch z) fun tk => ⟨.bl k, H, I.tok tk, rfl, q⟩
theorem call_isiG : CallR X (.builtin "isinstance") (fun xs H Q => ∃ (ea : Addr) (c : V) (cv : Value) (C : Addr) (dc : Option Addr) (k : Bool), xs = [.ref ea, c] ∧ (∀ u, RelV c u → u = cv) ∧ H ea = some (.ext (XGot ea C dc)) ∧ ExcCls X.K C ∧ kitOne X.K (.ref C) cv = some k ∧ Q (.bl k) H) := call_isiGK rfl
end
/-! ### try: z = f(..) except Y as n: suite -/
def tTryG (K : Frag) (i j : Nat) (Dc : Addr) (sp : Sp) (ta : TA) (ts : TS) : TS := fun D σ H => ta σ H fun vs H1 => sp vs H1 (fun v H2 => D.nx (σ.set i (some v)) H2) fun C dc H2 => ∃ Cn, C = .ref Cn ∧ mroIn K Cn (.ref Dc) = some true ∧
  ∀ ea, H2 ea = none → ts { nx := fun σ' H3 => D.nx (σ'.set j none) H3, rt := D.rt, bk := fun σ' H3 => D.bk (σ'.set j none) H3, ct := fun σ' H3 => D.ct (σ'.set j none) H3 } (σ.set j (some (.ref ea))) (upd H2 ea (.ext (XGot ea Cn dc)))
theorem ps_tryG {X : Cx} {m i j : Nat} {x y z n : Str} {ps : List Str} {sp : Sp} {e : Expr} {es : List Expr} {ta : TA} {ts : TS} {p pos pos' pz np hpos tpos : Pos} {b₀ : Stmt} {suite : List Stmt} {Dc : Addr}
    (hxe : X.xe = fun _ _ => False) (hstk : X.stack = X.env :: X.outer) (hfr : X.env.frame = some X.env.locals) (hex : X.ex = [])
    (Df : DefD X.prog X.w X.K X.mg X.base m x ps sp) (hr : Room m X.A) (hg : Gl X x) (ha : PA X (e :: es) ta) (hgy : Gl X y) (hmy : X.mg y = some (.ref Dc)) (cc : CatchCls X.K Dc)
    (hN : X.N.Nodup) (hi : X.N[i]? = some z) (hlz : X.env.scope.names.lookup z = some .local) (hj : X.N[j]? = some n) (hl : X.env.scope.names.lookup n = some .local) (hs : ∀ ea, PSs (X.mark ea) (b₀ :: suite) ts)
    (hdb : (x == ("__debug__" : Str)) = false := by decide) (hdy : (y == ("__debug__" : Str)) = false := by decide) (he : starEach (e :: es) X.env = (false, eval e X.env) :: starEach es X.env := by rfl)
    (hpl : (backTo pos (starEach es X.env)).any (·.1) = false := by rfl) (hsw : swapsWith (.Call (.Name x p) (e :: es) [] pos) (some (.Name z pz)) pos'.line X.env = pure false := by rfl) :
    PS X (.Try [.Assign [.Name z pz] (.Call (.Name x p) (e :: es) [] pos) pos'] [.ExceptHandler (some (.Name y np)) (some n) (b₀ :: suite) hpos] [] [] tpos) (tTryG X.K i j Dc sp ta ts) := by
  intro pins s σ H D I h
  obtain ⟨f, fd, F, b, kp, mf⟩ := Df.ex
  refine wpAny_Try_except (wpAny_execs_cons (wpAny_Assign_Name ?_ hsw))
  refine wpAny_Call_Name_kw (ld_glob I hg mf ?_ hdb)
  refine callWith_K (h₀ := X.base) I.ok.mod.kin kp (wpAny_mono (ha pos pins s σ H _ I h) (fun us s1 z => ?_) (fun _ _ z => by rw [hxe] at z; exact z.elim)) he hpl
  obtain ⟨vs, H1, I1, r, q⟩ := z
  refine ⟨I1.kIn, ?_⟩
  have hlen : us.length = ps.length := by rw [← r.length]; exact F.len _ _ _ _ q
  have bnd : BindsTo s1 fd ⟨us, []⟩ (ps.zip us) := by
    have z := b s1 us I1.kIn (by rw [List.append_nil]; exact hlen)
    rw [List.append_nil] at z
    exact z
  refine wpAny_call (codeAny_mono (F.run X.A X.stack s1 H1 ⟨us, []⟩ us vs _ _ hr I1.env0 bnd r q) fun res s' hq => ?_)
  cases res with
  | ok fl =>
    cases fl with
    | ret u =>
      obtain ⟨v, H2, I2, rv, q2⟩ := I1.after hq
      exact store_ok I2 hN hi (.inl hlz) rv (fun s3 I3 => wpAny_execs_nil (wpAny_execs_nil ⟨_, H2, I3, q2⟩)) (.inr hlz)
    | next => exact False.elim hq
    | brk => exact False.elim hq
    | cont => exact False.elim hq
  | error ex =>
    obtain ⟨ea, C, dc, H2, rfl, ⟨B, ho, hgn, un, hok, fl, h0, h1, cov⟩, Cn, rfl, hm, q3⟩ := hq
    have hfrm : X.A.frames = some (X.env :: X.outer) := by rw [← hstk]; exact I.ok.frames
    rw [hstk] at fl
    refine looked (L := X.env.locals) hfrm hfr fl fun h4 held up4 => ?_
    refine landed (s := { s' with heap := h4 }) held fun h5 fl5 up5' => ?_
    have up5 := up4.trans up5'
    have I5 : Inv X pins σ H2 { s' with heap := h5 } := I1.caught (C := .ref Cn) (ea := ea) (t := ea) (tk := s'.toks) ho hgn un hok cov fl5.1 up5
    refine wpAny_handleBy_cons (codeAny_handlers_test (ld_glob (X := X.mark ea) (I5.mark ea) hgy hmy ?_ hdy)) (by intro z; cases z)
    refine exc_matches (K := X.K) I5.kIn fl5.got.of cc hm ?_
    show codeAny _ _ (.handlers (.ref ea) [.ExceptHandler none (some n) (b₀ :: suite) hpos] X.env) _ _
    refine codeAny_handlers_suite_as ?_
    refine landed (s := { s' with heap := h5 }) fl5 fun h6 fl6 up6 => ?_
    have I6 : Inv X pins σ H2 { s' with heap := h6 } := I1.caught (C := .ref Cn) (ea := ea) (t := ea) (tk := s'.toks) ho hgn un hok cov fl6.1 (up5.trans up6)
    have new : X.s₀.heap.get? ea = none := by
      cases z : X.s₀.heap.get? ea with
      | none => rfl
      | some o => obtain ⟨o', e'⟩ := I1.base.there ea o z (by rw [hex]; simp); rw [h1] at e'; cases e'
    have nl : ea ≠ X.env.locals := fun z => by
      obtain ⟨mm, ⟨o, _, _, g, _⟩, _⟩ := I1.loc
      rw [← z, h1] at g; cases g
    have nc : ∀ z c, X.env.cells.lookup z = some c → c ≠ ea := fun z c k q => by
      obtain ⟨v, o, g, _⟩ := I1.cell z c k
      rw [q, h1] at g; cases g
    have np' : ∀ z ∈ X.pn ++ pins, z.1 ≠ ea := fun z hz q => by
      obtain ⟨g, _⟩ := I1.pin z hz
      rw [q, h1] at g; cases g
    have I7 := I6.track (a := ea) (φ := XGot ea Cn dc) h0 new nl nc np' fl6.got (let ⟨o, _, z, _⟩ := fl6.got; ⟨o, z⟩) fun _ _ z k => z.stay k
    refine store_ok (X := X.mark ea) (I7.mark ea) hN hj (.inl hl) (v := .ref ea) rfl (fun s7 I8 => ?_) (.inr hl)
    refine wpAny_mono (hs ea pins s7 _ _ _ I8 (q3 ea h0)) (fun fl8 s8 q8 => ?_) (fun ee ss z => by
      have z' : X.xe ee ss := z
      rw [hxe] at z'
      exact z'.elim)
    have hcls : (X.env.scope.kind == .class || (X.env.scope.kind == .module && X.env.locals != X.env.globals)) = false := by rw [I.ok.kind]; rfl
    cases fl8 with
    | next =>
      obtain ⟨σ8, H8, J, n8⟩ := q8
      have J' := J.unmark I.ok
      obtain ⟨mm, hn, _⟩ := id J'.loc
      exact wpAny_nameGoes_keeps hl hn hcls fun h9 v9 hn9 hs9 => ⟨_, H8, J'.unname hN hj hn hn9 hs9, n8⟩
    | brk =>
      obtain ⟨σ8, H8, J, n8⟩ := q8
      have J' := J.unmark I.ok
      obtain ⟨mm, hn, _⟩ := id J'.loc
      exact wpAny_nameGoes_keeps hl hn hcls fun h9 v9 hn9 hs9 => ⟨_, H8, J'.unname hN hj hn hn9 hs9, n8⟩
    | cont =>
      obtain ⟨σ8, H8, J, n8⟩ := q8
      have J' := J.unmark I.ok
      obtain ⟨mm, hn, _⟩ := id J'.loc
      exact wpAny_nameGoes_keeps hl hn hcls fun h9 v9 hn9 hs9 => ⟨_, H8, J'.unname hN hj hn hn9 hs9, n8⟩
    | ret u =>
      obtain ⟨v, σ8, H8, J, rv, n8⟩ := q8
      have J' := J.unmark I.ok
      obtain ⟨mm, hn, _⟩ := id J'.loc
      exact wpAny_nameGoes_keeps hl hn hcls fun h9 v9 hn9 hs9 => ⟨v, _, H8, J'.unname hN hj hn hn9 hs9, rv, n8⟩
end L2


set_option Elab.async false
set_option linter.all false
set_option maxRecDepth 100000
set_option maxHeartbeats 4000000
namespace L2
open PySem PySem.Spec PySem.Calls PyProof.Rows PySem.W
/-! ### a function of the text, by its address -/
structure FunE (K : Frag) (x qual : Str) (st : Stmt) (f : Addr) : Prop where
  ex : ∃ fd : FuncData, Fun K x qual st f fd
theorem funE_mk {K : Frag} {x qual : Str} {st : Stmt} {f : Addr} {oc kV doc pm cdv ct : Value} {od an : Option Addr} {osl : Array (Option Value)} (l : K.lookup f = some ⟨oc, od, .func (fnOf x qual (defArgs st) (defBody st) (defScope st) .none kV doc pm an cdv ct), osl⟩)
    (c : codeIn K cdv qual = true) (k : keepIn K (.ref f) = true) : FunE K x qual st f := ⟨⟨_, fun_mk l c k⟩⟩
/-- the class's own facts in one -/
def xfldIn (K : Frag) (C : Addr) : Bool := (clsIn K C).any fun cd => overV cd.mro && cd.hasDict
theorem xfld_mk {K : Frag} {C : Addr} (a : xfldIn K C = true) (s : findIn K (.ref C) "__setattr__" = some (some (.builtin "object.__setattr__"))) (e : ExcCls K C) : XFld K C := by
  refine ⟨?_, s, e⟩
  unfold xfldIn at a
  cases h : clsIn K C with
  | none => rw [h] at a; cases a
  | some cd =>
    rw [h] at a
    have z : (overV cd.mro && cd.hasDict) = true := a
    exact ⟨cd, rfl, (Bool.and_eq_true_iff.mp z).1, (Bool.and_eq_true_iff.mp z).2⟩
/-! ### an exception with the fields word and at, or at alone -/
/-- what an __init__ that puts fields leaves: the exception, its dict with the fields -/
def Put (a C d : Addr) (fs : List (Str × V)) (H H' : Hp) : Prop := H d = none ∧ d ≠ a ∧ H' a = some (.ext (XNew a C (some d))) ∧ H' d = some (.ext (XDict d fs)) ∧ ∀ b, b ≠ a → b ≠ d → H' b = H b
theorem Put.del {a C d : Addr} {fs : List (Str × V)} {H H' : Hp} (n : H a = none) (p : Put a C d fs (upd H a (.ext (XNew a C none))) H') : del a H' = upd H d (.ext (XDict d fs)) ∧ H d = none := by
  obtain ⟨h1, h2, h3, h4, h5⟩ := p
  rw [upd_ne h2] at h1
  refine ⟨funext fun b => ?_, h1⟩
  by_cases z : b = a
  · subst z
    rw [del_same, upd_ne (Ne.symm h2)]
    exact n.symm
  · rw [del_ne z]
    by_cases y : b = d
    · subst y
      rw [upd_same]
      exact h4
    · rw [upd_ne y, h5 b z y, upd_ne z]
def spInit1 (C : Addr) (f : Str) : Sp := fun vs H Q _ => ∃ a y, vs = [.ref a, y] ∧ H a = some (.ext (XNew a C none)) ∧ ∀ d H', Put a C d [(f, y)] H H' → Q .non H'
section
variable {P : Program} {w : World} {K : PySem.W.Frag} {mg : Str → Option Value} {base : Heap} {N : List Str} {qual : Str} {scope : Scope} {f : Addr} {cd : Value} {A : Around} {outer : List Env} {s : Shared} {H : Hp} {E : XK}
end
end L2


set_option Elab.async false
set_option linter.all false
set_option maxRecDepth 100000
set_option maxHeartbeats 4000000
namespace L2
open PySem PySem.Spec PySem.Calls PyProof.Rows PySem.W PySem.Builtin.Getset_descriptor
theorem ar0 {p : List Value → Prop} (h : p []) (us : List Value) (e : us.length = 0) : p us := by
  rw [List.eq_nil_of_length_eq_zero e]
  exact h
theorem arS {p : List Value → Prop} {n : Nat} (h : ∀ a us, us.length = n → p (a :: us)) (us : List Value) (e : us.length = n + 1) : p us := by
  cases us with
  | nil => exact absurd e.symm (Nat.succ_ne_zero n)
  | cons a t => exact h a t (Nat.succ.inj e)
theorem ar1 {p : List Value → Prop} (h : ∀ a, p [a]) : ∀ us : List Value, us.length = 1 → p us := arS fun a => ar0 (h a)
theorem ar2 {p : List Value → Prop} (h : ∀ a b, p [a, b]) : ∀ us : List Value, us.length = 2 → p us := arS fun a => ar1 (h a)
/-- a class of exceptions with one field, by its name in the text -/
structure XC1 (P : Program) (w : World) (K : Frag) (mg : Str → Option Value) (base : Heap) (x : Str) (C : Addr) (f : Str) : Prop where
  m : mg x = some (.ref C)
  kc : keepIn K (.ref C) = true
  ex : ∃ (fI : Addr) (fd : FuncData) (ps : List Str), FnOk P w K mg base CX0 1 fI fd ps (spInit1 C f) ∧ Binds K fd ps [] ∧ excInI K C bmV "ValueError.__new__" fI = true
  fl : XFld K C
  n1 : NoAttr K C f
def tRaise1 (C : Addr) (f : Str) (E : XK) (ta : TA) : TS := fun _ σ H => ta σ H fun vs H1 => ∃ y, vs = [y] ∧ ∀ d, H1 d = none → E (.ref C) (some d) (upd H1 d (.ext (XDict d [(f, y)])))
section
variable {P : Program} {w : World} {K : PySem.W.Frag} {mg : Str → Option Value} {base : Heap} {N : List Str} {qual : Str} {scope : Scope} {f : Addr} {cd : Value} {A : Around} {outer : List Env} {s : Shared} {H : Hp} {E : XK}
theorem ps_raise1 {C : Addr} {x f1 : Str} {e₀ : Expr} {es : List Expr} {ta : TA} {np cpos pos : Pos} (c : XC1 P w K mg base x C f1)
    (hr : Room 2 (cxOf (CXd P w) P w K mg base N qual scope f cd A outer s H E).A) (hg : Gl (cxOf (CXd P w) P w K mg base N qual scope f cd A outer s H E) x) (ha : PA (cxOf (CXd P w) P w K mg base N qual scope f cd A outer s H E) (e₀ :: es) ta)
    (hdb : (x == ("__debug__" : Str)) = false := by decide) (he : starEach (e₀ :: es) (envOfC qual scope s.heap.objs.size f cd) = (false, eval e₀ (envOfC qual scope s.heap.objs.size f cd)) :: starEach es (envOfC qual scope s.heap.objs.size f cd) := by rfl)
    (hpl : (backTo cpos (starEach es (envOfC qual scope s.heap.objs.size f cd))).any (·.1) = false := by rfl) :
    PS (cxOf (CXd P w) P w K mg base N qual scope f cd A outer s H E) (.Raise (some (.Call (.Name x np) (e₀ :: es) [] cpos)) none pos) (tRaise1 C f1 E ta) := by
  obtain ⟨fI, fd, ps, F, b, xi⟩ := c.ex
  intro pins s₁ σ H1 D I h
  refine x_raise (C := C) (bmB := bmV) (newId := "ValueError.__new__") (by decide) (I.ok.hd rfl) ?_
  refine wpAny_Call_Name_kw (ld_glob I hg c.m ?_ hdb)
  refine callWith_K (h₀ := base) I.ok.mod.kin c.kc (thn (ha cpos pins s₁ σ H1 _ I h) fun us s2 zz => ?_) he hpl
  obtain ⟨vs, H2, I2, r, y, ev, q⟩ := zz
  refine ⟨I2.kIn, ?_⟩
  subst ev
  have fr : H2 (s2.heap.objs.size + 1) = none := I2.hok.fresh (Nat.le_succ _)
  refine wpAny_mono (run_makeX0 (R := fun H3 => ∃ dc, H3 (s2.heap.objs.size + 1) = some (.ext (XNew (s2.heap.objs.size + 1) C dc)) ∧ E (.ref C) dc (del (s2.heap.objs.size + 1) H3)) F xi hr b I2 r (by show 1 ≤ 1000; decide) ⟨_, y, rfl, upd_same, fun d H3 p => ⟨rfl, some d, p.2.2.1, ?_⟩⟩) (fun v s3 t => ?_) fun _ _ t => t
  · obtain ⟨e1, e2⟩ := p.del fr
    rw [e1]
    exact q d e2
  · obtain ⟨rfl, H3, I3, dc, hx, hE⟩ := t
    have nw : s.heap.get? (s2.heap.objs.size + 1) = none := Heap.get?_none_of_le (Nat.le_trans I2.sz (Nat.le_succ _))
    exact ⟨_, dc, rfl, ⟨fI, xat_of I3.kIn xi⟩, (show ObjOk P w H3 s3.heap _ (.ext (XNew _ C dc)) from I3.hok _ _ hx).1, leaves_made I3 hx nw hE⟩
end
/-! ### try: f(..) except Y as n: suite -/
end L2


set_option Elab.async false
set_option linter.all false
set_option maxRecDepth 100000
set_option maxHeartbeats 4000000
namespace L2
open PySem PySem.Spec PySem.Calls PyProof.Rows PySem.W PySem.Builtin.Getset_descriptor
/-! ### an exception without fields is one whose dict is not asked for -/
theorem Flies.d {P : Program} {w : World} {outer : List Env} {H : Hp} {s : Shared} {ea : Addr} {C : Value} {H' : Hp} {s' : Shared} (h : Flies P w outer H s ea C H' s') : ∃ dc, FliesD P w outer H s ea C dc H' s' := by
  obtain ⟨t, B, h1, h2, h3, h4, ⟨f1, f2, f3, oe, vs, T, oT, ts, a, b, c⟩, h5⟩ := h
  exact ⟨oe.dict, B, h1, h2, h3, h4, ⟨f1, f2, f3, oe, vs, T, oT, ts, a, ⟨b.1, rfl⟩, c⟩, h5⟩
/-! ### try: (if c: f(..) else: g(..)) except Y as n: suite -/
end L2


set_option Elab.async false
set_option linter.all false
set_option maxRecDepth 100000
set_option maxHeartbeats 4000000
namespace L2
open PySem PySem.Spec PySem.Calls PyProof.Rows PySem.W PySem.Builtin.Getset_descriptor
/-! ### raise C(..) of a class without fields, where others have some -/
section
variable {P : Program} {w : World} {K : PySem.W.Frag} {mg : Str → Option Value} {base : Heap} {N : List Str} {qual : Str} {scope : Scope} {f : Addr} {cd : Value} {A : Around} {outer : List Env} {s : Shared} {H : Hp} {E : XK}
theorem ok_cx {CX CX' : CXT} {E' : XK} (o : (cxOf CX P w K mg base N qual scope f cd A outer s H E).Ok) : (cxOf CX' P w K mg base N qual scope f cd A outer s H E').Ok :=
  ⟨o.mod, o.kind, o.glob, o.blt, o.above, o.inj, o.has, o.cab, o.hd, o.frames, o.stk, o.exf, o.bs, o.bsz, o.noex, o.exfs, o.funs, o.frf⟩
theorem inv_cx {CX CX' : CXT} {E' : XK} {pins : List (Addr × Obj)} {σ : St} {H1 : Hp} {s₂ : Shared} (I : Inv (cxOf CX P w K mg base N qual scope f cd A outer s H E) pins σ H1 s₂) : Inv (cxOf CX' P w K mg base N qual scope f cd A outer s H E') pins σ H1 s₂ :=
  ⟨ok_cx I.ok, I.os, I.bare, I.base, I.loc, I.cell, I.free, I.freeC, I.pin, I.hok, I.len⟩
theorem raise_leavesD {pins : List (Addr × Obj)} {σ : St} {H1 : Hp} {s₂ : Shared} {h' : Heap} {ea C : Addr} {vs : List Value} (I : Inv (cxOf (CXd P w) P w K mg base N qual scope f cd A outer s H E) pins σ H1 s₂)
    (hx : Heap.MadeExcOf s₂.heap h' ea (.ref C) vs) (q : ∀ dc, E (.ref C) dc H1) : (cxOf (CXd P w) P w K mg base N qual scope f cd A outer s H E).xe (.ref ea) { s₂ with heap := h' } := by
  have h := raise_leaves (E := fun C _ H' => ∀ dc, E C dc H') (inv_cx I) hx q
  refine wpAny_mono h (fun u s' z => ?_) (fun u s' z => ?_)
  · obtain ⟨ea, C, H', e, fl, q⟩ := z
    obtain ⟨dc, fd⟩ := fl.d
    exact ⟨ea, C, dc, H', e, fd, q dc⟩
  · obtain ⟨ea, C, H', e, fl, q⟩ := z
    obtain ⟨dc, fd⟩ := fl.d
    exact ⟨ea, C, dc, H', e, fd, q dc⟩
def tRaiseD (C : Addr) (E : XK) (ta : TA) : TS := fun _ σ H => ta σ H fun vs H1 => vs.length ≤ sizeLine ∧ ∀ dc, E (.ref C) dc H1
theorem ps_raiseD {x : Str} {C : Addr} {e₀ : Expr} {es : List Expr} {ta : TA} {np cpos pos : Pos} (hg : Gl (cxOf (CXd P w) P w K mg base N qual scope f cd A outer s H E) x) (hm : mg x = some (.ref C)) (q : excIn K C bmV "ValueError.__new__" = true)
    (ha : PA (cxOf (CXd P w) P w K mg base N qual scope f cd A outer s H E) (e₀ :: es) ta) (hdb : (x == ("__debug__" : Str)) = false := by decide)
    (he : starEach (e₀ :: es) (envOfC qual scope s.heap.objs.size f cd) = (false, eval e₀ (envOfC qual scope s.heap.objs.size f cd)) :: starEach es (envOfC qual scope s.heap.objs.size f cd) := by rfl)
    (hpl : (backTo cpos (starEach (e₀ :: es) (envOfC qual scope s.heap.objs.size f cd))).any (·.1) = false := by rfl) :
    PS (cxOf (CXd P w) P w K mg base N qual scope f cd A outer s H E) (.Raise (some (.Call (.Name x np) (e₀ :: es) [] cpos)) none pos) (tRaiseD C E ta) := by
  intro pins s₁ σ H1 D I h
  obtain ⟨bm, N1, nm, qn, bs, hd, sn, sub, ab, col, dd, k0, k1, k2, k3, k5, mN, gC, nN, ni, T⟩ := exc_obj I.mod.kin q
  refine wpAny_Raise_call_subT (C := C) (nm := nm) (q := qn) (N := N1) (bs := bs) (bm := bm) (hdct := hd) (sn := sn) (sub := sub) (ab := ab) (col := col) (dd := dd) (k0 := k0) (k1 := k1) (k2 := k2) (k3 := k3) (k5 := k5) F.excBase_ValueError (mN := mN)
    (T.hasType F.excBase_ValueError.hasBase) (I.ok.hd rfl) hpl ni (ld_glob I hg hm ⟨rfl, ?_⟩ hdb)
  have hA := ha cpos pins s₁ σ H1 _ I h
  have he' : starEach (e₀ :: es) (cxOf (CXd P w) P w K mg base N qual scope f cd A outer s H E).env = (false, eval e₀ (cxOf (CXd P w) P w K mg base N qual scope f cd A outer s H E).env) :: starEach es (cxOf (CXd P w) P w K mg base N qual scope f cd A outer s H E).env := he
  rw [he'] at hA ⊢
  refine Calls.evalArgs_plain (thn hA fun us s₂ z => ?_)
  obtain ⟨vs, H2, I2, r, z, q2⟩ := z
  exact ⟨rfl, by rw [← r.length]; exact z, I2.bk _ _ gC, nN.keeps I2.bk, T.keeps I2.bk, fun h' e hx => raise_leavesD I2 hx q2⟩
end
end L2


set_option Elab.async false
set_option linter.all false
set_option maxRecDepth 100000
set_option maxHeartbeats 4000000
namespace Mine
open PySem L2
def top (i : Nat) : Stmt := PySem.Challenge.pw_leansay_k02_texts_refused.main.body.getD i (.Pass ⟨0, 0, 0, 0⟩)
abbrev s_NoText_init : Stmt := inClass (top 3) 0
abbrev s_Saying_made_of : Stmt := inClass (top 7) 0
abbrev s_Saying_laid_out : Stmt := inClass (top 7) 2
abbrev s_Saying_parts : Stmt := inClass (top 7) 5
abbrev s_Letter_init : Stmt := inClass (top 10) 0
abbrev s_Not_init : Stmt := inClass (top 11) 0
abbrev s_Not_made_of : Stmt := inClass (top 11) 1
abbrev s_Fold_init : Stmt := inClass (top 12) 0
abbrev s_Fold_made_of : Stmt := inClass (top 12) 1
abbrev sLaid : Stmt := s_Saying_laid_out
abbrev s_how_many_it_takes : Stmt := top 18
abbrev s_leaf_by : Stmt := top 19
abbrev s_fold_by : Stmt := top 20
abbrev s_fits : Stmt := top 23
abbrev s_fault_in : Stmt := top 24
abbrev s_made_of_words : Stmt := top 25
abbrev s_read : Stmt := top 26
abbrev s_l_mixed : Stmt := top 28
abbrev sMixed : Stmt := top 28
abbrev s_l_next : Stmt := top 29
abbrev sNext : Stmt := top 29
abbrev s_l_saying : Stmt := top 30
abbrev sSaying : Stmt := top 30
abbrev s_l_text : Stmt := top 31
abbrev sText : Stmt := top 31
abbrev s_l_word : Stmt := top 32
abbrev s_l_changed : Stmt := top 33
abbrev s_l_drawn : Stmt := top 34
abbrev s_l_done : Stmt := top 35
abbrev s_l_takes : Stmt := top 36
abbrev s_l_fault : Stmt := top 37
abbrev s_l_many : Stmt := top 38
abbrev s_law : Stmt := top 39
abbrev sLaw : Stmt := top 39
end Mine

namespace Mine
open PySem L2
section
variable {P : Program} {w : World} {K : PySem.W.Frag} {mg : Str → Option Value} {base : Heap}
theorem sc_iLetter : FnScope ["self", "name"] ["self", "name"] (defScope s_Letter_init) := ⟨rfl, rfl, rfl, by decide +kernel, rfl, by decide +kernel, by decide +kernel⟩
theorem ok_iLetter {x : Str} {C : Addr} (T : MkF K mg x C "Letter.__init__" s_Letter_init) (n : NoAttr K C "name") : MkOk P w K mg base x C 1 ["self", "name"] (spInit1 C fName) := by
  refine mk_of T sc_iLetter (fun _ _ _ _ _ _ us hl => match us, hl with | [_, _], _ => rfl) (fun vs H Q E h => ?_) (fun f cdv A outer s H vs Q E hr h => ?_)
  · obtain ⟨a, dx, y, rfl, e, q⟩ := h
    rfl
  obtain ⟨a, dx, y, rfl, e, q⟩ := h
  have nd := sc_iLetter.nd
  refine ⟨_, (pss_one (ps_fld (pv 0) (pv 1) rfl)), ?_⟩
  exact ⟨_, rfl, _, rfl, a, C, dx, [], rfl, e, T.cl, n, (by show 0 < 1000; decide), q⟩
theorem sc_iNot : FnScope ["self", "part"] ["self", "part"] (defScope s_Not_init) := ⟨rfl, rfl, rfl, by decide +kernel, rfl, by decide +kernel, by decide +kernel⟩
theorem ok_iNot {x : Str} {C : Addr} (T : MkF K mg x C "Not.__init__" s_Not_init) (n : NoAttr K C "part") : MkOk P w K mg base x C 1 ["self", "part"] (spInit1 C fPart) := by
  refine mk_of T sc_iNot (fun _ _ _ _ _ _ us hl => match us, hl with | [_, _], _ => rfl) (fun vs H Q E h => ?_) (fun f cdv A outer s H vs Q E hr h => ?_)
  · obtain ⟨a, dx, y, rfl, e, q⟩ := h
    rfl
  obtain ⟨a, dx, y, rfl, e, q⟩ := h
  have nd := sc_iNot.nd
  refine ⟨_, (pss_one (ps_fld (pv 0) (pv 1) rfl)), ?_⟩
  exact ⟨_, rfl, _, rfl, a, C, dx, [], rfl, e, T.cl, n, (by show 0 < 1000; decide), q⟩
theorem sc_iFold : FnScope ["self", "one", "other"] ["self", "one", "other"] (defScope s_Fold_init) := ⟨rfl, rfl, rfl, by decide +kernel, rfl, by decide +kernel, by decide +kernel⟩
theorem ok_iFold {x : Str} {C : Addr} (T : MkF K mg x C "Fold.__init__" s_Fold_init) (n : NoAttr K C "one") (n' : NoAttr K C "other") : MkOk P w K mg base x C 1 ["self", "one", "other"] (spInit2 C) := by
  refine mk_of T sc_iFold (fun _ _ _ _ _ _ us hl => match us, hl with | [_, _, _], _ => rfl) (fun vs H Q E h => ?_) (fun f cdv A outer s H vs Q E hr h => ?_)
  · obtain ⟨a, dx, y, z, rfl, e, q⟩ := h
    rfl
  obtain ⟨a, dx, y, z, rfl, e, q⟩ := h
  have nd := sc_iFold.nd
  refine ⟨_, (pss_cons (ps_fld (pv 0) (pv 1) rfl)
    (pss_one (ps_fld (pv 0) (pv 2) rfl))), ?_⟩
  refine ⟨_, rfl, _, rfl, a, C, dx, [], rfl, e, T.cl, n, (by show 0 < 1000; decide), ?_⟩
  refine ⟨_, rfl, _, rfl, a, C, dx, _, rfl, upd_same, T.cl, n', (by show 1 < 1000; decide), ?_⟩
  rw [putF_two, upd_upd]
  exact q
theorem sc_mS : FnScope ["self"] ["self"] (defScope s_Saying_made_of) := ⟨rfl, rfl, rfl, by decide +kernel, rfl, by decide +kernel, by decide +kernel⟩
theorem ok_mS {c : CCs} {C : Addr} {t : Tr} (T : MethF K C "made_of" "Saying.made_of" s_Saying_made_of) (ht : t.kids = []) : MethOk P w K mg base C "made_of" 1 ["self"] (spMade c t) := by
  refine meth_of T sc_mS (fun _ _ _ _ _ _ us hl => match us, hl with | [_], _ => rfl) (fun vs H Q E h => ?_) (fun f cdv A outer s H vs Q E hr h => ?_)
  · obtain ⟨a, rfl, o, q⟩ := h
    rfl
  obtain ⟨a, rfl, o, q⟩ := h
  have nd := sc_mS.nd
  refine ⟨_, (pss_one (ps_ret (pe_lst pa_nil))), ?_⟩
  refine ⟨(by show 0 ≤ sizeLine; decide), fun l hl => q l [] hl ?_⟩
  rw [ht]
  exact .nil
theorem sc_mNot : FnScope ["self"] ["self"] (defScope s_Not_made_of) := ⟨rfl, rfl, rfl, by decide +kernel, rfl, by decide +kernel, by decide +kernel⟩
theorem ok_mNot {c : CCs} {t : Tr} (T : MethF K c.no "made_of" "Not.made_of" s_Not_made_of) (F : Fx K c) : MethOk P w K mg base c.no "made_of" 1 ["self"] (spMade c (.no t)) := by
  refine meth_of T sc_mNot (fun _ _ _ _ _ _ us hl => match us, hl with | [_], _ => rfl) (fun vs H Q E h => ?_) (fun f cdv A outer s H vs Q E hr h => ?_)
  · obtain ⟨a, rfl, o, q⟩ := h
    rfl
  obtain ⟨a, rfl, o, q⟩ := h
  have nd := sc_mNot.nd
  refine ⟨_, (pss_one (ps_ret (pe_lst (pa_cons (pe_fld (pv 0) rfl) pa_nil)))), ?_⟩
  cases o with
  | no e o =>
    refine ⟨_, rfl, a, c.no, _, _, _, rfl, e, T.cl, F.nPart, look_part _, (by show 1 ≤ sizeLine; decide), fun l hl => q l _ hl ?_⟩
    exact .cons ⟨_, rfl, o⟩ .nil
theorem sc_mFold : FnScope ["self"] ["self"] (defScope s_Fold_made_of) := ⟨rfl, rfl, rfl, by decide +kernel, rfl, by decide +kernel, by decide +kernel⟩
theorem ok_mFold {c : CCs} {u : W5} {t t' : Tr} (T : MethF K (c.fold u) "made_of" "Fold.made_of" s_Fold_made_of) (F : Fx K c) : MethOk P w K mg base (c.fold u) "made_of" 1 ["self"] (spMade c (.fold u t t')) := by
  refine meth_of T sc_mFold (fun _ _ _ _ _ _ us hl => match us, hl with | [_], _ => rfl) (fun vs H Q E h => ?_) (fun f cdv A outer s H vs Q E hr h => ?_)
  · obtain ⟨a, rfl, o, q⟩ := h
    rfl
  obtain ⟨a, rfl, o, q⟩ := h
  have nd := sc_mFold.nd
  refine ⟨_, (pss_one (ps_ret (pe_lst (pa_cons (pe_fld (pv 0) rfl) (pa_cons (pe_fld (pv 0) rfl) pa_nil))))), ?_⟩
  cases o with
  | fold e o o' =>
    refine ⟨_, rfl, a, _, _, _, _, rfl, e, T.cl, F.nOne u, look_one _ _, _, rfl, a, _, _, _, _, rfl, e, T.cl, F.nOther u, look_other _ _, (by show 2 ≤ sizeLine; decide), fun l hl => q l _ hl ?_⟩
    exact .cons ⟨_, rfl, o⟩ (.cons ⟨_, rfl, o'⟩ .nil)
end
end Mine




set_option Elab.async false
set_option linter.all false
set_option maxRecDepth 100000
set_option maxHeartbeats 4000000
namespace Mine
open PySem L2
section
variable {P : Program} {w : World} {K : PySem.W.Frag} {mg : Str → Option Value} {base : Heap} {c : CCs}
theorem sc_next : FnScope ["_law_cells"] ["_law_cells"] (defScope sNext) := ⟨rfl, rfl, rfl, by decide +kernel, rfl, by decide +kernel, by decide +kernel⟩
theorem ok_next (T : TopDef K mg "_law_next" sNext) (Z_len : mg "len" = none) : Def P w K mg base 1 "_law_next" ["_law_cells"] spNext := by
  refine def_of T sc_next (fun _ _ _ _ _ _ us hl => match us, hl with | [_], _ => rfl) (fun vs H Q E h => ?_) (fun f cdv A outer s H vs Q E hr h => ?_)
  · obtain ⟨l, ms, rfl, _⟩ := h
    rfl
  obtain ⟨l, ms, rfl, e, hc, q⟩ := h
  have nd := sc_next.nd
  refine ⟨_, (pss_cons (ps_if (pt_cmpR op_eq (pe_callB call_len rfl Z_len (by decide +kernel) (pa_cons (pv 0) pa_nil)) pe_int (nomark _)) (pss_one (ps_ret pe_int)) pss_nil)
    (pss_one (ps_ret (pe_bm PySem.F.plainAttrs_list PySem.F.slot_list_pop PySem.F.type_list_pop mt_popAt (pv 0) (pa_cons pe_int pa_nil))))), ?_⟩
  refine ⟨_, rfl, _, _, rfl, .inl ⟨_, SqL.of e, rfl⟩, rfl, _, rfl, ?_⟩
  refine ite2 (fun z => ?_) (fun z => ?_)
  · exact q 0 ms H cel0 hc (SB.refl _ _) e
  · cases ms with
    | nil => exact absurd (decide_eq_true rfl) z
    | cons m r =>
      refine ⟨_, rfl, .inl ⟨rfl, _, SqL.of e⟩, l, _, 0, 0, V.int m, rfl, rfl, e, by decide, by decide, seqIndex_of (Int.le_refl 0) (by rw [List.length_map, List.length_cons]; omega), rfl, ?_⟩
      exact q m r _ (hc m (by simp)) (fun n hn => hc n (List.mem_cons_of_mem _ hn)) (sb_upd _ _) upd_same
end
end Mine

namespace Mine
open PySem L2
section
variable {P : Program} {w : World} {K : PySem.W.Frag} {mg : Str → Option Value} {base : Heap} {c : CCs}
theorem sc_mixed : FnScope mixNames ["_law_script", "_law_least"] (defScope sMixed) := ⟨rfl, rfl, rfl, by decide +kernel, rfl, by decide +kernel, by decide +kernel⟩
theorem ok_mixed (T : TopDef K mg "_law_mixed" sMixed) (Z_len : mg "len" = none) (Z_max : mg "max" = none) (Z_min : mg "min" = none) (Z_range : mg "range" = none) (Z_abs : mg "abs" = none) (Z_int : mg "int" = none) : Def P w K mg base 1 "_law_mixed" ["_law_script", "_law_least"] (spMixed K) := by
  refine def_of T sc_mixed (fun _ _ _ _ _ _ us hl => match us, hl with | [_, _], _ => rfl) (fun vs H Q E h => ?_) (fun f cdv A outer s H vs Q E hr h => ?_)
  · obtain ⟨a, ns, k, rfl, _⟩ := h
    rfl
  obtain ⟨a, ns, k, rfl, S, k0, k1, q⟩ := h
  have nd := sc_mixed.nd
  have hlen := S.few
  have tail : ∃ t, PSs (cxOf CX0 P w K mg base mixNames "_law_mixed" (defScope sMixed) f cdv A outer s H E).nox ((defBody sMixed).drop 1) t ∧ ∀ b : Bool, t { nx := fun _ H' => Q .non H', rt := Q } [some (.ref a), some (.int k), some (.bl b), none, none, none] H := by
    refine ⟨_, (pss_cons (ps_set (i := 3) nd rfl (Or.inl rfl) (pe_lst pa_nil))
    (pss_cons (ps_for PassesOwn.never rfl (pi_range1 rfl Z_range (pa_cons (pe_callB (call_max2 rfl) rfl Z_max (by decide +kernel) (pa_cons (pe_op op_add (pv 1) pe_int) (pa_cons (pe_callB (call_min2 rfl) rfl Z_min (by decide +kernel) (pa_cons pe_int (pa_cons (pe_callB call_len rfl Z_len (by decide +kernel) (pa_cons (pv 0) pa_nil)) pa_nil))) pa_nil))) pa_nil)) (pg_name (i := 4) nd rfl (Or.inl rfl)) (pss_cons (ps_set (i := 5) nd rfl (Or.inl rfl) pe_int)
    (pss_cons (ps_if (pt_cmpR op_lt (pv 4) (pe_callB call_len rfl Z_len (by decide +kernel) (pa_cons (pv 0) pa_nil)) (nomark _)) (pss_one (ps_set (i := 5) nd rfl (Or.inl rfl) (pe_ix ix_list (pv 0) (pv 4) (fun _ _ => rfl)))) pss_nil)
    (pss_one (ps_if (PW.pt (pw_and (pt_truth (pv 2) (fun _ => rfl)) (pw_and1 (pt_chain op_lt op_lt pe_int (pv 4) (pe_callB call_len rfl Z_len (by decide +kernel) (pa_cons (pv 0) pa_nil)))))) (pss_one (ps_expr (pe_bm PySem.F.plainAttrs_list PySem.F.slot_list_append PySem.F.type_list_append mt_append (pv 3) (pa_cons (pe_callB call_abs rfl Z_abs (by decide +kernel) (pa_cons (pv 5) pa_nil)) pa_nil)))) (pss_one (ps_expr (pe_bm PySem.F.plainAttrs_list PySem.F.slot_list_append PySem.F.type_list_append mt_append (pv 3) (pa_cons (pe_op op_mod (pe_op op_mulK (pe_op op_mod (pe_op op_add (pe_op op_mulK (pe_op op_mod (pv 5) (pe_op op_pow pe_int pe_int)) pe_int) (pe_op op_mulK pe_int (pe_op op_add (pv 4) pe_int))) pe_int) pe_int) pe_int) pa_nil)))))))))
    (pss_one (ps_ret (pe_slice sl_list (pv 3) (po_some (pe_callTy call_int1 rfl Z_int (by decide +kernel) (pa_cons (pv 2) pa_nil))) po_none))))), ?_⟩
    intro b
    refine ⟨(by show 0 ≤ sizeLine; decide), fun D hD => ?_⟩
    refine ⟨_, rfl, _, _, rfl, rfl, _, rfl, _, _, rfl, .inl ⟨_, (same_new hD _).seq S.l, rfl⟩, _, _, rfl, _, _, rfl, _, rfl, ?_, ?_, ?_⟩
    · rw [min_is, max_is, List.length_map]; omega
    · rw [min_is, max_is, List.length_map]; omega
    rw [min_is, max_is, List.length_map]
    have hN : (max (k + 1) (min 63 (ns.length : Int))).toNat ≤ 1000 := by omega
    refine for_range (fun i σ H2 => ∃ (ms : List Int) (o4 o5 : Option V), σ = [some (.ref a), some (.int k), some (.bl b), some (.ref D), o4, o5] ∧ Same H H2 ∧ H2 D = some (.lst (ms.map V.int)) ∧ ms.length = i ∧ ∀ m ∈ ms, Cel m)
      ⟨[], _, _, rfl, same_new hD _, upd_same, rfl, fun _ h => nomatch h⟩ (fun i σ H2 hi h => ?_) (fun σ H2 h => ?_)
    · obtain ⟨ms, o4, o5, rfl, sm, e, hm, hc⟩ := h
      have S2 := S.to sm
      have next : ∀ v : Int, Cel v → ∀ z : Int, ∃ (ms' : List Int) (o4 o5 : Option V), [some (V.ref a), some (.int k), some (.bl b), some (.ref D), some (.int (0 + (i : Int))), some (.int z)] = [some (V.ref a), some (.int k), some (.bl b), some (.ref D), o4, o5] ∧ Same H (upd H2 D (.lst (ms.map V.int ++ [V.int v]))) ∧
          upd H2 D (.lst (ms.map V.int ++ [V.int v])) D = some (.lst (ms'.map V.int)) ∧ ms'.length = i + 1 ∧ ∀ m ∈ ms', Cel m := fun v cv z => by
        refine ⟨ms ++ [v], _, _, rfl, fun d o zz => ?_, by rw [upd_same, List.map_append]; rfl, by rw [List.length_append, hm]; rfl, fun m hm' => ?_⟩
        · rw [upd_ne (ne_of_none zz hD)]; exact sm d o zz
        · rcases List.mem_append.mp hm' with zz | zz
          · exact hc m zz
          · have : m = v := by simpa using zz
            rw [this]; exact cv
      have ml : (ms.map V.int).length < sizeLine := by rw [List.length_map, hm]; exact Nat.lt_of_lt_of_le hi (Nat.le_trans hN (by decide))
      have lenV : ∃ xs, SqL K H2 a xs ∧ (ns.length : Nat) = xs.length := ⟨_, S2.l, (List.length_map _).symm⟩
      refine ⟨_, rfl, _, rfl, _, ns.length, rfl, .inl lenV, _, _, rfl, rfl, _, rfl, ?_⟩
      have cellOk : ∃ z : Int, Builtin.Int.intBits z ≤ 1048576 ∧ (decide ((0 + (i : Int)) < (ns.length : Int)) = true → atI (ns.map V.int) (0 + (i : Int)) = some (V.int z)) ∧ (¬ decide ((0 + (i : Int)) < (ns.length : Int)) = true → z = 0) := by
        by_cases hlt : i < ns.length
        · refine ⟨ns[i], S.bit _ (List.getElem_mem hlt), fun _ => ?_, fun z => absurd (decide_eq_true (by omega)) z⟩
          rw [Int.zero_add]
          exact atI_nat (by rw [List.getElem?_map, List.getElem?_eq_getElem hlt]; rfl)
        · exact ⟨0, by decide, fun z => absurd (of_decide_eq_true z) (by omega), fun _ => rfl⟩
      obtain ⟨z, hz, hz1, hz2⟩ := cellOk
      refine ite2 (fun g => ?a) (fun g => ?b)
      case' a => refine ⟨_, rfl, _, rfl, _, _, _, _, rfl, rfl, S2.l, hz1 g, ?_⟩
      case' b => have ez := hz2 g; subst ez
      all_goals
        cases b with
        | false =>
          refine ⟨_, rfl, false, rfl, iteF (iteF ?_)⟩
          refine ⟨_, rfl, .inl ⟨rfl, _, SqL.of e⟩, _, rfl, _, _, rfl, rfl, ⟨by decide, by decide, by decide⟩, _, _, rfl, rfl, (show (0 : Int) < 10 ^ (Int.toNat 18) by decide +kernel), _, _, rfl, rfl, mul_ok_r (by decide +kernel), _, rfl, _, _, rfl, rfl, _, _, rfl, rfl, mul_ok_l (by decide +kernel), _, _, rfl, rfl, _, _, rfl, rfl, (show (0 : Int) < 2147483647 by decide), _, _, rfl, rfl, mul_ok_r (by decide +kernel), _, _, rfl, rfl, (show (0 : Int) < 2147483629 by decide), D, _, _, rfl, rfl, e, ml, ?_⟩
          exact next _ (cel_small (Int.emod_nonneg _ (by decide)) (Int.lt_trans (Int.emod_lt_of_pos _ (by decide)) (by decide))) _
        | true =>
          refine ⟨_, rfl, true, rfl, iteT ?_⟩
          refine ⟨_, rfl, _, _, rfl, rfl, _, rfl, ?_⟩
          refine ite2 (fun g1 => ?_) (fun g1 => ?_)
          · refine ⟨_, rfl, _, ns.length, rfl, .inl lenV, _, _, rfl, rfl, _, rfl, ?_⟩
            refine ite2 (fun g2 => ?_) (fun g2 => ?_)
            · refine ⟨_, rfl, .inl ⟨rfl, _, SqL.of e⟩, _, rfl, _, rfl, D, _, _, rfl, rfl, e, ml, ?_⟩
              exact next _ (cel_abs hz) _
            · refine ⟨_, rfl, .inl ⟨rfl, _, SqL.of e⟩, _, rfl, _, _, rfl, rfl, ⟨by decide, by decide, by decide⟩, _, _, rfl, rfl, (show (0 : Int) < 10 ^ (Int.toNat 18) by decide +kernel), _, _, rfl, rfl, mul_ok_r (by decide +kernel), _, rfl, _, _, rfl, rfl, _, _, rfl, rfl, mul_ok_l (by decide +kernel), _, _, rfl, rfl, _, _, rfl, rfl, (show (0 : Int) < 2147483647 by decide), _, _, rfl, rfl, mul_ok_r (by decide +kernel), _, _, rfl, rfl, (show (0 : Int) < 2147483629 by decide), D, _, _, rfl, rfl, e, ml, ?_⟩
              exact next _ (cel_small (Int.emod_nonneg _ (by decide)) (Int.lt_trans (Int.emod_lt_of_pos _ (by decide)) (by decide))) _
          · refine ⟨_, rfl, iteF ?_⟩
            refine ⟨_, rfl, .inl ⟨rfl, _, SqL.of e⟩, _, rfl, _, _, rfl, rfl, ⟨by decide, by decide, by decide⟩, _, _, rfl, rfl, (show (0 : Int) < 10 ^ (Int.toNat 18) by decide +kernel), _, _, rfl, rfl, mul_ok_r (by decide +kernel), _, rfl, _, _, rfl, rfl, _, _, rfl, rfl, mul_ok_l (by decide +kernel), _, _, rfl, rfl, _, _, rfl, rfl, (show (0 : Int) < 2147483647 by decide), _, _, rfl, rfl, mul_ok_r (by decide +kernel), _, _, rfl, rfl, (show (0 : Int) < 2147483629 by decide), D, _, _, rfl, rfl, e, ml, ?_⟩
            exact next _ (cel_small (Int.emod_nonneg _ (by decide)) (Int.lt_trans (Int.emod_lt_of_pos _ (by decide)) (by decide))) _
    · obtain ⟨ms, o4, o5, rfl, sm, e, hm, hc⟩ := h
      refine ⟨_, rfl, _, rfl, .inr ⟨b, rfl, _, rfl, D, _, rfl, SqL.of e, fun p hp => ?_⟩⟩
      obtain ⟨ms', em, hm'⟩ := cut_int ms (some (if b then 1 else 0)) none
      rw [em]
      have np : H p = none := sm.free hp
      exact q p ms' _ (fun d o zz => by rw [upd_ne (ne_of_none zz np)]; exact sm d o zz) np upd_same fun m h => hc m (hm' m h)
  obtain ⟨t1, ht1, hq1⟩ := tail
  refine ⟨_, pss_cons (ps_set (i := 2) nd rfl (Or.inl rfl) (pe_and (pe_cmpR op_gt (pe_callB call_len rfl Z_len (by decide +kernel) (pa_cons (pv 0) pa_nil)) pe_int (nomark _)) (pe_one (pe_cmpR op_eq (pe_op op_mod (pe_ix ix_list (pv 0) pe_int (fun _ _ => rfl)) pe_int) pe_int (nomark _))))) ht1, ?_⟩
  refine ⟨_, rfl, _, ns.length, rfl, .inl ⟨_, S.l, (List.length_map _).symm⟩, _, _, rfl, rfl, _, rfl, ?_⟩
  refine ite2 (fun g => ?_) (fun g => ?_)
  · cases ns with
    | nil => exact absurd (of_decide_eq_true g) (by decide)
    | cons n r => exact ⟨_, rfl, _, _, _, _, rfl, rfl, S.l, atI_nat (j := 0) rfl, _, _, rfl, rfl, (show (0 : Int) < 2 by decide), rfl, hq1 _⟩
  · exact hq1 false

end
end Mine

namespace Mine
open PySem L2
abbrev sayNamesH : List Str := ["_law_cells", "_law_room", "_law_two", "_law_cell", "_law_turn", "_law_left", "_law_one", "_law_word_here"]
section
variable {P : Program} {w : World} {K : PySem.W.Frag} {mg : Str → Option Value} {base : Heap} {c : CCs}
theorem sc_saying : FnScope sayNamesH ["_law_cells", "_law_room", "_law_two"] (defScope sSaying) := ⟨rfl, rfl, rfl, by decide +kernel, rfl, by decide +kernel, by decide +kernel⟩
theorem ok_saying (T : TopDef K mg "_law_saying" sSaying) (Z_int : mg "int" = none) (D_law_next : Def P w K mg base 1 "_law_next" ["_law_cells"] spNext) : ∀ n : Nat, Def P w K mg base (n + 2) "_law_saying" ["_law_cells", "_law_room", "_law_two"] (spSaying n) := by
  intro n
  induction n with
  | zero =>
    refine def_of T sc_saying (fun _ _ _ _ _ _ us hl => match us, hl with | [_, _, _], _ => rfl) (fun vs H Q E h => ?_) (fun f cdv A outer s H vs Q E hr h => ?_)
    · obtain ⟨l, ms, r, b, rfl, _⟩ := h
      rfl
    · obtain ⟨l, ms, r, b, rfl, _, _, z1, z2, _⟩ := h
      have : (r : Int) ≤ ((0 : Nat) : Int) := z2
      omega
  | succ n D_law_saying =>
    refine def_of T sc_saying (fun _ _ _ _ _ _ us hl => match us, hl with | [_, _, _], _ => rfl) (fun vs H Q E h => ?_) (fun f cdv A outer s H vs Q E hr h => ?_)
    · obtain ⟨l, ms, r, b, rfl, _⟩ := h
      rfl
    obtain ⟨l, ms, r, b, rfl, e, hc, r1, r2, q⟩ := h
    have nd := sc_saying.nd
    have r2' : r ≤ (n : Int) + 1 := by exact_mod_cast r2
    -- a leaf
    have tail4 : ∃ t, PSs (cxOf CX0 P w K mg base sayNamesH "_law_saying" (defScope sSaying) f cdv A outer s H E).nox ((defBody sSaying).drop 4) t ∧ ∀ (i : Int) (ms1 : List Int) (H1 : Hp), (∀ m ∈ ms1, Cel m) → SB (.ref l) H H1 → H1 l = some (.lst (ms1.map V.int)) →
        t { nx := fun _ H' => Q .non H', rt := Q } [some (.ref l), some (.int r), some (.bl b), some (.int i), some (.int (i / 16)), none, none, none] H1 := by
      refine ⟨_, (pss_cons (ps_if (pt_cmpR op_gt (pe_op op_mod (pv 4) pe_int) pe_int (nomark _)) (pss_one (ps_ret (pe_tup (pa_cons (pe_ix ix_tup (pe_tup (pa_cons pe_str (pa_cons pe_str pa_nil))) (pe_op op_sub (pe_op op_mod (pv 4) pe_int) pe_int) (fun _ _ => rfl)) pa_nil)))) pss_nil)
    (pss_one (ps_ret (pe_tup (pa_cons (pe_ix ix_tup (pe_tup (pa_cons pe_str (pa_cons pe_str pa_nil))) (pe_op op_mulK (pe_op op_mod (pv 4) pe_int) (pe_callTy call_int1 rfl Z_int (by decide +kernel) (pa_cons (pv 2) pa_nil))) (fun _ _ => rfl)) pa_nil))))), ?_⟩
      intro i ms1 H1 hc1 sb1 e1
      have fin : ∀ (p p2 : Addr) (xs : List V) (x : Str) (t : Tr), t.size = 1 → H1 p = none → upd H1 p (.tup xs) p2 = none → Tu (upd (upd H1 p (.tup xs)) p2 (.tup [V.str x])) p2 t → Q (.ref p2) (upd (upd H1 p (.tup xs)) p2 (.tup [V.str x])) := fun p p2 xs x t ht hp hp2 tu => by
        have s1 := same_new hp (.tup xs)
        have s2 := same_new hp2 (.tup [V.str x])
        exact q p2 t ms1 _ (by rw [ht]; exact r1) hc1 (sb1.trans (SB.of (s1.trans s2))) (s2 _ _ (s1 _ _ e1)) tu
      refine ⟨_, rfl, _, _, rfl, rfl, (show (0 : Int) < 9 by decide), _, _, rfl, rfl, _, rfl, ?_⟩
      refine ite2 (fun g => ?_) (fun g => ?_)
      · have g1 : 6 < i / 16 % 9 := of_decide_eq_true g
        have g2 : i / 16 % 9 < 9 := Int.emod_lt_of_pos _ (by decide)
        refine ⟨(by show 2 ≤ sizeLine; decide), fun p hp => ?_⟩
        obtain ⟨z, hz, hzz⟩ := two_at (x := V.str "never") (y := V.str "always") (i / 16 % 9 - 7) (by omega)
        refine ⟨_, rfl, _, _, rfl, rfl, (show (0 : Int) < 9 by decide), _, _, rfl, rfl, _, _, _, _, rfl, rfl, SqT.of upd_same, hz, (by show 1 ≤ sizeLine; decide), fun p2 hp2 => ?_⟩
        rcases hzz with rfl | rfl
        · exact fin p p2 _ _ .never rfl hp hp2 (.never upd_same)
        · exact fin p p2 _ _ .always rfl hp hp2 (.always upd_same)
      · have g2 : i / 16 % 2 < 2 := Int.emod_lt_of_pos _ (by decide)
        have g3 : 0 ≤ i / 16 % 2 := Int.emod_nonneg _ (by decide)
        refine ⟨(by show 2 ≤ sizeLine; decide), fun p hp => ?_⟩
        have hi : i / 16 % 2 * (if b then 1 else 0) = 0 ∨ i / 16 % 2 * (if b then 1 else 0) = 1 := by cases b <;> simp <;> omega
        obtain ⟨z, hz, hzz⟩ := two_at (x := V.str "p") (y := V.str "q") (i / 16 % 2 * (if b then 1 else 0)) hi
        refine ⟨_, rfl, _, _, rfl, rfl, (show (0 : Int) < 2 by decide), _, rfl, .inr ⟨b, rfl, _, _, rfl, rfl, mul_ok_r (by cases b <;> decide +kernel), _, _, _, _, rfl, rfl, SqT.of upd_same, hz, (by show 1 ≤ sizeLine; decide), fun p2 hp2 => ?_⟩⟩
        rcases hzz with rfl | rfl
        · exact fin p p2 _ _ .lp rfl hp hp2 (.lp upd_same)
        · exact fin p p2 _ _ .lq rfl hp hp2 (.lq upd_same)
    obtain ⟨t4, ht4, hq4⟩ := tail4
    have tail3 : ∃ t, PSs (cxOf CX0 P w K mg base sayNamesH "_law_saying" (defScope sSaying) f cdv A outer s H E).nox ((defBody sSaying).drop 3) t ∧ ∀ (i : Int) (ms1 : List Int) (H1 : Hp), (∀ m ∈ ms1, Cel m) → SB (.ref l) H H1 → H1 l = some (.lst (ms1.map V.int)) →
        t { nx := fun _ H' => Q .non H', rt := Q } [some (.ref l), some (.int r), some (.bl b), some (.int i), some (.int (i / 16)), none, none, none] H1 := by
      refine ⟨_, pss_cons (ps_if (PW.pt (pw_and (pt_cmpR op_gt (pv 1) pe_int (nomark _)) (pw_and1 (pt_cmpR op_lt (pe_op op_mod (pv 3) pe_int) pe_int (nomark _))))) (pss_one (ps_ret (pe_tup (pa_cons pe_str (pa_cons (pe_def D_law_saying (hr.mono (by omega)) rfl (pa_cons (pv 0) (pa_cons (pe_op op_sub (pv 1) pe_int) (pa_cons (pv 2) pa_nil)))) pa_nil))))) pss_nil) ht4, ?_⟩
      intro i ms1 H1 hc1 sb1 e1
      refine ⟨_, rfl, _, _, rfl, rfl, _, rfl, ?_⟩
      refine ite2 (fun g => ?_) (fun g => ?_)
      · have g1 : 1 < r := of_decide_eq_true g
        refine ⟨_, rfl, _, _, rfl, rfl, (show (0 : Int) < 16 by decide), _, _, rfl, rfl, _, rfl, ?_⟩
        refine ite2 (fun g' => ?_) (fun g' => hq4 i ms1 H1 hc1 sb1 e1)
        refine ⟨_, rfl, _, rfl, _, _, rfl, rfl, _, rfl, l, ms1, r - 1, b, rfl, e1, hc1, by omega, by omega, fun a1 t1 ms2 H2 z1 hc2 sb2 e2 tu => ?_⟩
        refine ⟨(by show 2 ≤ sizeLine; decide), fun p hp => ?_⟩
        have s3 := same_new hp (.tup [V.str "not", .ref a1])
        exact q p (.no t1) ms2 _ (by show ((t1.size + 1 : Nat) : Int) ≤ r; omega) hc2 ((sb1.trans sb2).trans (SB.of s3)) (s3 _ _ e2) (.no upd_same (tu.to (Kp.of s3)))
      · exact iteF (hq4 i ms1 H1 hc1 sb1 e1)
    obtain ⟨t3, ht3, hq3⟩ := tail3
    refine ⟨_, pss_cons (ps_set (i := 3) nd rfl (Or.inl rfl) (pe_def D_law_next (hr.mono (by omega)) rfl (pa_cons (pv 0) pa_nil))) (pss_cons (ps_set (i := 4) nd rfl (Or.inl rfl) (pe_op op_fdiv (pv 3) pe_int)) (pss_cons (ps_if (PW.pt (pw_and (pt_cmpR op_gt (pv 1) pe_int (nomark _)) (pw_and1 (pt_cmpR op_gt (pe_op op_mod (pv 3) pe_int) pe_int (nomark _))))) (pss_cons (ps_set (i := 5) nd rfl (Or.inl rfl) (pe_op op_add pe_int (pe_op op_mod (pe_op op_fdiv (pv 4) pe_int) (pe_op op_sub (pv 1) pe_int))))
    (pss_cons (ps_set (i := 6) nd rfl (Or.inl rfl) (pe_def D_law_saying (hr.mono (by omega)) rfl (pa_cons (pv 0) (pa_cons (pv 5) (pa_cons (pv 2) pa_nil)))))
    (pss_cons (ps_set (i := 7) nd rfl (Or.inl rfl) (pe_ix ix_tup (pe_tup (pa_cons pe_str (pa_cons pe_str (pa_cons pe_str (pa_cons pe_str (pa_cons pe_str pa_nil)))))) (pe_op op_mod (pv 4) pe_int) (fun _ _ => rfl)))
    (pss_one (ps_ret (pe_tup (pa_cons (pv 7) (pa_cons (pv 6) (pa_cons (pe_def D_law_saying (hr.mono (by omega)) rfl (pa_cons (pv 0) (pa_cons (pe_op op_sub (pe_op op_sub (pv 1) pe_int) (pv 5)) (pa_cons (pv 2) pa_nil)))) pa_nil))))))))) pss_nil) ht3)), ?_⟩
    refine ⟨_, rfl, l, ms, rfl, e, hc, fun i ms1 H1 ci hc1 sb1 e1 => ?_⟩
    refine ⟨_, rfl, _, _, rfl, rfl, ⟨by decide, by decide⟩, ?_⟩
    refine ⟨_, rfl, _, _, rfl, rfl, _, rfl, ?_⟩
    refine ite2 (fun g => ?_) (fun g => iteF (hq3 i ms1 H1 hc1 sb1 e1))
    have g1 : 2 < r := of_decide_eq_true g
    refine ⟨_, rfl, _, _, rfl, rfl, (show (0 : Int) < 16 by decide), _, _, rfl, rfl, _, rfl, ?_⟩
    refine ite2 (fun g' => ?_) (fun g' => hq3 i ms1 H1 hc1 sb1 e1)
    have b1 : 0 ≤ i / 16 / 5 % (r - 2) := Int.emod_nonneg _ (by omega)
    have b2 : i / 16 / 5 % (r - 2) < r - 2 := Int.emod_lt_of_pos _ (by omega)
    refine ⟨_, rfl, _, _, rfl, rfl, ⟨by decide, by decide⟩, _, rfl, _, _, rfl, rfl, _, _, rfl, rfl, (show (0 : Int) < r - 2 by omega), _, _, rfl, rfl, ?_⟩
    refine ⟨_, rfl, _, rfl, _, rfl, l, ms1, _, b, rfl, e1, hc1, by omega, by omega, fun a1 x1 ms2 H2 z1 hc2 sb2 e2 tu1 => ?_⟩
    refine ⟨(by show 5 ≤ sizeLine; decide), fun p hp => ?_⟩
    obtain ⟨u, hu⟩ := word_at (i / 16 % 5) (Int.emod_nonneg _ (by decide)) (Int.emod_lt_of_pos _ (by decide))
    refine ⟨_, rfl, _, _, rfl, rfl, (show (0 : Int) < 5 by decide), _, _, _, _, rfl, rfl, SqT.of upd_same, hu, ?_⟩
    have s2 := same_new hp (.tup [V.str "more", .str "less", .str "greater", .str "lesser", .str "leads"])
    refine ⟨_, rfl, _, rfl, _, rfl, _, rfl, _, _, rfl, rfl, _, rfl, _, _, rfl, rfl, _, rfl, l, ms2, _, b, rfl, s2 _ _ e2, hc2, by omega, by omega, fun a2 x2 ms3 H3 z2 hc3 sb3 e3 tu2 => ?_⟩
    refine ⟨(by show 3 ≤ sizeLine; decide), fun p2 hp2 => ?_⟩
    have s4 := same_new hp2 (.tup [V.str u.str, .ref a1, .ref a2])
    have k3 : Kp (upd H2 p (.tup [V.str "more", .str "less", .str "greater", .str "lesser", .str "leads"])) H3 := sb3.kp (lst_fx (s2 _ _ e2))
    exact q p2 (.fold u x1 x2) ms3 _ (by show ((x1.size + x2.size + 1 : Nat) : Int) ≤ r; omega) hc3 ((((sb1.trans sb2).trans (SB.of s2)).trans sb3).trans (SB.of s4)) (s4 _ _ e3) (.fold upd_same (tu1.to (((Kp.of s2).trans k3).trans (Kp.of s4))) (tu2.to (Kp.of s4)))
end
end Mine

namespace Mine
open PySem L2
section
variable {P : Program} {w : World} {K : PySem.W.Frag} {mg : Str → Option Value} {base : Heap} {c : CCs}
theorem sc_text : FnScope ["_law_tree"] ["_law_tree"] (defScope sText) := ⟨rfl, rfl, rfl, by decide +kernel, rfl, by decide +kernel, by decide +kernel⟩
theorem ok_text (T : TopDef K mg "_law_text" sText) (Z_len : mg "len" = none) : ∀ n : Nat, Def P w K mg base (n + 1) "_law_text" ["_law_tree"] (spText n) := by
  intro n
  induction n with
  | zero =>
    refine def_of T sc_text (fun _ _ _ _ _ _ us hl => match us, hl with | [_], _ => rfl) (fun vs H Q E h => ?_) (fun f cdv A outer s H vs Q E hr h => ?_)
    · obtain ⟨a, t, rfl, _⟩ := h
      rfl
    · obtain ⟨a, t, rfl, _, z, _⟩ := h
      have := t.size_pos
      omega
  | succ n D_law_text =>
    refine def_of T sc_text (fun _ _ _ _ _ _ us hl => match us, hl with | [_], _ => rfl) (fun vs H Q E h => ?_) (fun f cdv A outer s H vs Q E hr h => ?_)
    · obtain ⟨a, t, rfl, _⟩ := h
      rfl
    obtain ⟨a, t, rfl, tu, hz, hk, q⟩ := h
    have nd := sc_text.nd
    refine ⟨_, (pss_cons (ps_if (pt_cmpR op_eq (pe_callB call_len rfl Z_len (by decide +kernel) (pa_cons (pv 0) pa_nil)) pe_int (nomark _)) (pss_one (ps_ret (pe_ix ix_tup (pv 0) pe_int (fun _ _ => rfl)))) pss_nil)
    (pss_cons (ps_if (pt_cmpR op_eq (pe_ix ix_tup (pv 0) pe_int (fun _ _ => rfl)) pe_str (nomark _)) (pss_one (ps_ret (pe_op op_add_str pe_str (pe_def D_law_text (hr.mono (by omega)) rfl (pa_cons (pe_ix ix_tup (pv 0) pe_int (fun _ _ => rfl)) pa_nil))))) pss_nil)
    (pss_one (ps_ret (pe_op op_add_str (pe_op op_add_str (pe_op op_add_str (pe_op op_add_str (pe_op op_add_str (pe_op op_add_str pe_str (pe_def D_law_text (hr.mono (by omega)) rfl (pa_cons (pe_ix ix_tup (pv 0) pe_int (fun _ _ => rfl)) pa_nil))) pe_str) (pe_ix ix_tup (pv 0) pe_int (fun _ _ => rfl))) pe_str) (pe_def D_law_text (hr.mono (by omega)) rfl (pa_cons (pe_ix ix_tup (pv 0) pe_int (fun _ _ => rfl)) pa_nil))) pe_str))))), ?_⟩
    have leaf : ∀ x : Str, H a = some (.tup [.str x]) → Q (.str x) H → ∀ B : Prop, ∃ v, [some (V.ref a)][0]? = some (some v) ∧ True := fun _ _ _ _ => ⟨_, rfl, trivial⟩
    cases tu with
    | never e => exact ⟨_, rfl, _, _, rfl, .inr ⟨_, SqT.of e, rfl⟩, rfl, _, rfl, ite2 (fun _ => ⟨_, rfl, _, _, _, _, rfl, rfl, SqT.of e, rfl, q⟩) (fun z => absurd (decide_eq_true rfl) z)⟩
    | always e => exact ⟨_, rfl, _, _, rfl, .inr ⟨_, SqT.of e, rfl⟩, rfl, _, rfl, ite2 (fun _ => ⟨_, rfl, _, _, _, _, rfl, rfl, SqT.of e, rfl, q⟩) (fun z => absurd (decide_eq_true rfl) z)⟩
    | lp e => exact ⟨_, rfl, _, _, rfl, .inr ⟨_, SqT.of e, rfl⟩, rfl, _, rfl, ite2 (fun _ => ⟨_, rfl, _, _, _, _, rfl, rfl, SqT.of e, rfl, q⟩) (fun z => absurd (decide_eq_true rfl) z)⟩
    | lq e => exact ⟨_, rfl, _, _, rfl, .inr ⟨_, SqT.of e, rfl⟩, rfl, _, rfl, ite2 (fun _ => ⟨_, rfl, _, _, _, _, rfl, rfl, SqT.of e, rfl, q⟩) (fun z => absurd (decide_eq_true rfl) z)⟩
    | @no _ b t e tb =>
      have zt : t.size + 1 ≤ n + 1 := hz
      have zk : t.size + 1 ≤ 1000 := hk
      have tl := text_len t
      refine ⟨_, rfl, _, _, rfl, .inr ⟨_, SqT.of e, rfl⟩, rfl, _, rfl, ite2 (fun z => absurd (V.int.inj (of_decide_eq_true z)) (show ¬ (((2 : Nat) : Int) = 1) by decide)) (fun _ => ?_)⟩
      refine ⟨_, rfl, _, _, _, _, rfl, rfl, SqT.of e, rfl, rfl, _, rfl, ite_yes rfl ?_⟩
      refine ⟨_, rfl, _, _, _, _, rfl, rfl, SqT.of e, rfl, b, t, rfl, tb, by omega, by omega, _, _, rfl, rfl, ?_, q⟩
      have h1 : ("not " : Str).length = 4 := by decide +kernel
      rw [h1]
      exact Nat.le_trans (show _ ≤ 100000 by omega) (by decide)
    | @fold _ b d u x y e tb td =>
      have zt : x.size + y.size + 1 ≤ n + 1 := hz
      have zk : x.size + y.size + 1 ≤ 1000 := hk
      have tl := text_len x
      have tl' := text_len y
      have wl := w_len u
      have h1 : ("( " : Str).length = 2 := by decide +kernel
      have h2 : (" " : Str).length = 1 := by decide +kernel
      have h3 : (" )" : Str).length = 2 := by decide +kernel
      have big : ∀ k : Nat, k ≤ 100000 → k ≤ sizeLine := fun k hk => Nat.le_trans hk (by decide)
      refine ⟨_, rfl, _, _, rfl, .inr ⟨_, SqT.of e, rfl⟩, rfl, _, rfl, ite2 (fun z => absurd (V.int.inj (of_decide_eq_true z)) (show ¬ (((3 : Nat) : Int) = 1) by decide)) (fun _ => ?_)⟩
      refine ⟨_, rfl, _, _, _, _, rfl, rfl, SqT.of e, rfl, rfl, _, rfl, ite_no (w_not u) ?_⟩
      refine ⟨_, rfl, _, _, _, _, rfl, rfl, SqT.of e, rfl, b, x, rfl, tb, by omega, by omega, _, _, rfl, rfl, big _ (by rw [h1]; omega), ?_⟩
      refine ⟨_, _, rfl, rfl, big _ (by simp only [Str.length_append, h1, h2]; omega), ?_⟩
      refine ⟨_, rfl, _, _, _, _, rfl, rfl, SqT.of e, rfl, _, _, rfl, rfl, big _ (by simp only [Str.length_append, h1, h2]; omega), ?_⟩
      refine ⟨_, _, rfl, rfl, big _ (by simp only [Str.length_append, h1, h2]; omega), ?_⟩
      refine ⟨_, rfl, _, _, _, _, rfl, rfl, SqT.of e, rfl, d, y, rfl, td, by omega, by omega, _, _, rfl, rfl, big _ (by simp only [Str.length_append, h1, h2]; omega), ?_⟩
      exact ⟨_, _, rfl, rfl, big _ (by simp only [Str.length_append, h1, h2, h3]; omega), q⟩
end
end Mine




set_option Elab.async false
set_option linter.all false
set_option maxRecDepth 100000
set_option maxHeartbeats 4000000
namespace Mine
open PySem L2
/-- words without a blank, none of them long -/
def Wd (ws : List Str) : Prop := ∀ x ∈ ws, x.length ≤ 8 ∧ 32 ∉ x.cps.toList
theorem Wd.app {a b : List Str} (h : Wd a) (k : Wd b) : Wd (a ++ b) := fun x hx => (List.mem_append.mp hx).elim (h x) (k x)
theorem Wd.one {x : Str} (h : x.length ≤ 8 ∧ 32 ∉ x.cps.toList) : Wd [x] := fun y hy => by rw [List.mem_singleton.mp hy]; exact h
theorem wd_tree (t : Tr) : Wd t.words := fun x hx => ⟨by
  have : ∀ t : Tr, ∀ x ∈ t.words, x.length ≤ 8 := by
    intro t
    induction t with
    | no t ih =>
      intro w h
      rcases List.mem_cons.mp h with rfl | h
      · decide +kernel
      · exact ih w h
    | fold u a b ia ib =>
      intro w h
      have e : w = "(" ∨ w ∈ a.words ∨ w = u.str ∨ w ∈ b.words ∨ w = ")" := by simpa [Tr.words] using h
      rcases e with rfl | h | rfl | h | rfl
      · decide +kernel
      · exact ia w h
      · cases u <;> decide +kernel
      · exact ib w h
      · decide +kernel
    | _ =>
      intro w h
      rw [List.mem_singleton.mp h]
      decide +kernel
  exact this t x hx, words_free t x hx⟩
theorem cut_str (ws : List Str) (lo hi : Option Int) : ∃ ws' : List Str, cutV (ws.map V.str) lo hi = ws'.map V.str ∧ (∀ x ∈ ws', x ∈ ws) ∧ ws'.length ≤ ws.length := by
  refine ⟨(ws.drop (_root_.HT.sIx (ws.map V.str).length 0 lo)).take (_root_.HT.sIx (ws.map V.str).length (ws.map V.str).length hi - _root_.HT.sIx (ws.map V.str).length 0 lo), ?_, fun m h => List.mem_of_mem_drop (List.mem_of_mem_take h), ?_⟩
  · unfold cutV
    rw [List.map_take, List.map_drop]
  · rw [List.length_take, List.length_drop]
    omega
theorem cut_one (ws : List Str) : (cutV (ws.map V.str) none (some 1)).length ≤ 1 := by
  unfold cutV
  rw [List.length_take]
  have : _root_.HT.sIx (ws.map V.str).length (ws.map V.str).length (some 1) ≤ 1 := by
    have e := _root_.HT.sIx_nat (ws.map V.str).length (ws.map V.str).length 1
    rw [show ((1 : Nat) : Int) = 1 from rfl] at e
    rw [e]
    exact Nat.min_le_left _ _
  omega
def wordsA : List Str := ["never", "always", "p", "q", "not", "(", ")", "more", "less", "greater", "lesser", "leads"]
def wordsB : List Str := ["", "r", "P", "pq", "Not", "((", "lead", "or", "p.", "0", "p)", "(p", "not(", "))", "q)p"]
def wdB (x : Str) : Bool := decide (x.length ≤ 8) && !x.cps.toList.contains 32
theorem wordsA_ok : wordsA.all wdB = true := by decide +kernel
theorem wordsB_ok : wordsB.all wdB = true := by decide +kernel
theorem wd_of {L : List Str} (h : L.all wdB = true) : ∀ v ∈ L.map V.str, ∃ x, v = V.str x ∧ x.length ≤ 8 ∧ 32 ∉ x.cps.toList := fun v hv => by
  obtain ⟨x, hx, rfl⟩ := List.mem_map.mp hv
  have h := List.all_eq_true.mp h x hx
  unfold wdB at h
  rw [Bool.and_eq_true] at h
  exact ⟨x, rfl, of_decide_eq_true h.1, by simpa using h.2⟩
theorem word_body : ∃ (p1 p2 p3 p4 p5 p6 p7 p8 : Pos) (es es2 : List Expr), defBody s_l_word = (.Assign [.Name "_law_some" p1] (.List es p2) p3) :: (.Assign [.Name "_law_some" p4] (.BinOp (.Name "_law_some" p5) .Add (.List es2 p6) p7) p8) :: (defBody s_l_word).drop 2 ∧ kStrs es = some wordsA ∧ kStrs es2 = some wordsB :=
  ⟨_, _, _, _, _, _, _, _, _, _, rfl, by decide +kernel, by decide +kernel⟩
def spWordL : Sp := fun vs H Q _ => ∃ i : Int, vs = [.int i] ∧ ∀ x H', x.length ≤ 8 ∧ 32 ∉ x.cps.toList → Same H H' → Q (.str x) H'
def spChanged : Sp := fun vs H Q _ => ∃ (l : Addr) (ws : List Str) (i : Int), vs = [.ref l, .int i] ∧ H l = some (.lst (ws.map V.str)) ∧ ws.length ≤ 1000 ∧ Wd ws ∧ ∀ p ws' H', Same H H' → H p = none → H' p = some (.lst (ws'.map V.str)) → ws'.length ≤ 2 * ws.length + 1 → Wd ws' → Q (.ref p) H'
def spDrawn : Sp := fun vs H Q _ => ∃ (l : Addr) (ms : List Int), vs = [.ref l] ∧ H l = some (.lst (ms.map V.int)) ∧ (∀ m ∈ ms, Cel m) ∧ ∀ p ws H', H' p = some (.lst (ws.map V.str)) → ws.length ≤ 999 → Wd ws → Q (.ref p) H'
theorem big1 {n : Nat} (h : n ≤ 100000) : n ≤ sizeLine := Nat.le_trans h (by decide)
section
variable {P : Program} {w : World} {K : PySem.W.Frag} {mg : Str → Option Value} {base : Heap} {c : CCs}
theorem sc_wordL : FnScope ["_law_cell", "_law_some"] ["_law_cell"] (defScope s_l_word) := ⟨rfl, rfl, rfl, by decide +kernel, rfl, by decide +kernel, by decide +kernel⟩
theorem ok_wordL (T : TopDef K mg "_law_word" s_l_word) (Z_len : mg "len" = none) : Def P w K mg base 1 "_law_word" ["_law_cell"] spWordL := by
  refine def_of T sc_wordL (fun _ _ _ _ _ _ us hl => match us, hl with | [_], _ => rfl) (fun vs H Q E h => ?_) (fun f cdv A outer s H vs Q E hr h => ?_)
  · obtain ⟨i, rfl, _⟩ := h
    rfl
  obtain ⟨i, rfl, q⟩ := h
  have nd := sc_wordL.nd
  have tail : ∃ t, PSs (cxOf CX0 P w K mg base ["_law_cell", "_law_some"] "_law_word" (defScope s_l_word) f cdv A outer s H E).nox ((defBody s_l_word).drop 2) t ∧ ∀ (l : Addr) (L : List V) (H1 : Hp), H1 l = some (.lst L) → L.length = 27 → (∀ v ∈ L, ∃ x, v = V.str x ∧ x.length ≤ 8 ∧ 32 ∉ x.cps.toList) → Same H H1 → t { nx := fun _ H' => Q .non H', rt := Q } [some (.int i), some (.ref l)] H1 := by
    refine ⟨_, (pss_one (ps_ret (pe_ix ix_list (pv 1) (pe_op op_modN (pv 0) (pe_callB call_len rfl Z_len (by decide +kernel) (pa_cons (pv 1) pa_nil))) (fun _ _ => rfl)))), ?_⟩
    intro l L H1 e hL hw s1
    have f0 := Int.fmod_nonneg_of_pos i (show (0 : Int) < 27 by decide)
    have f1 := Int.fmod_lt_of_pos i (show (0 : Int) < 27 by decide)
    have hlt : (i.fmod 27).toNat < L.length := by omega
    refine ⟨_, rfl, _, rfl, _, rfl, _, _, rfl, .inl ⟨_, SqL.of e, rfl⟩, _, _, rfl, rfl, (show ((L.length : Nat) : Int) ≠ 0 by omega), _, _, _, L[(i.fmod 27).toNat], rfl, rfl, SqL.of e, ?_, ?_⟩
    · rw [hL]
      exact at_of f0 (List.getElem?_eq_getElem hlt)
    · obtain ⟨x, ex, hx⟩ := hw _ (List.getElem_mem hlt)
      rw [ex]
      exact q x _ hx s1
  obtain ⟨t2, h2, q2⟩ := tail
  obtain ⟨p1, p2, p3, p4, p5, p6, p7, p8, es, es2, eb, k1, k2⟩ := word_body
  rw [eb]
  refine ⟨_, pss_cons (ps_set (i := 1) nd rfl (Or.inl rfl) (pe_lst (pa_strs k1))) (pss_cons (ps_set (i := 1) nd rfl (Or.inl rfl) (pe_op op_cat (pv 1) (pe_lst (pa_strs k2)))) h2), ?_⟩
  have wA := wd_of wordsA_ok
  have wB := wd_of wordsB_ok
  have lA : (wordsA.map V.str).length = 12 := by rw [List.length_map]; rfl
  have lB : (wordsB.map V.str).length = 15 := by rw [List.length_map]; rfl
  refine ⟨by rw [lA]; decide, fun l1 h1 => ⟨_, rfl, by rw [lB]; decide, fun l2 h2 => ?_⟩⟩
  have s1 := same_new h1 (.lst (wordsA.map V.str))
  have s2 := same_new h2 (.lst (wordsB.map V.str))
  refine ⟨l1, l2, _, _, rfl, rfl, s2 _ _ upd_same, upd_same, by rw [lA, lB]; decide, fun l3 h3 => ?_⟩
  have s3 := same_new h3 (.lst (wordsA.map V.str ++ wordsB.map V.str))
  exact q2 l3 _ _ upd_same (by rw [List.length_append, lA, lB]) (fun v hv => (List.mem_append.mp hv).elim (wA v) (wB v)) ((s1.trans s2).trans s3)
end
end Mine




set_option Elab.async false
set_option linter.all false
set_option maxRecDepth 100000
set_option maxHeartbeats 4000000
namespace Mine
open PySem L2
section
variable {P : Program} {w : World} {K : PySem.W.Frag} {mg : Str → Option Value} {base : Heap} {c : CCs}
theorem sc_drawn : FnScope ["_law_cells", "_law_tree", "_law_words", "_law_cell", "_law_k"] ["_law_cells"] (defScope s_l_drawn) := ⟨rfl, rfl, rfl, by decide +kernel, rfl, by decide +kernel, by decide +kernel⟩
theorem ok_drawn (T : TopDef K mg "_law_drawn" s_l_drawn) (Z_range : mg "range" = none) (D_law_next : Def P w K mg base 1 "_law_next" ["_law_cells"] spNext) (D_law_saying : Def P w K mg base 30 "_law_saying" ["_law_cells", "_law_room", "_law_two"] (spSaying 28)) (D_law_text : Def P w K mg base 29 "_law_text" ["_law_tree"] (spText 28)) (D_law_changed : Def P w K mg base 2 "_law_changed" ["_law_words", "_law_cell"] spChanged) : Def P w K mg base 31 "_law_drawn" ["_law_cells"] spDrawn := by
  refine def_of T sc_drawn (fun _ _ _ _ _ _ us hl => match us, hl with | [_], _ => rfl) (fun vs H Q E h => ?_) (fun f cdv A outer s H vs Q E hr h => ?_)
  · obtain ⟨l, ms, rfl, _⟩ := h
    rfl
  obtain ⟨C, ms, rfl, e1, hc1, q⟩ := h
  have nd := sc_drawn.nd
  have tail : ∃ t, PSs (cxOf CX0 P w K mg base ["_law_cells", "_law_tree", "_law_words", "_law_cell", "_law_k"] "_law_drawn" (defScope s_l_drawn) f cdv A outer s H E).nox ((defBody s_l_drawn).drop 4) t ∧ ∀ (o1 o4 : Option V) (p : Addr) (ws : List Str) (i : Int) (ms' : List Int) (H1 : Hp), H1 C = some (.lst (ms'.map V.int)) → (∀ m ∈ ms', Cel m) → H1 p = some (.lst (ws.map V.str)) → p ≠ C → ws.length ≤ 124 → Wd ws →
      t { nx := fun _ H' => Q .non H', rt := Q } [some (.ref C), o1, some (.ref p), some (.int i), o4] H1 := by
    refine ⟨_, (pss_cons (ps_for PassesOwn.never rfl (pi_range1 rfl Z_range (pa_cons (pe_op op_mod (pe_op op_fdiv (pv 3) pe_int) pe_int) pa_nil)) (pg_name (i := 4) nd rfl (Or.inl rfl)) (pss_one (ps_set (i := 2) nd rfl (Or.inl rfl) (pe_def D_law_changed (hr.mono (by omega)) rfl (pa_cons (pv 2) (pa_cons (pe_def D_law_next (hr.mono (by omega)) rfl (pa_cons (pv 0) pa_nil)) pa_nil))))))
    (pss_one (ps_ret (pv 2)))), ?_⟩
    intro o1 o4 p ws i ms' H1 eC hc ep npC hz wd
    have f0 := Int.emod_nonneg (i / 120) (show (4 : Int) ≠ 0 by decide)
    have f1 := Int.emod_lt_of_pos (i / 120) (show (0 : Int) < 4 by decide)
    refine ⟨_, rfl, _, _, rfl, rfl, ⟨by decide, by decide⟩, _, _, rfl, rfl, (show (0 : Int) < 4 by decide), _, rfl, ?_, ?_, ?_⟩
    · show -(2 ^ 62) ≤ i / 120 % 4; omega
    · show i / 120 % 4 < 2 ^ 62; omega
    have hn : (i / 120 % 4).toNat ≤ 3 := by omega
    refine for_range (fun k σ H2 => ∃ (o1 o4 : Option V) (p : Addr) (ws : List Str) (ms' : List Int), σ = [some (.ref C), o1, some (.ref p), some (.int i), o4] ∧ H2 C = some (.lst (ms'.map V.int)) ∧ (∀ m ∈ ms', Cel m) ∧ H2 p = some (.lst (ws.map V.str)) ∧ p ≠ C ∧ ws.length + 1 ≤ 125 * 2 ^ k ∧ Wd ws)
      ⟨o1, o4, p, ws, ms', rfl, eC, hc, ep, npC, by show ws.length + 1 ≤ 125 * 1; omega, wd⟩ (fun k σ H2 hk z => ?_) (fun σ H2 z => ?_)
    · obtain ⟨o1, o4, p, ws, ms', rfl, eC, hc, ep, npC, hz, wd⟩ := z
      have hk' : k < 3 := by
        have : k < (i / 120 % 4).toNat := hk
        omega
      have h1000 : ws.length ≤ 1000 := by
        have : 2 ^ k ≤ 2 ^ 2 := Nat.pow_le_pow_right (by decide) (by omega)
        have : 125 * 2 ^ k ≤ 500 := by omega
        omega
      refine ⟨_, rfl, _, rfl, C, ms', rfl, eC, hc, fun j ms3 H3 cj hc3 sb3 e3 => ?_⟩
      have ep3 := sb3 _ _ ep (fun z => npC (by cases z; rfl))
      refine ⟨p, ws, j, rfl, ep3, h1000, wd, fun p' ws' H4 s4 np' ep' hl' wd' => ?_⟩
      have eC4 := s4 _ _ e3
      refine ⟨o1, _, p', ws', ms3, rfl, eC4, hc3, ep', fun z => ?_, ?_, wd'⟩
      · rw [z, e3] at np'; cases np'
      · rw [Nat.pow_succ]; omega
    · obtain ⟨o1, o4, p, ws, ms', rfl, eC, hc, ep, npC, hz, wd⟩ := z
      refine ⟨_, rfl, q p ws _ ep ?_ wd⟩
      have h2 : (i / 120 % 4).toNat ≤ 3 := by omega
      have : 2 ^ (i / 120 % 4).toNat ≤ 2 ^ 3 := Nat.pow_le_pow_right (by decide) h2
      omega
  obtain ⟨t4, h4, q4⟩ := tail
  refine ⟨_, pss_cons (ps_set (i := 1) nd rfl (Or.inl rfl) (pe_def D_law_saying (hr.mono (by omega)) rfl (pa_cons (pv 0) (pa_cons (pe_op op_add pe_int (pe_op op_mod (pe_def D_law_next (hr.mono (by omega)) rfl (pa_cons (pv 0) pa_nil)) pe_int)) (pa_cons pe_bl pa_nil))))) (pss_cons (ps_set (i := 2) nd rfl (Or.inl rfl) (pe_bm PySem.F.plainAttrs_str PySem.F.slot_str_split PySem.F.type_str_split mt_split (pe_def D_law_text (hr.mono (by omega)) rfl (pa_cons (pv 1) pa_nil)) (pa_cons pe_str pa_nil))) (pss_cons (ps_set (i := 3) nd rfl (Or.inl rfl) (pe_def D_law_next (hr.mono (by omega)) rfl (pa_cons (pv 0) pa_nil))) (pss_cons (ps_if (pt_cmpR op_eq (pe_op op_mod (pv 3) pe_int) pe_int (nomark _)) (pss_one (ps_set (i := 2) nd rfl (Or.inl rfl) (pe_op op_cat (pe_op op_rep (pe_slice sl_list (pe_slice sl_list (pe_lst (pa_cons pe_str (pa_cons pe_str pa_nil))) (po_some (pe_op op_mod (pe_op op_fdiv (pv 3) pe_int) pe_int)) po_none) po_none (po_some pe_int)) (pe_op op_add pe_int (pe_op op_mod (pe_op op_fdiv (pv 3) pe_int) pe_int))) (pv 2)))) pss_nil) h4))), ?_⟩
  refine ⟨_, rfl, _, rfl, C, ms, rfl, e1, hc1, fun i ms2 H2 ci hc2 sb2 e2 => ⟨_, _, rfl, rfl, (show (0 : Int) < 28 by decide), _, _, rfl, rfl, ?_⟩⟩
  have f0 := Int.emod_nonneg i (show (28 : Int) ≠ 0 by decide)
  have f1 := Int.emod_lt_of_pos i (show (0 : Int) < 28 by decide)
  refine ⟨C, ms2, 1 + i % 28, true, rfl, e2, hc2, by omega, by omega, fun tr t ms3 H3 hz hc3 sb3 e3 tu => ?_⟩
  have hz0 : t.size ≤ 28 := by omega
  have tl := text_len t
  have wl := words_len t
  refine ⟨_, rfl, tr, t, rfl, tu, hz0, by omega, rfl, t.text, " ", rfl, rfl, by decide +kernel, by omega, fun p hp => ?_⟩
  rw [split_text]
  have sp := same_new hp (.lst (t.words.map V.str))
  have npC : p ≠ C := fun z => by rw [z, e3] at hp; cases hp
  refine ⟨_, rfl, C, ms3, rfl, sp _ _ e3, hc3, fun j ms4 H4 cj hc4 sb4 e4 => ?_⟩
  have ep4 := sb4 _ _ (upd_same (a := p) (o := .lst (t.words.map V.str))) (fun z => npC (by cases z; rfl))
  refine ⟨_, rfl, _, _, rfl, rfl, (show (0 : Int) < 5 by decide), rfl, _, rfl, ite2 (fun _ => ?_) (fun _ => ?_)⟩
  · refine ⟨(by show 2 ≤ sizeLine; decide), fun l1 h1 => ?_⟩
    have u1 := same_new h1 (.lst [V.str "not", .str "("])
    have ue : [V.str "not", V.str "("] = (["not", "("] : List Str).map V.str := rfl
    have w2 : Wd ["not", "("] := fun x hx => by
      rcases List.mem_cons.mp hx with rfl | hx
      · decide +kernel
      · rw [List.mem_singleton.mp hx]; decide +kernel
    refine ⟨_, rfl, _, _, rfl, rfl, ⟨by decide, by decide⟩, _, _, rfl, rfl, (show (0 : Int) < 2 by decide), _, rfl, l1, _, rfl, SqL.of upd_same, fun l2 h2 => ?_⟩
    rw [ue]
    obtain ⟨x1, ex1, ix1, lx1⟩ := cut_str ["not", "("] (some (j / 5 % 2)) none
    rw [ex1]
    have u2 := same_new h2 (.lst (x1.map V.str))
    refine ⟨_, rfl, l2, _, rfl, SqL.of upd_same, fun l3 h3 => ?_⟩
    have lx2 := cut_one x1
    obtain ⟨x2, ex2, ix2, _⟩ := cut_str x1 none (some 1)
    rw [ex2] at lx2
    rw [ex2]
    rw [List.length_map] at lx2
    have u3 := same_new h3 (.lst (x2.map V.str))
    have g0 := Int.emod_nonneg (j / 10) (show (12 : Int) ≠ 0 by decide)
    have g1 := Int.emod_lt_of_pos (j / 10) (show (0 : Int) < 12 by decide)
    have hk : (1 + j / 10 % 12).toNat ≤ 12 := by omega
    have hm : x2.length * (1 + j / 10 % 12).toNat ≤ 1 * 12 := Nat.mul_le_mul lx2 hk
    refine ⟨_, rfl, _, _, rfl, rfl, ⟨by decide, by decide⟩, _, _, rfl, rfl, (show (0 : Int) < 12 by decide), _, _, rfl, rfl, l3, _, _, rfl, rfl, upd_same, by omega, by omega, big1 (by rw [List.length_map]; omega), fun l4 h4' => ?_⟩
    have er : (List.replicate (1 + j / 10 % 12).toNat (x2.map V.str)).flatten = ((List.replicate (1 + j / 10 % 12).toNat x2).flatten).map V.str := by
      rw [List.map_flatten, List.map_replicate]
    rw [er]
    have lr : ((List.replicate (1 + j / 10 % 12).toNat x2).flatten).length ≤ 12 := by rw [len_rep, Nat.mul_comm]; omega
    have wr : Wd (List.replicate (1 + j / 10 % 12).toNat x2).flatten := fun x hx => by
      obtain ⟨y, hy, hxy⟩ := List.mem_flatten.mp hx
      rw [List.eq_of_mem_replicate hy] at hxy
      exact w2 x (ix1 x (ix2 x hxy))
    have u4 := same_new h4' (.lst (((List.replicate (1 + j / 10 % 12).toNat x2).flatten).map V.str))
    have u14 := ((u1.trans u2).trans u3).trans u4
    refine ⟨_, rfl, l4, p, _, _, rfl, rfl, upd_same, u14 _ _ ep4, big1 (by rw [List.length_map, List.length_map]; omega), fun l5 h5 => ?_⟩
    have u5 := same_new h5 (.lst (((List.replicate (1 + j / 10 % 12).toNat x2).flatten).map V.str ++ t.words.map V.str))
    have eC5 := (u14.trans u5) _ _ e4
    refine q4 _ _ l5 ((List.replicate (1 + j / 10 % 12).toNat x2).flatten ++ t.words) j ms4 _ eC5 hc4 (by rw [upd_same, List.map_append]) (fun z => ?_) (by rw [List.length_append]; omega) (wr.app (wd_tree t))
    rw [z] at h5
    rw [u14 _ _ e4] at h5
    cases h5
  · exact q4 _ _ p t.words j ms4 _ e4 hc4 ep4 npC (by omega) (wd_tree t)
end
end Mine




set_option Elab.async false
set_option linter.all false
set_option maxRecDepth 100000
set_option maxHeartbeats 4000000
namespace Mine
open PySem L2
section
variable {P : Program} {w : World} {K : PySem.W.Frag} {mg : Str → Option Value} {base : Heap} {c : CCs}
theorem sc_changed : FnScope ["_law_words", "_law_cell", "_law_at", "_law_fresh"] ["_law_words", "_law_cell"] (defScope s_l_changed) := ⟨rfl, rfl, rfl, by decide +kernel, rfl, by decide +kernel, by decide +kernel⟩
theorem ok_changed (T : TopDef K mg "_law_changed" s_l_changed) (Z_len : mg "len" = none) (D_law_word : Def P w K mg base 1 "_law_word" ["_law_cell"] spWordL) : Def P w K mg base 2 "_law_changed" ["_law_words", "_law_cell"] spChanged := by
  refine def_of T sc_changed (fun _ _ _ _ _ _ us hl => match us, hl with | [_, _], _ => rfl) (fun vs H Q E h => ?_) (fun f cdv A outer s H vs Q E hr h => ?_)
  · obtain ⟨l, ws, i, rfl, _⟩ := h
    rfl
  obtain ⟨l, ws, i, rfl, el, hz, wd, q⟩ := h
  have nd := sc_changed.nd
  refine ⟨_, (pss_cons (ps_set (i := 2) nd rfl (Or.inl rfl) (pe_op op_modN (pe_op op_fdiv (pv 1) pe_int) (pe_op op_add (pe_callB call_len rfl Z_len (by decide +kernel) (pa_cons (pv 0) pa_nil)) pe_int)))
    (pss_cons (ps_set (i := 3) nd rfl (Or.inl rfl) (pe_def D_law_word (hr.mono (by omega)) rfl (pa_cons (pe_op op_fdiv (pv 1) pe_int) pa_nil)))
    (pss_cons (ps_if (pt_cmpR op_eq (pe_op op_mod (pv 1) pe_int) pe_int (nomark _)) (pss_one (ps_ret (pe_op op_cat (pe_op op_cat (pe_slice sl_list (pv 0) po_none (po_some (pv 2))) (pe_lst (pa_cons (pv 3) pa_nil))) (pe_slice sl_list (pv 0) (po_some (pv 2)) po_none)))) pss_nil)
    (pss_cons (ps_if (pt_cmpR op_eq (pe_op op_mod (pv 1) pe_int) pe_int (nomark _)) (pss_one (ps_ret (pe_op op_cat (pe_slice sl_list (pv 0) po_none (po_some (pv 2))) (pe_slice sl_list (pv 0) (po_some (pe_op op_add (pv 2) pe_int)) po_none)))) pss_nil)
    (pss_cons (ps_if (pt_cmpR op_eq (pe_op op_mod (pv 1) pe_int) pe_int (nomark _)) (pss_one (ps_ret (pe_op op_cat (pe_op op_cat (pe_slice sl_list (pv 0) po_none (po_some (pv 2))) (pe_lst (pa_cons (pv 3) pa_nil))) (pe_slice sl_list (pv 0) (po_some (pe_op op_add (pv 2) pe_int)) po_none)))) pss_nil)
    (pss_one (ps_ret (pe_slice sl_list (pv 0) po_none (po_some (pv 2)))))))))), ?_⟩
  refine ⟨_, rfl, _, _, rfl, rfl, ⟨by decide, by decide⟩, _, rfl, _, _, rfl, .inl ⟨_, SqL.of el, rfl⟩, _, _, rfl, rfl, _, _, rfl, rfl, (show ((ws.map V.str).length : Int) + 1 ≠ 0 by omega), ?_⟩
  refine ⟨_, rfl, _, _, rfl, rfl, ⟨by decide, by decide⟩, i / 300, rfl, fun x H1 hx s1 => ?_⟩
  have el1 := s1 _ _ el
  dsimp only
  obtain ⟨a, ea, ia, la⟩ := cut_str ws none (some ((i / 4).fmod (((ws.map V.str).length : Int) + 1)))
  obtain ⟨b, eb, ib, lb⟩ := cut_str ws (some ((i / 4).fmod (((ws.map V.str).length : Int) + 1))) none
  obtain ⟨d, ed, id_, ld⟩ := cut_str ws (some ((i / 4).fmod (((ws.map V.str).length : Int) + 1) + 1)) none
  have wa : Wd a := fun y hy => wd y (ia y hy)
  have wb : Wd b := fun y hy => wd y (ib y hy)
  have wd' : Wd d := fun y hy => wd y (id_ y hy)
  refine ⟨_, rfl, _, _, rfl, rfl, (show (0 : Int) < 4 by decide), rfl, _, rfl, ite2 (fun _ => ?_) (fun _ => ?_)⟩
  · refine ⟨_, rfl, _, rfl, _, rfl, l, _, rfl, SqL.of el1, fun p1 hp1 => ?_⟩
    rw [ea]
    have t1 := same_new hp1 (.lst (a.map V.str))
    refine ⟨_, rfl, (by show 1 ≤ sizeLine; decide), fun p2 hp2 => ?_⟩
    have t2 := same_new hp2 (.lst [V.str x])
    refine ⟨p1, p2, _, _, rfl, rfl, t2 _ _ upd_same, upd_same, big1 (by rw [List.length_map]; show a.length + 1 ≤ _; omega), fun p3 hp3 => ?_⟩
    have t3 := same_new hp3 (.lst (a.map V.str ++ [V.str x]))
    have st := (t1.trans t2).trans t3
    refine ⟨_, rfl, _, rfl, _, rfl, l, _, rfl, SqL.of (st _ _ el1), fun p4 hp4 => ?_⟩
    rw [eb]
    have t4 := same_new hp4 (.lst (b.map V.str))
    refine ⟨p3, p4, _, _, rfl, rfl, t4 _ _ upd_same, upd_same, big1 (by rw [List.length_append, List.length_map, List.length_map]; show a.length + 1 + b.length ≤ _; omega), fun p5 hp5 => ?_⟩
    have t5 := same_new hp5 (.lst (a.map V.str ++ [V.str x] ++ b.map V.str))
    refine q p5 (a ++ [x] ++ b) _ ((s1.trans st).trans (t4.trans t5)) (((s1.trans st).trans t4).free hp5) (by rw [upd_same, List.map_append, List.map_append]; rfl) (by rw [List.length_append, List.length_append]; show a.length + 1 + b.length ≤ _; omega) ((wa.app (Wd.one hx)).app wb)
  · refine ⟨_, rfl, _, _, rfl, rfl, (show (0 : Int) < 4 by decide), rfl, _, rfl, ite2 (fun _ => ?_) (fun _ => ?_)⟩
    · refine ⟨_, rfl, _, rfl, _, rfl, l, _, rfl, SqL.of el1, fun p1 hp1 => ?_⟩
      rw [ea]
      have t1 := same_new hp1 (.lst (a.map V.str))
      refine ⟨_, rfl, _, rfl, _, _, rfl, rfl, _, rfl, l, _, rfl, SqL.of (t1 _ _ el1), fun p4 hp4 => ?_⟩
      rw [ed]
      have t4 := same_new hp4 (.lst (d.map V.str))
      refine ⟨p1, p4, _, _, rfl, rfl, t4 _ _ upd_same, upd_same, big1 (by rw [List.length_map, List.length_map]; omega), fun p5 hp5 => ?_⟩
      have t5 := same_new hp5 (.lst (a.map V.str ++ d.map V.str))
      exact q p5 (a ++ d) _ ((s1.trans t1).trans (t4.trans t5)) (((s1.trans t1).trans t4).free hp5) (by rw [upd_same, List.map_append]) (by rw [List.length_append]; omega) (wa.app wd')
    · refine ⟨_, rfl, _, _, rfl, rfl, (show (0 : Int) < 4 by decide), rfl, _, rfl, ite2 (fun _ => ?_) (fun _ => ?_)⟩
      · refine ⟨_, rfl, _, rfl, _, rfl, l, _, rfl, SqL.of el1, fun p1 hp1 => ?_⟩
        rw [ea]
        have t1 := same_new hp1 (.lst (a.map V.str))
        refine ⟨_, rfl, (by show 1 ≤ sizeLine; decide), fun p2 hp2 => ?_⟩
        have t2 := same_new hp2 (.lst [V.str x])
        refine ⟨p1, p2, _, _, rfl, rfl, t2 _ _ upd_same, upd_same, big1 (by rw [List.length_map]; show a.length + 1 ≤ _; omega), fun p3 hp3 => ?_⟩
        have t3 := same_new hp3 (.lst (a.map V.str ++ [V.str x]))
        have st := (t1.trans t2).trans t3
        refine ⟨_, rfl, _, rfl, _, _, rfl, rfl, _, rfl, l, _, rfl, SqL.of (st _ _ el1), fun p4 hp4 => ?_⟩
        rw [ed]
        have t4 := same_new hp4 (.lst (d.map V.str))
        refine ⟨p3, p4, _, _, rfl, rfl, t4 _ _ upd_same, upd_same, big1 (by rw [List.length_append, List.length_map, List.length_map]; show a.length + 1 + d.length ≤ _; omega), fun p5 hp5 => ?_⟩
        have t5 := same_new hp5 (.lst (a.map V.str ++ [V.str x] ++ d.map V.str))
        exact q p5 (a ++ [x] ++ d) _ ((s1.trans st).trans (t4.trans t5)) (((s1.trans st).trans t4).free hp5) (by rw [upd_same, List.map_append, List.map_append]; rfl) (by rw [List.length_append, List.length_append]; show a.length + 1 + d.length ≤ _; omega) ((wa.app (Wd.one hx)).app wd')
      · refine ⟨_, rfl, _, rfl, _, rfl, l, _, rfl, SqL.of el1, fun p1 hp1 => ?_⟩
        rw [ea]
        exact q p1 a _ (s1.trans (same_new hp1 _)) (s1.free hp1) upd_same (by omega) wa
end
end Mine




set_option Elab.async false
set_option linter.all false
set_option maxRecDepth 100000
set_option maxHeartbeats 4000000
namespace Mine
open PySem L2
structure Ms (P : Program) (w : World) (K : PySem.W.Frag) (mg : Str → Option Value) (base : Heap) (c : CCs) : Prop where
  made : ∀ t, MethOk P w K mg base (c.of t) "made_of" 1 ["self"] (spMade c t)
end Mine

namespace Mine
open PySem L2
section
variable {P : Program} {w : World} {K : PySem.W.Frag} {mg : Str → Option Value} {base : Heap} {c : CCs}
theorem sc_laid : FnScope ["self", "laid", "waiting", "part"] ["self"] (defScope sLaid) := ⟨rfl, rfl, rfl, by decide +kernel, rfl, by decide +kernel, by decide +kernel⟩
theorem ok_laid {C : Addr} {t : Tr} (T : MethF K C "laid_out" "Saying.laid_out" sLaid) (M : Ms P w K mg base c) : MethOk P w K mg base C "laid_out" 2 ["self"] (spLaid c t) := by
  refine meth_of T sc_laid (fun _ _ _ _ _ _ us hl => match us, hl with | [_], _ => rfl) (fun vs H Q E h => ?_) (fun f cdv A outer s H vs Q E hr h => ?_)
  · obtain ⟨a, rfl, _⟩ := h
    rfl
  obtain ⟨a, rfl, oa, ht, q⟩ := h
  have nd := sc_laid.nd
  refine ⟨_, (pss_cons (ps_set (i := 1) nd rfl (Or.inl rfl) (pe_lst pa_nil))
    (pss_cons (ps_set (i := 2) nd rfl (Or.inl rfl) (pe_lst (pa_cons (pv 0) pa_nil)))
    (pss_cons (ps_while PassesOwn.never (pt_truth (pv 2) (fun _ => rfl)) (pss_cons (ps_set (i := 3) nd rfl (Or.inl rfl) (pe_bm0 PySem.F.plainAttrs_list PySem.F.slot_list_pop PySem.F.type_list_pop mt_pop (pv 2)))
    (pss_cons (ps_expr (pe_bm PySem.F.plainAttrs_list PySem.F.slot_list_append PySem.F.type_list_append mt_append (pv 1) (pa_cons (pv 3) pa_nil)))
    (pss_one (ps_expr (pe_bm PySem.F.plainAttrs_list PySem.F.slot_list_extend PySem.F.type_list_extend mt_extend (pv 2) (pa_cons (pe_methD0 (k := 1) (pv 3) (hr.mono (by decide))) pa_nil)))))))
    (pss_cons (ps_expr (pe_bm0 PySem.F.plainAttrs_list PySem.F.slot_list_reverse PySem.F.type_list_reverse mt_reverse (pv 1)))
    (pss_one (ps_ret (pv 1))))))), ?_⟩
  refine ⟨(by show 0 ≤ sizeLine; decide), fun l1 h1 => ?_⟩
  refine ⟨_, rfl, (by show 1 ≤ sizeLine; decide), fun l2 h2' => ?_⟩
  have h2 : H l2 = none := upd_none h2'
  have n12 : l1 ≠ l2 := fun e => by subst e; rw [upd_same] at h2'; cases h2'
  have smI : Same H (upd (upd H l1 (.lst [])) l2 (.lst [.ref a])) := fun b o e => by rw [upd_ne (ne_of_none e h2), upd_ne (ne_of_none e h1)]; exact e
  refine ⟨fun m σ H' => ∃ (L W : List V) (Lt Wt : List Tr) (o : Option V), σ = [some (.ref a), some (.ref l1), some (.ref l2), o] ∧ Same H H' ∧ H' l1 = some (.lst L) ∧ H' l2 = some (.lst W) ∧ All2 (ObV c H') L Lt ∧ All2 (ObV c H') W Wt ∧
      Lt ++ (Wt.reverse.flatMap fun x => x.post.reverse) = t.post.reverse ∧ m = sizes Wt,
    ⟨_, [], [.ref a], [], [t], _, rfl, smI, by rw [upd_ne n12, upd_same], upd_same, .nil, .cons ⟨a, rfl, oa.to (Kp.of smI)⟩ .nil, by simp, rfl⟩, ?_⟩
  rintro m σ H' ⟨L, W, Lt, Wt, o, rfl, sm, e1, e2, oL, oW, hp, rfl⟩
  have hlen : Lt.length + sizes Wt = t.size := by
    have z := congrArg List.length hp
    rw [List.length_append, flat_len, sizes_rev, List.length_reverse, post_len] at z
    exact z
  have hLl := oL.len
  by_cases hw : W = []
  · subst hw
    cases oW
    refine ⟨_, rfl, false, .inl ⟨[], SqL.of e2, rfl⟩, iteF ?_⟩
    refine ⟨_, rfl, .inl ⟨rfl, _, SqL.of e1⟩, l1, _, rfl, rfl, e1, ?_⟩
    have eL : Lt = t.post.reverse := by simpa using hp
    have kp := kp_mut (u := .lst L.reverse) e1 rfl
    refine ⟨_, rfl, q l1 L.reverse _ (fun b o z => ?_) h1 upd_same ?_⟩
    · rw [upd_ne (ne_of_none z h1)]; exact sm b o z
    · have := (oL.imp (ObV.to kp)).rev
      rw [eL, List.reverse_reverse] at this
      exact this
  · obtain ⟨W', v, Wt', x, rfl, rfl, ⟨b, rfl, ob⟩, oW'⟩ := oW.last hw
    refine ⟨_, rfl, true, .inl ⟨_, SqL.of e2, by cases W' <;> rfl⟩, iteT ?_⟩
    have sz : sizes (Wt' ++ [x]) = sizes Wt' + x.size := by rw [sizes_app]; simp [sizes]
    refine ⟨fun σ' H'' => ∃ m', m' < sizes (Wt' ++ [x]) ∧ ∃ (L W : List V) (Lt Wt : List Tr) (o : Option V), σ' = [some (.ref a), some (.ref l1), some (.ref l2), o] ∧ Same H H'' ∧ H'' l1 = some (.lst L) ∧ H'' l2 = some (.lst W) ∧ All2 (ObV c H'') L Lt ∧ All2 (ObV c H'') W Wt ∧
      Lt ++ (Wt.reverse.flatMap fun x => x.post.reverse) = t.post.reverse ∧ m' = sizes Wt, fun _ _ z => z, ?_⟩
    refine ⟨_, rfl, .inl ⟨rfl, _, SqL.of e2⟩, l2, _, _, rfl, rfl, e2, snoc_last _ _, ?_⟩
    rw [List.dropLast_concat]
    have e1' : upd H' l2 (.lst W') l1 = some (.lst L) := by rw [upd_ne n12]; exact e1
    refine ⟨_, rfl, .inl ⟨rfl, _, SqL.of e1'⟩, _, rfl, l1, _, _, rfl, rfl, e1', by rw [hLl]; exact Nat.lt_of_le_of_lt (show Lt.length ≤ 1000 by omega) (by decide), ?_⟩
    have k1 : Kp H' (upd (upd H' l2 (.lst W')) l1 (.lst (L ++ [.ref b]))) := (kp_mut e2 rfl).trans (kp_mut e1' rfl)
    have e2' : upd (upd H' l2 (.lst W')) l1 (.lst (L ++ [.ref b])) l2 = some (.lst W') := by rw [upd_ne n12.symm, upd_same]
    have ob1 := ob.to k1
    obtain ⟨dx, fs, eb, nf⟩ := ob1.cls
    refine ⟨_, rfl, .inl ⟨rfl, _, SqL.of e2'⟩, _, rfl, b, _, _, _, _, _, rfl, eb, nf _ (by decide +kernel), M.made x, b, rfl, ob1, fun l us hl ou => ?_⟩
    have nl2 : l2 ≠ l := ne_of_none e2' hl
    have nl1 : l1 ≠ l := ne_of_none (upd_same (H := upd H' l2 (.lst W'))) hl
    have e2'' : upd (upd (upd H' l2 (.lst W')) l1 (.lst (L ++ [.ref b]))) l (.lst us) l2 = some (.lst W') := by rw [upd_ne nl2]; exact e2'
    have hWl := oW'.len
    have hul := ou.len
    have hkl := kids_len x
    have hWs := len_sizes Wt'
    refine ⟨l2, l, _, _, rfl, rfl, e2'', upd_same, by rw [hWl, hul]; exact Nat.le_trans (show _ ≤ 1002 by omega) (by decide), ?_⟩
    have k2 : Kp (upd (upd H' l2 (.lst W')) l1 (.lst (L ++ [.ref b]))) (upd (upd (upd (upd H' l2 (.lst W')) l1 (.lst (L ++ [.ref b]))) l (.lst us)) l2 (.lst (W' ++ us))) := (kp_new hl _).trans (kp_mut e2'' rfl)
    have k3 := k1.trans k2
    have ks := kids_size x
    refine ⟨sizes (Wt' ++ x.kids), by rw [sz, sizes_app]; omega, L ++ [.ref b], W' ++ us, Lt ++ [x], Wt' ++ x.kids, _, rfl, fun d o z => ?_, by rw [upd_ne n12, upd_ne nl1, upd_same], upd_same, (oL.imp (ObV.to k3)).app (.cons ⟨b, rfl, ob.to k3⟩ .nil), (oW'.imp (ObV.to k3)).app (ou.imp (ObV.to k2)), ?_, rfl⟩
    · have z1 : upd (upd H' l2 (.lst W')) l1 (.lst (L ++ [.ref b])) d = some o := by rw [upd_ne (ne_of_none z h1), upd_ne (ne_of_none z h2)]; exact sm d o z
      rw [upd_ne (ne_of_none z h2), upd_ne (ne_of_none z1 hl)]
      exact z1
    · rw [← hp]
      simp only [List.reverse_append, List.flatMap_append, List.reverse_cons, List.reverse_nil, List.nil_append, List.append_assoc, List.flatMap_cons, List.flatMap_nil, List.append_nil, List.singleton_append, post_rev x, List.cons_append]
end
end Mine

namespace Mine
open PySem L2
def takV (w : Str) : V := match takes w with | some n => .int n | none => .non
theorem takV_flat (w : Str) : flatV (takV w) = true := by unfold takV; cases takes w <;> rfl
theorem takV_in (w : Str) : inV (takV w) [V.int 0, .int 1] = (decide (takes w = some 0) || decide (takes w = some 1)) := by
  unfold takV inV
  cases takes w with
  | none => rfl
  | some n =>
    show (((0 : Int) == n) || (((1 : Int) == n) || false)) = _
    rw [Bool.or_false]
    by_cases h0 : n = 0
    · subst h0; rfl
    · by_cases h1 : n = 1
      · subst h1; rfl
      · have a0 : ((0 : Int) == n) = false := beq_eq_false_iff_ne.mpr (fun z => h0 z.symm)
        have a1 : ((1 : Int) == n) = false := beq_eq_false_iff_ne.mpr (fun z => h1 z.symm)
        have b0 : ¬ (some n = some (0 : Int)) := fun z => h0 (Option.some.inj z)
        have b1 : ¬ (some n = some (1 : Int)) := fun z => h1 (Option.some.inj z)
        rw [a0, a1, decide_eq_false b0, decide_eq_false b1]
theorem takV_two (w : Str) : decide (takV w = V.int 2) = decide (takes w = some 2) := by
  unfold takV
  cases takes w with
  | none => rfl
  | some n =>
    by_cases h : n = 2
    · subst h; rfl
    · rw [decide_eq_false (fun z => h (V.int.inj z)), decide_eq_false (fun z => h (Option.some.inj z))]
theorem takV_scal (w : Str) : scal (takV w) (V.int 2) = true := by unfold takV; cases takes w <;> rfl
def spHowG : Sp := fun vs H Q _ => ∃ x : Str, vs = [.str x] ∧ Q (takV x) H
def spFits : Sp := fun vs H Q _ => ∃ (u x : Str), vs = [.str u, .str x] ∧ ∀ H', Same H H' → Q (.bl (fitB u x)) H'
def optV : Option Nat → V
  | some k => .int (k : Int)
  | none => .non
def spFaultIn : Sp := fun vs H Q _ => ∃ (l : Addr) (ws : List Str), vs = [.ref l] ∧ H l = some (.lst (ws.map V.str)) ∧ ws.length ≤ 1000 ∧ ∀ H', Same H H' → Q (optV (faultF ["saying"] ws 0)) H'
def spMadeW (c : CCs) : Sp := fun vs H Q _ => ∃ (l : Addr) (t : Tr), vs = [.ref l] ∧ H l = some (.lst (t.words.map V.str)) ∧ t.words.length ≤ 1000 ∧ ∀ x H', Same H H' → Ob c H' x t → Q (.ref x) H'
def spParts (c : CCs) (t : Tr) : Sp := fun vs H Q _ => ∃ a, vs = [.ref a] ∧ Ob c H a t ∧ t.size ≤ 1000 ∧ ∀ H', Same H H' → Q (.int (t.size : Int)) H'
theorem wh_in {b : Bool} {H : Hp} {Q : VK} (h : Q (.bl b) H) : Q (.bl (if false = true then !b else b)) H := h
theorem ite_nn {a b : Str} {A B : Prop} (h : a ≠ b) (k : A) : if (!decide (V.str a = V.str b)) = true then A else B := by
  rw [decide_eq_false (fun z => h (V.str.inj z)), Bool.not_false, if_pos rfl]
  exact k
theorem ite_ny {a b : Str} {A B : Prop} (h : a = b) (k : B) : if (!decide (V.str a = V.str b)) = true then A else B := by
  rw [decide_eq_true (congrArg V.str h), Bool.not_true, if_neg Bool.false_ne_true]
  exact k
section
variable {P : Program} {w : World} {K : PySem.W.Frag} {mg : Str → Option Value} {base : Heap} {c : CCs}
theorem sc_parts : FnScope ["self"] ["self"] (defScope s_Saying_parts) := ⟨rfl, rfl, rfl, by decide +kernel, rfl, by decide +kernel, by decide +kernel⟩
theorem ok_parts {C : Addr} {t : Tr} (T : MethF K C "parts" "Saying.parts" s_Saying_parts) (Z_len : mg "len" = none) (GL : ∀ t, MethOk P w K mg base (c.of t) "laid_out" 2 ["self"] (spLaid c t)) : MethOk P w K mg base C "parts" 3 ["self"] (spParts c t) := by
  refine meth_of T sc_parts (fun _ _ _ _ _ _ us hl => match us, hl with | [_], _ => rfl) (fun vs H Q E h => ?_) (fun f cdv A outer s H vs Q E hr h => ?_)
  · obtain ⟨a, rfl, _⟩ := h
    rfl
  obtain ⟨a, rfl, oa, ht, q⟩ := h
  have nd := sc_parts.nd
  refine ⟨_, (pss_one (ps_ret (pe_callB call_len rfl Z_len (by decide +kernel) (pa_cons (pe_methD0 (k := 2) (pv 0) (hr.mono (by omega))) pa_nil)))), ?_⟩
  obtain ⟨dx, fs, ea, nf⟩ := oa.cls
  refine ⟨_, rfl, a, _, _, _, _, _, rfl, ea, nf _ (by decide +kernel), GL t, a, rfl, oa, ht, fun l us H' sm hl el ou => ?_⟩
  have e := ou.len
  rw [post_len] at e
  refine ⟨_, _, rfl, .inl ⟨_, SqL.of el, rfl⟩, ?_⟩
  show Q (.int ((us.length : Nat) : Int)) H'
  rw [e]
  exact q H' sm
theorem sc_howG : FnScope ["word"] ["word"] (defScope s_how_many_it_takes) := ⟨rfl, rfl, rfl, by decide +kernel, rfl, by decide +kernel, by decide +kernel⟩
theorem ok_howG (T : TopDef K mg "how_many_it_takes" s_how_many_it_takes) (P_TAKEN : TopDict K mg "TAKEN" TK) : Def P w K mg base 1 "how_many_it_takes" ["word"] spHowG := by
  refine def_of T sc_howG (fun _ _ _ _ _ _ us hl => match us, hl with | [_], _ => rfl) (fun vs H Q E h => ?_) (fun f cdv A outer s H vs Q E hr h => ?_)
  · obtain ⟨x, rfl, _⟩ := h
    rfl
  obtain ⟨x, rfl, q⟩ := h
  have nd := sc_howG.nd
  exact ⟨_, (pss_one (ps_ret (pe_tget P_TAKEN rfl (pv 0) ⟨rfl, rfl, rfl, rfl⟩))), _, rfl, _, rfl, q⟩
theorem sc_fits : FnScope ["word", "wanted"] ["word", "wanted"] (defScope s_fits) := ⟨rfl, rfl, rfl, by decide +kernel, rfl, by decide +kernel, by decide +kernel⟩
theorem ok_fits (T : TopDef K mg "fits" s_fits) (D_how_many_it_takes : Def P w K mg base 1 "how_many_it_takes" ["word"] spHowG) : Def P w K mg base 2 "fits" ["word", "wanted"] spFits := by
  refine def_of T sc_fits (fun _ _ _ _ _ _ us hl => match us, hl with | [_, _], _ => rfl) (fun vs H Q E h => ?_) (fun f cdv A outer s H vs Q E hr h => ?_)
  · obtain ⟨u, x, rfl, _⟩ := h
    rfl
  obtain ⟨u, x, rfl, q⟩ := h
  have nd := sc_fits.nd
  refine ⟨_, (pss_cons (ps_if (pt_cmpR op_eq (pv 1) pe_str (nomark _)) (pss_one (ps_ret (pe_or (pe_cmpR op_eq (pv 0) pe_str (nomark _)) (pe_one (pe_cmpR op_in_seq (pe_def D_how_many_it_takes (hr.mono (by omega)) rfl (pa_cons (pv 0) pa_nil)) (pe_tup (pa_cons pe_int (pa_cons pe_int pa_nil))) rfl))))) pss_nil)
    (pss_cons (ps_if (pt_cmpR op_eq (pv 1) pe_str (nomark _)) (pss_one (ps_ret (pe_cmpR op_eq (pe_def D_how_many_it_takes (hr.mono (by omega)) rfl (pa_cons (pv 0) pa_nil)) pe_int (nomark _)))) pss_nil)
    (pss_one (ps_ret (pe_cmpR op_eq (pv 0) (pv 1) (nomark _)))))), ?_⟩
  refine ⟨_, rfl, rfl, _, rfl, ?_⟩
  by_cases h1 : x = "saying"
  · refine ite_yes h1 ⟨_, rfl, rfl, _, rfl, ?_⟩
    by_cases h2 : u = "("
    · refine ite_yes h2 ?_
      have z := q H (fun _ _ z => z)
      unfold fitB at z
      rw [if_pos h1, decide_eq_true h2, Bool.true_or] at z
      exact z
    · refine ite_no h2 ⟨_, rfl, u, rfl, (by show 2 ≤ sizeLine; decide), fun p hp => ⟨p, _, rfl, .inr (SqT.of upd_same), takV_flat u, rfl, ?_⟩⟩
      refine wh_in ?_
      rw [takV_in]
      have z := q _ (same_new hp (.tup [V.int 0, .int 1]))
      unfold fitB at z
      rw [if_pos h1, decide_eq_false h2, Bool.false_or] at z
      exact z
  · refine ite_no h1 ⟨_, rfl, rfl, _, rfl, ?_⟩
    have z := q H (fun _ _ z => z)
    unfold fitB at z
    rw [if_neg h1] at z
    by_cases h2 : x = "fold"
    · rw [if_pos h2] at z
      refine ite_yes h2 ⟨_, rfl, u, rfl, takV_scal u, ?_⟩
      rw [takV_two]
      exact z
    · rw [if_neg h2] at z
      refine ite_no h2 ⟨_, rfl, _, rfl, rfl, ?_⟩
      have e : decide (V.str u = V.str x) = decide (u = x) := by
        by_cases h : u = x
        · rw [decide_eq_true h, decide_eq_true (congrArg V.str h)]
        · rw [decide_eq_false h, decide_eq_false (fun z => h (V.str.inj z))]
      rw [e]
      exact z
end
end Mine




set_option Elab.async false
set_option linter.all false
set_option maxRecDepth 100000
set_option maxHeartbeats 4000000
namespace Mine
open PySem L2
def plV (p : List Pl) : List V := p.reverse.map fun x => V.str x.str
theorem plV_cons (x : Pl) (p : List Pl) : plV (x :: p) = plV p ++ [V.str x.str] := by unfold plV; rw [List.reverse_cons, List.map_append]; rfl
theorem plV_len (p : List Pl) : (plV p).length = p.length := by unfold plV; rw [List.length_map, List.length_reverse]
theorem pl_inj {x y : Pl} (h : x.str = y.str) : x = y := by cases x <;> cases y <;> first | rfl | exact absurd h (by decide +kernel)
theorem pl_no {x : Pl} : (x.str = "not") ↔ x = .no := ⟨fun h => pl_inj (y := .no) h, fun h => by rw [h]; rfl⟩
theorem pl_one {x : Pl} : (x.str = "one") ↔ x = .one := ⟨fun h => pl_inj (y := .one) h, fun h => by rw [h]; rfl⟩
theorem pl_fold {x : Pl} : (x.str = "fold") ↔ x = .fold := ⟨fun h => pl_inj (y := .fold) h, fun h => by rw [h]; rfl⟩
theorem pl_fin {x : Pl} : (x.str = "end") ↔ x = .fin := ⟨fun h => pl_inj (y := .fin) h, fun h => by rw [h]; rfl⟩
theorem at_last (ys : List V) (y : V) : atI (ys ++ [y]) (-1) = some y := by
  unfold atI ixN
  rw [if_neg (by decide), if_pos (by rw [List.length_append]; simp; omega)]
  show (ys ++ [y])[((-1 : Int) + ((ys ++ [y]).length : Nat)).toNat]? = some y
  rw [show ((-1 : Int) + ((ys ++ [y]).length : Nat)).toNat = ys.length by rw [List.length_append]; simp; omega]
  simp
theorem ix_last (ys : List V) (y : V) : ixN (ys ++ [y]).length (-1) = some ys.length := by
  unfold ixN
  rw [if_neg (by decide), if_pos (by rw [List.length_append]; simp; omega)]
  exact congrArg some (by rw [List.length_append]; simp; omega)
theorem put_last (ys : List V) (y z : V) : (ys ++ [y]).set ys.length z = ys ++ [z] := by simp
theorem gt_len {p : List Pl} {x : Pl} {A B : Prop} (h : A) : if decide (((plV (x :: p)).length : Int) > 0) = true then A else B := by
  rw [decide_eq_true (show ((plV (x :: p)).length : Int) > 0 by rw [plV_len, List.length_cons]; omega), if_pos rfl]
  exact h
def spDone : Sp := fun vs H Q _ => ∃ (l : Addr) (p : List Pl), vs = [.ref l] ∧ H l = some (.lst (plV p)) ∧ ∀ H', SB (.ref l) H H' → H' l = some (.lst (plV (doneP p))) → Q .non H'
def spTakes : Sp := fun vs H Q _ => ∃ (l : Addr) (p : List Pl) (x : Str), vs = [.ref l, .str x] ∧ H l = some (.lst (plV p)) ∧ p ≠ [] ∧ p.length ≤ 2000 ∧ (∀ H' p', SB (.ref l) H H' → takeP p x = some p' → H' l = some (.lst (plV p')) → Q (.bl true) H') ∧ (∀ H', SB (.ref l) H H' → takeP p x = none → Q (.bl false) H')
def spFaultL : Sp := fun vs H Q _ => ∃ (l : Addr) (ws : List Str), vs = [.ref l] ∧ H l = some (.lst (ws.map V.str)) ∧ ws.length ≤ 1000 ∧ ∀ H', Same H H' → Q (optV (faultF ["saying"] ws 0)) H'
theorem inV_str (x : Str) (xs : List Str) : inV (.str x) (xs.map V.str) = xs.any (fun y => y == x) := by
  unfold inV
  rw [List.any_map]
  rfl
theorem in_folds (x : Str) : inV (.str x) [V.str "more", .str "less", .str "greater", .str "lesser", .str "leads"] = isFold x := by
  have e := inV_str x ["more", "less", "greater", "lesser", "leads"]
  rw [show ([V.str "more", .str "less", .str "greater", .str "lesser", .str "leads"] : List V) = (["more", "less", "greater", "lesser", "leads"] : List Str).map V.str from rfl, e]
  by_cases h : isFold x = true
  · obtain ⟨u, rfl⟩ := fold_is h
    rw [h]
    cases u <;> decide +kernel
  · rw [eq_false_of_ne_true h]
    rw [List.any_eq_false]
    intro y hy hxy
    have e2 : y = x := by simpa using hxy
    subst e2
    apply h
    simp at hy
    rcases hy with rfl | rfl | rfl | rfl | rfl <;> decide +kernel
theorem in_leaves (x : Str) : inV (.str x) [V.str "never", .str "always", .str "p", .str "q"] = isLeaf x := by
  have e := inV_str x ["never", "always", "p", "q"]
  rw [show ([V.str "never", .str "always", .str "p", .str "q"] : List V) = (["never", "always", "p", "q"] : List Str).map V.str from rfl, e]
  by_cases h : isLeaf x = true
  · obtain ⟨t, e1, _⟩ := leaf_is h
    rw [h]
    cases t with
    | no t => obtain ⟨y, r, e2⟩ := words_cons t; simp [Tr.words, e2] at e1
    | fold u a b => simp [Tr.words] at e1
    | _ =>
      have e3 := List.cons.inj e1
      rw [← e3.1]
      decide +kernel
  · rw [eq_false_of_ne_true h]
    rw [List.any_eq_false]
    intro y hy hxy
    have e2 : y = x := by simpa using hxy
    subst e2
    apply h
    simp at hy
    rcases hy with rfl | rfl | rfl | rfl <;> decide +kernel
theorem in_two (x : Str) (a b : Str) : inV (.str x) [V.str a, .str b] = (decide (x = a) || decide (x = b)) := by
  show ((a == x) || ((b == x) || false)) = _
  rw [Bool.or_false]
  congr 1
  · by_cases h : x = a
    · subst h; simp
    · rw [decide_eq_false h]; exact beq_eq_false_iff_ne.mpr (fun z => h z.symm)
  · by_cases h : x = b
    · subst h; simp
    · rw [decide_eq_false h]; exact beq_eq_false_iff_ne.mpr (fun z => h z.symm)
section
variable {P : Program} {w : World} {K : PySem.W.Frag} {mg : Str → Option Value} {base : Heap} {c : CCs}
theorem sc_done : FnScope ["_law_pile"] ["_law_pile"] (defScope s_l_done) := ⟨rfl, rfl, rfl, by decide +kernel, rfl, by decide +kernel, by decide +kernel⟩
theorem ok_done (T : TopDef K mg "_law_done" s_l_done) (Z_len : mg "len" = none) : Def P w K mg base 1 "_law_done" ["_law_pile"] spDone := by
  refine def_of T sc_done (fun _ _ _ _ _ _ us hl => match us, hl with | [_], _ => rfl) (fun vs H Q E h => ?_) (fun f cdv A outer s H vs Q E hr h => ?_)
  · obtain ⟨l, p, rfl, _⟩ := h
    rfl
  obtain ⟨l, p, rfl, el, q⟩ := h
  have nd := sc_done.nd
  refine ⟨_, (pss_cons (ps_while PassesOwn.never (PW.pt (pw_and (pt_cmpR op_gt (pe_callB call_len rfl Z_len (by decide +kernel) (pa_cons (pv 0) pa_nil)) pe_int (nomark _)) (pw_and1 (pt_cmpR op_eq (pe_ix ix_list (pv 0) (pe_un un_neg pe_int) (fun _ _ => rfl)) pe_str (nomark _))))) (pss_one (ps_expr (pe_bm0 PySem.F.plainAttrs_list PySem.F.slot_list_pop PySem.F.type_list_pop mt_pop (pv 0)))))
    (pss_one (ps_if (PW.pt (pw_and (pt_cmpR op_gt (pe_callB call_len rfl Z_len (by decide +kernel) (pa_cons (pv 0) pa_nil)) pe_int (nomark _)) (pw_and1 (pt_cmpR op_eq (pe_ix ix_list (pv 0) (pe_un un_neg pe_int) (fun _ _ => rfl)) pe_str (nomark _))))) (pss_one (ps_asg pe_str (pg_sub (pv 0) (pe_un un_neg pe_int) set_list))) (pss_one (ps_if (pt_cmpR op_gt (pe_callB call_len rfl Z_len (by decide +kernel) (pa_cons (pv 0) pa_nil)) pe_int (nomark _)) (pss_one (ps_asg pe_str (pg_sub (pv 0) (pe_un un_neg pe_int) set_list))) pss_nil))))), ?_⟩
  refine ⟨fun m σ H' => ∃ r : List Pl, σ = [some (.ref l)] ∧ SB (.ref l) H H' ∧ H' l = some (.lst (plV r)) ∧ doneP r = doneP p ∧ m = r.length, ⟨_, p, rfl, SB.refl _ _, el, rfl, rfl⟩, ?_⟩
  rintro m σ H' ⟨r, rfl, sb, e, hd, rfl⟩
  cases r with
  | nil =>
    have e0 : H' l = some (.lst []) := e
    refine ⟨_, rfl, _, _, rfl, .inl ⟨_, SqL.of e, rfl⟩, _, _, rfl, rfl, _, rfl, iteF ?_⟩
    refine iteF ?_
    refine ⟨_, rfl, _, _, rfl, .inl ⟨_, SqL.of e, rfl⟩, _, _, rfl, rfl, _, rfl, iteF (iteF ?_)⟩
    refine ⟨_, rfl, _, _, rfl, .inl ⟨_, SqL.of e, rfl⟩, _, _, rfl, rfl, _, rfl, iteF ?_⟩
    refine q _ sb ?_
    rw [← hd]
    exact e
  | cons x r =>
    have e1 := e
    rw [plV_cons] at e1
    refine ⟨_, rfl, _, _, rfl, .inl ⟨_, SqL.of e, rfl⟩, _, _, rfl, rfl, _, rfl, gt_len ?_⟩
    refine ⟨_, rfl, _, rfl, _, _, _, _, rfl, rfl, SqL.of e1, at_last _ _, rfl, _, rfl, ?_⟩
    by_cases hx : x = .no
    · subst hx
      refine ite_yes rfl ⟨fun σ' H'' => ∃ m', m' < (Pl.no :: r).length ∧ ∃ r : List Pl, σ' = [some (.ref l)] ∧ SB (.ref l) H H'' ∧ H'' l = some (.lst (plV r)) ∧ doneP r = doneP p ∧ m' = r.length, fun _ _ z => z, ?_⟩
      refine ⟨_, rfl, .inl ⟨rfl, _, SqL.of e1⟩, l, _, _, rfl, rfl, e1, snoc_last _ _, ?_⟩
      rw [List.dropLast_concat]
      exact ⟨r.length, by simp, r, rfl, sb.trans (sb_upd _ _), upd_same, hd, rfl⟩
    · refine ite_no (fun z => hx (pl_no.mp z)) ?_
      refine ⟨_, rfl, _, _, rfl, .inl ⟨_, SqL.of e, rfl⟩, _, _, rfl, rfl, _, rfl, gt_len ?_⟩
      refine ⟨_, rfl, _, rfl, _, _, _, _, rfl, rfl, SqL.of e1, at_last _ _, rfl, _, rfl, ?_⟩
      by_cases ho : x = .one
      · subst ho
        refine ite_yes rfl ⟨_, rfl, _, rfl, l, _, _, _, rfl, rfl, e1, ix_last _ _, ?_⟩
        rw [put_last]
        refine q _ (sb.trans (sb_upd _ _)) ?_
        rw [upd_same, ← hd]
        show _ = some (HO.lst (plV (.fold :: r)))
        rw [plV_cons]
        rfl
      · refine ite_no (fun z => ho (pl_one.mp z)) ?_
        refine ⟨_, rfl, _, _, rfl, .inl ⟨_, SqL.of e, rfl⟩, _, _, rfl, rfl, _, rfl, gt_len ?_⟩
        refine ⟨_, rfl, _, rfl, l, _, _, _, rfl, rfl, e1, ix_last _ _, ?_⟩
        rw [put_last]
        refine q _ (sb.trans (sb_upd _ _)) ?_
        rw [upd_same, ← hd]
        have e3 : doneP (x :: r) = .fin :: r := by cases x <;> first | rfl | exact absurd rfl hx | exact absurd rfl ho
        rw [e3, plV_cons]
        rfl
end
end Mine




set_option Elab.async false
set_option linter.all false
set_option maxRecDepth 100000
set_option maxHeartbeats 4000000
namespace Mine
open PySem L2
theorem len_gt1 (x : Pl) (r : List Pl) : decide (((plV (x :: r)).length : Int) > 1) = decide (r ≠ []) := by
  rw [plV_len, List.length_cons]
  cases r with
  | nil => rfl
  | cons y r =>
    rw [decide_eq_true (show (y :: r) ≠ [] by simp)]
    exact decide_eq_true (by simp; omega)
section
variable {P : Program} {w : World} {K : PySem.W.Frag} {mg : Str → Option Value} {base : Heap} {c : CCs}
theorem sc_takes : FnScope ["_law_pile", "_law_word_here", "_law_want"] ["_law_pile", "_law_word_here"] (defScope s_l_takes) := ⟨rfl, rfl, rfl, by decide +kernel, rfl, by decide +kernel, by decide +kernel⟩
theorem ok_takes (T : TopDef K mg "_law_takes" s_l_takes) (Z_len : mg "len" = none) (Z_int : mg "int" = none) (D_law_done : Def P w K mg base 1 "_law_done" ["_law_pile"] spDone) : Def P w K mg base 2 "_law_takes" ["_law_pile", "_law_word_here"] spTakes := by
  refine def_of T sc_takes (fun _ _ _ _ _ _ us hl => match us, hl with | [_, _], _ => rfl) (fun vs H Q E h => ?_) (fun f cdv A outer s H vs Q E hr h => ?_)
  · obtain ⟨l, p, x, rfl, _⟩ := h
    rfl
  obtain ⟨l, p, y, rfl, el, hne, hz, q1, q2⟩ := h
  have nd := sc_takes.nd
  refine ⟨_, (pss_cons (ps_set (i := 2) nd rfl (Or.inl rfl) (pe_ix ix_list (pv 0) (pe_un un_neg pe_int) (fun _ _ => rfl)))
    (pss_cons (ps_if (PW.pt (pw_and (pt_cmpR op_eq (pv 2) pe_str (nomark _)) (pw_and1 (pt_cmpR op_in_seq (pv 1) (pe_tup (pa_cons pe_str (pa_cons pe_str (pa_cons pe_str (pa_cons pe_str (pa_cons pe_str pa_nil)))))) rfl)))) (pss_one (ps_asg pe_str (pg_sub (pv 0) (pe_un un_neg pe_int) set_list))) (pss_one (ps_if (PW.pt (pw_and (pt_cmpR op_eq (pv 2) pe_str (nomark _)) (pw_and (pt_cmpR op_eq (pv 1) pe_str (nomark _)) (pw_and1 (pt_cmpR op_gt (pe_callB call_len rfl Z_len (by decide +kernel) (pa_cons (pv 0) pa_nil)) pe_int (nomark _)))))) (pss_cons (ps_expr (pe_bm0 PySem.F.plainAttrs_list PySem.F.slot_list_pop PySem.F.type_list_pop mt_pop (pv 0)))
    (pss_one (ps_expr (pe_def D_law_done (hr.mono (by omega)) rfl (pa_cons (pv 0) pa_nil))))) (pss_one (ps_if (pt_cmpR op_in_seq (pv 2) (pe_tup (pa_cons pe_str (pa_cons pe_str pa_nil))) rfl) (pss_one (ps_ret pe_bl)) (pss_one (ps_if (pt_cmpR op_in_seq (pv 1) (pe_tup (pa_cons pe_str (pa_cons pe_str pa_nil))) rfl) (pss_one (ps_expr (pe_bm PySem.F.plainAttrs_list PySem.F.slot_list_append PySem.F.type_list_append mt_append (pv 0) (pa_cons (pe_ix ix_list (pe_lst (pa_cons pe_str (pa_cons pe_str pa_nil))) (pe_callTy call_int1 rfl Z_int (by decide +kernel) (pa_cons (pe_cmpR op_eq (pv 1) pe_str (nomark _)) pa_nil)) (fun _ _ => rfl)) pa_nil)))) (pss_one (ps_if (pt_cmpR op_in_seq (pv 1) (pe_tup (pa_cons pe_str (pa_cons pe_str (pa_cons pe_str (pa_cons pe_str pa_nil))))) rfl) (pss_one (ps_expr (pe_def D_law_done (hr.mono (by omega)) rfl (pa_cons (pv 0) pa_nil)))) (pss_one (ps_ret pe_bl)))))))))))
    (pss_one (ps_ret pe_bl)))), ?_⟩
  cases p with
  | nil => exact absurd rfl hne
  | cons x r =>
    have e1 := el
    rw [plV_cons] at e1
    refine ⟨_, rfl, _, rfl, _, _, _, _, rfl, rfl, SqL.of e1, at_last _ _, ?_⟩
    refine ⟨_, rfl, rfl, _, rfl, ?_⟩
    by_cases hf : x = .fold
    · subst hf
      refine ite_yes rfl ⟨_, rfl, (by show 5 ≤ sizeLine; decide), fun t ht => ⟨t, _, rfl, .inr (SqT.of upd_same), rfl, rfl, _, rfl, ?_⟩⟩
      have st := same_new ht (.tup [V.str "more", .str "less", .str "greater", .str "lesser", .str "leads"])
      have et : takeP (.fold :: r) y = if isFold y = true then some (.other :: r) else none := rfl
      by_cases hy : isFold y = true
      · refine in_yes (by rw [in_folds]; exact hy) ⟨_, rfl, _, rfl, l, _, _, _, rfl, rfl, st _ _ e1, ix_last _ _, ?_⟩
        rw [put_last]
        refine q1 _ (.other :: r) ((SB.of st).trans (sb_upd _ _)) (by rw [et, if_pos hy]) ?_
        rw [upd_same, plV_cons]
        rfl
      · refine in_no (by rw [in_folds]; exact eq_false_of_ne_true hy) ⟨_, rfl, rfl, _, rfl, ite_no (by decide +kernel) (iteF ?_)⟩
        refine ⟨_, rfl, (by show 2 ≤ sizeLine; decide), fun t2 ht2 => ⟨t2, _, rfl, .inr (SqT.of upd_same), rfl, rfl, _, rfl, in_yes (by decide +kernel) ?_⟩⟩
        exact q2 _ (SB.of (st.trans (same_new ht2 _))) (by rw [et, if_neg hy])
    · refine ite_no (fun z => hf (pl_fold.mp z)) (iteF ?_)
      refine ⟨_, rfl, rfl, _, rfl, ?_⟩
      by_cases hn : x = .fin
      · subst hn
        have et : takeP (.fin :: r) y = if y = ")" ∧ r ≠ [] then some (doneP r) else none := rfl
        refine ite_yes rfl ⟨_, rfl, rfl, _, rfl, ?_⟩
        by_cases hy : y = ")"
        · refine ite_yes hy ⟨_, rfl, _, _, rfl, .inl ⟨_, SqL.of el, rfl⟩, _, _, rfl, rfl, _, rfl, ?_⟩
          rw [len_gt1]
          by_cases hr0 : r = []
          · subst hr0
            refine iteF ?_
            refine ⟨_, rfl, (by show 2 ≤ sizeLine; decide), fun t2 ht2 => ⟨t2, _, rfl, .inr (SqT.of upd_same), rfl, rfl, _, rfl, in_yes (by decide +kernel) ?_⟩⟩
            exact q2 _ (SB.of (same_new ht2 _)) (by rw [et, if_neg (fun z => z.2 rfl)])
          · rw [decide_eq_true hr0]
            refine iteT ⟨_, rfl, .inl ⟨rfl, _, SqL.of e1⟩, l, _, _, rfl, rfl, e1, snoc_last _ _, ?_⟩
            rw [List.dropLast_concat]
            refine ⟨_, rfl, l, r, rfl, upd_same, fun H2 sb2 e2 => ?_⟩
            exact q1 _ (doneP r) ((sb_upd _ _).trans sb2) (by rw [et, if_pos ⟨hy, hr0⟩]) e2
        · refine ite_no hy (iteF ?_)
          refine ⟨_, rfl, (by show 2 ≤ sizeLine; decide), fun t2 ht2 => ⟨t2, _, rfl, .inr (SqT.of upd_same), rfl, rfl, _, rfl, in_yes (by decide +kernel) ?_⟩⟩
          exact q2 _ (SB.of (same_new ht2 _)) (by rw [et, if_neg (fun z => hy z.1)])
      · refine ite_no (fun z => hn (pl_fin.mp z)) (iteF ?_)
        have et : takeP (x :: r) y = if y = "not" then some (.no :: x :: r) else if y = "(" then some (.one :: x :: r) else if isLeaf y = true then some (doneP (x :: r)) else none := by
          cases x <;> first | rfl | exact absurd rfl hf | exact absurd rfl hn
        refine ⟨_, rfl, (by show 2 ≤ sizeLine; decide), fun t2 ht2 => ⟨t2, _, rfl, .inr (SqT.of upd_same), rfl, rfl, _, rfl, in_no (by rw [in_two, decide_eq_false (fun z => hf (pl_fold.mp z)), decide_eq_false (fun z => hn (pl_fin.mp z))]; rfl) ?_⟩⟩
        have s2 := same_new ht2 (.tup [V.str "fold", .str "end"])
        refine ⟨_, rfl, (by show 2 ≤ sizeLine; decide), fun t3 ht3 => ⟨t3, _, rfl, .inr (SqT.of upd_same), rfl, rfl, _, rfl, ?_⟩⟩
        have s3 := s2.trans (same_new ht3 (.tup [V.str "not", .str "("]))
        have hlen : (plV (x :: r)).length < sizeLine := by rw [plV_len]; exact Nat.lt_of_le_of_lt hz (by decide)
        by_cases h1 : y = "not"
        · subst h1
          refine in_yes (by rw [in_two]; rfl) ⟨_, rfl, .inl ⟨rfl, _, SqL.of (s3 _ _ el)⟩, (by show 2 ≤ sizeLine; decide), fun l4 h4 => ?_⟩
          have s4 := s3.trans (same_new h4 (.lst [V.str "not", .str "one"]))
          refine ⟨_, rfl, rfl, .inr ⟨false, congrArg (fun b => [V.bl b]) (decide_eq_false (fun z => absurd (V.str.inj z) (by decide +kernel))), _, _, _, _, rfl, rfl, SqL.of upd_same, atI_nat (j := 0) rfl, l, _, _, rfl, rfl, s4 _ _ el, hlen, ?_⟩⟩
          refine q1 _ (.no :: x :: r) ((SB.of s4).trans (sb_upd _ _)) (by rw [et, if_pos rfl]) ?_
          rw [upd_same]
          exact congrArg (fun z => some (HO.lst z)) (plV_cons .no (x :: r)).symm
        · by_cases h2 : y = "("
          · subst h2
            refine in_yes (by rw [in_two]; rfl) ⟨_, rfl, .inl ⟨rfl, _, SqL.of (s3 _ _ el)⟩, (by show 2 ≤ sizeLine; decide), fun l4 h4 => ?_⟩
            have s4 := s3.trans (same_new h4 (.lst [V.str "not", .str "one"]))
            refine ⟨_, rfl, rfl, .inr ⟨true, congrArg (fun b => [V.bl b]) (decide_eq_true rfl), _, _, _, _, rfl, rfl, SqL.of upd_same, atI_nat (j := 1) rfl, l, _, _, rfl, rfl, s4 _ _ el, hlen, ?_⟩⟩
            refine q1 _ (.one :: x :: r) ((SB.of s4).trans (sb_upd _ _)) (by rw [et, if_neg (by decide +kernel), if_pos rfl]) ?_
            rw [upd_same]
            exact congrArg (fun z => some (HO.lst z)) (plV_cons .one (x :: r)).symm
          · refine in_no (by rw [in_two, decide_eq_false h1, decide_eq_false h2]; rfl) ?_
            refine ⟨_, rfl, (by show 4 ≤ sizeLine; decide), fun t5 ht5 => ⟨t5, _, rfl, .inr (SqT.of upd_same), rfl, rfl, _, rfl, ?_⟩⟩
            have s5 := s3.trans (same_new ht5 (.tup [V.str "never", .str "always", .str "p", .str "q"]))
            by_cases h3 : isLeaf y = true
            · refine in_yes (by rw [in_leaves]; exact h3) ⟨_, rfl, l, x :: r, rfl, s5 _ _ el, fun H6 sb6 e6 => ?_⟩
              exact q1 _ (doneP (x :: r)) ((SB.of s5).trans sb6) (by rw [et, if_neg h1, if_neg h2, if_pos h3]) e6
            · refine in_no (by rw [in_leaves]; exact eq_false_of_ne_true h3) ?_
              exact q2 _ (SB.of s5) (by rw [et, if_neg h1, if_neg h2, if_neg h3])
end
end Mine




set_option Elab.async false
set_option linter.all false
set_option maxRecDepth 100000
set_option maxHeartbeats 4000000
namespace Mine
open PySem L2
/-! ### lists of texts as data -/
theorem strs_dat {K : PySem.W.Frag} {H : Hp} : ∀ S : List Str, DatAll K H (S.map PyData.str) (S.map V.str)
  | [] => rfl
  | x :: S => ⟨.str x, S.map V.str, rfl, rfl, strs_dat S⟩
theorem strs_lay : ∀ S : List Str, (∀ x ∈ S, PyData.strOk x = true) → PyData.canLayAll0 (S.map PyData.str) = true
  | [], _ => by simp [PyData.canLayAll0]
  | x :: S, h => by simp [PyData.canLayAll0, PyData.canLay0, h x (by simp), strs_lay S fun y hy => h y (List.mem_cons_of_mem _ hy)]
theorem strs_deep : ∀ S : List Str, PyData.depthAll (S.map PyData.str) ≤ 1
  | [] => by simp [PyData.depthAll]
  | x :: S => by
    have := strs_deep S
    simp only [List.map_cons, PyData.depthAll, PyData.depth]
    omega
theorem strs_sh {S : List Str} (h : ∀ x ∈ S, PyData.strOk x = true) : SeqAt.shaped (.list (S.map PyData.str)) = true := by
  have h1 := strs_lay S h
  have h2 := strs_deep S
  have e1 : (PyData.list (S.map PyData.str)).canLay0 = PyData.canLayAll0 (S.map PyData.str) := by simp [PyData.canLay0]
  have e2 : (PyData.list (S.map PyData.str)).depth = PyData.depthAll (S.map PyData.str) + 1 := by simp [PyData.depth]
  unfold SeqAt.shaped
  rw [e1, h1, e2, Bool.true_and]
  exact decide_eq_true (by omega)
theorem eqv_empty (S : List Str) : PyData.eqv (.list (S.map PyData.str)) (.list []) = S.isEmpty := by
  cases S with
  | nil => simp [PyData.eqv, PyData.eqvAll]
  | cons x S => simp [PyData.eqv, PyData.eqvAll]
theorem empty_dat {K : PySem.W.Frag} {H : Hp} {p : Addr} (h : H p = some (.lst [])) : DatX K H (.list []) (.ref p) := .inr ⟨[], p, [], rfl, rfl, SqL.of h, rfl⟩
def wOk (S : List Str) : Prop := ∀ x ∈ S, PyData.strOk x = true
theorem nexts_ok {u : Str} {S : List Str} (h : wOk S) : wOk (nexts u S) := by
  intro x hx
  unfold nexts at hx
  rcases List.mem_append.mp hx with hx | hx
  · split at hx
    · simp at hx
      rcases hx with rfl | rfl | rfl | rfl <;> decide +kernel
    · cases hx
  · rcases List.mem_append.mp hx with hx | hx
    · split at hx
      · rw [List.mem_singleton.mp hx]; decide +kernel
      · cases hx
    · exact h x hx
theorem nexts_len (u : Str) (S : List Str) : (nexts u S).length ≤ S.length + 5 := by
  unfold nexts
  rw [List.length_append, List.length_append]
  split <;> split <;> simp <;> omega
abbrev fiN : List Str := ["words", "wanted", "at", "word"]
theorem rev_snoc (x : Str) (S : List Str) : ((x :: S).reverse).map V.str = S.reverse.map V.str ++ [V.str x] := by rw [List.reverse_cons, List.map_append]; rfl
section
variable {P : Program} {w : World} {K : PySem.W.Frag} {mg : Str → Option Value} {base : Heap} {c : CCs}
theorem sc_faultIn : FnScope fiN ["words"] (defScope s_fault_in) := ⟨rfl, rfl, rfl, by decide +kernel, rfl, by decide +kernel, by decide +kernel⟩
theorem ok_faultIn (T : TopDef K mg "fault_in" s_fault_in) (Z_enumerate : mg "enumerate" = none) (Z_len : mg "len" = none) (D_fits : Def P w K mg base 2 "fits" ["word", "wanted"] spFits) : Def P w K mg base 3 "fault_in" ["words"] spFaultIn := by
  refine def_of T sc_faultIn (fun _ _ _ _ _ _ us hl => match us, hl with | [_], _ => rfl) (fun vs H Q E h => ?_) (fun f cdv A outer s H vs Q E hr h => ?_)
  · obtain ⟨l, ws, rfl, _⟩ := h
    rfl
  obtain ⟨l, ws, rfl, el, hz, q⟩ := h
  have nd := sc_faultIn.nd
  have hu := hr.units
  refine ⟨_, (pss_cons (ps_set (i := 1) nd rfl (Or.inl rfl) (pe_lst (pa_cons pe_str pa_nil)))
    (pss_cons (ps_for PassesOwn.never rfl (pi_enum rfl Z_enumerate (pv 0)) (pg_tup rfl (pgs_cons (pg_name (i := 2) nd rfl (Or.inl rfl)) (pgs_cons (pg_name (i := 3) nd rfl (Or.inl rfl)) pgs_nil))) (pss_cons (ps_if (PW.pt (pw_or (pt_cmpR (op_eqD hu) (pv 1) (pe_lst pa_nil) (nomark _)) (pw_or1 (pt_not (pt_val (pe_def D_fits (hr.mono (by omega)) rfl (pa_cons (pv 3) (pa_cons (pe_bm0 PySem.F.plainAttrs_list PySem.F.slot_list_pop PySem.F.type_list_pop mt_pop (pv 1)) pa_nil)))))))) (pss_one (ps_ret (pv 2))) pss_nil)
    (pss_cons (ps_if (pt_cmpR op_eq (pv 3) pe_str (nomark _)) (pss_one (ps_expr (pe_bm PySem.F.plainAttrs_list PySem.F.slot_list_append PySem.F.type_list_append mt_append (pv 1) (pa_cons pe_str pa_nil)))) pss_nil)
    (pss_one (ps_if (pt_cmpR op_eq (pv 3) pe_str (nomark _)) (pss_one (ps_expr (pe_bm PySem.F.plainAttrs_list PySem.F.slot_list_extend PySem.F.type_list_extend mt_extend (pv 1) (pa_cons (pe_lst (pa_cons pe_str (pa_cons pe_str (pa_cons pe_str (pa_cons pe_str pa_nil))))) pa_nil)))) pss_nil)))))
    (pss_one (ps_ret (pe_ifExp (pt_cmpR (op_eqD hu) (pv 1) (pe_lst pa_nil) (nomark _)) pe_non (pe_callB call_len rfl Z_len (by decide +kernel) (pa_cons (pv 0) pa_nil))))))), ?_⟩
  refine ⟨(by show 1 ≤ sizeLine; decide), fun l1 h1 => ?_⟩
  have n1 : l ≠ l1 := ne_of_none el h1
  have s1 := same_new h1 (.lst [V.str "saying"])
  refine ⟨_, rfl, l, rfl, ⟨_, SqL.of (s1 _ _ el)⟩, ?_⟩
  refine for_enum (xs := ws.map V.str) (fun i σ H' => Same H H' ∧ ∃ (S : List Str) (o1 o2 : Option V), σ = [some (.ref l), some (.ref l1), o1, o2] ∧ H' l1 = some (.lst (S.reverse.map V.str)) ∧ wOk S ∧ S.length ≤ 1 + 5 * i ∧ faultF S (ws.drop i) i = faultF ["saying"] ws 0)
    ⟨s1, ["saying"], _, _, rfl, upd_same, fun x hx => by rw [List.mem_singleton.mp hx]; decide +kernel, by simp, by rw [List.drop_zero]⟩ (fun i σ H' _ z => SqL.of (z.1 _ _ el)) (fun i v T' σ H' hv z hT => ?_) (fun σ H' z => ?_)
  · obtain ⟨sm, S, o1, o2, rfl, e1, hS, hl, hf⟩ := z
    rw [List.getElem?_map] at hv
    obtain ⟨u, hu1, rfl⟩ := Option.map_eq_some_iff.mp hv
    have hi : i < ws.length := (List.getElem?_eq_some_iff.mp hu1).1
    rw [drop_at hu1] at hf
    have sT := same_new hT (.tup [.int i, V.str u])
    have e1T := sT _ _ e1
    refine ⟨T', _, rfl, SqT.of upd_same, rfl, _, _, rfl, _, _, rfl, rfl, ?_⟩
    refine ⟨_, rfl, (by show 0 ≤ sizeLine; decide), fun p hp => ?_⟩
    have sp := same_new hp (.lst [])
    have e1p := sp _ _ e1T
    refine ⟨.list (S.reverse.map PyData.str), .list [], .inr ⟨_, l1, _, rfl, rfl, SqL.of e1p, strs_dat _⟩, empty_dat upd_same, strs_sh (fun x hx => hS x (List.mem_reverse.mp hx)), by decide, _, rfl, ?_⟩
    rw [eqv_empty]
    have s2 : Same H (upd (upd H' T' (.tup [.int i, V.str u])) p (.lst [])) := (sm.trans sT).trans sp
    cases S with
    | nil =>
      refine iteT (iteT ⟨_, rfl, ?_⟩)
      have z := q _ s2
      rw [← hf] at z
      exact z
    | cons x S =>
      have ne : (x :: S).reverse.isEmpty = false := by simp
      rw [ne]
      rw [rev_snoc] at e1p
      refine iteF ⟨_, rfl, _, rfl, .inl ⟨rfl, _, SqL.of e1p⟩, l1, _, _, rfl, rfl, e1p, snoc_last _ _, ?_⟩
      rw [List.dropLast_concat]
      refine ⟨u, x, rfl, fun H3 s3 => ?_⟩
      have e13 := s3 _ _ (upd_same (a := l1) (o := .lst (S.reverse.map V.str)))
      have s03 : Same H H3 := fun b o hb => s3 _ _ (by rw [upd_ne (ne_of_none hb h1)]; exact s2 _ _ hb)
      by_cases hfit : fitB u x = true
      · rw [hfit]
        have hf' : faultF (nexts u S) (ws.drop (i + 1)) (i + 1) = faultF ["saying"] ws 0 := by rw [← hf, fault_go hfit]
        have hl' := nexts_len u S
        have hl2 : S.length + 1 ≤ 1 + 5 * i := hl
        refine ⟨_, rfl, iteF ?_⟩
        refine ⟨_, rfl, rfl, _, rfl, ?_⟩
        by_cases hn : u = "not"
        · subst hn
          refine ite_yes rfl ⟨_, rfl, .inl ⟨rfl, _, SqL.of e13⟩, l1, _, _, rfl, rfl, e13, by rw [List.length_map, List.length_reverse]; exact Nat.lt_of_le_of_lt (show _ ≤ 10000 by omega) (by decide), ?_⟩
          refine ⟨_, rfl, rfl, _, rfl, ite_no (by decide +kernel) ?_⟩
          refine ⟨fun b o hb => by rw [upd_ne (ne_of_none hb h1)]; exact s03 _ _ hb, nexts "not" S, _, _, rfl, ?_, nexts_ok fun y hy => hS y (List.mem_cons_of_mem _ hy), by omega, hf'⟩
          rw [upd_same, nexts_not, rev_snoc]
        · refine ite_no hn ⟨_, rfl, rfl, _, rfl, ?_⟩
          by_cases ho : u = "("
          · subst ho
            refine ite_yes rfl ⟨_, rfl, .inl ⟨rfl, _, SqL.of e13⟩, (by show 4 ≤ sizeLine; decide), fun p2 hp2 => ?_⟩
            have sp2 := same_new hp2 (.lst [V.str ")", .str "saying", .str "fold", .str "saying"])
            refine ⟨l1, p2, _, _, rfl, rfl, sp2 _ _ e13, upd_same, by rw [List.length_map, List.length_reverse]; exact Nat.le_trans (show _ ≤ 10000 by show S.length + 4 ≤ _; omega) (by decide), ?_⟩
            refine ⟨fun b o hb => by rw [upd_ne (ne_of_none hb h1)]; exact sp2 _ _ (s03 _ _ hb), nexts "(" S, _, _, rfl, ?_, nexts_ok fun y hy => hS y (List.mem_cons_of_mem _ hy), by omega, hf'⟩
            rw [upd_same, nexts_op]
            simp
          · refine ite_no ho ⟨s03, nexts u S, _, _, rfl, ?_, nexts_ok fun y hy => hS y (List.mem_cons_of_mem _ hy), by omega, hf'⟩
            rw [nexts_else ho hn]
            exact e13
      · have hb : fitB u x = false := by simpa using hfit
        rw [hb]
        refine ⟨_, rfl, iteT ⟨_, rfl, ?_⟩⟩
        have z := q _ s03
        rw [← hf] at z
        have ef : faultF (x :: S) (u :: ws.drop (i + 1)) i = some i := by
          show (if fitB u x = true then _ else _) = _
          rw [if_neg hfit]
        rw [ef] at z
        exact z
  · obtain ⟨sm, S, o1, o2, rfl, e1, hS, hl, hf⟩ := z
    rw [List.length_map, List.drop_length] at hf
    refine ⟨_, rfl, (by show 0 ≤ sizeLine; decide), fun p hp => ?_⟩
    have sp := same_new hp (.lst [])
    refine ⟨.list (S.reverse.map PyData.str), .list [], .inr ⟨_, l1, _, rfl, rfl, SqL.of (sp _ _ e1), strs_dat _⟩, empty_dat upd_same, strs_sh (fun x hx => hS x (List.mem_reverse.mp hx)), by decide, _, rfl, ?_⟩
    rw [eqv_empty]
    have z := q _ (sm.trans sp)
    rw [← hf] at z
    cases S with
    | nil => exact iteT z
    | cons x S =>
      have ne : (x :: S).reverse.isEmpty = false := by simp
      rw [ne]
      refine iteF ⟨_, rfl, _, _, rfl, .inl ⟨_, SqL.of (sp _ _ (sm _ _ el)), rfl⟩, ?_⟩
      show Q (.int (((ws.map V.str).length : Nat) : Int)) _
      rw [List.length_map]
      exact z
end
end Mine




set_option Elab.async false
set_option linter.all false
set_option maxRecDepth 100000
set_option maxHeartbeats 4000000
namespace Mine
open PySem L2
def bracketWords : List Str := ["(", ")", "more", "less", "greater", "lesser", "leads"]
theorem in_brackets (x : Str) : inV (.str x) (bracketWords.map V.str) = !small x := by
  rw [inV_str]
  unfold small bracketWords
  rw [Bool.not_not]
  by_cases h : isFold x = true
  · obtain ⟨u, rfl⟩ := fold_is h
    rw [h]
    cases u <;> decide +kernel
  · rw [eq_false_of_ne_true h, Bool.or_false]
    by_cases h1 : x = "("
    · subst h1; decide +kernel
    · by_cases h2 : x = ")"
      · subst h2; decide +kernel
      · rw [decide_eq_false h1, decide_eq_false h2]
        show _ = false
        rw [List.any_eq_false]
        intro y hy hxy
        have e2 : y = x := by simpa using hxy
        subst e2
        simp at hy
        rcases hy with rfl | rfl | rfl | rfl | rfl | rfl | rfl
        · exact h1 rfl
        · exact h2 rfl
        all_goals exact h (by decide +kernel)
theorem strs_eqv : ∀ (a b : List Str), PyData.eqvAll (a.map PyData.str) (b.map PyData.str) = decide (a = b)
  | [], [] => by simp [PyData.eqvAll]
  | [], y :: b => by simp [PyData.eqvAll]
  | x :: a, [] => by simp [PyData.eqvAll]
  | x :: a, y :: b => by
    simp only [List.map_cons, PyData.eqvAll, strs_eqv a b]
    by_cases h : x = y
    · subst h
      simp [PyData.eqv]
    · have e : PyData.eqv (.str x) (.str y) = false := by simp [PyData.eqv, h]
      rw [e, Bool.false_and, decide_eq_false (fun z => h (List.cons.inj z).1)]
theorem pile_eqv (p : List Pl) : PyData.eqv (.list ((p.reverse.map Pl.str).map PyData.str)) (.list (([("end" : Str)]).map PyData.str)) = decide (p = [.fin]) := by
  have e : ∀ a b : List PyData, PyData.eqv (.list a) (.list b) = PyData.eqvAll a b := fun a b => by simp [PyData.eqv]
  rw [e, strs_eqv]
  by_cases h : p = [.fin]
  · subst h; rfl
  · rw [decide_eq_false h]
    refine decide_eq_false fun z => h ?_
    cases p with
    | nil => simp at z
    | cons x r =>
      rw [List.reverse_cons, List.map_append] at z
      have hl := congrArg List.length z
      simp at hl
      subst hl
      have e2 : [x.str] = [("end" : Str)] := z
      have e3 := (List.cons.inj e2).1
      rw [pl_fin.mp e3]
theorem plV_strs (p : List Pl) : plV p = (p.reverse.map Pl.str).map V.str := by unfold plV; rw [List.map_map]; rfl
theorem pl_ok (p : List Pl) : ∀ x ∈ p.reverse.map Pl.str, PyData.strOk x = true := fun x hx => by
  obtain ⟨y, _, rfl⟩ := List.mem_map.mp hx
  cases y <;> decide +kernel
theorem take_len {p p' : List Pl} {x : Str} (h : takeP p x = some p') : p'.length ≤ p.length + 1 := by
  cases p with
  | nil => cases h
  | cons t r =>
    have dl := done_len r
    cases t with
    | fold =>
      have e : takeP (.fold :: r) x = if isFold x = true then some (.other :: r) else none := rfl
      rw [e] at h
      split at h
      · cases h; simp
      · cases h
    | fin =>
      have e : takeP (.fin :: r) x = if x = ")" ∧ r ≠ [] then some (doneP r) else none := rfl
      rw [e] at h
      split at h
      · cases h; simp only [List.length_cons]; omega
      · cases h
    | _ =>
      have h' : (if x = "not" then some (Pl.no :: _ :: r) else if x = "(" then some (.one :: _ :: r) else if isLeaf x = true then some (doneP (_ :: r)) else none) = some p' := h
      split at h'
      · cases h'; simp
      · split at h'
        · cases h'; simp
        · split at h'
          · cases h'
            refine Nat.le_trans (done_len _) ?_
            simp
          · cases h'
section
variable {P : Program} {w : World} {K : PySem.W.Frag} {mg : Str → Option Value} {base : Heap} {c : CCs}
theorem sc_faultL : FnScope ["_law_words", "_law_pile", "_law_at", "_law_word_here"] ["_law_words"] (defScope s_l_fault) := ⟨rfl, rfl, rfl, by decide +kernel, rfl, by decide +kernel, by decide +kernel⟩
theorem ok_faultL (T : TopDef K mg "_law_fault" s_l_fault) (Z_len : mg "len" = none) (Z_enumerate : mg "enumerate" = none) (D_law_takes : Def P w K mg base 2 "_law_takes" ["_law_pile", "_law_word_here"] spTakes) : Def P w K mg base 3 "_law_fault" ["_law_words"] spFaultL := by
  refine def_of T sc_faultL (fun _ _ _ _ _ _ us hl => match us, hl with | [_], _ => rfl) (fun vs H Q E h => ?_) (fun f cdv A outer s H vs Q E hr h => ?_)
  · obtain ⟨l, ws, rfl, _⟩ := h
    rfl
  obtain ⟨l, ws, rfl, el, hz, q⟩ := h
  have nd := sc_faultL.nd
  have hu := hr.units
  have e0 : faultF ["saying"] ws 0 = faultP [.whole] ws 0 := (fault_pile ws [.whole] 0 (.low .whole)).symm
  refine ⟨_, (pss_cons (ps_set (i := 1) nd rfl (Or.inl rfl) (pe_lst (pa_cons pe_str pa_nil)))
    (pss_cons (ps_for PassesOwn.never rfl (pi_enum rfl Z_enumerate (pv 0)) (pg_tup rfl (pgs_cons (pg_name (i := 2) nd rfl (Or.inl rfl)) (pgs_cons (pg_name (i := 3) nd rfl (Or.inl rfl)) pgs_nil))) (pss_one (ps_if (pt_not (pt_val (pe_def D_law_takes (hr.mono (by omega)) rfl (pa_cons (pv 1) (pa_cons (pv 3) pa_nil))))) (pss_one (ps_ret (pv 2))) pss_nil)))
    (pss_cons (ps_if (pt_cmpR (op_eqD hu) (pv 1) (pe_lst (pa_cons pe_str pa_nil)) (nomark _)) (pss_one (ps_ret pe_non)) pss_nil)
    (pss_one (ps_ret (pe_callB call_len rfl Z_len (by decide +kernel) (pa_cons (pv 0) pa_nil))))))), ?_⟩
  refine ⟨(by show 1 ≤ sizeLine; decide), fun l1 h1 => ?_⟩
  have n1 : l ≠ l1 := ne_of_none el h1
  have s1 := same_new h1 (.lst [V.str "whole"])
  refine ⟨_, rfl, l, rfl, ⟨_, SqL.of (s1 _ _ el)⟩, ?_⟩
  refine for_enum (xs := ws.map V.str) (fun i σ H' => Same H H' ∧ ∃ (p : List Pl) (o1 o2 : Option V), σ = [some (.ref l), some (.ref l1), o1, o2] ∧ H' l1 = some (.lst (plV p)) ∧ p ≠ [] ∧ p.length ≤ 1 + i ∧ faultP p (ws.drop i) i = faultP [.whole] ws 0 ∧ Pile p)
    ⟨s1, [.whole], _, _, rfl, upd_same, by simp, by simp, by rw [List.drop_zero], .low .whole⟩ (fun i σ H' _ z => SqL.of (z.1 _ _ el)) (fun i v T' σ H' hv z hT => ?_) (fun σ H' z => ?_)
  · obtain ⟨sm, p, o1, o2, rfl, e1, hne, hl, hf, pp⟩ := z
    rw [List.getElem?_map] at hv
    obtain ⟨u, hu1, rfl⟩ := Option.map_eq_some_iff.mp hv
    have hi : i < ws.length := (List.getElem?_eq_some_iff.mp hu1).1
    rw [drop_at hu1] at hf
    have sT := same_new hT (.tup [.int i, V.str u])
    have e1T := sT _ _ e1
    refine ⟨T', _, rfl, SqT.of upd_same, rfl, _, _, rfl, _, _, rfl, rfl, ?_⟩
    have so : ∀ H3, SB (.ref l1) (upd H' T' (.tup [.int i, V.str u])) H3 → Same H H3 := fun H3 sb b o hb => sb _ _ (sT _ _ (sm _ _ hb)) (fun z => by cases z; rw [h1] at hb; cases hb)
    have ef : faultP p (u :: ws.drop (i + 1)) i = (match takeP p u with | some p' => faultP p' (ws.drop (i + 1)) (i + 1) | none => some i) := rfl
    rw [ef] at hf
    refine ⟨_, rfl, _, rfl, l1, p, u, rfl, e1T, hne, by omega, fun H3 p' sb3 tk e3 => ⟨_, rfl, iteF ?_⟩, fun H3 sb3 tk => ⟨_, rfl, iteT ⟨_, rfl, ?_⟩⟩⟩
    · rw [tk] at hf
      obtain ⟨pp', _⟩ := (pile_take pp u).1 p' tk
      have ne' : p' ≠ [] := fun z => by
        subst z
        cases pp' with
        | low h => cases h
      refine ⟨so _ sb3, p', _, _, rfl, e3, ne', ?_, hf, pp'⟩
      have := take_len tk
      omega
    · rw [tk] at hf
      have z := q _ (so _ sb3)
      rw [e0, ← hf] at z
      exact z
  · obtain ⟨sm, p, o1, o2, rfl, e1, hne, hl, hf, pp⟩ := z
    rw [List.length_map, List.drop_length] at hf
    have ef : faultP p [] ws.length = if p = [.fin] then none else some ws.length := rfl
    rw [ef] at hf
    refine ⟨_, rfl, (by show 1 ≤ sizeLine; decide), fun t ht => ?_⟩
    have st := same_new ht (.lst [V.str "end"])
    rw [plV_strs] at e1
    refine ⟨.list ((p.reverse.map Pl.str).map PyData.str), .list (([("end" : Str)]).map PyData.str), .inr ⟨_, l1, _, rfl, rfl, SqL.of (st _ _ e1), strs_dat _⟩, .inr ⟨_, t, _, rfl, rfl, SqL.of upd_same, strs_dat [("end" : Str)]⟩, strs_sh (pl_ok p), by decide +kernel, _, rfl, ?_⟩
    rw [pile_eqv]
    have z := q _ (sm.trans st)
    rw [e0, ← hf] at z
    by_cases h : p = [.fin]
    · rw [decide_eq_true h]
      rw [if_pos h] at z
      exact iteT z
    · rw [decide_eq_false h]
      rw [if_neg h] at z
      refine iteF ⟨_, rfl, _, _, rfl, .inl ⟨_, SqL.of (st _ _ (sm _ _ el)), rfl⟩, ?_⟩
      show Q (.int (((ws.map V.str).length : Nat) : Int)) _
      rw [List.length_map]
      exact z
end
end Mine




set_option Elab.async false
set_option linter.all false
set_option maxRecDepth 100000
set_option maxHeartbeats 4000000
namespace L2
open PySem PySem.Spec PyProof.Rows
theorem op_notIn_seqK {X : Cx} {K : PySem.W.Frag} (e : X.K = K) : OpR X (compareOp .NotIn) (rIn K true) := e ▸ op_notIn_seq
end L2
namespace Mine
open PySem L2
def smallV : V → Bool
  | .str x => small x
  | _ => false
theorem filt_small : ∀ ws : List Str, ((ws.map V.str).filter smallV).length = ws.countP small
  | [] => rfl
  | x :: ws => by
    rw [List.map_cons, List.countP_cons]
    by_cases h : small x = true
    · rw [List.filter_cons_of_pos (show smallV (.str x) = true from h), List.length_cons, filt_small ws, if_pos h]
    · rw [List.filter_cons_of_neg (show ¬ smallV (.str x) = true from h), filt_small ws, if_neg h]
      rfl
def spMany : Sp := fun vs H Q _ => ∃ (l : Addr) (ws : List Str), vs = [.ref l] ∧ H l = some (.lst (ws.map V.str)) ∧ ws.length ≤ 1000 ∧ ∀ H', Same H H' → Q (.int ((ws.countP small : Nat) : Int)) H'
section
variable {P : Program} {w : World} {K : PySem.W.Frag} {mg : Str → Option Value} {base : Heap} {c : CCs}
theorem sc_many : FnScope ["_law_words"] ["_law_words"] (defScope s_l_many) := ⟨rfl, rfl, rfl, by decide +kernel, rfl, by decide +kernel, by decide +kernel⟩
theorem ok_many (T : TopDef K mg "_law_many" s_l_many) (Z_len : mg "len" = none) : Def P w K mg base 1 "_law_many" ["_law_words"] spMany := by
  refine def_of T sc_many (fun _ _ _ _ _ _ us hl => match us, hl with | [_], _ => rfl) (fun vs H Q E h => ?_) (fun f cdv A outer s H vs Q E hr h => ?_)
  · obtain ⟨l, ws, rfl, _⟩ := h
    rfl
  obtain ⟨l, ws, rfl, el, hz, q⟩ := h
  have nd := sc_many.nd
  refine ⟨_, (pss_one (ps_ret (pe_callB call_len rfl Z_len (by decide +kernel) (pa_cons (pe_compF rfl (pi_list (pv 0)) rfl (by decide +kernel) (by decide +kernel) rfl (show ∀ p ∈ Scope.names _, p.2 = NameKind.free → List.lookup p.1 (defScope s_l_many).names = some .cell ∨ List.lookup p.1 (defScope s_l_many).names = some .free by decide +kernel) fa_nil (show (["_law_word_here"] : List Str).Nodup by decide +kernel) (fun _ _ _ _ => (pif_one (pt_cmpR (op_notIn_seqK (K := K) rfl) (pv 0) (pe_tup (pa_cons pe_str (pa_cons pe_str (pa_cons pe_str (pa_cons pe_str (pa_cons pe_str (pa_cons pe_str (pa_cons pe_str pa_nil)))))))) rfl))) (fun _ _ _ _ => (pv 0))) pa_nil)))), ?_⟩
  dsimp only [tRet, tOp, tC, tCB, tCons, tNil]
  refine comp_filt (K := K) (xs := ws.map V.str) smallV id (fun l' H' => l' = l ∧ H' = H) (fun R h => ⟨_, rfl, l, rfl, ⟨_, SqL.of el⟩, h l H ⟨rfl, rfl⟩⟩) (fun l' H' z => by obtain ⟨rfl, rfl⟩ := z; exact ⟨el, fun _ _ z => z⟩) (by rw [List.length_map]; exact hz) (fun i v H' N hv sm hN => ?_) (fun i v H' N hv hp sm hN => ?_) (fun D H' sm hD e => ?_)
  · rw [List.getElem?_map] at hv
    obtain ⟨x, _, rfl⟩ := Option.map_eq_some_iff.mp hv
    refine ⟨_, rfl, (by show 7 ≤ sizeLine; decide), fun t ht => ⟨t, _, rfl, .inr (SqT.of upd_same), rfl, rfl, _, rfl, ?_⟩⟩
    have e := in_brackets x
    show N (if true = true then !inV (.str x) (bracketWords.map V.str) else inV (.str x) (bracketWords.map V.str)) _
    rw [if_pos rfl, e, Bool.not_not]
    exact hN _ (same_new ht _)
  · exact ⟨_, rfl, hN _ (fun _ _ z => z)⟩
  · rw [List.map_id] at e
    refine ⟨_, _, rfl, .inl ⟨_, SqL.of e, rfl⟩, ?_⟩
    show Q (.int ((((ws.map V.str).filter smallV).length : Nat) : Int)) H'
    rw [filt_small]
    exact q H' sm
end
end Mine




set_option Elab.async false
set_option linter.all false
set_option maxRecDepth 100000
set_option maxHeartbeats 4000000
namespace Mine
open PySem L2
def spLeafT (c : CCs) : Sp := fun vs H Q _ => ∃ (g : Tr), vs = [.str g.word] ∧ g.kids = [] ∧ ∀ x H', Same H H' → Ob c H' x g → Q (.ref x) H'
def spFoldT (c : CCs) : Sp := fun vs H Q _ => ∃ (u : W5) (b d : Addr) (x y : Tr), vs = [.str u.str, .ref b, .ref d] ∧ Ob c H b x ∧ Ob c H d y ∧ ∀ e H', Same H H' → Ob c H' e (.fold u x y) → Q (.ref e) H'
section
variable {P : Program} {w : World} {K : PySem.W.Frag} {mg : Str → Option Value} {base : Heap} {c : CCs}
theorem sc_leafBy : FnScope ["word"] ["word"] (defScope s_leaf_by) := ⟨rfl, rfl, rfl, by decide +kernel, rfl, by decide +kernel, by decide +kernel⟩
theorem ok_leafBy (T : TopDef K mg "leaf_by" s_leaf_by) (N_never : Mk0 K c.ne) (M_never : mg "Never" = some (.ref c.ne)) (N_always : Mk0 K c.al) (M_always : mg "Always" = some (.ref c.al)) (K_letter : MkOk P w K mg base "Letter" c.le 1 ["self", "name"] (spInit1 c.le fName)) : Def P w K mg base 3 "leaf_by" ["word"] (spLeafT c) := by
  refine def_of T sc_leafBy (fun _ _ _ _ _ _ us hl => match us, hl with | [_], _ => rfl) (fun vs H Q E h => ?_) (fun f cdv A outer s H vs Q E hr h => ?_)
  · obtain ⟨g, rfl, _⟩ := h
    rfl
  obtain ⟨g, rfl, hg, q⟩ := h
  have nd := sc_leafBy.nd
  refine ⟨_, (pss_cons (ps_if (pt_cmpR op_eq (pv 0) pe_str (nomark _)) (pss_one (ps_ret (pe_makeN N_never rfl M_never))) pss_nil)
    (pss_cons (ps_if (pt_cmpR op_eq (pv 0) pe_str (nomark _)) (pss_one (ps_ret (pe_makeN N_always rfl M_always))) pss_nil)
    (pss_one (ps_ret (pe_mk K_letter (hr.mono (by omega)) rfl (pa_cons (pv 0) pa_nil)))))), ?_⟩
  cases g with
  | no i => cases hg
  | fold u i j => cases hg
  | never =>
    refine ⟨_, rfl, rfl, _, rfl, ite_yes rfl (fun z dz h1 h2 ne => ?_)⟩
    exact q z _ (same_made0 (C := c.ne) h1 h2) (.never upd_same)
  | always =>
    refine ⟨_, rfl, rfl, _, rfl, ite_no (by decide +kernel) ?_⟩
    refine ⟨_, rfl, rfl, _, rfl, ite_yes rfl (fun z dz h1 h2 ne => ?_)⟩
    exact q z _ (same_made0 (C := c.al) h1 h2) (.always upd_same)
  | lp =>
    refine ⟨_, rfl, rfl, _, rfl, ite_no (by decide +kernel) ?_⟩
    refine ⟨_, rfl, rfl, _, rfl, ite_no (by decide +kernel) ?_⟩
    refine ⟨_, rfl, fun z dz h1 h2 ne => ⟨z, dz, _, rfl, upd_same, rfl, ?_⟩⟩
    exact q z _ (same_made (C := c.le) (fs := fName (.str "p")) h1 h2 ne) (.lp upd_same)
  | lq =>
    refine ⟨_, rfl, rfl, _, rfl, ite_no (by decide +kernel) ?_⟩
    refine ⟨_, rfl, rfl, _, rfl, ite_no (by decide +kernel) ?_⟩
    refine ⟨_, rfl, fun z dz h1 h2 ne => ⟨z, dz, _, rfl, upd_same, rfl, ?_⟩⟩
    exact q z _ (same_made (C := c.le) (fs := fName (.str "q")) h1 h2 ne) (.lq upd_same)
theorem sc_foldBy : FnScope ["word", "one", "other"] ["word", "one", "other"] (defScope s_fold_by) := ⟨rfl, rfl, rfl, by decide +kernel, rfl, by decide +kernel, by decide +kernel⟩
theorem ok_foldBy (T : TopDef K mg "fold_by" s_fold_by) (K_fold : ∀ u : W5, MkOk P w K mg base u.cls (c.fold u) 1 ["self", "one", "other"] (spInit2 (c.fold u))) : Def P w K mg base 3 "fold_by" ["word", "one", "other"] (spFoldT c) := by
  refine def_of T sc_foldBy (fun _ _ _ _ _ _ us hl => match us, hl with | [_, _, _], _ => rfl) (fun vs H Q E h => ?_) (fun f cdv A outer s H vs Q E hr h => ?_)
  · obtain ⟨u, b, d, x, y, rfl, _⟩ := h
    rfl
  obtain ⟨u, b, d, x, y, rfl, ob, od, q⟩ := h
  have nd := sc_foldBy.nd
  refine ⟨_, (pss_cons (ps_if (pt_cmpR op_eq (pv 0) pe_str (nomark _)) (pss_one (ps_ret (pe_mk (K_fold .more) (hr.mono (by omega)) rfl (pa_cons (pv 1) (pa_cons (pv 2) pa_nil))))) pss_nil)
    (pss_cons (ps_if (pt_cmpR op_eq (pv 0) pe_str (nomark _)) (pss_one (ps_ret (pe_mk (K_fold .less) (hr.mono (by omega)) rfl (pa_cons (pv 1) (pa_cons (pv 2) pa_nil))))) pss_nil)
    (pss_cons (ps_if (pt_cmpR op_eq (pv 0) pe_str (nomark _)) (pss_one (ps_ret (pe_mk (K_fold .greater) (hr.mono (by omega)) rfl (pa_cons (pv 1) (pa_cons (pv 2) pa_nil))))) pss_nil)
    (pss_cons (ps_if (pt_cmpR op_eq (pv 0) pe_str (nomark _)) (pss_one (ps_ret (pe_mk (K_fold .lesser) (hr.mono (by omega)) rfl (pa_cons (pv 1) (pa_cons (pv 2) pa_nil))))) pss_nil)
    (pss_one (ps_ret (pe_mk (K_fold .leads) (hr.mono (by omega)) rfl (pa_cons (pv 1) (pa_cons (pv 2) pa_nil))))))))), ?_⟩
  have fin : ∀ (z dz : Addr), H z = none → H dz = none → dz ≠ z → Q (.ref z) (upd (upd (upd H dz (.own z)) z (.ins (c.fold u) dz [])) z (.ins (c.fold u) dz (fTwo (.ref b) (.ref d)))) := fun z dz h1 h2 ne => made_fold (Q := Q) h1 h2 ne ob od q
  cases u
  · refine ⟨_, rfl, rfl, _, rfl, ite_yes rfl ?_⟩
    exact ⟨_, rfl, _, rfl, fun z dz h1 h2 ne => ⟨z, dz, _, _, rfl, upd_same, rfl, fin z dz h1 h2 ne⟩⟩
  · refine ⟨_, rfl, rfl, _, rfl, ite_no (by decide +kernel) ⟨_, rfl, rfl, _, rfl, ite_yes rfl ?_⟩⟩
    exact ⟨_, rfl, _, rfl, fun z dz h1 h2 ne => ⟨z, dz, _, _, rfl, upd_same, rfl, fin z dz h1 h2 ne⟩⟩
  · refine ⟨_, rfl, rfl, _, rfl, ite_no (by decide +kernel) ⟨_, rfl, rfl, _, rfl, ite_no (by decide +kernel) ⟨_, rfl, rfl, _, rfl, ite_yes rfl ?_⟩⟩⟩
    exact ⟨_, rfl, _, rfl, fun z dz h1 h2 ne => ⟨z, dz, _, _, rfl, upd_same, rfl, fin z dz h1 h2 ne⟩⟩
  · refine ⟨_, rfl, rfl, _, rfl, ite_no (by decide +kernel) ⟨_, rfl, rfl, _, rfl, ite_no (by decide +kernel) ⟨_, rfl, rfl, _, rfl, ite_no (by decide +kernel) ⟨_, rfl, rfl, _, rfl, ite_yes rfl ?_⟩⟩⟩⟩
    exact ⟨_, rfl, _, rfl, fun z dz h1 h2 ne => ⟨z, dz, _, _, rfl, upd_same, rfl, fin z dz h1 h2 ne⟩⟩
  · refine ⟨_, rfl, rfl, _, rfl, ite_no (by decide +kernel) ⟨_, rfl, rfl, _, rfl, ite_no (by decide +kernel) ⟨_, rfl, rfl, _, rfl, ite_no (by decide +kernel) ⟨_, rfl, rfl, _, rfl, ite_no (by decide +kernel) ?_⟩⟩⟩⟩
    exact ⟨_, rfl, _, rfl, fun z dz h1 h2 ne => ⟨z, dz, _, _, rfl, upd_same, rfl, fin z dz h1 h2 ne⟩⟩
end
end Mine

namespace Mine
open PySem L2
abbrev mwN : List Str := ["words", "made", "fold_words", "word", "one", "other"]
theorem tree_word_ne {t : Tr} (h : t.kids = []) : t.word ≠ "(" ∧ t.word ≠ "not" ∧ takes t.word = some 0 ∧ t.word ≠ ")" := by
  cases t with
  | no t => cases h
  | fold u a b => cases h
  | _ => exact ⟨by decide +kernel, by decide +kernel, by decide +kernel, by decide +kernel⟩
theorem takV_of {x : Str} {n : Int} (h : takes x = some n) : takV x = .int n := by unfold takV; rw [h]
theorem takV_cl : takV ")" = .non := by unfold takV; rw [show takes ")" = none by decide +kernel]
def fStr (F : List W5) : List V := F.reverse.map fun u => V.str u.str
theorem fStr_cons (u : W5) (F : List W5) : fStr (u :: F) = fStr F ++ [V.str u.str] := by unfold fStr; rw [List.reverse_cons, List.map_append]; rfl
section
variable {P : Program} {w : World} {K : PySem.W.Frag} {mg : Str → Option Value} {base : Heap} {c : CCs}
theorem sc_madeW : FnScope mwN ["words"] (defScope s_made_of_words) := ⟨rfl, rfl, rfl, by decide +kernel, rfl, by decide +kernel, by decide +kernel⟩
theorem ok_madeW (T : TopDef K mg "made_of_words" s_made_of_words) (Z_reversed : mg "reversed" = none) (D_how_many_it_takes : Def P w K mg base 1 "how_many_it_takes" ["word"] spHowG) (D_leaf_by : Def P w K mg base 3 "leaf_by" ["word"] (spLeafT c)) (D_fold_by : Def P w K mg base 3 "fold_by" ["word", "one", "other"] (spFoldT c))
    (K_not : MkOk P w K mg base "Not" c.no 1 ["self", "part"] (spInit1 c.no fPart)) : Def P w K mg base 4 "made_of_words" ["words"] (spMadeW c) := by
  refine def_of T sc_madeW (fun _ _ _ _ _ _ us hl => match us, hl with | [_], _ => rfl) (fun vs H Q E h => ?_) (fun f cdv A outer s H vs Q E hr h => ?_)
  · obtain ⟨l, t, rfl, _⟩ := h
    rfl
  obtain ⟨l, t, rfl, el, hz, q⟩ := h
  have nd := sc_madeW.nd
  refine ⟨_, (pss_cons (ps_set (i := 1) nd rfl (Or.inl rfl) (pe_lst pa_nil))
    (pss_cons (ps_set (i := 2) nd rfl (Or.inl rfl) (pe_lst pa_nil))
    (pss_cons (ps_for PassesOwn.never rfl (pi_rev rfl Z_reversed (pv 0)) (pg_name (i := 3) nd rfl (Or.inl rfl)) (pss_one (ps_if (pt_cmpR op_eq (pv 3) pe_str (nomark _)) (pss_cons (ps_set (i := 4) nd rfl (Or.inl rfl) (pe_bm0 PySem.F.plainAttrs_list PySem.F.slot_list_pop PySem.F.type_list_pop mt_pop (pv 1)))
    (pss_cons (ps_set (i := 5) nd rfl (Or.inl rfl) (pe_bm0 PySem.F.plainAttrs_list PySem.F.slot_list_pop PySem.F.type_list_pop mt_pop (pv 1)))
    (pss_one (ps_expr (pe_bm PySem.F.plainAttrs_list PySem.F.slot_list_append PySem.F.type_list_append mt_append (pv 1) (pa_cons (pe_def D_fold_by (hr.mono (by omega)) rfl (pa_cons (pe_bm0 PySem.F.plainAttrs_list PySem.F.slot_list_pop PySem.F.type_list_pop mt_pop (pv 2)) (pa_cons (pv 4) (pa_cons (pv 5) pa_nil)))) pa_nil)))))) (pss_one (ps_if (pt_cmpR op_eq (pv 3) pe_str (nomark _)) (pss_one (ps_expr (pe_bm PySem.F.plainAttrs_list PySem.F.slot_list_append PySem.F.type_list_append mt_append (pv 1) (pa_cons (pe_mk K_not (hr.mono (by omega)) rfl (pa_cons (pe_bm0 PySem.F.plainAttrs_list PySem.F.slot_list_pop PySem.F.type_list_pop mt_pop (pv 1)) pa_nil)) pa_nil)))) (pss_one (ps_if (pt_cmpR op_eq (pe_def D_how_many_it_takes (hr.mono (by omega)) rfl (pa_cons (pv 3) pa_nil)) pe_int (nomark _)) (pss_one (ps_expr (pe_bm PySem.F.plainAttrs_list PySem.F.slot_list_append PySem.F.type_list_append mt_append (pv 2) (pa_cons (pv 3) pa_nil)))) (pss_one (ps_if (pt_cmpR op_ne (pv 3) pe_str (nomark _)) (pss_one (ps_expr (pe_bm PySem.F.plainAttrs_list PySem.F.slot_list_append PySem.F.type_list_append mt_append (pv 1) (pa_cons (pe_def D_leaf_by (hr.mono (by omega)) rfl (pa_cons (pv 3) pa_nil)) pa_nil)))) pss_nil)))))))))
    (pss_one (ps_ret (pe_bm0 PySem.F.plainAttrs_list PySem.F.slot_list_pop PySem.F.type_list_pop mt_pop (pv 1))))))), ?_⟩
  refine ⟨(by show 0 ≤ sizeLine; decide), fun m hm => ⟨(by show 0 ≤ sizeLine; decide), fun w2 hw' => ?_⟩⟩
  have hw : H w2 = none := upd_none hw'
  have nmw : m ≠ w2 := fun e => by subst e; rw [upd_same] at hw'; cases hw'
  have s0 : Same H (upd (upd H m (.lst [])) w2 (.lst [])) := fun b o e => by rw [upd_ne (ne_of_none e hw), upd_ne (ne_of_none e hm)]; exact e
  refine ⟨_, rfl, l, _, rfl, SqL.of (s0 _ _ el), ?_⟩
  refine for_rev (xs := t.words.map V.str) (fun i σ H' => Same H H' ∧ ∃ (M : List Tr) (F : List W5) (ms : List V) (o1 o2 o3 : Option V), σ = [some (.ref l), some (.ref m), some (.ref w2), o1, o2, o3] ∧ H' m = some (.lst ms.reverse) ∧ All2 (ObV c H') ms M ∧ H' w2 = some (.lst (fStr F)) ∧ M.length ≤ i ∧ F.length ≤ i ∧ MkR (t.words.reverse.drop i) M F [t] [])
    ⟨s0, [], [], [], _, _, _, rfl, by rw [upd_ne nmw, upd_same]; rfl, .nil, upd_same, Nat.le_refl _, Nat.le_refl _, by rw [List.drop_zero]; exact mk_tree t [] []⟩ (fun i σ H' _ z => SqL.of (z.1 _ _ el)) (fun i v σ H' hv z => ?_) (fun σ H' z => ?_)
  · obtain ⟨sm, M, F, ms, o1, o2, o3, rfl, em, am, ew, lM, lF, mk⟩ := z
    rw [← List.map_reverse, List.getElem?_map] at hv
    obtain ⟨u, hu1, rfl⟩ := Option.map_eq_some_iff.mp hv
    have hi : i < t.words.length := by have := (List.getElem?_eq_some_iff.mp hu1).1; rwa [List.length_reverse] at this
    rw [drop_at hu1] at mk
    obtain ⟨M1, F1, st, mk1⟩ := mk.head
    have lms := am.len
    have big : ∀ k : Nat, k ≤ 2000 → k < sizeLine := fun k hk => Nat.lt_of_le_of_lt hk (by decide)
    cases st with
    | op a b u M F =>
      cases am with
      | @cons v1 _ ms _ h1 am =>
        obtain ⟨x1, rfl, ob1⟩ := h1
        cases am with
        | @cons v2 _ ms _ h2 am =>
          obtain ⟨x2, rfl, ob2⟩ := h2
          have em1 : H' m = some (.lst (ms.reverse ++ [V.ref x2] ++ [V.ref x1])) := by rw [em, List.reverse_cons, List.reverse_cons]
          refine ⟨_, rfl, rfl, _, rfl, ite_yes rfl ?_⟩
          refine ⟨_, rfl, .inl ⟨rfl, _, SqL.of em1⟩, m, _, _, rfl, rfl, em1, snoc_last _ _, ?_⟩
          rw [List.dropLast_concat]
          refine ⟨_, rfl, .inl ⟨rfl, _, SqL.of upd_same⟩, m, _, _, rfl, rfl, upd_same, snoc_last _ _, ?_⟩
          rw [List.dropLast_concat, upd_upd]
          have ew1 : upd H' m (.lst ms.reverse) w2 = some (.lst (fStr F1 ++ [V.str u.str])) := by rw [upd_ne nmw.symm, ew, fStr_cons]
          refine ⟨_, rfl, .inl ⟨rfl, _, SqL.of upd_same⟩, _, rfl, .inl ⟨rfl, _, SqL.of ew1⟩, w2, _, _, rfl, rfl, ew1, snoc_last _ _, ?_⟩
          rw [List.dropLast_concat]
          have k1 : Kp H' (upd (upd H' m (.lst ms.reverse)) w2 (.lst (fStr F1))) := (kp_mut em rfl).trans (kp_mut ew1 rfl)
          refine ⟨_, rfl, _, rfl, u, x1, x2, a, b, rfl, ob1.to k1, ob2.to k1, fun e H2 s2 oe => ?_⟩
          have em2 : H2 m = some (.lst ms.reverse) := s2 _ _ (by rw [upd_ne nmw, upd_same])
          have ew2 : H2 w2 = some (.lst (fStr F1)) := s2 _ _ upd_same
          have k2 : Kp H2 (upd H2 m (.lst (ms.reverse ++ [V.ref e]))) := kp_mut em2 rfl
          have k3 := (k1.trans (Kp.of s2)).trans k2
          have l1 := am.len
          refine ⟨m, _, _, rfl, rfl, em2, big _ (by rw [List.length_reverse, l1]; simp at lM; omega), ?_⟩
          refine ⟨fun b o hb => ?_, .fold u a b :: M, F1, V.ref e :: ms, _, _, _, rfl, by rw [upd_same, List.reverse_cons], .cons ⟨e, rfl, oe.to k2⟩ (am.imp (ObV.to k3)), by rw [upd_ne nmw.symm]; exact ew2, by simp at lM ⊢; omega, by simp at lF; omega, mk1⟩
          rw [upd_ne (ne_of_none hb hm)]
          exact s2 _ _ (by rw [upd_ne (ne_of_none hb hw), upd_ne (ne_of_none hb hm)]; exact sm _ _ hb)
    | no a M F =>
      cases am with
      | @cons v1 _ ms _ h1 am =>
        obtain ⟨x1, rfl, ob1⟩ := h1
        have em1 : H' m = some (.lst (ms.reverse ++ [V.ref x1])) := by rw [em, List.reverse_cons]
        refine ⟨_, rfl, rfl, _, rfl, ite_no (by decide +kernel) ⟨_, rfl, rfl, _, rfl, ite_yes rfl ?_⟩⟩
        refine ⟨_, rfl, .inl ⟨rfl, _, SqL.of em1⟩, _, rfl, .inl ⟨rfl, _, SqL.of em1⟩, m, _, _, rfl, rfl, em1, snoc_last _ _, ?_⟩
        rw [List.dropLast_concat]
        intro z dz hz1 hdz ne
        refine ⟨z, dz, _, rfl, upd_same, rfl, ?_⟩
        have s2 := same_made (C := c.no) (fs := fPart (V.ref x1)) hz1 hdz ne
        have em2 := s2 _ _ (upd_same (H := H') (a := m) (o := .lst ms.reverse))
        have l1 := am.len
        have k1 : Kp H' _ := (kp_mut (u := .lst ms.reverse) em1 rfl).trans (Kp.of s2)
        have nzm : z ≠ m := fun q => by subst q; rw [upd_same] at hz1; cases hz1
        refine ⟨m, _, _, rfl, rfl, em2, big _ (by rw [List.length_reverse, l1]; simp at lM; omega), ?_⟩
        have k2 := k1.trans (kp_mut (u := .lst (ms.reverse ++ [V.ref z])) em2 rfl)
        refine ⟨fun b o hb => ?_, .no a :: M, F, V.ref z :: ms, _, _, _, rfl, by rw [upd_same, List.reverse_cons], .cons ⟨z, rfl, .no (dx := dz) (by rw [upd_ne nzm, upd_same]) (ob1.to k2)⟩ (am.imp (ObV.to k2)), by rw [upd_ne nmw.symm]; exact s2 _ _ (by rw [upd_ne nmw.symm]; exact ew), by simp at lM ⊢; omega, by omega, mk1⟩
        rw [upd_ne (ne_of_none hb hm)]
        exact s2 _ _ (by rw [upd_ne (ne_of_none hb hm)]; exact sm _ _ hb)
    | fw u =>
      refine ⟨_, rfl, rfl, _, rfl, ite_no u.nop ⟨_, rfl, rfl, _, rfl, ite_no u.nno ⟨_, rfl, u.str, rfl, takV_scal _, _, rfl, ?_⟩⟩⟩
      rw [takV_two, decide_eq_true u.takes]
      refine iteT ⟨_, rfl, .inl ⟨rfl, _, SqL.of ew⟩, _, rfl, w2, _, _, rfl, rfl, ew, big _ (by unfold fStr; rw [List.length_map, List.length_reverse]; omega), ?_⟩
      have k1 := kp_mut (u := .lst (fStr F ++ [V.str u.str])) ew rfl
      exact ⟨fun b o hb => by rw [upd_ne (ne_of_none hb hw)]; exact sm _ _ hb, M, u :: F, ms, _, _, _, rfl, by rw [upd_ne nmw]; exact em, am.imp (ObV.to k1), by rw [upd_same, fStr_cons], by omega, by simp; omega, mk1⟩
    | cl =>
      refine ⟨_, rfl, rfl, _, rfl, ite_no (by decide +kernel) ⟨_, rfl, rfl, _, rfl, ite_no (by decide +kernel) ⟨_, rfl, (")" : Str), rfl, takV_scal _, _, rfl, ?_⟩⟩⟩
      rw [takV_cl]
      refine iteF ⟨_, rfl, rfl, _, rfl, ite_ny rfl ?_⟩
      exact ⟨sm, M, F, ms, _, _, _, rfl, em, am, ew, by omega, by omega, mk1⟩
    | leaf tl hk =>
      obtain ⟨t1, t2, t3, t4⟩ := tree_word_ne hk
      refine ⟨_, rfl, rfl, _, rfl, ite_no t1 ⟨_, rfl, rfl, _, rfl, ite_no t2 ⟨_, rfl, tl.word, rfl, takV_scal _, _, rfl, ?_⟩⟩⟩
      rw [takV_of t3]
      refine iteF ⟨_, rfl, rfl, _, rfl, ite_nn t4 ?_⟩
      refine ⟨_, rfl, .inl ⟨rfl, _, SqL.of em⟩, _, rfl, tl, rfl, hk, fun x H2 s2 ox => ?_⟩
      have em2 := s2 _ _ em
      refine ⟨m, _, _, rfl, rfl, em2, big _ (by rw [List.length_reverse, lms]; omega), ?_⟩
      have k2 := kp_mut (u := .lst (ms.reverse ++ [V.ref x])) em2 rfl
      have k3 := (Kp.of s2).trans k2
      exact ⟨fun b o hb => by rw [upd_ne (ne_of_none hb hm)]; exact s2 _ _ (sm _ _ hb), tl :: M, F, V.ref x :: ms, _, _, _, rfl, by rw [upd_same, List.reverse_cons], .cons ⟨x, rfl, ox.to k2⟩ (am.imp (ObV.to k3)), by rw [upd_ne nmw.symm]; exact s2 _ _ ew, by simp; omega, by omega, mk1⟩
  · obtain ⟨sm, M, F, ms, o1, o2, o3, rfl, em, am, ew, lM, lF, mk⟩ := z
    have e : t.words.reverse.drop (t.words.map V.str).length = [] := List.drop_of_length_le (by rw [List.length_map, List.length_reverse]; exact Nat.le_refl _)
    rw [e] at mk
    cases mk
    cases am with
    | cons h1 am =>
      cases am
      obtain ⟨x, rfl, ox⟩ := h1
      have em1 : H' m = some (.lst ([] ++ [V.ref x])) := em
      refine ⟨_, rfl, .inl ⟨rfl, _, SqL.of em1⟩, m, _, _, rfl, rfl, em1, snoc_last _ _, ?_⟩
      rw [List.dropLast_concat]
      exact q x _ (fun b o hb => by rw [upd_ne (ne_of_none hb hm)]; exact sm _ _ hb) (ox.to (kp_mut em1 rfl))
end
end Mine




set_option Elab.async false
set_option linter.all false
set_option maxRecDepth 100000
set_option maxHeartbeats 4000000
namespace Mine
open PySem L2
def spReadX (c : CCs) (CT CM : Addr) : Sp := fun vs H Q E => ∃ (x : Str), vs = [.str x] ∧ x.length ≤ 1000000 ∧ (Txt.split x " ").length ≤ 1000 ∧
  (∀ k, faultF ["saying"] (Txt.split x " ") 0 = some k → ∀ (H' : Hp) (d : Addr), Same H H' → H' d = none → E (.ref CT) (some d) (upd H' d (.ext (XDict d [("at", .int (k : Int))])))) ∧
  (∀ t : Tr, Txt.split x " " = t.words → (24 < t.size → ∀ dc H', Same H H' → E (.ref CM) dc H') ∧ (t.size ≤ 24 → ∀ a H', Same H H' → Ob c H' a t → Q (.ref a) H'))
theorem size_words : ∀ t : Tr, t.size ≤ t.words.length
  | .no t => by have := size_words t; simp only [Tr.words, Tr.size, List.length_cons]; omega
  | .fold u a b => by have := size_words a; have := size_words b; simp only [Tr.words, Tr.size, List.length_cons, List.length_append, List.length_nil]; omega
  | .never => by decide
  | .always => by decide
  | .lp => by decide
  | .lq => by decide
section
variable {P : Program} {w : World} {K : PySem.W.Frag} {mg : Str → Option Value} {base : Heap} {c : CCs}
theorem sc_readX : FnScope ["text", "words", "at", "saying"] ["text"] (defScope s_read) := ⟨rfl, rfl, rfl, by decide +kernel, rfl, by decide +kernel, by decide +kernel⟩
theorem ok_readX {CT CM : Addr} (T : TopDef K mg "read" s_read) {tm : Tok} (M_MOST_PARTS : mg "MOST_PARTS" = some (.int 24 tm)) (X_NoText : XC1 P w K mg base "NoText" CT "at") (M_TooMany : mg "TooMany" = some (.ref CM)) (X_TooMany : PySem.W.excIn K CM bmV "ValueError.__new__" = true) (D_fault_in : Def P w K mg base 3 "fault_in" ["words"] spFaultIn) (D_made_of_words : Def P w K mg base 4 "made_of_words" ["words"] (spMadeW c)) (GP : ∀ t, MethOk P w K mg base (c.of t) "parts" 3 ["self"] (spParts c t)) : DefD P w K mg base 5 "read" ["text"] (spReadX c CT CM) := by
  refine defd_of T sc_readX (fun _ _ _ _ _ _ => ar1 fun _ => rfl) (fun vs H Q E h => ?_) (fun f cdv A outer s H vs Q E hr h => ?_)
  · obtain ⟨x, rfl, _⟩ := h
    rfl
  obtain ⟨x, rfl, hx, hw, q1, q2⟩ := h
  have nd := sc_readX.nd
  refine ⟨_, (pss_cons (ps_set (i := 1) nd rfl (Or.inl rfl) (pe_bm PySem.F.plainAttrs_str PySem.F.slot_str_split PySem.F.type_str_split mt_split (pv 0) (pa_cons pe_str pa_nil)))
    (pss_cons (ps_set (i := 2) nd rfl (Or.inl rfl) (pe_def D_fault_in (hr.mono (by omega)) rfl (pa_cons (pv 1) pa_nil)))
    (pss_cons (ps_if (pt_cmpR op_notN (pv 2) pe_non (nomark _)) (pss_one (ps_raise1 X_NoText (hr.mono (by decide)) rfl (pa_cons (pv 2) pa_nil))) pss_nil)
    (pss_cons (ps_set (i := 3) nd rfl (Or.inl rfl) (pe_def D_made_of_words (hr.mono (by omega)) rfl (pa_cons (pv 1) pa_nil)))
    (pss_cons (ps_if (pt_cmpR op_gt (pe_methD0 (k := 3) (pv 3) (hr.mono (by omega))) (pe_glob (v := V.int 24) rfl M_MOST_PARTS ⟨_, rfl⟩) (nomark _)) (pss_one (ps_raiseD rfl M_TooMany X_TooMany (pa_cons pe_str pa_nil))) pss_nil)
    (pss_one (ps_ret (pv 3)))))))), ?_⟩
  refine ⟨_, rfl, rfl, x, " ", rfl, rfl, by decide +kernel, hx, fun p hp => ?_⟩
  have s1 := same_new hp (.lst ((Txt.split x " ").map V.str))
  refine ⟨_, rfl, p, Txt.split x " ", rfl, upd_same, hw, fun H2 s2 => ?_⟩
  cases hf : faultF ["saying"] (Txt.split x " ") 0 with
  | some k =>
    refine ⟨_, rfl, rfl, _, rfl, iteT ⟨_, rfl, _, rfl, fun d hd => ?_⟩⟩
    exact q1 k hf H2 d (s1.trans s2) hd
  | none =>
    obtain ⟨t, ht⟩ := text_of hf
    obtain ⟨qa, qb⟩ := q2 t ht
    rw [ht] at hw
    have sz := size_words t
    refine ⟨_, rfl, rfl, _, rfl, iteF ?_⟩
    have ep : H2 p = some (.lst (t.words.map V.str)) := by rw [← ht]; exact s2 _ _ upd_same
    refine ⟨_, rfl, p, t, rfl, ep, hw, fun a H3 s3 oa => ?_⟩
    obtain ⟨dx, fs, ea, nf⟩ := oa.cls
    refine ⟨_, rfl, a, _, _, _, _, _, rfl, ea, nf _ (by decide +kernel), GP t, a, rfl, oa, by omega, fun H4 s4 => ?_⟩
    refine ⟨_, _, rfl, rfl, _, rfl, ?_⟩
    have s04 := ((s1.trans s2).trans s3).trans s4
    by_cases hs : 24 < t.size
    · rw [decide_eq_true (show (t.size : Int) > 24 by omega)]
      exact iteT ⟨by decide, fun dc => qa hs dc H4 s04⟩
    · rw [decide_eq_false (show ¬ ((t.size : Int) > 24) by omega)]
      exact iteF ⟨_, rfl, qb (by omega) a H4 s04 (oa.to (Kp.of s4))⟩
end
end Mine




set_option Elab.async false
set_option linter.all false
set_option maxRecDepth 100000
set_option maxHeartbeats 4000000
namespace Mine
open PySem L2
structure ExcT (K : PySem.W.Frag) (mg : Str → Option Value) (CS CT CM : Addr) : Prop where
  ms : mg "SayError" = some (.ref CS)
  mt : mg "NoText" = some (.ref CT)
  mm : mg "TooMany" = some (.ref CM)
  xm : PySem.W.excIn K CM bmV "ValueError.__new__" = true
  cc : CatchCls K CS
  et : ExcCls K CT
  em : ExcCls K CM
  sut : PySem.W.mroIn K CT (.ref CS) = some true
  sum : PySem.W.mroIn K CM (.ref CS) = some true
  k1 : PySem.W.kitOne K (.ref CT) (.type "ValueError") = some true
  k2 : PySem.W.kitOne K (.ref CT) (.ref CM) = some false
  k3 : PySem.W.kitOne K (.ref CM) (.type "ValueError") = some true
  k4 : PySem.W.kitOne K (.ref CM) (.ref CT) = some false
  fl : XFld K CT
  n1 : NoAttr K CT "at"
abbrev lawN2 : List Str := ["_law_script", "_law_words", "_law_text_here", "_law_found", "_law_caught", "e", "_law_fault_here"]
theorem sc_law : FnScope lawN2 ["_law_script"] (defScope sLaw) := ⟨rfl, rfl, rfl, by decide +kernel, rfl, by decide +kernel, by decide +kernel⟩
theorem wd_sum : ∀ {ws : List Str}, Wd ws → (ws.map (·.length)).sum ≤ 8 * ws.length
  | [], _ => Nat.le_refl _
  | x :: ws, h => by
    have ih := wd_sum (ws := ws) fun y hy => h y (List.mem_cons_of_mem _ hy)
    have hx := (h x (by simp)).1
    simp only [List.map_cons, List.sum_cons, List.length_cons]
    omega
theorem join_is (ws : List Str) : Txt.join " " ws = Str.join " " ws := by
  show Builtin.Str.glued " " ws = _
  rw [StrLaws.glued_eq_join]
theorem join_len {ws : List Str} (h : Wd ws) : (Txt.join " " ws).length ≤ 9 * ws.length := by
  have h1 := wd_sum h
  have h2 : (" " : Str).length = 1 := by decide +kernel
  show (Builtin.Str.glued " " ws).length ≤ _
  rw [size_glued, h2]
  omega
theorem split_few {ws : List Str} (h : Wd ws) (hz : ws.length ≤ 999) : (Txt.split (Txt.join " " ws) " ").length ≤ 1000 := by
  rw [join_is, blank_is]
  by_cases h0 : ws = []
  · subst h0
    have e : Txt.split (Str.join ⟨#[32]⟩ []) ⟨#[32]⟩ = [Str.join ⟨#[32]⟩ []] := by decide +kernel
    rw [e]
    decide
  · rw [split_words h0 fun x hx => (h x hx).2]
    omega
theorem count_open (ws : List Str) : (ws.map V.str).countP (fun e => eqV e (.str "(")) = ws.countP (fun x : Str => decide (x = "(")) := by
  rw [List.countP_map]
  refine congrArg (fun f => List.countP f ws) (funext fun x => ?_)
  show (x == ("(" : Str)) = _
  by_cases h : x = "("
  · subst h; decide +kernel
  · rw [decide_eq_false h]; exact beq_eq_false_iff_ne.mpr h
theorem strs_flat : ∀ ws : List Str, (ws.map V.str).all flatV = true
  | [] => rfl
  | x :: ws => by rw [List.map_cons, List.all_cons, strs_flat ws]; rfl
section
variable {P : Program} {w : World} {K : PySem.W.Frag} {mg : Str → Option Value} {base : Heap} {c : CCs}
theorem ok_law {f : Addr} {fd : FuncData} {CS C_NoText C_TooMany cS : Addr} (F : Fun K "law" "law" sLaw f fd) (Z_isinstance : mg "isinstance" = none) (Z_ValueError : mg "ValueError" = none) (Z_bool : mg "bool" = none) (kb : PySem.W.kitOne K (.type "int") (.type "bool") = some false) (X : ExcT K mg CS C_NoText C_TooMany) (FX : Fx K c) (ks : ∀ t, PySem.W.kitOne K (.ref (c.of t)) (.ref cS) = some true) (M_Saying : mg "Saying" = some (.ref cS))
    (D_law_mixed : Def P w K mg base 1 "_law_mixed" ["_law_script", "_law_least"] (spMixed K)) (D_law_drawn : Def P w K mg base 31 "_law_drawn" ["_law_cells"] spDrawn) (D_read : DefD P w K mg base 5 "read" ["text"] (spReadX c C_NoText C_TooMany)) (D_law_fault : Def P w K mg base 3 "_law_fault" ["_law_words"] spFaultL) (D_law_many : Def P w K mg base 1 "_law_many" ["_law_words"] spMany) : FnOk P w K mg base CX0 40 f fd ["_law_script"] (spLaw K) := by
  have M_SayError := X.ms
  have M_NoText := X.mt
  have M_TooMany := X.mm
  have CC_SayError := X.cc
  refine F.ok sc_law (fun vs H Q E h => ?_) (fun cdv A outer s H vs Q E hr h => ?_)
  · obtain ⟨a, ns, rfl, _⟩ := h
    rfl
  obtain ⟨a, ns, rfl, S, q⟩ := h
  have nd := sc_law.nd
  have tail : ∃ t, PSs (cxOf CX0 P w K mg base lawN2 "law" (defScope sLaw) f cdv A outer s H E).nox ((defBody sLaw).drop 6) t ∧ ∀ (o0 o2 o5 o6 : Option V) (p : Addr) (ws : List Str) (vf vc : V) (H1 : Hp), H1 p = some (.lst (ws.map V.str)) → ws.length ≤ 1000 →
      ((∃ (k : Nat) (ea d : Addr), faultF ["saying"] ws 0 = some k ∧ vc = .ref ea ∧ H1 ea = some (.ext (XGot ea C_NoText (some d))) ∧ H1 d = some (.ext (XDict d [("at", .int (k : Int))]))) ∨ (∃ (t : Tr) (ea : Addr) (dc : Option Addr), ws = t.words ∧ 24 < t.size ∧ vc = .ref ea ∧ H1 ea = some (.ext (XGot ea C_TooMany dc))) ∨ (∃ (t : Tr) (b : Addr), ws = t.words ∧ t.size ≤ 24 ∧ vf = .ref b ∧ Ob c H1 b t ∧ vc = .non)) →
      t { nx := fun _ H' => Q .non H', rt := Q } [o0, some (.ref p), o2, some vf, some vc, o5, o6] H1 := by
    refine ⟨_, (pss_cons (ps_set (i := 6) nd rfl (Or.inl rfl) (pe_def D_law_fault (hr.mono (by omega)) rfl (pa_cons (pv 1) pa_nil)))
    (pss_cons (ps_if (pt_cmpR op_notN (pv 6) pe_non (nomark _)) (pss_cons (ps_if (PW.pt (pw_or (pt_not (pt_val (pe_callB call_isiG rfl Z_isinstance (by decide +kernel) (pa_cons (pv 4) (pa_cons (pe_glob (v := V.ref C_NoText) rfl M_NoText rfl) pa_nil))))) (pw_or (pt_val (pe_callB call_isiG rfl Z_isinstance (by decide +kernel) (pa_cons (pv 4) (pa_cons (pe_glob (v := V.ref C_TooMany) rfl M_TooMany rfl) pa_nil)))) (pw_or1 (pt_not (pt_val (pe_callB call_isiG rfl Z_isinstance (by decide +kernel) (pa_cons (pv 4) (pa_cons (pe_bltn (v := V.ty "ValueError") rfl Z_ValueError (by decide +kernel) rfl) pa_nil))))))))) (pss_one (ps_ret pe_bl)) pss_nil)
    (pss_one (ps_ret (pe_and (pe_cmpR op_eq (pe_fldGK (K := K) rfl (pv 4) rfl) (pv 6) (nomark _)) (pe_one (pe_not (pe_callB call_isi rfl Z_isinstance (by decide +kernel) (pa_cons (pe_fldGK (K := K) rfl (pv 4) rfl) (pa_cons (pe_bltn (v := V.ty "bool") rfl Z_bool (by decide +kernel) rfl) pa_nil))))))))) pss_nil)
    (pss_cons (ps_if (pt_cmpR op_gt (pe_op op_add (pe_def D_law_many (hr.mono (by omega)) rfl (pa_cons (pv 1) pa_nil)) (pe_bm PySem.F.plainAttrs_list PySem.F.slot_list_count PySem.F.type_list_count mt_countF (pv 1) (pa_cons pe_str pa_nil))) pe_int (nomark _)) (pss_one (ps_ret (pe_and (pe_callB call_isiG rfl Z_isinstance (by decide +kernel) (pa_cons (pv 4) (pa_cons (pe_glob (v := V.ref C_TooMany) rfl M_TooMany rfl) pa_nil))) (pe_and (pe_not (pe_callB call_isiG rfl Z_isinstance (by decide +kernel) (pa_cons (pv 4) (pa_cons (pe_glob (v := V.ref C_NoText) rfl M_NoText rfl) pa_nil)))) (pe_one (pe_callB call_isiG rfl Z_isinstance (by decide +kernel) (pa_cons (pv 4) (pa_cons (pe_bltn (v := V.ty "ValueError") rfl Z_ValueError (by decide +kernel) rfl) pa_nil)))))))) pss_nil)
    (pss_one (ps_ret (pe_and (pe_cmpR op_isN (pv 4) pe_non (nomark _)) (pe_one (pe_callB call_isi rfl Z_isinstance (by decide +kernel) (pa_cons (pv 3) (pa_cons (pe_glob (v := V.ref cS) rfl M_Saying rfl) pa_nil)))))))))), ?_⟩
    intro o0 o2 o5 o6 p ws vf vc H1 ep hz h
    refine ⟨_, rfl, p, ws, rfl, ep, hz, fun H2 s2 => ?_⟩
    have ep2 := s2 _ _ ep
    rcases h with ⟨k, ea, d, hf, rfl, he, hd⟩ | ⟨t, ea, dc, rfl, hs, rfl, he⟩ | ⟨t, b, rfl, hs, rfl, ob, rfl⟩
    · rw [hf]
      have he2 := s2 _ _ he
      have hd2 := s2 _ _ hd
      refine ⟨_, rfl, rfl, _, rfl, iteT ?_⟩
      refine ⟨_, rfl, ea, _, _, _, some d, true, rfl, (fun _ h => h), he2, X.et, kit_same, _, rfl, iteF ⟨_, rfl, ea, _, _, _, some d, false, rfl, (fun _ h => h), he2, X.et, X.k2, _, rfl, iteF ⟨_, rfl, ea, _, _, _, some d, true, rfl, (fun _ h => h), he2, X.et, X.k1, _, rfl, iteF ?_⟩⟩⟩
      refine ⟨_, rfl, ea, _, d, _, _, rfl, he2, hd2, X.fl, X.n1, rfl, _, rfl, rfl, _, rfl, ?_⟩
      rw [decide_eq_true (show V.int (k : Int) = optV (some k) from rfl)]
      refine iteT ⟨_, rfl, ea, _, d, _, _, rfl, he2, hd2, X.fl, X.n1, rfl, _, _, _, _, false, rfl, (fun _ h => h), TyOf.int _, kb, _, rfl, q _⟩
    · rw [fault_text]
      have he2 := s2 _ _ he
      refine ⟨_, rfl, rfl, _, rfl, iteF ?_⟩
      refine ⟨_, rfl, p, _, rfl, ep2, hz, fun H3 s3 => ?_⟩
      have ep3 := s3 _ _ ep2
      have he3 := s3 _ _ he2
      refine ⟨_, rfl, .inl ⟨rfl, _, SqL.of ep3⟩, p, _, _, rfl, rfl, ep3, strs_flat _, rfl, ?_⟩
      rw [count_open]
      refine ⟨_, _, rfl, rfl, _, _, rfl, rfl, _, rfl, ?_⟩
      have cp := count_parts t
      rw [decide_eq_true (show ((t.words.countP small : Nat) : Int) + ((t.words.countP (fun x : Str => decide (x = "(")) : Nat) : Int) > 24 by omega)]
      exact iteT ⟨_, rfl, ea, _, _, _, dc, true, rfl, (fun _ h => h), he3, X.em, kit_same, _, rfl, iteT ⟨_, rfl, ea, _, _, _, dc, false, rfl, (fun _ h => h), he3, X.em, X.k4, _, rfl, _, rfl, iteT ⟨_, rfl, ea, _, _, _, dc, true, rfl, (fun _ h => h), he3, X.em, X.k3, q _⟩⟩⟩
    · rw [fault_text]
      refine ⟨_, rfl, rfl, _, rfl, iteF ?_⟩
      refine ⟨_, rfl, p, _, rfl, ep2, hz, fun H3 s3 => ?_⟩
      have ep3 := s3 _ _ ep2
      refine ⟨_, rfl, .inl ⟨rfl, _, SqL.of ep3⟩, p, _, _, rfl, rfl, ep3, strs_flat _, rfl, ?_⟩
      rw [count_open]
      refine ⟨_, _, rfl, rfl, _, _, rfl, rfl, _, rfl, ?_⟩
      have cp := count_parts t
      rw [decide_eq_false (show ¬ (((t.words.countP small : Nat) : Int) + ((t.words.countP (fun x : Str => decide (x = "(")) : Nat) : Int) > 24) by omega)]
      exact iteF ⟨_, rfl, rfl, _, rfl, iteT ⟨_, rfl, _, _, _, _, true, rfl, (fun _ h => h), FX.ty ((ob.to (Kp.of s2)).to (Kp.of s3)), ks t, q _⟩⟩
  obtain ⟨t6, h6, q6⟩ := tail
  refine ⟨_, pss_cons (ps_set (i := 1) nd rfl (Or.inl rfl) (pe_def D_law_drawn (hr.mono (by omega)) rfl (pa_cons (pe_def D_law_mixed (hr.mono (by omega)) rfl (pa_cons (pv 0) (pa_cons pe_int pa_nil))) pa_nil))) (pss_cons (ps_set (i := 2) nd rfl (Or.inl rfl) (pe_bm PySem.F.plainAttrs_str PySem.F.slot_str_join PySem.F.type_str_join mt_join pe_str (pa_cons (pv 1) pa_nil))) (pss_cons (ps_set (i := 1) nd rfl (Or.inl rfl) (pe_bm PySem.F.plainAttrs_str PySem.F.slot_str_split PySem.F.type_str_split mt_split (pv 2) (pa_cons pe_str pa_nil))) (pss_cons (ps_set (i := 3) nd rfl (Or.inl rfl) pe_non) (pss_cons (ps_set (i := 4) nd rfl (Or.inl rfl) pe_non) (pss_cons (ps_tryG (i := 3) (j := 5) rfl rfl rfl rfl D_read (hr.mono (by decide)) rfl (pa_cons (pv 2) pa_nil) rfl M_SayError CC_SayError nd rfl rfl rfl rfl (fun _ => (pss_one (ps_set (i := 4) nd rfl (Or.inl rfl) (pv 5))))) h6))))), ?_⟩
  refine ⟨_, rfl, a, ns, 40, rfl, S, by decide, by decide, fun C ms H1 s1 hC e1 hc1 => ⟨C, ms, rfl, e1, hc1, fun p ws H2 ep hz wd => ?_⟩⟩
  have jl := join_len wd
  have ws8 := wd_sum wd
  have h1 : (" " : Str).length = 1 := by decide +kernel
  refine ⟨rfl, _, rfl, _, p, ws, rfl, rfl, SqL.of ep, by rw [h1]; omega, ?_⟩
  refine ⟨_, rfl, rfl, Txt.join " " ws, " ", rfl, rfl, by decide +kernel, by omega, fun p2 hp2 => ?_⟩
  have sf := split_few wd hz
  have s2 := same_new hp2 (.lst ((Txt.split (Txt.join " " ws) " ").map V.str))
  refine ⟨_, rfl, Txt.join " " ws, rfl, by omega, sf, fun k hk H3 d s3 hd => ?_, fun t ht => ⟨fun hs dc H3 s3 => ?_, fun hs b H3 s3 ob => ?_⟩⟩
  · refine ⟨C_NoText, rfl, X.sut, fun ea hea => ⟨_, rfl, ?_⟩⟩
    have u1 := same_new hd (.ext (XDict d [("at", .int (k : Int))]))
    have u2 := same_new hea (.ext (XGot ea C_NoText (some d)))
    exact q6 _ _ _ _ p2 _ _ _ _ (u2 _ _ (u1 _ _ (s3 _ _ upd_same))) sf (.inl ⟨k, ea, d, hk, rfl, upd_same, u2 _ _ upd_same⟩)
  · refine ⟨C_TooMany, rfl, X.sum, fun ea hea => ⟨_, rfl, ?_⟩⟩
    have u2 := same_new hea (.ext (XGot ea C_TooMany dc))
    exact q6 _ _ _ _ p2 _ _ _ _ (u2 _ _ (s3 _ _ upd_same)) sf (.inr (.inl ⟨t, ea, dc, ht, hs, rfl, upd_same⟩))
  · exact q6 _ _ _ _ p2 _ _ _ _ (s3 _ _ upd_same) sf (.inr (.inr ⟨t, b, ht, hs, rfl, ob, rfl⟩))
end
end Mine




set_option Elab.async false
set_option linter.all false
set_option maxRecDepth 100000
set_option maxHeartbeats 4000000
namespace Mine
open PySem L2
section
variable {P : Program} {w : World} {K : PySem.W.Frag} {mg : Str → Option Value} {base : Heap}
theorem sc_NoText_init : FnScope ["self", "at"] ["self", "at"] (defScope s_NoText_init) := ⟨rfl, rfl, rfl, by decide +kernel, rfl, by decide +kernel, by decide +kernel⟩
theorem ok_init {fI C : Addr} {fd : FuncData} (F : Fun K "__init__" "NoText.__init__" s_NoText_init fI fd) (c : XFld K C) (n1 : NoAttr K C "at") : FnOk P w K mg base CX0 1 fI fd ["self", "at"] (L2.spInit1 C "at") := by
  refine F.ok sc_NoText_init (fun vs H Q E h => ?_) (fun cdv Ar outer s H vs Q E hr h => ?_)
  · obtain ⟨a, y, rfl, _⟩ := h
    rfl
  obtain ⟨a, y, rfl, ea, q⟩ := h
  have nd := sc_NoText_init.nd
  refine ⟨_, (pss_one (ps_fldX (pv 0) (pv 1) rfl)), ?_⟩
  refine ⟨_, rfl, _, rfl, a, C, rfl, c, n1, .inl ⟨ea, fun d hd => ?_⟩⟩
  have ne : d ≠ a := fun z => by rw [z, ea] at hd; cases hd
  refine q d _ ⟨hd, ne, ?_, upd_same, fun b h1 h2 => ?_⟩
  · rw [upd_ne (Ne.symm ne), upd_same]
  · rw [upd_ne h2, upd_ne h1]
end
end Mine

namespace L2
open PySem PySem.Spec PyProof.Rows
structure FunM (K : PySem.W.Frag) (x qual : Str) (st : Stmt) (f : Addr) : Prop where
  ex : ∃ fd : FuncData, Fun K x qual st f fd
  fn : PySem.W.isFn K (.ref f) = true
theorem funM_mk {K : PySem.W.Frag} {x qual : Str} {st : Stmt} {f : Addr} {oc kV doc pm cdv ct : Value} {od an : Option Addr} {osl : Array (Option Value)} (l : K.lookup f = some ⟨oc, od, .func (PySem.W.fnOf x qual (defArgs st) (defBody st) (defScope st) .none kV doc pm an cdv ct), osl⟩)
    (c : PySem.W.codeIn K cdv qual = true) (k : PySem.W.keepIn K (.ref f) = true) (fn : PySem.W.isFn K (.ref f) = true) : FunM K x qual st f := ⟨⟨_, fun_mk l c k⟩, fn⟩
theorem FunM.meth {K : PySem.W.Frag} {x qual : Str} {st : Stmt} {f C : Addr} (e : FunM K x qual st f) (cl : Cls K C) (g : PySem.W.findIn K (.ref C) x = some (some (.ref f))) : MethF K C x qual st := by
  obtain ⟨fd, F⟩ := e.ex
  exact ⟨cl, f, fd, ⟨g, e.fn, F.kp⟩, F⟩
theorem FunM.made {K : PySem.W.Frag} {mg : Str → Option Value} {x qual : Str} {st : Stmt} {f C : Addr} (e : FunM K "__init__" qual st f) (cl : Cls K C) (g : PySem.W.findIn K (.ref C) "__init__" = some (some (.ref f))) (m : mg x = some (.ref C)) (y : PySem.W.makesIn K C = true) (z : PySem.W.keepIn K (.ref C) = true) : MkF K mg x C qual st := by
  obtain ⟨fd, F⟩ := e.ex
  exact ⟨cl, m, f, fd, ⟨y, g, e.fn, z⟩, F⟩
end L2
open PySem PySem.W PyProof.Rows

structure Mine.AllF (K : Frag) (mg : Str → Option Value) (c : Mine.CCs) : Prop where
  fx : Mine.Fx K c
  madeS_ne : L2.MethF K c.ne "made_of" "Saying.made_of" Mine.s_Saying_made_of
  madeS_al : L2.MethF K c.al "made_of" "Saying.made_of" Mine.s_Saying_made_of
  madeS_le : L2.MethF K c.le "made_of" "Saying.made_of" Mine.s_Saying_made_of
  laid : ∀ t, L2.MethF K (c.of t) "laid_out" "Saying.laid_out" Mine.s_Saying_laid_out
  parts : ∀ t, L2.MethF K (c.of t) "parts" "Saying.parts" Mine.s_Saying_parts
  Mno_no : L2.MethF K c.no "made_of" "Not.made_of" Mine.s_Not_made_of
  Mfo : ∀ u, L2.MethF K (c.fold u) "made_of" "Fold.made_of" Mine.s_Fold_made_of
  ile : L2.MkF K mg "Letter" c.le "Letter.__init__" Mine.s_Letter_init
  ino : L2.MkF K mg "Not" c.no "Not.__init__" Mine.s_Not_init
  ifo : ∀ u, L2.MkF K mg (Mine.W5.cls u) (c.fold u) "Fold.__init__" Mine.s_Fold_init
  o_ne : L2.Mk0 K c.ne
  r_ne : mg "Never" = some (.ref c.ne)
  o_al : L2.Mk0 K c.al
  r_al : mg "Always" = some (.ref c.al)
  kt : ∃ cS cF, Mine.KtA K mg c cS cF
theorem Mine.all_mk {K : Frag} {h : Heap} {mg : Str → Option Value} {ne al le no mo ls gr lr ld cS cF f_madeS f_laid f_parts f_Mno f_Mfo f_ile f_ino f_ifo : Addr} (X : K.In h) (G : h.Ns mainGlobals mg)
    (n_ne : nsIn K mainGlobals "Never" = some (some (.ref ne)))
    (n_al : nsIn K mainGlobals "Always" = some (some (.ref al)))
    (n_le : nsIn K mainGlobals "Letter" = some (some (.ref le)))
    (n_no : nsIn K mainGlobals "Not" = some (some (.ref no)))
    (n_mo : nsIn K mainGlobals "More" = some (some (.ref mo)))
    (n_ls : nsIn K mainGlobals "Less" = some (some (.ref ls)))
    (n_gr : nsIn K mainGlobals "Greater" = some (some (.ref gr)))
    (n_lr : nsIn K mainGlobals "Lesser" = some (some (.ref lr)))
    (n_ld : nsIn K mainGlobals "Leads" = some (some (.ref ld)))
    (c_ne : L2.Cls K ne)
    (c_al : L2.Cls K al)
    (c_le : L2.Cls K le)
    (c_no : L2.Cls K no)
    (c_mo : L2.Cls K mo)
    (c_ls : L2.Cls K ls)
    (c_gr : L2.Cls K gr)
    (c_lr : L2.Cls K lr)
    (c_ld : L2.Cls K ld)
    (h_ne : findIn K (.ref ne) "__class__" = some (some (.builtin "object.__class__")))
    (h_al : findIn K (.ref al) "__class__" = some (some (.builtin "object.__class__")))
    (h_le : findIn K (.ref le) "__class__" = some (some (.builtin "object.__class__")))
    (h_no : findIn K (.ref no) "__class__" = some (some (.builtin "object.__class__")))
    (h_mo : findIn K (.ref mo) "__class__" = some (some (.builtin "object.__class__")))
    (h_ls : findIn K (.ref ls) "__class__" = some (some (.builtin "object.__class__")))
    (h_gr : findIn K (.ref gr) "__class__" = some (some (.builtin "object.__class__")))
    (h_lr : findIn K (.ref lr) "__class__" = some (some (.builtin "object.__class__")))
    (h_ld : findIn K (.ref ld) "__class__" = some (some (.builtin "object.__class__")))
    (m_ne : mroIn K ne (.type "object") = some true)
    (m_al : mroIn K al (.type "object") = some true)
    (m_le : mroIn K le (.type "object") = some true)
    (m_no : mroIn K no (.type "object") = some true)
    (m_mo : mroIn K mo (.type "object") = some true)
    (m_ls : mroIn K ls (.type "object") = some true)
    (m_gr : mroIn K gr (.type "object") = some true)
    (m_lr : mroIn K lr (.type "object") = some true)
    (m_ld : mroIn K ld (.type "object") = some true)
    (s_ne : kitOne K (.ref ne) (.type "str") = some false)
    (s_al : kitOne K (.ref al) (.type "str") = some false)
    (s_le : kitOne K (.ref le) (.type "str") = some false)
    (s_no : kitOne K (.ref no) (.type "str") = some false)
    (s_mo : kitOne K (.ref mo) (.type "str") = some false)
    (s_ls : kitOne K (.ref ls) (.type "str") = some false)
    (s_gr : kitOne K (.ref gr) (.type "str") = some false)
    (s_lr : kitOne K (.ref lr) (.type "str") = some false)
    (s_ld : kitOne K (.ref ld) (.type "str") = some false)
    (hn : specialIn K (.builtin "object.__class__") "__get__" = some (some (.builtin "getset_descriptor.__get__")))
    (tk : takesIn K (.builtin "object.__class__") = some true)
    (a_name : findIn K (.ref le) "name" = some none)
    (a_part : findIn K (.ref no) "part" = some none)
    (a_one_mo : findIn K (.ref mo) "one" = some none)
    (a_one_ls : findIn K (.ref ls) "one" = some none)
    (a_one_gr : findIn K (.ref gr) "one" = some none)
    (a_one_lr : findIn K (.ref lr) "one" = some none)
    (a_one_ld : findIn K (.ref ld) "one" = some none)
    (a_other_mo : findIn K (.ref mo) "other" = some none)
    (a_other_ls : findIn K (.ref ls) "other" = some none)
    (a_other_gr : findIn K (.ref gr) "other" = some none)
    (a_other_lr : findIn K (.ref lr) "other" = some none)
    (a_other_ld : findIn K (.ref ld) "other" = some none)
    (g_madeS_ne : findIn K (.ref ne) "made_of" = some (some (.ref f_madeS)))
    (g_madeS_al : findIn K (.ref al) "made_of" = some (some (.ref f_madeS)))
    (g_madeS_le : findIn K (.ref le) "made_of" = some (some (.ref f_madeS)))
    (e_madeS : L2.FunM K "made_of" "Saying.made_of" Mine.s_Saying_made_of f_madeS)
    (g_laid_ne : findIn K (.ref ne) "laid_out" = some (some (.ref f_laid)))
    (g_laid_al : findIn K (.ref al) "laid_out" = some (some (.ref f_laid)))
    (g_laid_le : findIn K (.ref le) "laid_out" = some (some (.ref f_laid)))
    (g_laid_no : findIn K (.ref no) "laid_out" = some (some (.ref f_laid)))
    (g_laid_mo : findIn K (.ref mo) "laid_out" = some (some (.ref f_laid)))
    (g_laid_ls : findIn K (.ref ls) "laid_out" = some (some (.ref f_laid)))
    (g_laid_gr : findIn K (.ref gr) "laid_out" = some (some (.ref f_laid)))
    (g_laid_lr : findIn K (.ref lr) "laid_out" = some (some (.ref f_laid)))
    (g_laid_ld : findIn K (.ref ld) "laid_out" = some (some (.ref f_laid)))
    (e_laid : L2.FunM K "laid_out" "Saying.laid_out" Mine.s_Saying_laid_out f_laid)
    (g_parts_ne : findIn K (.ref ne) "parts" = some (some (.ref f_parts)))
    (g_parts_al : findIn K (.ref al) "parts" = some (some (.ref f_parts)))
    (g_parts_le : findIn K (.ref le) "parts" = some (some (.ref f_parts)))
    (g_parts_no : findIn K (.ref no) "parts" = some (some (.ref f_parts)))
    (g_parts_mo : findIn K (.ref mo) "parts" = some (some (.ref f_parts)))
    (g_parts_ls : findIn K (.ref ls) "parts" = some (some (.ref f_parts)))
    (g_parts_gr : findIn K (.ref gr) "parts" = some (some (.ref f_parts)))
    (g_parts_lr : findIn K (.ref lr) "parts" = some (some (.ref f_parts)))
    (g_parts_ld : findIn K (.ref ld) "parts" = some (some (.ref f_parts)))
    (e_parts : L2.FunM K "parts" "Saying.parts" Mine.s_Saying_parts f_parts)
    (g_Mno_no : findIn K (.ref no) "made_of" = some (some (.ref f_Mno)))
    (e_Mno : L2.FunM K "made_of" "Not.made_of" Mine.s_Not_made_of f_Mno)
    (g_Mfo_mo : findIn K (.ref mo) "made_of" = some (some (.ref f_Mfo)))
    (g_Mfo_ls : findIn K (.ref ls) "made_of" = some (some (.ref f_Mfo)))
    (g_Mfo_gr : findIn K (.ref gr) "made_of" = some (some (.ref f_Mfo)))
    (g_Mfo_lr : findIn K (.ref lr) "made_of" = some (some (.ref f_Mfo)))
    (g_Mfo_ld : findIn K (.ref ld) "made_of" = some (some (.ref f_Mfo)))
    (e_Mfo : L2.FunM K "made_of" "Fold.made_of" Mine.s_Fold_made_of f_Mfo)
    (g_ile_le : findIn K (.ref le) "__init__" = some (some (.ref f_ile)))
    (e_ile : L2.FunM K "__init__" "Letter.__init__" Mine.s_Letter_init f_ile)
    (g_ino_no : findIn K (.ref no) "__init__" = some (some (.ref f_ino)))
    (e_ino : L2.FunM K "__init__" "Not.__init__" Mine.s_Not_init f_ino)
    (g_ifo_mo : findIn K (.ref mo) "__init__" = some (some (.ref f_ifo)))
    (g_ifo_ls : findIn K (.ref ls) "__init__" = some (some (.ref f_ifo)))
    (g_ifo_gr : findIn K (.ref gr) "__init__" = some (some (.ref f_ifo)))
    (g_ifo_lr : findIn K (.ref lr) "__init__" = some (some (.ref f_ifo)))
    (g_ifo_ld : findIn K (.ref ld) "__init__" = some (some (.ref f_ifo)))
    (e_ifo : L2.FunM K "__init__" "Fold.__init__" Mine.s_Fold_init f_ifo)
    (i_ne : findIn K (.ref ne) "__init__" = some (some (.builtin "object.__init__")))
    (i_al : findIn K (.ref al) "__init__" = some (some (.builtin "object.__init__")))
    (y_ne : makesIn K ne = true)
    (y_al : makesIn K al = true)
    (y_le : makesIn K le = true)
    (y_no : makesIn K no = true)
    (y_mo : makesIn K mo = true)
    (y_ls : makesIn K ls = true)
    (y_gr : makesIn K gr = true)
    (y_lr : makesIn K lr = true)
    (y_ld : makesIn K ld = true)
    (z_ne : keepIn K (.ref ne) = true)
    (z_al : keepIn K (.ref al) = true)
    (z_le : keepIn K (.ref le) = true)
    (z_no : keepIn K (.ref no) = true)
    (z_mo : keepIn K (.ref mo) = true)
    (z_ls : keepIn K (.ref ls) = true)
    (z_gr : keepIn K (.ref gr) = true)
    (z_lr : keepIn K (.ref lr) = true)
    (z_ld : keepIn K (.ref ld) = true)
    (n_cS : nsIn K mainGlobals "Saying" = some (some (.ref cS)))
    (n_cF : nsIn K mainGlobals "Fold" = some (some (.ref cF)))
    (q_ne_S : kitOne K (.ref ne) (.ref cS) = some true)
    (q_ne_F : kitOne K (.ref ne) (.ref cF) = some false)
    (q_ne_al : kitOne K (.ref ne) (.ref al) = some false)
    (q_ne_le : kitOne K (.ref ne) (.ref le) = some false)
    (q_ne_no : kitOne K (.ref ne) (.ref no) = some false)
    (q_ne_mo : kitOne K (.ref ne) (.ref mo) = some false)
    (q_ne_ls : kitOne K (.ref ne) (.ref ls) = some false)
    (q_ne_gr : kitOne K (.ref ne) (.ref gr) = some false)
    (q_ne_lr : kitOne K (.ref ne) (.ref lr) = some false)
    (q_ne_ld : kitOne K (.ref ne) (.ref ld) = some false)
    (q_al_S : kitOne K (.ref al) (.ref cS) = some true)
    (q_al_F : kitOne K (.ref al) (.ref cF) = some false)
    (q_al_ne : kitOne K (.ref al) (.ref ne) = some false)
    (q_al_le : kitOne K (.ref al) (.ref le) = some false)
    (q_al_no : kitOne K (.ref al) (.ref no) = some false)
    (q_al_mo : kitOne K (.ref al) (.ref mo) = some false)
    (q_al_ls : kitOne K (.ref al) (.ref ls) = some false)
    (q_al_gr : kitOne K (.ref al) (.ref gr) = some false)
    (q_al_lr : kitOne K (.ref al) (.ref lr) = some false)
    (q_al_ld : kitOne K (.ref al) (.ref ld) = some false)
    (q_le_S : kitOne K (.ref le) (.ref cS) = some true)
    (q_le_F : kitOne K (.ref le) (.ref cF) = some false)
    (q_le_ne : kitOne K (.ref le) (.ref ne) = some false)
    (q_le_al : kitOne K (.ref le) (.ref al) = some false)
    (q_le_no : kitOne K (.ref le) (.ref no) = some false)
    (q_le_mo : kitOne K (.ref le) (.ref mo) = some false)
    (q_le_ls : kitOne K (.ref le) (.ref ls) = some false)
    (q_le_gr : kitOne K (.ref le) (.ref gr) = some false)
    (q_le_lr : kitOne K (.ref le) (.ref lr) = some false)
    (q_le_ld : kitOne K (.ref le) (.ref ld) = some false)
    (q_no_S : kitOne K (.ref no) (.ref cS) = some true)
    (q_no_F : kitOne K (.ref no) (.ref cF) = some false)
    (q_no_ne : kitOne K (.ref no) (.ref ne) = some false)
    (q_no_al : kitOne K (.ref no) (.ref al) = some false)
    (q_no_le : kitOne K (.ref no) (.ref le) = some false)
    (q_no_mo : kitOne K (.ref no) (.ref mo) = some false)
    (q_no_ls : kitOne K (.ref no) (.ref ls) = some false)
    (q_no_gr : kitOne K (.ref no) (.ref gr) = some false)
    (q_no_lr : kitOne K (.ref no) (.ref lr) = some false)
    (q_no_ld : kitOne K (.ref no) (.ref ld) = some false)
    (q_mo_S : kitOne K (.ref mo) (.ref cS) = some true)
    (q_mo_F : kitOne K (.ref mo) (.ref cF) = some true)
    (q_mo_ne : kitOne K (.ref mo) (.ref ne) = some false)
    (q_mo_al : kitOne K (.ref mo) (.ref al) = some false)
    (q_mo_le : kitOne K (.ref mo) (.ref le) = some false)
    (q_mo_no : kitOne K (.ref mo) (.ref no) = some false)
    (q_mo_ls : kitOne K (.ref mo) (.ref ls) = some false)
    (q_mo_gr : kitOne K (.ref mo) (.ref gr) = some false)
    (q_mo_lr : kitOne K (.ref mo) (.ref lr) = some false)
    (q_mo_ld : kitOne K (.ref mo) (.ref ld) = some false)
    (q_ls_S : kitOne K (.ref ls) (.ref cS) = some true)
    (q_ls_F : kitOne K (.ref ls) (.ref cF) = some true)
    (q_ls_ne : kitOne K (.ref ls) (.ref ne) = some false)
    (q_ls_al : kitOne K (.ref ls) (.ref al) = some false)
    (q_ls_le : kitOne K (.ref ls) (.ref le) = some false)
    (q_ls_no : kitOne K (.ref ls) (.ref no) = some false)
    (q_ls_mo : kitOne K (.ref ls) (.ref mo) = some false)
    (q_ls_gr : kitOne K (.ref ls) (.ref gr) = some false)
    (q_ls_lr : kitOne K (.ref ls) (.ref lr) = some false)
    (q_ls_ld : kitOne K (.ref ls) (.ref ld) = some false)
    (q_gr_S : kitOne K (.ref gr) (.ref cS) = some true)
    (q_gr_F : kitOne K (.ref gr) (.ref cF) = some true)
    (q_gr_ne : kitOne K (.ref gr) (.ref ne) = some false)
    (q_gr_al : kitOne K (.ref gr) (.ref al) = some false)
    (q_gr_le : kitOne K (.ref gr) (.ref le) = some false)
    (q_gr_no : kitOne K (.ref gr) (.ref no) = some false)
    (q_gr_mo : kitOne K (.ref gr) (.ref mo) = some false)
    (q_gr_ls : kitOne K (.ref gr) (.ref ls) = some false)
    (q_gr_lr : kitOne K (.ref gr) (.ref lr) = some false)
    (q_gr_ld : kitOne K (.ref gr) (.ref ld) = some false)
    (q_lr_S : kitOne K (.ref lr) (.ref cS) = some true)
    (q_lr_F : kitOne K (.ref lr) (.ref cF) = some true)
    (q_lr_ne : kitOne K (.ref lr) (.ref ne) = some false)
    (q_lr_al : kitOne K (.ref lr) (.ref al) = some false)
    (q_lr_le : kitOne K (.ref lr) (.ref le) = some false)
    (q_lr_no : kitOne K (.ref lr) (.ref no) = some false)
    (q_lr_mo : kitOne K (.ref lr) (.ref mo) = some false)
    (q_lr_ls : kitOne K (.ref lr) (.ref ls) = some false)
    (q_lr_gr : kitOne K (.ref lr) (.ref gr) = some false)
    (q_lr_ld : kitOne K (.ref lr) (.ref ld) = some false)
    (q_ld_S : kitOne K (.ref ld) (.ref cS) = some true)
    (q_ld_F : kitOne K (.ref ld) (.ref cF) = some true)
    (q_ld_ne : kitOne K (.ref ld) (.ref ne) = some false)
    (q_ld_al : kitOne K (.ref ld) (.ref al) = some false)
    (q_ld_le : kitOne K (.ref ld) (.ref le) = some false)
    (q_ld_no : kitOne K (.ref ld) (.ref no) = some false)
    (q_ld_mo : kitOne K (.ref ld) (.ref mo) = some false)
    (q_ld_ls : kitOne K (.ref ld) (.ref ls) = some false)
    (q_ld_gr : kitOne K (.ref ld) (.ref gr) = some false)
    (q_ld_lr : kitOne K (.ref ld) (.ref lr) = some false) :
    ∃ c, Mine.AllF K mg c := by
  refine ⟨⟨ne, al, le, no, mo, ls, gr, lr, ld⟩, ?_⟩
  refine ⟨?_,
    ?_,
    ?_,
    ?_,
    ?_,
    ?_,
    ?_,
    ?_,
    ?_,
    ?_,
    ?_,
    ?_,
    ?_,
    ?_,
    ?_,
    ?_⟩
  · exact ⟨by intro t; cases t <;> first | exact c_ne | exact c_al | exact c_le | exact c_no | (rename_i u _ _; cases u <;> assumption), by intro t; cases t <;> first | exact h_ne | exact h_al | exact h_le | exact h_no | (rename_i u _ _; cases u <;> assumption), by intro t; cases t <;> first | exact m_ne | exact m_al | exact m_le | exact m_no | (rename_i u _ _; cases u <;> assumption), by intro t; cases t <;> first | exact s_ne | exact s_al | exact s_le | exact s_no | (rename_i u _ _; cases u <;> assumption), hn, tk, a_name, a_part, by intro u; cases u <;> assumption, by intro u; cases u <;> assumption⟩
  · exact e_madeS.meth c_ne g_madeS_ne
  · exact e_madeS.meth c_al g_madeS_al
  · exact e_madeS.meth c_le g_madeS_le
  · intro t; cases t <;> first | exact e_laid.meth c_ne g_laid_ne | exact e_laid.meth c_al g_laid_al | exact e_laid.meth c_le g_laid_le | exact e_laid.meth c_no g_laid_no | (rename_i u _ _; cases u <;> first | exact e_laid.meth c_mo g_laid_mo | exact e_laid.meth c_ls g_laid_ls | exact e_laid.meth c_gr g_laid_gr | exact e_laid.meth c_lr g_laid_lr | exact e_laid.meth c_ld g_laid_ld)
  · intro t; cases t <;> first | exact e_parts.meth c_ne g_parts_ne | exact e_parts.meth c_al g_parts_al | exact e_parts.meth c_le g_parts_le | exact e_parts.meth c_no g_parts_no | (rename_i u _ _; cases u <;> first | exact e_parts.meth c_mo g_parts_mo | exact e_parts.meth c_ls g_parts_ls | exact e_parts.meth c_gr g_parts_gr | exact e_parts.meth c_lr g_parts_lr | exact e_parts.meth c_ld g_parts_ld)
  · exact e_Mno.meth c_no g_Mno_no
  · intro u; cases u <;> first | exact e_Mfo.meth c_mo g_Mfo_mo | exact e_Mfo.meth c_ls g_Mfo_ls | exact e_Mfo.meth c_gr g_Mfo_gr | exact e_Mfo.meth c_lr g_Mfo_lr | exact e_Mfo.meth c_ld g_Mfo_ld
  · exact e_ile.made c_le g_ile_le (mg_of X G n_le) y_le z_le
  · exact e_ino.made c_no g_ino_no (mg_of X G n_no) y_no z_no
  · intro u; cases u <;> first | exact e_ifo.made c_mo g_ifo_mo (mg_of X G n_mo) y_mo z_mo | exact e_ifo.made c_ls g_ifo_ls (mg_of X G n_ls) y_ls z_ls | exact e_ifo.made c_gr g_ifo_gr (mg_of X G n_gr) y_gr z_gr | exact e_ifo.made c_lr g_ifo_lr (mg_of X G n_lr) y_lr z_lr | exact e_ifo.made c_ld g_ifo_ld (mg_of X G n_ld) y_ld z_ld
  · exact ⟨y_ne, i_ne, z_ne⟩
  · exact mg_of X G n_ne
  · exact ⟨y_al, i_al, z_al⟩
  · exact mg_of X G n_al
  · exact ⟨cS, cF, ⟨by intro t; cases t <;> first | exact q_ne_S | exact q_al_S | exact q_le_S | exact q_no_S | (rename_i u _ _; cases u <;> first | exact q_mo_S | exact q_ls_S | exact q_gr_S | exact q_lr_S | exact q_ld_S), by intro t; cases t <;> first | exact Mine.kit_same | exact q_al_ne | exact q_le_ne | exact q_no_ne | (rename_i u _ _; cases u <;> first | exact q_mo_ne | exact q_ls_ne | exact q_gr_ne | exact q_lr_ne | exact q_ld_ne), by intro t; cases t <;> first | exact q_ne_al | exact Mine.kit_same | exact q_le_al | exact q_no_al | (rename_i u _ _; cases u <;> first | exact q_mo_al | exact q_ls_al | exact q_gr_al | exact q_lr_al | exact q_ld_al), by intro t; cases t <;> first | exact q_ne_le | exact q_al_le | exact Mine.kit_same | exact q_no_le | (rename_i u _ _; cases u <;> first | exact q_mo_le | exact q_ls_le | exact q_gr_le | exact q_lr_le | exact q_ld_le), by intro t; cases t <;> first | exact q_ne_no | exact q_al_no | exact q_le_no | exact Mine.kit_same | (rename_i u _ _; cases u <;> first | exact q_mo_no | exact q_ls_no | exact q_gr_no | exact q_lr_no | exact q_ld_no), by intro t; cases t <;> first | exact q_ne_mo | exact q_al_mo | exact q_le_mo | exact q_no_mo | (rename_i u _ _; cases u <;> first | exact Mine.kit_same | exact q_ls_mo | exact q_gr_mo | exact q_lr_mo | exact q_ld_mo), by intro t; cases t <;> first | exact q_ne_ls | exact q_al_ls | exact q_le_ls | exact q_no_ls | (rename_i u _ _; cases u <;> first | exact q_mo_ls | exact Mine.kit_same | exact q_gr_ls | exact q_lr_ls | exact q_ld_ls), by intro t; cases t <;> first | exact q_ne_gr | exact q_al_gr | exact q_le_gr | exact q_no_gr | (rename_i u _ _; cases u <;> first | exact q_mo_gr | exact q_ls_gr | exact Mine.kit_same | exact q_lr_gr | exact q_ld_gr), by intro t; cases t <;> first | exact q_ne_lr | exact q_al_lr | exact q_le_lr | exact q_no_lr | (rename_i u _ _; cases u <;> first | exact q_mo_lr | exact q_ls_lr | exact q_gr_lr | exact Mine.kit_same | exact q_ld_lr), by intro t; cases t <;> first | exact q_ne_ld | exact q_al_ld | exact q_le_ld | exact q_no_ld | (rename_i u _ _; cases u <;> first | exact q_mo_ld | exact q_ls_ld | exact q_gr_ld | exact q_lr_ld | exact Mine.kit_same)⟩, by intro t; cases t <;> first | exact q_ne_F | exact q_al_F | exact q_le_F | exact q_no_F | (rename_i u _ _; cases u <;> first | exact q_mo_F | exact q_ls_F | exact q_gr_F | exact q_lr_F | exact q_ld_F), mg_of X G n_cS, mg_of X G n_cF, mg_of X G n_ne, mg_of X G n_al, mg_of X G n_le, mg_of X G n_no, mg_of X G n_mo, mg_of X G n_ls, mg_of X G n_gr, mg_of X G n_lr, mg_of X G n_ld⟩
section
variable {P : Program} {w : World} {K : Frag} {mg : Str → Option Value} {base : Heap} {c : Mine.CCs}
open Mine L2
theorem Mine.mks (A : AllF K mg c) : MkOk P w K mg base "Letter" c.le 1 ["self", "name"] (spInit1 c.le fName) ∧ MkOk P w K mg base "Not" c.no 1 ["self", "part"] (spInit1 c.no fPart) ∧ ∀ u : W5, MkOk P w K mg base u.cls (c.fold u) 1 ["self", "one", "other"] (spInit2 (c.fold u)) :=
  ⟨ok_iLetter A.ile A.fx.nName, ok_iNot A.ino A.fx.nPart, fun u => ok_iFold (A.ifo u) (A.fx.nOne u) (A.fx.nOther u)⟩
theorem Mine.ms (A : AllF K mg c) : Ms P w K mg base c := by
  obtain ⟨kl, kn, kf⟩ := mks (P := P) (w := w) (base := base) A
  refine ⟨fun t => ?_⟩
  · cases t with
    | never => exact ok_mS A.madeS_ne rfl
    | always => exact ok_mS A.madeS_al rfl
    | lp => exact ok_mS A.madeS_le rfl
    | lq => exact ok_mS A.madeS_le rfl
    | no t => exact ok_mNot A.Mno_no A.fx
    | fold u a b => exact ok_mFold (A.Mfo u) A.fx
end

open PySem PySem.W PyProof.Rows
structure Mine.RowX (K : Frag) (mg : Str → Option Value) (CR fI : Addr) : Prop where
  fe : L2.FunE K "__init__" "NoText.__init__" Mine.s_NoText_init fI
  xi : L2.excInI K CR L2.bmV "ValueError.__new__" fI = true
  kc : keepIn K (.ref CR) = true
  fl : L2.XFld K CR
  n1 : L2.NoAttr K CR "at"
theorem Mine.rowx {P : Program} {w : World} {base : Heap} {K : Frag} {mg : Str → Option Value} {CR fI : Addr} (m : mg "NoText" = some (.ref CR)) (Z : Mine.RowX K mg CR fI) : L2.XC1 P w K mg base "NoText" CR "at" := by
  obtain ⟨fdI, FI⟩ := Z.fe.ex
  exact ⟨m, Z.kc, ⟨fI, fdI, _, Mine.ok_init FI Z.fl Z.n1, FI.binds (fun _ _ _ _ _ _ => L2.ar2 fun _ _ => rfl), Z.xi⟩, Z.fl, Z.n1⟩
theorem Mine.cls02 {K : Frag} {h : Heap} {mg : Str → Option Value} {CS CP CR fI aT : Addr} {c1 c2 c3 : ClassData} {es : Array DictEntry} {ep : Nat} (X : K.In h) (G : h.Ns mainGlobals mg)
    (mCS : nsIn K mainGlobals "SayError" = some (some (.ref CS)))
    (mCP : nsIn K mainGlobals "TooMany" = some (some (.ref CP)))
    (mCR : nsIn K mainGlobals "NoText" = some (some (.ref CR)))
    (xp : excIn K CP L2.bmV "ValueError.__new__" = true)
    (i0 : findIn K (.ref CR) "__init__" = some (some (.ref fI)))
    (fe : L2.FunE K "__init__" "NoText.__init__" Mine.s_NoText_init fI)
    (xi : L2.excInI K CR L2.bmV "ValueError.__new__" fI = true)
    (kc : keepIn K (.ref CR) = true)
    (xf : L2.xfldIn K CR = true)
    (sa : findIn K (.ref CR) "__setattr__" = some (some (.builtin "object.__setattr__")))
    (n1 : findIn K (.ref CR) "at" = some none)
    (s6 : clsIn K CS = some c2)
    (s7 : typeIn K (.ref CS) = some (.type "type"))
    (s8 : mroIn K CS (.type "BaseException") = some true)
    (o13 : specialIn K (.builtin "object.__class__") "__get__" = some (some (.builtin "getset_descriptor.__get__")))
    (o14 : takesIn K (.builtin "object.__class__") = some true)
    (e6 : clsIn K CP = some c1)
    (e8 : mroIn K CP (.type "BaseException") = some true)
    (e9 : findIn K (.ref CP) "__getattribute__" = some (some (.builtin "BaseException.__getattribute__")))
    (e10 : findIn K (.ref CP) "__getattr__" = some none)
    (e12 : findIn K (.ref CP) "__class__" = some (some (.builtin "object.__class__")))
    (e16 : mroIn K CP (.type "object") = some true)
    (esu : mroIn K CP (.ref CS) = some true)
    (ek2 : kitOne K (.ref CP) (.type "ValueError") = some true)
    (r6 : clsIn K CR = some c3)
    (r8 : mroIn K CR (.type "BaseException") = some true)
    (r9 : findIn K (.ref CR) "__getattribute__" = some (some (.builtin "BaseException.__getattribute__")))
    (r10 : findIn K (.ref CR) "__getattr__" = some none)
    (r12 : findIn K (.ref CR) "__class__" = some (some (.builtin "object.__class__")))
    (r16 : mroIn K CR (.type "object") = some true)
    (rsu : mroIn K CR (.ref CS) = some true)
    (rk2 : kitOne K (.ref CR) (.type "ValueError") = some true)
    (k3 : kitOne K (.ref CP) (.ref CR) = some false)
    (k5 : kitOne K (.ref CR) (.ref CP) = some false)
    (t1 : nsIn K mainGlobals "TAKEN" = some (some (.ref aT)))
    (t2 : K.lookup aT = some ⟨.type "dict", none, .dict es ep, #[]⟩)
    (t3 : (aT == sysModules) = false)
    (t4 : KTD.Rows (fun (n : Int) v => ∃ t, v = Value.int n t) es.toList Mine.TK) :
    ∃ CS CP CR fI, Mine.ExcT K mg CS CR CP ∧ Mine.RowX K mg CR fI ∧ L2.TopDict K mg "TAKEN" Mine.TK :=
  have ER : L2.ExcCls K CR := ⟨r9, r10, ⟨_, r6⟩, r12, o13, o14, r8, r16⟩
  ⟨CS, CP, CR, fI, ⟨mg_of X G mCS, mg_of X G mCR, mg_of X G mCP, xp, ⟨⟨_, s6⟩, s7, s8⟩, ER, ⟨e9, e10, ⟨_, e6⟩, e12, o13, o14, e8, e16⟩, rsu, esu, rk2, k5, ek2, k3, L2.xfld_mk xf sa ER, n1⟩, ⟨fe, xi, kc, L2.xfld_mk xf sa ER, n1⟩, L2.topdict_mk X G t1 t2 t3 t4⟩




set_option Elab.async false
set_option linter.all false
set_option maxRecDepth 100000
set_option maxHeartbeats 4000000
theorem PySem.W.Fast.tw316552499695595584 : True := .intro
theorem PySem.W.Fast.tw9950958192329292864 : True := .intro
theorem PySem.W.Fast.tw9135673651547895936 : True := .intro
theorem PySem.W.Fast.tw4253503651322391680 : True := .intro
theorem PySem.W.Fast.tw16551762581912793344 : True := .intro
theorem PySem.W.Fast.tw12571041459091627296 : True := .intro
theorem PySem.W.Fast.tw10173188814916323616 : True := .intro
theorem PySem.W.Fast.tw2803558983837829472 : True := .intro
theorem PySem.W.Fast.tw18080220210196676000 : True := .intro
theorem PySem.W.Fast.tw6352170044492221920 : True := .intro
theorem PySem.W.Fast.tw13228930015298379264 : True := .intro
theorem PySem.W.Fast.tw11338901972344879648 : True := .intro
theorem PySem.W.Fast.tw234422329505775232 : True := .intro
theorem PySem.W.Fast.tw9056121602486492992 : True := .intro
theorem PySem.W.Fast.tw6115359698620830560 : True := .intro
theorem PySem.W.Fast.tw17164928724237556576 : True := .intro
theorem PySem.W.Fast.tw14839219841048372064 : True := .intro
theorem PySem.W.Fast.tw17683544272856190848 : True := .intro
theorem PySem.W.Fast.tw6173749065220290464 : True := .intro
theorem PySem.W.Fast.tw15165374998363859969 : True := .intro
theorem PySem.W.Fast.tw3820337885983636545 : True := .intro
theorem PySem.W.Fast.tw4781441168943578209 : True := .intro
theorem PySem.W.Fast.tw8427986132469954785 : True := .intro
theorem PySem.W.Fast.tw14029717967863700865 : True := .intro
theorem PySem.W.Fast.tw11156056638501285281 : True := .intro
theorem PySem.W.Fast.tw7190592921970064993 : True := .intro
theorem PySem.W.Fast.tw17456916253302003297 : True := .intro
theorem PySem.W.Fast.tw1133333047690006177 : True := .intro
theorem PySem.W.Fast.tw13839147014925718177 : True := .intro
theorem PySem.W.Fast.tw3917926528280315713 : True := .intro
theorem PySem.W.Fast.tw9392182955627337665 : True := .intro
theorem PySem.W.Fast.tw14878652601480259553 : True := .intro
theorem PySem.W.Fast.tw690188265883378722 : True := .intro
theorem PySem.W.Fast.tw6648043815236060226 : True := .intro
theorem PySem.W.Fast.tw10376517409664540738 : True := .intro
theorem PySem.W.Fast.tw16947756829004548194 : True := .intro
theorem PySem.W.Fast.tw732083119134447874 : True := .intro
theorem PySem.W.Fast.tw4517567021666065698 : True := .intro
theorem PySem.W.Fast.tw11076206883230935394 : True := .intro
theorem PySem.W.Fast.tw9258885948638869922 : True := .intro
theorem PySem.W.Fast.tw8863445233886933570 : True := .intro
theorem PySem.W.Fast.tw4043239625288586850 : True := .intro
theorem PySem.W.Fast.tw13200862896040254050 : True := .intro
theorem PySem.W.Fast.tw9478193257704158818 : True := .intro
theorem PySem.W.Fast.tw18227336463673868930 : True := .intro
theorem PySem.W.Fast.tw2175067046042672834 : True := .intro
theorem PySem.W.Fast.tw811054807704724194 : True := .intro
theorem PySem.W.Fast.tw3759615974651502338 : True := .intro
theorem PySem.W.Fast.tw10453919716978987810 : True := .intro
theorem PySem.W.Fast.tw4908746909843520354 : True := .intro
theorem PySem.W.Fast.tw6248898942183992162 : True := .intro
theorem PySem.W.Fast.tw3876934626488708034 : True := .intro
theorem PySem.W.Fast.tw17779655330544781250 : True := .intro
theorem PySem.W.Fast.tw4576157308693783522 : True := .intro
theorem PySem.W.Fast.tw3236174571289439235 : True := .intro
theorem PySem.W.Fast.tw14655350279263514659 : True := .intro
theorem PySem.W.Fast.tw11731464192545232963 : True := .intro
theorem PySem.W.Fast.tw4005567091198843043 : True := .intro
theorem PySem.W.Fast.tw15135657578466429219 : True := .intro
theorem PySem.W.Fast.tw14098635209881404771 : True := .intro
theorem PySem.W.Fast.tw11455993106883923363 : True := .intro
theorem PySem.W.Fast.tw17546973080738708931 : True := .intro
theorem PySem.W.Fast.tw14885920458538385027 : True := .intro
theorem PySem.W.Fast.tw11059439059772565219 : True := .intro
theorem PySem.W.Fast.tw5280305868542037763 : True := .intro
theorem PySem.W.Fast.tw6162746719501629219 : True := .intro
theorem PySem.W.Fast.tw10912132886233012035 : True := .intro
theorem PySem.W.Fast.tw7581613778982774595 : True := .intro
theorem PySem.W.Fast.tw1492580912561200035 : True := .intro
theorem PySem.W.Fast.tw12151991027379120067 : True := .intro
theorem PySem.W.Fast.tw17462007982202085347 : True := .intro
theorem PySem.W.Fast.tw5053827695669126148 : True := .intro
theorem PySem.W.Fast.tw10251075156936147044 : True := .intro
theorem PySem.W.Fast.tw11344026034355946628 : True := .intro
theorem PySem.W.Fast.tw6311709209769149636 : True := .intro
theorem PySem.W.Fast.tw18095844435399556292 : True := .intro
theorem PySem.W.Fast.tw2513541113195887876 : True := .intro
theorem PySem.W.Fast.tw18371354841539238148 : True := .intro
theorem PySem.W.Fast.tw11173602332238344484 : True := .intro
theorem PySem.W.Fast.tw8651542283958170980 : True := .intro
theorem PySem.W.Fast.tw15140745076565034404 : True := .intro
theorem PySem.W.Fast.tw9437820950998619620 : True := .intro
theorem PySem.W.Fast.tw7800863431711777252 : True := .intro
theorem PySem.W.Fast.tw2501574047978547684 : True := .intro
theorem PySem.W.Fast.tw6338932860789370532 : True := .intro
theorem PySem.W.Fast.tw13209632040417306372 : True := .intro
theorem PySem.W.Fast.tw12985826865198084868 : True := .intro
theorem PySem.W.Fast.tw98203495612737284 : True := .intro
theorem PySem.W.Fast.tw16541448439613457252 : True := .intro
theorem PySem.W.Fast.tw1420311599301568356 : True := .intro
theorem PySem.W.Fast.tw2845990683555447780 : True := .intro
theorem PySem.W.Fast.tw6715795913081727972 : True := .intro
theorem PySem.W.Fast.tw3922671955313956869 : True := .intro
theorem PySem.W.Fast.tw4092591719104878597 : True := .intro
theorem PySem.W.Fast.tw4476025578689562661 : True := .intro
theorem PySem.W.Fast.tw1079502562223135813 : True := .intro
theorem PySem.W.Fast.tw15817450148311932133 : True := .intro
theorem PySem.W.Fast.tw3274225201965538693 : True := .intro
theorem PySem.W.Fast.tw2916132560377170405 : True := .intro
theorem PySem.W.Fast.tw8887146381590596101 : True := .intro
theorem PySem.W.Fast.tw11595734112865275429 : True := .intro
theorem PySem.W.Fast.tw4414776225717618373 : True := .intro
theorem PySem.W.Fast.tw9266905807793273669 : True := .intro
theorem PySem.W.Fast.tw13382439770326378309 : True := .intro
theorem PySem.W.Fast.tw2248220557023453157 : True := .intro
theorem PySem.W.Fast.tw14615091777672118310 : True := .intro
theorem PySem.W.Fast.tw7345160192520338534 : True := .intro
theorem PySem.W.Fast.tw15890134479620777158 : True := .intro
theorem PySem.W.Fast.tw14996802668410401094 : True := .intro
theorem PySem.W.Fast.tw3335619623239841126 : True := .intro
theorem PySem.W.Fast.tw3298814977508194758 : True := .intro
theorem PySem.W.Fast.tw15391955850551254470 : True := .intro
theorem PySem.W.Fast.tw649806166536251846 : True := .intro
theorem PySem.W.Fast.tw17373469076557100486 : True := .intro
theorem PySem.W.Fast.tw11691074638750888486 : True := .intro
theorem PySem.W.Fast.tw14533346035010649638 : True := .intro
theorem PySem.W.Fast.tw787290279197336102 : True := .intro
theorem PySem.W.Fast.tw10936735538847728198 : True := .intro
theorem PySem.W.Fast.tw15403387714519176838 : True := .intro
theorem PySem.W.Fast.tw13053942618861064838 : True := .intro
theorem PySem.W.Fast.tw10685063175697398438 : True := .intro
theorem PySem.W.Fast.tw3889549374000244454 : True := .intro
theorem PySem.W.Fast.tw9540134092897254118 : True := .intro
theorem PySem.W.Fast.tw13383405555421248230 : True := .intro
theorem PySem.W.Fast.tw17478240932688631558 : True := .intro
theorem PySem.W.Fast.tw15671769441957284646 : True := .intro
theorem PySem.W.Fast.tw16427873067611784998 : True := .intro
theorem PySem.W.Fast.tw11395172363392856071 : True := .intro
theorem PySem.W.Fast.tw9277299631631264775 : True := .intro
theorem PySem.W.Fast.tw9563586827948653671 : True := .intro
theorem PySem.W.Fast.tw3458324716275635335 : True := .intro
theorem PySem.W.Fast.tw952440953708835143 : True := .intro
theorem PySem.W.Fast.tw10569985525260493191 : True := .intro
theorem PySem.W.Fast.tw4415045500462121447 : True := .intro
theorem PySem.W.Fast.tw14845864717313072647 : True := .intro
theorem PySem.W.Fast.tw8627878366729630279 : True := .intro
theorem PySem.W.Fast.tw1288681481475976839 : True := .intro
theorem PySem.W.Fast.tw5868471176271882887 : True := .intro
theorem PySem.W.Fast.tw14264630847644953255 : True := .intro
theorem PySem.W.Fast.tw18253908865616485063 : True := .intro
theorem PySem.W.Fast.tw10527961461385057288 : True := .intro
theorem PySem.W.Fast.tw11643407562229649480 : True := .intro
theorem PySem.W.Fast.tw8909972083102910696 : True := .intro
theorem PySem.W.Fast.tw7033762687692019944 : True := .intro
theorem PySem.W.Fast.tw15091620281507802376 : True := .intro
theorem PySem.W.Fast.tw3270879842771010856 : True := .intro
theorem PySem.W.Fast.tw11546308598452074824 : True := .intro
theorem PySem.W.Fast.tw11113023721803611560 : True := .intro
theorem PySem.W.Fast.tw9722310456644949480 : True := .intro
theorem PySem.W.Fast.tw17537927928157797896 : True := .intro
theorem PySem.W.Fast.tw11168434162882899464 : True := .intro
theorem PySem.W.Fast.tw7797651746075522632 : True := .intro
theorem PySem.W.Fast.tw965880728014789320 : True := .intro
theorem PySem.W.Fast.tw10950925538245345032 : True := .intro
theorem PySem.W.Fast.tw13801829563637125032 : True := .intro
theorem PySem.W.Fast.tw200958241925091240 : True := .intro
theorem PySem.W.Fast.tw4875634080778404840 : True := .intro
theorem PySem.W.Fast.tw2266969387220383785 : True := .intro
theorem PySem.W.Fast.tw6718898077996158025 : True := .intro
theorem PySem.W.Fast.tw14917540151777295465 : True := .intro
theorem PySem.W.Fast.tw6145598848173627529 : True := .intro
theorem PySem.W.Fast.tw3233261466101282057 : True := .intro
theorem PySem.W.Fast.tw1848129039902367017 : True := .intro
theorem PySem.W.Fast.tw12292204235975689577 : True := .intro
theorem PySem.W.Fast.tw5790870847143815593 : True := .intro
theorem PySem.W.Fast.tw17254370720337335753 : True := .intro
theorem PySem.W.Fast.tw15709140419458139657 : True := .intro
theorem PySem.W.Fast.tw6399827849215039017 : True := .intro
theorem PySem.W.Fast.tw6285449936282864169 : True := .intro
theorem PySem.W.Fast.tw8921875866103909993 : True := .intro
theorem PySem.W.Fast.tw4165405378606442153 : True := .intro
theorem PySem.W.Fast.tw5642321240237660873 : True := .intro
theorem PySem.W.Fast.tw11617335889113994985 : True := .intro
theorem PySem.W.Fast.tw8234719911724933961 : True := .intro
theorem PySem.W.Fast.tw2745738946756040617 : True := .intro
theorem PySem.W.Fast.tw6426904816644973513 : True := .intro
theorem PySem.W.Fast.tw6100502379921454057 : True := .intro
theorem PySem.W.Fast.tw2376491692975097833 : True := .intro
theorem PySem.W.Fast.tw5233338696710207498 : True := .intro
theorem PySem.W.Fast.tw11475201391621829770 : True := .intro
theorem PySem.W.Fast.tw525631665483720874 : True := .intro
theorem PySem.W.Fast.tw5130708280025702570 : True := .intro
theorem PySem.W.Fast.tw10508332975273223466 : True := .intro
theorem PySem.W.Fast.tw8167368674185895210 : True := .intro
theorem PySem.W.Fast.tw3081370465683334698 : True := .intro
theorem PySem.W.Fast.tw8978162644859163210 : True := .intro
theorem PySem.W.Fast.tw17670863376053372586 : True := .intro
theorem PySem.W.Fast.tw9823996405582148298 : True := .intro
theorem PySem.W.Fast.tw1203032677331305162 : True := .intro
theorem PySem.W.Fast.tw15741561553191863082 : True := .intro
theorem PySem.W.Fast.tw12266062366681086762 : True := .intro
theorem PySem.W.Fast.tw6379579047160899370 : True := .intro
theorem PySem.W.Fast.tw13452145125999613802 : True := .intro
theorem PySem.W.Fast.tw1731357021154719658 : True := .intro
theorem PySem.W.Fast.tw9195774883603971018 : True := .intro
theorem PySem.W.Fast.tw16768627438931896266 : True := .intro
theorem PySem.W.Fast.tw6445635819888917547 : True := .intro
theorem PySem.W.Fast.tw4585941955484008491 : True := .intro
theorem PySem.W.Fast.tw6999759600675517483 : True := .intro
theorem PySem.W.Fast.tw1707466741589483691 : True := .intro
theorem PySem.W.Fast.tw8206574743495907531 : True := .intro
theorem PySem.W.Fast.tw18422594343929362699 : True := .intro
theorem PySem.W.Fast.tw316622746825790859 : True := .intro
theorem PySem.W.Fast.tw6959929398708004267 : True := .intro
theorem PySem.W.Fast.tw5682158738245981643 : True := .intro
theorem PySem.W.Fast.tw13662256790566474219 : True := .intro
theorem PySem.W.Fast.tw10431531740111961579 : True := .intro
theorem PySem.W.Fast.tw1027729689970045515 : True := .intro
theorem PySem.W.Fast.tw476926147607007851 : True := .intro
theorem PySem.W.Fast.tw10761420097290672779 : True := .intro
theorem PySem.W.Fast.tw7441122526129021579 : True := .intro
theorem PySem.W.Fast.tw4938688891483351723 : True := .intro
theorem PySem.W.Fast.tw14271754136526074571 : True := .intro
theorem PySem.W.Fast.tw15082656814653261515 : True := .intro
theorem PySem.W.Fast.tw89042095334653643 : True := .intro
theorem PySem.W.Fast.tw5105753696661176011 : True := .intro
theorem PySem.W.Fast.tw15655953609842985739 : True := .intro
theorem PySem.W.Fast.tw6647236381606610699 : True := .intro
theorem PySem.W.Fast.tw4259212137252982571 : True := .intro
theorem PySem.W.Fast.tw7865685732898645803 : True := .intro
theorem PySem.W.Fast.tw433095560692243371 : True := .intro
theorem PySem.W.Fast.tw13109329552574225323 : True := .intro
theorem PySem.W.Fast.tw2660405038246571947 : True := .intro
theorem PySem.W.Fast.tw13041729672158738379 : True := .intro
theorem PySem.W.Fast.tw1826518994016694348 : True := .intro
theorem PySem.W.Fast.tw15825143767385541804 : True := .intro
theorem PySem.W.Fast.tw6184708448460771628 : True := .intro
theorem PySem.W.Fast.tw16244893802141364556 : True := .intro
theorem PySem.W.Fast.tw1477438927789731180 : True := .intro
theorem PySem.W.Fast.tw1407508955717150060 : True := .intro
theorem PySem.W.Fast.tw8980060695246323084 : True := .intro
theorem PySem.W.Fast.tw2818948353313206828 : True := .intro
theorem PySem.W.Fast.tw11553874692359597644 : True := .intro
theorem PySem.W.Fast.tw16654385153005349452 : True := .intro
theorem PySem.W.Fast.tw4745896116565926828 : True := .intro
theorem PySem.W.Fast.tw18281464387510056973 : True := .intro
theorem PySem.W.Fast.tw6904508477193327821 : True := .intro
theorem PySem.W.Fast.tw3585253128815508717 : True := .intro
theorem PySem.W.Fast.tw9988272335787310349 : True := .intro
theorem PySem.W.Fast.tw12525348450383606061 : True := .intro
theorem PySem.W.Fast.tw10467881209111754029 : True := .intro
theorem PySem.W.Fast.tw14911565974054036813 : True := .intro
theorem PySem.W.Fast.tw16152025656466343277 : True := .intro
theorem PySem.W.Fast.tw3684698939009964397 : True := .intro
theorem PySem.W.Fast.tw12604612193286169005 : True := .intro
theorem PySem.W.Fast.tw1528816339210905133 : True := .intro
theorem PySem.W.Fast.tw16422349493719082541 : True := .intro
theorem PySem.W.Fast.tw16976527785379713613 : True := .intro
theorem PySem.W.Fast.tw14050813026389350093 : True := .intro
theorem PySem.W.Fast.tw16824682017925085933 : True := .intro
theorem PySem.W.Fast.tw6060445469293406957 : True := .intro
theorem PySem.W.Fast.tw14316449150345571117 : True := .intro
theorem PySem.W.Fast.tw5084771574895106893 : True := .intro
theorem PySem.W.Fast.tw288397303094395789 : True := .intro
theorem PySem.W.Fast.tw9618772020725660718 : True := .intro
theorem PySem.W.Fast.tw10350530791300864078 : True := .intro
theorem PySem.W.Fast.tw10630401634228989102 : True := .intro
theorem PySem.W.Fast.tw15608193668932705454 : True := .intro
theorem PySem.W.Fast.tw17916917254883621070 : True := .intro
theorem PySem.W.Fast.tw1693363121838873870 : True := .intro
theorem PySem.W.Fast.tw7331012809853491534 : True := .intro
theorem PySem.W.Fast.tw6854453580014051662 : True := .intro
theorem PySem.W.Fast.tw9341761558547580302 : True := .intro
theorem PySem.W.Fast.tw11262965218709575118 : True := .intro
theorem PySem.W.Fast.tw10726928612687428142 : True := .intro
theorem PySem.W.Fast.tw2926337492085331662 : True := .intro
theorem PySem.W.Fast.tw13503111163892027214 : True := .intro
theorem PySem.W.Fast.tw12530344771117117262 : True := .intro
theorem PySem.W.Fast.tw12950069065875727246 : True := .intro
theorem PySem.W.Fast.tw1334932264305306542 : True := .intro
theorem PySem.W.Fast.tw1469777746350550958 : True := .intro
theorem PySem.W.Fast.tw11138778821047438286 : True := .intro
theorem PySem.W.Fast.tw14155002635250644942 : True := .intro
theorem PySem.W.Fast.tw668476201963848719 : True := .intro
theorem PySem.W.Fast.tw1753810436583069711 : True := .intro
theorem PySem.W.Fast.tw13816522841747843119 : True := .intro
theorem PySem.W.Fast.tw13743287104428690607 : True := .intro
theorem PySem.W.Fast.tw4182421862524291247 : True := .intro
theorem PySem.W.Fast.tw15305783623888543951 : True := .intro
theorem PySem.W.Fast.tw17244683703634615599 : True := .intro
theorem PySem.W.Fast.tw15804110044156057967 : True := .intro
theorem PySem.W.Fast.tw4994769785856176559 : True := .intro
theorem PySem.W.Fast.tw17743895705834452399 : True := .intro
theorem PySem.W.Fast.tw11765851728765173263 : True := .intro
theorem PySem.W.Fast.tw15071786255831626287 : True := .intro
theorem PySem.W.Fast.tw18277511910747146831 : True := .intro
theorem PySem.W.Fast.tw3688420685554345615 : True := .intro
theorem PySem.W.Fast.tw234576184772013935 : True := .intro
theorem PySem.W.Fast.tw2032457517084023791 : True := .intro
theorem PySem.W.Fast.tw5054385435532637200 : True := .intro
theorem PySem.W.Fast.tw13002704729191488560 : True := .intro
theorem PySem.W.Fast.tw14291557890352311408 : True := .intro
theorem PySem.W.Fast.tw1223697819347538096 : True := .intro
theorem PySem.W.Fast.tw7132910021796224336 : True := .intro
theorem PySem.W.Fast.tw216658110233149776 : True := .intro
theorem PySem.W.Fast.tw1146234246323153264 : True := .intro
theorem PySem.W.Fast.tw11594844795162414512 : True := .intro
theorem PySem.W.Fast.tw16916900124407061104 : True := .intro
theorem PySem.W.Fast.tw18133856132359077488 : True := .intro
theorem PySem.W.Fast.tw3936840683449151344 : True := .intro
theorem PySem.W.Fast.tw11342508804657864688 : True := .intro
theorem PySem.W.Fast.tw6662255274170863697 : True := .intro
theorem PySem.W.Fast.tw8408467469332860049 : True := .intro
theorem PySem.W.Fast.tw10149483802054548625 : True := .intro
theorem PySem.W.Fast.tw10137935770087199921 : True := .intro
theorem PySem.W.Fast.tw16072204636898236625 : True := .intro
theorem PySem.W.Fast.tw8072646153715041617 : True := .intro
theorem PySem.W.Fast.tw5776616556873702769 : True := .intro
theorem PySem.W.Fast.tw13978273238716542321 : True := .intro
theorem PySem.W.Fast.tw9213121598271408529 : True := .intro
theorem PySem.W.Fast.tw12288350122408931793 : True := .intro
theorem PySem.W.Fast.tw14718065946091885041 : True := .intro
theorem PySem.W.Fast.tw12489252991026197265 : True := .intro
theorem PySem.W.Fast.tw13617928640524079985 : True := .intro
theorem PySem.W.Fast.tw7295067959302580306 : True := .intro
theorem PySem.W.Fast.tw4723517472312416370 : True := .intro
theorem PySem.W.Fast.tw8428549423705121906 : True := .intro
theorem PySem.W.Fast.tw10448363651758351634 : True := .intro
theorem PySem.W.Fast.tw4807653620711972146 : True := .intro
theorem PySem.W.Fast.tw9264491785342206322 : True := .intro
theorem PySem.W.Fast.tw8902077732461397554 : True := .intro
theorem PySem.W.Fast.tw11961159978176995986 : True := .intro
theorem PySem.W.Fast.tw5473896551366186706 : True := .intro
theorem PySem.W.Fast.tw6720912123012503282 : True := .intro
theorem PySem.W.Fast.tw10773538170805600018 : True := .intro
theorem PySem.W.Fast.tw17157696070923061010 : True := .intro
theorem PySem.W.Fast.tw13514549562017016626 : True := .intro
theorem PySem.W.Fast.tw13180015615736767346 : True := .intro
theorem PySem.W.Fast.tw4469363244860125074 : True := .intro
theorem PySem.W.Fast.tw16114298958529796018 : True := .intro
theorem PySem.W.Fast.tw681244078823821234 : True := .intro
theorem PySem.W.Fast.tw5176421395510515698 : True := .intro
theorem PySem.W.Fast.tw1945683618513580051 : True := .intro
theorem PySem.W.Fast.tw17209780889692509363 : True := .intro
theorem PySem.W.Fast.tw2051095382476002483 : True := .intro
theorem PySem.W.Fast.tw18256489332872319315 : True := .intro
theorem PySem.W.Fast.tw10027687651668113747 : True := .intro
theorem PySem.W.Fast.tw15133484579926757715 : True := .intro
theorem PySem.W.Fast.tw3716957182485732787 : True := .intro
theorem PySem.W.Fast.tw4048691357368769971 : True := .intro
theorem PySem.W.Fast.tw12705076941609929171 : True := .intro
theorem PySem.W.Fast.tw9840955605034832403 : True := .intro
theorem PySem.W.Fast.tw15184923996353309235 : True := .intro
theorem PySem.W.Fast.tw3183087543474977331 : True := .intro
theorem PySem.W.Fast.tw16022243786019479155 : True := .intro
theorem PySem.W.Fast.tw9039021553888829043 : True := .intro
theorem PySem.W.Fast.tw2586309164953860851 : True := .intro
theorem PySem.W.Fast.tw13023909575750562611 : True := .intro
theorem PySem.W.Fast.tw17548261043632110387 : True := .intro
theorem PySem.W.Fast.tw5591851072375167827 : True := .intro
theorem PySem.W.Fast.tw9473988229787367283 : True := .intro
theorem PySem.W.Fast.tw16296113518417219443 : True := .intro
theorem PySem.W.Fast.tw7075338671267697555 : True := .intro
theorem PySem.W.Fast.tw4319624038368261043 : True := .intro
theorem PySem.W.Fast.tw4627079657543635 : True := .intro
theorem PySem.W.Fast.tw12086753002282116116 : True := .intro
theorem PySem.W.Fast.tw10500405678600599604 : True := .intro
theorem PySem.W.Fast.tw17875742621323501716 : True := .intro
theorem PySem.W.Fast.tw14383679602594465108 : True := .intro
theorem PySem.W.Fast.tw12502944993005177236 : True := .intro
theorem PySem.W.Fast.tw13738530488963376532 : True := .intro
theorem PySem.W.Fast.tw12470138930568104372 : True := .intro
theorem PySem.W.Fast.tw16436264996586599860 : True := .intro
theorem PySem.W.Fast.tw7643958194680486324 : True := .intro
theorem PySem.W.Fast.tw1268483989169028564 : True := .intro
theorem PySem.W.Fast.tw4865037315871557076 : True := .intro
theorem PySem.W.Fast.tw14695191154821257684 : True := .intro
theorem PySem.W.Fast.tw18295492896655280788 : True := .intro
theorem PySem.W.Fast.tw12260522687860375220 : True := .intro
theorem PySem.W.Fast.tw13308216731035430612 : True := .intro
theorem PySem.W.Fast.tw13977897448628611892 : True := .intro
theorem PySem.W.Fast.tw13185641760508272468 : True := .intro
theorem PySem.W.Fast.tw11144161442177895316 : True := .intro
theorem PySem.W.Fast.tw13826586818028060564 : True := .intro
theorem PySem.W.Fast.tw116586190553165780 : True := .intro
theorem PySem.W.Fast.tw4559157416897313748 : True := .intro
theorem PySem.W.Fast.tw16482106157336782836 : True := .intro
theorem PySem.W.Fast.tw16144395562741507125 : True := .intro
theorem PySem.W.Fast.tw9074023769679940661 : True := .intro
theorem PySem.W.Fast.tw5270293281201586293 : True := .intro
theorem PySem.W.Fast.tw9090549699376772213 : True := .intro
theorem PySem.W.Fast.tw10406499760849467573 : True := .intro
theorem PySem.W.Fast.tw14418013254080889109 : True := .intro
theorem PySem.W.Fast.tw6783959298892885333 : True := .intro
theorem PySem.W.Fast.tw356210472721773973 : True := .intro
theorem PySem.W.Fast.tw14711033159870438901 : True := .intro
theorem PySem.W.Fast.tw14364886182752532021 : True := .intro
theorem PySem.W.Fast.tw7065418595525013045 : True := .intro
theorem PySem.W.Fast.tw7216882982890985109 : True := .intro
theorem PySem.W.Fast.tw4958828577999461045 : True := .intro
theorem PySem.W.Fast.tw2603436152231021237 : True := .intro
theorem PySem.W.Fast.tw10431478266100012885 : True := .intro
theorem PySem.W.Fast.tw5323414012389021589 : True := .intro
theorem PySem.W.Fast.tw8381733102937102325 : True := .intro
theorem PySem.W.Fast.tw2697026689031604310 : True := .intro
theorem PySem.W.Fast.tw13151131406632596630 : True := .intro
theorem PySem.W.Fast.tw11300678550376143030 : True := .intro
theorem PySem.W.Fast.tw4837230547999903958 : True := .intro
theorem PySem.W.Fast.tw629235330612806966 : True := .intro
theorem PySem.W.Fast.tw18363502658640147766 : True := .intro
theorem PySem.W.Fast.tw7245599775087117750 : True := .intro
theorem PySem.W.Fast.tw13211289465030106550 : True := .intro
theorem PySem.W.Fast.tw17797758498532632054 : True := .intro
theorem PySem.W.Fast.tw1711317269216047638 : True := .intro
theorem PySem.W.Fast.tw16539703243742138902 : True := .intro
theorem PySem.W.Fast.tw9035580015179357718 : True := .intro
theorem PySem.W.Fast.tw4540333249048054422 : True := .intro
theorem PySem.W.Fast.tw224191841975203478 : True := .intro
theorem PySem.W.Fast.tw11427144905172140822 : True := .intro
theorem PySem.W.Fast.tw2389677016963910454 : True := .intro
theorem PySem.W.Fast.tw4308465630695694134 : True := .intro
theorem PySem.W.Fast.tw13368328779455311702 : True := .intro
theorem PySem.W.Fast.tw10020508246328119158 : True := .intro
theorem PySem.W.Fast.tw6292400594503606134 : True := .intro
theorem PySem.W.Fast.tw2889487824175329142 : True := .intro
theorem PySem.W.Fast.tw12075803740686799830 : True := .intro
theorem PySem.W.Fast.tw5150037841687577590 : True := .intro
theorem PySem.W.Fast.tw6353014123948529654 : True := .intro
theorem PySem.W.Fast.tw13765720820088537111 : True := .intro
theorem PySem.W.Fast.tw12468784779756278807 : True := .intro
theorem PySem.W.Fast.tw2352691673042203703 : True := .intro
theorem PySem.W.Fast.tw4243226729425977399 : True := .intro
theorem PySem.W.Fast.tw14166806548651124855 : True := .intro
theorem PySem.W.Fast.tw16844829841171217559 : True := .intro
theorem PySem.W.Fast.tw15990753154181070071 : True := .intro
theorem PySem.W.Fast.tw7500992270652136727 : True := .intro
theorem PySem.W.Fast.tw3638355303724557655 : True := .intro
theorem PySem.W.Fast.tw1707284727584529815 : True := .intro
theorem PySem.W.Fast.tw2387758175539380631 : True := .intro
theorem PySem.W.Fast.tw14877631633412977047 : True := .intro
theorem PySem.W.Fast.tw10789479542984838615 : True := .intro
theorem PySem.W.Fast.tw15397362439905349111 : True := .intro
theorem PySem.W.Fast.tw11722716097289744887 : True := .intro
theorem PySem.W.Fast.tw1563755894622872087 : True := .intro
theorem PySem.W.Fast.tw8148640075464229399 : True := .intro
theorem PySem.W.Fast.tw799399065384515127 : True := .intro
theorem PySem.W.Fast.tw16299049769265729592 : True := .intro
theorem PySem.W.Fast.tw5826950100274560088 : True := .intro
theorem PySem.W.Fast.tw3426144270707640408 : True := .intro
theorem PySem.W.Fast.tw1655767709810105496 : True := .intro
theorem PySem.W.Fast.tw3458259308124582072 : True := .intro
theorem PySem.W.Fast.tw13136509580566887704 : True := .intro
theorem PySem.W.Fast.tw17235187886019727704 : True := .intro
theorem PySem.W.Fast.tw9339856747639704984 : True := .intro
theorem PySem.W.Fast.tw10434594357251797400 : True := .intro
theorem PySem.W.Fast.tw3553132738167406040 : True := .intro
theorem PySem.W.Fast.tw6130114918750462520 : True := .intro
theorem PySem.W.Fast.tw17342516786337708632 : True := .intro
theorem PySem.W.Fast.tw3153144271623848632 : True := .intro
theorem PySem.W.Fast.tw12007132572337631992 : True := .intro
theorem PySem.W.Fast.tw16161331772286316312 : True := .intro
theorem PySem.W.Fast.tw9750607063489648440 : True := .intro
theorem PySem.W.Fast.tw7746978435432271672 : True := .intro
theorem PySem.W.Fast.tw12553458991283009400 : True := .intro
theorem PySem.W.Fast.tw3383349004808185784 : True := .intro
theorem PySem.W.Fast.tw9725032156133409752 : True := .intro
theorem PySem.W.Fast.tw17803758392039013336 : True := .intro
theorem PySem.W.Fast.tw15860578043530244088 : True := .intro
theorem PySem.W.Fast.tw10014427959205228601 : True := .intro
theorem PySem.W.Fast.tw5385903463615174777 : True := .intro
theorem PySem.W.Fast.tw372107204874455257 : True := .intro
theorem PySem.W.Fast.tw13080408442587407769 : True := .intro
theorem PySem.W.Fast.tw3698761497191987705 : True := .intro
theorem PySem.W.Fast.tw10741245400732460537 : True := .intro
theorem PySem.W.Fast.tw16406790894106756697 : True := .intro
theorem PySem.W.Fast.tw14859596664202479289 : True := .intro
theorem PySem.W.Fast.tw4729722604151631705 : True := .intro
theorem PySem.W.Fast.tw11626639287474752345 : True := .intro
theorem PySem.W.Fast.tw491653272348426073 : True := .intro
theorem PySem.W.Fast.tw6882530314337299417 : True := .intro
theorem PySem.W.Fast.tw1979886622456477689 : True := .intro
theorem PySem.W.Fast.tw4191855110916649050 : True := .intro
theorem PySem.W.Fast.tw6668225640468669562 : True := .intro
theorem PySem.W.Fast.tw13422214385518985370 : True := .intro
theorem PySem.W.Fast.tw16614037036261647610 : True := .intro
theorem PySem.W.Fast.tw13933111782314341658 : True := .intro
theorem PySem.W.Fast.tw4628664675204044058 : True := .intro
theorem PySem.W.Fast.tw4398246627582238042 : True := .intro
theorem PySem.W.Fast.tw1527424669444107642 : True := .intro
theorem PySem.W.Fast.tw17131615153357405786 : True := .intro
theorem PySem.W.Fast.tw6697702941222664890 : True := .intro
theorem PySem.W.Fast.tw2143079738051194586 : True := .intro
theorem PySem.W.Fast.tw2947606930643596026 : True := .intro
theorem PySem.W.Fast.tw11752893006624951066 : True := .intro
theorem PySem.W.Fast.tw1024066086090324826 : True := .intro
theorem PySem.W.Fast.tw1099671374143417210 : True := .intro
theorem PySem.W.Fast.tw7463907524874246042 : True := .intro
theorem PySem.W.Fast.tw1986536426420967386 : True := .intro
theorem PySem.W.Fast.tw1093183523334260795 : True := .intro
theorem PySem.W.Fast.tw14719957616216397883 : True := .intro
theorem PySem.W.Fast.tw11342483919677713563 : True := .intro
theorem PySem.W.Fast.tw12399220795390790875 : True := .intro
theorem PySem.W.Fast.tw7029929791042753755 : True := .intro
theorem PySem.W.Fast.tw11551698576365384955 : True := .intro
theorem PySem.W.Fast.tw14882245804404064571 : True := .intro
theorem PySem.W.Fast.tw983217094540706107 : True := .intro
theorem PySem.W.Fast.tw8263412634277665179 : True := .intro
theorem PySem.W.Fast.tw1583882165347212795 : True := .intro
theorem PySem.W.Fast.tw4818832511563587227 : True := .intro
theorem PySem.W.Fast.tw12347211268651314843 : True := .intro
theorem PySem.W.Fast.tw9288697439440655035 : True := .intro
theorem PySem.W.Fast.tw16281145958832636635 : True := .intro
theorem PySem.W.Fast.tw9137944170170491803 : True := .intro
theorem PySem.W.Fast.tw17035740419163853723 : True := .intro
theorem PySem.W.Fast.tw15054409257875793883 : True := .intro
theorem PySem.W.Fast.tw8108516934742574108 : True := .intro
theorem PySem.W.Fast.tw12645494969304875068 : True := .intro
theorem PySem.W.Fast.tw11294961125771794492 : True := .intro
theorem PySem.W.Fast.tw2454048281665008732 : True := .intro
theorem PySem.W.Fast.tw11903516855812632796 : True := .intro
theorem PySem.W.Fast.tw11853404165540748540 : True := .intro
theorem PySem.W.Fast.tw6799280546425829692 : True := .intro
theorem PySem.W.Fast.tw15478052755517423100 : True := .intro
theorem PySem.W.Fast.tw12897379945244184060 : True := .intro
theorem PySem.W.Fast.tw14105942723131269628 : True := .intro
theorem PySem.W.Fast.tw14899602632900228636 : True := .intro
theorem PySem.W.Fast.tw4171199470826586652 : True := .intro
theorem PySem.W.Fast.tw13041167228778950300 : True := .intro
theorem PySem.W.Fast.tw12651122279490894492 : True := .intro
theorem PySem.W.Fast.tw1039097934604984988 : True := .intro
theorem PySem.W.Fast.tw14208409235658387228 : True := .intro
theorem PySem.W.Fast.tw17536242822649162588 : True := .intro
theorem PySem.W.Fast.tw10051302038192697180 : True := .intro
theorem PySem.W.Fast.tw10897587172144462716 : True := .intro
theorem PySem.W.Fast.tw5293322254060128156 : True := .intro
theorem PySem.W.Fast.tw9180567866695640093 : True := .intro
theorem PySem.W.Fast.tw7681654433979681885 : True := .intro
theorem PySem.W.Fast.tw7459192943328914589 : True := .intro
theorem PySem.W.Fast.tw1824561883675370717 : True := .intro
theorem PySem.W.Fast.tw8008830860973836541 : True := .intro
theorem PySem.W.Fast.tw4279621635158350109 : True := .intro
theorem PySem.W.Fast.tw9263583063223917853 : True := .intro
theorem PySem.W.Fast.tw8483147877778986269 : True := .intro
theorem PySem.W.Fast.tw2324287425122319741 : True := .intro
theorem PySem.W.Fast.tw1748318317990472093 : True := .intro
theorem PySem.W.Fast.tw16265747787478088221 : True := .intro
theorem PySem.W.Fast.tw4156915207804009053 : True := .intro
theorem PySem.W.Fast.tw12230645637845109373 : True := .intro
theorem PySem.W.Fast.tw3655031692846404253 : True := .intro
theorem PySem.W.Fast.tw17521491251979362973 : True := .intro
theorem PySem.W.Fast.tw8477937527906773725 : True := .intro
theorem PySem.W.Fast.tw4773013627752047389 : True := .intro
theorem PySem.W.Fast.tw8095148000131113789 : True := .intro
theorem PySem.W.Fast.tw9780605121423465309 : True := .intro
theorem PySem.W.Fast.tw11418681227625946973 : True := .intro
theorem PySem.W.Fast.tw5169423876658691037 : True := .intro
theorem PySem.W.Fast.tw14694585399568168957 : True := .intro
theorem PySem.W.Fast.tw6556920742566065182 : True := .intro
theorem PySem.W.Fast.tw8264894372629716062 : True := .intro
theorem PySem.W.Fast.tw5593803794879696126 : True := .intro
theorem PySem.W.Fast.tw316768496344549662 : True := .intro
theorem PySem.W.Fast.tw11515885612152347966 : True := .intro
theorem PySem.W.Fast.tw1327149161939230046 : True := .intro
theorem PySem.W.Fast.tw17637407448240173598 : True := .intro
theorem PySem.W.Fast.tw1280755403025101374 : True := .intro
theorem PySem.W.Fast.tw9919316772151477886 : True := .intro
theorem PySem.W.Fast.tw10804957557661679230 : True := .intro
theorem PySem.W.Fast.tw6002772127002457886 : True := .intro
theorem PySem.W.Fast.tw3353965090741832542 : True := .intro
theorem PySem.W.Fast.tw7286279698471735166 : True := .intro
theorem PySem.W.Fast.tw6974500561079692158 : True := .intro
theorem PySem.W.Fast.tw16914298794737679391 : True := .intro
theorem PySem.W.Fast.tw12459166635038207071 : True := .intro
theorem PySem.W.Fast.tw18061440965374776447 : True := .intro
theorem PySem.W.Fast.tw10449156343201566879 : True := .intro
theorem PySem.W.Fast.tw1631405739660109983 : True := .intro
theorem PySem.W.Fast.tw8079254817736726751 : True := .intro
theorem PySem.W.Fast.tw16111941951039980831 : True := .intro
theorem PySem.W.Fast.tw16490450065482153247 : True := .intro
theorem PySem.W.Fast.tw18384722786010148319 : True := .intro
theorem PySem.W.Fast.tw13733121059529719263 : True := .intro
theorem PySem.W.Fast.tw411012265175373343 : True := .intro
theorem PySem.W.Fast.tw8954870660228533087 : True := .intro
theorem PySem.W.Fast.tw16306976756853986143 : True := .intro
theorem PySem.W.Fast.tw15881227330311091039 : True := .intro
theorem PySem.W.Fast.tw16366515655415121791 : True := .intro
theorem PySem.W.Fast.tw5382687918741712895 : True := .intro
open PySem PySem.W PyProof.Rows
set_option maxRecDepth 100000 in
set_option maxHeartbeats 0 in
theorem PySem.Challenge.cw_leansay_k02_texts_refused_holds : PySem.Challenge.rw_leansay_k02_texts_refused.Holds := by
  w_on; o_law; k_head; (case hw => w_witness2)
  k_fill
  refine L2.walk_bits (l := PySem.Challenge.rw_leansay_k02_texts_refused) (n := 63) (k := 40) (x := "_law_script") (CX := L2.CX0) (sp := Mine.spLaw) rfl (by decide) rfl ⟨rfl, by decide, by decide⟩ (fun w h Y => PySem.W.kIn_of Y) ?F ?S ?C
  case F =>
    intro w mg fa h KX G hmg
    have T_how_many_it_takes : L2.TopDef (L2.KOf KX) mg "how_many_it_takes" Mine.s_how_many_it_takes := by
      dsimp only [L2.KOf]
      refine' L2.top_mk KX G ?a ?l ?c ?k; (case a => k_is); (case l => k_is); (case c => k_is); (case k => k_is)
    have T_leaf_by : L2.TopDef (L2.KOf KX) mg "leaf_by" Mine.s_leaf_by := by
      dsimp only [L2.KOf]
      refine' L2.top_mk KX G ?a ?l ?c ?k; (case a => k_is); (case l => k_is); (case c => k_is); (case k => k_is)
    have T_fold_by : L2.TopDef (L2.KOf KX) mg "fold_by" Mine.s_fold_by := by
      dsimp only [L2.KOf]
      refine' L2.top_mk KX G ?a ?l ?c ?k; (case a => k_is); (case l => k_is); (case c => k_is); (case k => k_is)
    have T_fits : L2.TopDef (L2.KOf KX) mg "fits" Mine.s_fits := by
      dsimp only [L2.KOf]
      refine' L2.top_mk KX G ?a ?l ?c ?k; (case a => k_is); (case l => k_is); (case c => k_is); (case k => k_is)
    have T_fault_in : L2.TopDef (L2.KOf KX) mg "fault_in" Mine.s_fault_in := by
      dsimp only [L2.KOf]
      refine' L2.top_mk KX G ?a ?l ?c ?k; (case a => k_is); (case l => k_is); (case c => k_is); (case k => k_is)
    have T_made_of_words : L2.TopDef (L2.KOf KX) mg "made_of_words" Mine.s_made_of_words := by
      dsimp only [L2.KOf]
      refine' L2.top_mk KX G ?a ?l ?c ?k; (case a => k_is); (case l => k_is); (case c => k_is); (case k => k_is)
    have T_read : L2.TopDef (L2.KOf KX) mg "read" Mine.s_read := by
      dsimp only [L2.KOf]
      refine' L2.top_mk KX G ?a ?l ?c ?k; (case a => k_is); (case l => k_is); (case c => k_is); (case k => k_is)
    have T_l_mixed : L2.TopDef (L2.KOf KX) mg "_law_mixed" Mine.s_l_mixed := by
      dsimp only [L2.KOf]
      refine' L2.top_mk KX G ?a ?l ?c ?k; (case a => k_is); (case l => k_is); (case c => k_is); (case k => k_is)
    have T_l_next : L2.TopDef (L2.KOf KX) mg "_law_next" Mine.s_l_next := by
      dsimp only [L2.KOf]
      refine' L2.top_mk KX G ?a ?l ?c ?k; (case a => k_is); (case l => k_is); (case c => k_is); (case k => k_is)
    have T_l_saying : L2.TopDef (L2.KOf KX) mg "_law_saying" Mine.s_l_saying := by
      dsimp only [L2.KOf]
      refine' L2.top_mk KX G ?a ?l ?c ?k; (case a => k_is); (case l => k_is); (case c => k_is); (case k => k_is)
    have T_l_text : L2.TopDef (L2.KOf KX) mg "_law_text" Mine.s_l_text := by
      dsimp only [L2.KOf]
      refine' L2.top_mk KX G ?a ?l ?c ?k; (case a => k_is); (case l => k_is); (case c => k_is); (case k => k_is)
    have T_l_word : L2.TopDef (L2.KOf KX) mg "_law_word" Mine.s_l_word := by
      dsimp only [L2.KOf]
      refine' L2.top_mk KX G ?a ?l ?c ?k; (case a => k_is); (case l => k_is); (case c => k_is); (case k => k_is)
    have T_l_changed : L2.TopDef (L2.KOf KX) mg "_law_changed" Mine.s_l_changed := by
      dsimp only [L2.KOf]
      refine' L2.top_mk KX G ?a ?l ?c ?k; (case a => k_is); (case l => k_is); (case c => k_is); (case k => k_is)
    have T_l_drawn : L2.TopDef (L2.KOf KX) mg "_law_drawn" Mine.s_l_drawn := by
      dsimp only [L2.KOf]
      refine' L2.top_mk KX G ?a ?l ?c ?k; (case a => k_is); (case l => k_is); (case c => k_is); (case k => k_is)
    have T_l_done : L2.TopDef (L2.KOf KX) mg "_law_done" Mine.s_l_done := by
      dsimp only [L2.KOf]
      refine' L2.top_mk KX G ?a ?l ?c ?k; (case a => k_is); (case l => k_is); (case c => k_is); (case k => k_is)
    have T_l_takes : L2.TopDef (L2.KOf KX) mg "_law_takes" Mine.s_l_takes := by
      dsimp only [L2.KOf]
      refine' L2.top_mk KX G ?a ?l ?c ?k; (case a => k_is); (case l => k_is); (case c => k_is); (case k => k_is)
    have T_l_fault : L2.TopDef (L2.KOf KX) mg "_law_fault" Mine.s_l_fault := by
      dsimp only [L2.KOf]
      refine' L2.top_mk KX G ?a ?l ?c ?k; (case a => k_is); (case l => k_is); (case c => k_is); (case k => k_is)
    have T_l_many : L2.TopDef (L2.KOf KX) mg "_law_many" Mine.s_l_many := by
      dsimp only [L2.KOf]
      refine' L2.top_mk KX G ?a ?l ?c ?k; (case a => k_is); (case l => k_is); (case c => k_is); (case k => k_is)
    have T_law : L2.TopDef (L2.KOf KX) mg "law" Mine.s_law := by
      dsimp only [L2.KOf]
      refine' L2.top_mk KX G ?a ?l ?c ?k; (case a => k_is); (case l => k_is); (case c => k_is); (case k => k_is)
    have Z_len : mg "len" = none := by
      refine' PySem.W.mg_none_of KX G ?z; (case z => k_is)
    have Z_abs : mg "abs" = none := by
      refine' PySem.W.mg_none_of KX G ?z; (case z => k_is)
    have Z_isinstance : mg "isinstance" = none := by
      refine' PySem.W.mg_none_of KX G ?z; (case z => k_is)
    have Z_bool : mg "bool" = none := by
      refine' PySem.W.mg_none_of KX G ?z; (case z => k_is)
    have Z_int : mg "int" = none := by
      refine' PySem.W.mg_none_of KX G ?z; (case z => k_is)
    have Z_str : mg "str" = none := by
      refine' PySem.W.mg_none_of KX G ?z; (case z => k_is)
    have Z_range : mg "range" = none := by
      refine' PySem.W.mg_none_of KX G ?z; (case z => k_is)
    have Z_list : mg "list" = none := by
      refine' PySem.W.mg_none_of KX G ?z; (case z => k_is)
    have Z_min : mg "min" = none := by
      refine' PySem.W.mg_none_of KX G ?z; (case z => k_is)
    have Z_max : mg "max" = none := by
      refine' PySem.W.mg_none_of KX G ?z; (case z => k_is)
    have Z_enumerate : mg "enumerate" = none := by
      refine' PySem.W.mg_none_of KX G ?z; (case z => k_is)
    have Z_reversed : mg "reversed" = none := by
      refine' PySem.W.mg_none_of KX G ?z; (case z => k_is)
    have Z_ValueError : mg "ValueError" = none := by
      refine' PySem.W.mg_none_of KX G ?z; (case z => k_is)
    have kb : kitOne (L2.KOf KX) (.type "int") (.type "bool") = some false := by
      dsimp only [L2.KOf]
      first | k_is | kit_is
    have AA : ∃ c, Mine.AllF (L2.KOf KX) mg c := by
      dsimp only [L2.KOf]
      refine' Mine.all_mk KX G ?n_ne ?n_al ?n_le ?n_no ?n_mo ?n_ls ?n_gr ?n_lr ?n_ld ?c_ne ?c_al ?c_le ?c_no ?c_mo ?c_ls ?c_gr ?c_lr ?c_ld ?h_ne ?h_al ?h_le ?h_no ?h_mo ?h_ls ?h_gr ?h_lr ?h_ld ?m_ne ?m_al ?m_le ?m_no ?m_mo ?m_ls ?m_gr ?m_lr ?m_ld ?s_ne ?s_al ?s_le ?s_no ?s_mo ?s_ls ?s_gr ?s_lr ?s_ld ?hn ?tk ?a_name ?a_part ?a_one_mo ?a_one_ls ?a_one_gr ?a_one_lr ?a_one_ld ?a_other_mo ?a_other_ls ?a_other_gr ?a_other_lr ?a_other_ld ?g_madeS_ne ?g_madeS_al ?g_madeS_le ?e_madeS ?g_laid_ne ?g_laid_al ?g_laid_le ?g_laid_no ?g_laid_mo ?g_laid_ls ?g_laid_gr ?g_laid_lr ?g_laid_ld ?e_laid ?g_parts_ne ?g_parts_al ?g_parts_le ?g_parts_no ?g_parts_mo ?g_parts_ls ?g_parts_gr ?g_parts_lr ?g_parts_ld ?e_parts ?g_Mno_no ?e_Mno ?g_Mfo_mo ?g_Mfo_ls ?g_Mfo_gr ?g_Mfo_lr ?g_Mfo_ld ?e_Mfo ?g_ile_le ?e_ile ?g_ino_no ?e_ino ?g_ifo_mo ?g_ifo_ls ?g_ifo_gr ?g_ifo_lr ?g_ifo_ld ?e_ifo ?i_ne ?i_al ?y_ne ?y_al ?y_le ?y_no ?y_mo ?y_ls ?y_gr ?y_lr ?y_ld ?z_ne ?z_al ?z_le ?z_no ?z_mo ?z_ls ?z_gr ?z_lr ?z_ld ?n_cS ?n_cF ?q_ne_S ?q_ne_F ?q_ne_al ?q_ne_le ?q_ne_no ?q_ne_mo ?q_ne_ls ?q_ne_gr ?q_ne_lr ?q_ne_ld ?q_al_S ?q_al_F ?q_al_ne ?q_al_le ?q_al_no ?q_al_mo ?q_al_ls ?q_al_gr ?q_al_lr ?q_al_ld ?q_le_S ?q_le_F ?q_le_ne ?q_le_al ?q_le_no ?q_le_mo ?q_le_ls ?q_le_gr ?q_le_lr ?q_le_ld ?q_no_S ?q_no_F ?q_no_ne ?q_no_al ?q_no_le ?q_no_mo ?q_no_ls ?q_no_gr ?q_no_lr ?q_no_ld ?q_mo_S ?q_mo_F ?q_mo_ne ?q_mo_al ?q_mo_le ?q_mo_no ?q_mo_ls ?q_mo_gr ?q_mo_lr ?q_mo_ld ?q_ls_S ?q_ls_F ?q_ls_ne ?q_ls_al ?q_ls_le ?q_ls_no ?q_ls_mo ?q_ls_gr ?q_ls_lr ?q_ls_ld ?q_gr_S ?q_gr_F ?q_gr_ne ?q_gr_al ?q_gr_le ?q_gr_no ?q_gr_mo ?q_gr_ls ?q_gr_lr ?q_gr_ld ?q_lr_S ?q_lr_F ?q_lr_ne ?q_lr_al ?q_lr_le ?q_lr_no ?q_lr_mo ?q_lr_ls ?q_lr_gr ?q_lr_ld ?q_ld_S ?q_ld_F ?q_ld_ne ?q_ld_al ?q_ld_le ?q_ld_no ?q_ld_mo ?q_ld_ls ?q_ld_gr ?q_ld_lr
      (case n_ne => k_is)
      (case n_al => k_is)
      (case n_le => k_is)
      (case n_no => k_is)
      (case n_mo => k_is)
      (case n_ls => k_is)
      (case n_gr => k_is)
      (case n_lr => k_is)
      (case n_ld => k_is)
      (case c_ne => refine' ⟨?q1, ?q2, ?q3, ?q4⟩; (case q1 => k_is); (case q2 => k_is); (case q3 => k_is); (case q4 => k_is))
      (case c_al => refine' ⟨?q1, ?q2, ?q3, ?q4⟩; (case q1 => k_is); (case q2 => k_is); (case q3 => k_is); (case q4 => k_is))
      (case c_le => refine' ⟨?q1, ?q2, ?q3, ?q4⟩; (case q1 => k_is); (case q2 => k_is); (case q3 => k_is); (case q4 => k_is))
      (case c_no => refine' ⟨?q1, ?q2, ?q3, ?q4⟩; (case q1 => k_is); (case q2 => k_is); (case q3 => k_is); (case q4 => k_is))
      (case c_mo => refine' ⟨?q1, ?q2, ?q3, ?q4⟩; (case q1 => k_is); (case q2 => k_is); (case q3 => k_is); (case q4 => k_is))
      (case c_ls => refine' ⟨?q1, ?q2, ?q3, ?q4⟩; (case q1 => k_is); (case q2 => k_is); (case q3 => k_is); (case q4 => k_is))
      (case c_gr => refine' ⟨?q1, ?q2, ?q3, ?q4⟩; (case q1 => k_is); (case q2 => k_is); (case q3 => k_is); (case q4 => k_is))
      (case c_lr => refine' ⟨?q1, ?q2, ?q3, ?q4⟩; (case q1 => k_is); (case q2 => k_is); (case q3 => k_is); (case q4 => k_is))
      (case c_ld => refine' ⟨?q1, ?q2, ?q3, ?q4⟩; (case q1 => k_is); (case q2 => k_is); (case q3 => k_is); (case q4 => k_is))
      (case h_ne => k_is)
      (case h_al => k_is)
      (case h_le => k_is)
      (case h_no => k_is)
      (case h_mo => k_is)
      (case h_ls => k_is)
      (case h_gr => k_is)
      (case h_lr => k_is)
      (case h_ld => k_is)
      (case m_ne => k_is)
      (case m_al => k_is)
      (case m_le => k_is)
      (case m_no => k_is)
      (case m_mo => k_is)
      (case m_ls => k_is)
      (case m_gr => k_is)
      (case m_lr => k_is)
      (case m_ld => k_is)
      (case s_ne => first | k_is | kit_is)
      (case s_al => first | k_is | kit_is)
      (case s_le => first | k_is | kit_is)
      (case s_no => first | k_is | kit_is)
      (case s_mo => first | k_is | kit_is)
      (case s_ls => first | k_is | kit_is)
      (case s_gr => first | k_is | kit_is)
      (case s_lr => first | k_is | kit_is)
      (case s_ld => first | k_is | kit_is)
      (case hn => k_is)
      (case tk => k_is)
      (case a_name => k_is)
      (case a_part => k_is)
      (case a_one_mo => k_is)
      (case a_one_ls => k_is)
      (case a_one_gr => k_is)
      (case a_one_lr => k_is)
      (case a_one_ld => k_is)
      (case a_other_mo => k_is)
      (case a_other_ls => k_is)
      (case a_other_gr => k_is)
      (case a_other_lr => k_is)
      (case a_other_ld => k_is)
      (case g_madeS_ne => k_is)
      (case g_madeS_al => k_is)
      (case g_madeS_le => k_is)
      (case e_madeS => refine' L2.funM_mk ?l ?c ?k ?fn; (case l => k_is); (case c => k_is); (case k => k_is); (case fn => k_is))
      (case g_laid_ne => k_is)
      (case g_laid_al => k_is)
      (case g_laid_le => k_is)
      (case g_laid_no => k_is)
      (case g_laid_mo => k_is)
      (case g_laid_ls => k_is)
      (case g_laid_gr => k_is)
      (case g_laid_lr => k_is)
      (case g_laid_ld => k_is)
      (case e_laid => refine' L2.funM_mk ?l ?c ?k ?fn; (case l => k_is); (case c => k_is); (case k => k_is); (case fn => k_is))
      (case g_parts_ne => k_is)
      (case g_parts_al => k_is)
      (case g_parts_le => k_is)
      (case g_parts_no => k_is)
      (case g_parts_mo => k_is)
      (case g_parts_ls => k_is)
      (case g_parts_gr => k_is)
      (case g_parts_lr => k_is)
      (case g_parts_ld => k_is)
      (case e_parts => refine' L2.funM_mk ?l ?c ?k ?fn; (case l => k_is); (case c => k_is); (case k => k_is); (case fn => k_is))
      (case g_Mno_no => k_is)
      (case e_Mno => refine' L2.funM_mk ?l ?c ?k ?fn; (case l => k_is); (case c => k_is); (case k => k_is); (case fn => k_is))
      (case g_Mfo_mo => k_is)
      (case g_Mfo_ls => k_is)
      (case g_Mfo_gr => k_is)
      (case g_Mfo_lr => k_is)
      (case g_Mfo_ld => k_is)
      (case e_Mfo => refine' L2.funM_mk ?l ?c ?k ?fn; (case l => k_is); (case c => k_is); (case k => k_is); (case fn => k_is))
      (case g_ile_le => k_is)
      (case e_ile => refine' L2.funM_mk ?l ?c ?k ?fn; (case l => k_is); (case c => k_is); (case k => k_is); (case fn => k_is))
      (case g_ino_no => k_is)
      (case e_ino => refine' L2.funM_mk ?l ?c ?k ?fn; (case l => k_is); (case c => k_is); (case k => k_is); (case fn => k_is))
      (case g_ifo_mo => k_is)
      (case g_ifo_ls => k_is)
      (case g_ifo_gr => k_is)
      (case g_ifo_lr => k_is)
      (case g_ifo_ld => k_is)
      (case e_ifo => refine' L2.funM_mk ?l ?c ?k ?fn; (case l => k_is); (case c => k_is); (case k => k_is); (case fn => k_is))
      (case i_ne => k_is)
      (case i_al => k_is)
      (case y_ne => k_is)
      (case y_al => k_is)
      (case y_le => k_is)
      (case y_no => k_is)
      (case y_mo => k_is)
      (case y_ls => k_is)
      (case y_gr => k_is)
      (case y_lr => k_is)
      (case y_ld => k_is)
      (case z_ne => k_is)
      (case z_al => k_is)
      (case z_le => k_is)
      (case z_no => k_is)
      (case z_mo => k_is)
      (case z_ls => k_is)
      (case z_gr => k_is)
      (case z_lr => k_is)
      (case z_ld => k_is)
      (case n_cS => k_is)
      (case n_cF => k_is)
      (case q_ne_S => first | k_is | kit_is)
      (case q_ne_F => first | k_is | kit_is)
      (case q_ne_al => first | k_is | kit_is)
      (case q_ne_le => first | k_is | kit_is)
      (case q_ne_no => first | k_is | kit_is)
      (case q_ne_mo => first | k_is | kit_is)
      (case q_ne_ls => first | k_is | kit_is)
      (case q_ne_gr => first | k_is | kit_is)
      (case q_ne_lr => first | k_is | kit_is)
      (case q_ne_ld => first | k_is | kit_is)
      (case q_al_S => first | k_is | kit_is)
      (case q_al_F => first | k_is | kit_is)
      (case q_al_ne => first | k_is | kit_is)
      (case q_al_le => first | k_is | kit_is)
      (case q_al_no => first | k_is | kit_is)
      (case q_al_mo => first | k_is | kit_is)
      (case q_al_ls => first | k_is | kit_is)
      (case q_al_gr => first | k_is | kit_is)
      (case q_al_lr => first | k_is | kit_is)
      (case q_al_ld => first | k_is | kit_is)
      (case q_le_S => first | k_is | kit_is)
      (case q_le_F => first | k_is | kit_is)
      (case q_le_ne => first | k_is | kit_is)
      (case q_le_al => first | k_is | kit_is)
      (case q_le_no => first | k_is | kit_is)
      (case q_le_mo => first | k_is | kit_is)
      (case q_le_ls => first | k_is | kit_is)
      (case q_le_gr => first | k_is | kit_is)
      (case q_le_lr => first | k_is | kit_is)
      (case q_le_ld => first | k_is | kit_is)
      (case q_no_S => first | k_is | kit_is)
      (case q_no_F => first | k_is | kit_is)
      (case q_no_ne => first | k_is | kit_is)
      (case q_no_al => first | k_is | kit_is)
      (case q_no_le => first | k_is | kit_is)
      (case q_no_mo => first | k_is | kit_is)
      (case q_no_ls => first | k_is | kit_is)
      (case q_no_gr => first | k_is | kit_is)
      (case q_no_lr => first | k_is | kit_is)
      (case q_no_ld => first | k_is | kit_is)
      (case q_mo_S => first | k_is | kit_is)
      (case q_mo_F => first | k_is | kit_is)
      (case q_mo_ne => first | k_is | kit_is)
      (case q_mo_al => first | k_is | kit_is)
      (case q_mo_le => first | k_is | kit_is)
      (case q_mo_no => first | k_is | kit_is)
      (case q_mo_ls => first | k_is | kit_is)
      (case q_mo_gr => first | k_is | kit_is)
      (case q_mo_lr => first | k_is | kit_is)
      (case q_mo_ld => first | k_is | kit_is)
      (case q_ls_S => first | k_is | kit_is)
      (case q_ls_F => first | k_is | kit_is)
      (case q_ls_ne => first | k_is | kit_is)
      (case q_ls_al => first | k_is | kit_is)
      (case q_ls_le => first | k_is | kit_is)
      (case q_ls_no => first | k_is | kit_is)
      (case q_ls_mo => first | k_is | kit_is)
      (case q_ls_gr => first | k_is | kit_is)
      (case q_ls_lr => first | k_is | kit_is)
      (case q_ls_ld => first | k_is | kit_is)
      (case q_gr_S => first | k_is | kit_is)
      (case q_gr_F => first | k_is | kit_is)
      (case q_gr_ne => first | k_is | kit_is)
      (case q_gr_al => first | k_is | kit_is)
      (case q_gr_le => first | k_is | kit_is)
      (case q_gr_no => first | k_is | kit_is)
      (case q_gr_mo => first | k_is | kit_is)
      (case q_gr_ls => first | k_is | kit_is)
      (case q_gr_lr => first | k_is | kit_is)
      (case q_gr_ld => first | k_is | kit_is)
      (case q_lr_S => first | k_is | kit_is)
      (case q_lr_F => first | k_is | kit_is)
      (case q_lr_ne => first | k_is | kit_is)
      (case q_lr_al => first | k_is | kit_is)
      (case q_lr_le => first | k_is | kit_is)
      (case q_lr_no => first | k_is | kit_is)
      (case q_lr_mo => first | k_is | kit_is)
      (case q_lr_ls => first | k_is | kit_is)
      (case q_lr_gr => first | k_is | kit_is)
      (case q_lr_ld => first | k_is | kit_is)
      (case q_ld_S => first | k_is | kit_is)
      (case q_ld_F => first | k_is | kit_is)
      (case q_ld_ne => first | k_is | kit_is)
      (case q_ld_al => first | k_is | kit_is)
      (case q_ld_le => first | k_is | kit_is)
      (case q_ld_no => first | k_is | kit_is)
      (case q_ld_mo => first | k_is | kit_is)
      (case q_ld_ls => first | k_is | kit_is)
      (case q_ld_gr => first | k_is | kit_is)
      (case q_ld_lr => first | k_is | kit_is)
    obtain ⟨c, AF⟩ := AA
    have CC : ∃ CS CP CR fI, Mine.ExcT (L2.KOf KX) mg CS CR CP ∧ Mine.RowX (L2.KOf KX) mg CR fI ∧ L2.TopDict (L2.KOf KX) mg "TAKEN" Mine.TK := by
      dsimp only [L2.KOf]
      refine' Mine.cls02 KX G ?mCS ?mCP ?mCR ?xp ?i0 ?fe ?xi ?kc ?xf ?sa ?n1 ?s6 ?s7 ?s8 ?o13 ?o14 ?e6 ?e8 ?e9 ?e10 ?e12 ?e16 ?esu ?ek2 ?r6 ?r8 ?r9 ?r10 ?r12 ?r16 ?rsu ?rk2 ?k3 ?k5 ?t1 ?t2 ?t3 ?t4
      (case mCS => k_is)
      (case mCP => k_is)
      (case mCR => k_is)
      (case xp => k_exc)
      (case i0 => k_is)
      (case fe => refine' L2.funE_mk ?fl ?fc ?fk; (case fl => k_is); (case fc => k_is); (case fk => k_is))
      (case xi => kernel_rfl)
      (case kc => k_is)
      (case xf => kernel_rfl)
      (case sa => k_is)
      (case n1 => k_is)
      (case s6 => k_is)
      (case s7 => k_is)
      (case s8 => k_is)
      (case o13 => k_is)
      (case o14 => k_is)
      (case e6 => k_is)
      (case e8 => k_is)
      (case e9 => k_is)
      (case e10 => k_is)
      (case e12 => k_is)
      (case e16 => k_is)
      (case esu => k_is)
      (case ek2 => first | k_is | kit_is)
      (case r6 => k_is)
      (case r8 => k_is)
      (case r9 => k_is)
      (case r10 => k_is)
      (case r12 => k_is)
      (case r16 => k_is)
      (case rsu => k_is)
      (case rk2 => first | k_is | kit_is)
      (case k3 => first | k_is | kit_is)
      (case k5 => first | k_is | kit_is)
      (case t1 => k_is)
      (case t2 => k_is)
      (case t3 => decide)
      (case t4 => exact (.cons rfl ⟨_, rfl⟩ (.cons rfl ⟨_, rfl⟩ (.cons rfl ⟨_, rfl⟩ (.cons rfl ⟨_, rfl⟩ (.cons rfl ⟨_, rfl⟩ (.cons rfl ⟨_, rfl⟩ (.cons rfl ⟨_, rfl⟩ (.cons rfl ⟨_, rfl⟩ (.cons rfl ⟨_, rfl⟩ (.cons rfl ⟨_, rfl⟩ .nil)))))))))))
    obtain ⟨CS, CP, CR, fI, XT, RX, P_TAKEN⟩ := CC
    have I_MOST : ∃ t, mg "MOST_PARTS" = some (.int 24 t) := by
      refine' L2.topint_mk KX G ?ie ?iq; (case ie => k_is); (case iq => exact ⟨_, rfl⟩)
    obtain ⟨tm, M_MOST⟩ := I_MOST
    obtain ⟨f, fd, F, m⟩ := T_law.ex
    have e := hmg.symm.trans m
    cases e
    obtain ⟨oc, od, kV, doc, pm, an, cdv, ct, osl, hfd, lk, hcd⟩ := id F.ex
    subst hfd
    refine ⟨PySem.W.fnOf "law" "law" (L2.defArgs Mine.sLaw) (L2.defBody Mine.sLaw) (L2.defScope Mine.sLaw) .none kV doc pm an cdv ct, fun s u => .of_eq rfl, fun base kb' nb => ?_⟩
    have XN := Mine.rowx (P := PySem.Challenge.rw_leansay_k02_texts_refused.prog) (w := w) (base := base) XT.mt RX
    have M := Mine.ms (P := PySem.Challenge.rw_leansay_k02_texts_refused.prog) (w := w) (base := base) AF
    obtain ⟨kl, kn, kf⟩ := Mine.mks (P := PySem.Challenge.rw_leansay_k02_texts_refused.prog) (w := w) (base := base) AF
    obtain ⟨cS, cF, KA⟩ := AF.kt
    have GL : ∀ t, L2.MethOk PySem.Challenge.rw_leansay_k02_texts_refused.prog w (L2.KOf KX) mg base (c.of t) "laid_out" 2 ["self"] (Mine.spLaid c t) := fun t => Mine.ok_laid (AF.laid t) M
    have GP : ∀ t, L2.MethOk PySem.Challenge.rw_leansay_k02_texts_refused.prog w (L2.KOf KX) mg base (c.of t) "parts" 3 ["self"] (Mine.spParts c t) := fun t => Mine.ok_parts (AF.parts t) Z_len GL
    have dNext := Mine.ok_next (P := PySem.Challenge.rw_leansay_k02_texts_refused.prog) (w := w) (base := base) T_l_next Z_len
    have dHow := Mine.ok_howG (P := PySem.Challenge.rw_leansay_k02_texts_refused.prog) (w := w) (base := base) T_how_many_it_takes P_TAKEN
    have dFault := Mine.ok_faultIn T_fault_in Z_enumerate Z_len (Mine.ok_fits T_fits dHow)
    have dMade := Mine.ok_madeW T_made_of_words Z_reversed dHow (Mine.ok_leafBy (P := PySem.Challenge.rw_leansay_k02_texts_refused.prog) (w := w) (base := base) T_leaf_by AF.o_ne AF.r_ne AF.o_al AF.r_al kl) (Mine.ok_foldBy (P := PySem.Challenge.rw_leansay_k02_texts_refused.prog) (w := w) (base := base) T_fold_by kf) kn
    have dDrawn := Mine.ok_drawn T_l_drawn Z_range dNext (Mine.ok_saying T_l_saying Z_int dNext 28) (Mine.ok_text T_l_text Z_len 28) (Mine.ok_changed T_l_changed Z_len (Mine.ok_wordL (P := PySem.Challenge.rw_leansay_k02_texts_refused.prog) (w := w) (base := base) T_l_word Z_len))
    have dTakes := Mine.ok_takes T_l_takes Z_len Z_int (Mine.ok_done (P := PySem.Challenge.rw_leansay_k02_texts_refused.prog) (w := w) (base := base) T_l_done Z_len)
    exact Mine.ok_law F Z_isinstance Z_ValueError Z_bool kb XT AF.fx KA.kt.s KA.mS (Mine.ok_mixed T_l_mixed Z_len Z_max Z_min Z_range Z_abs Z_int) dDrawn (Mine.ok_readX T_read M_MOST XN XT.mm XT.xm dFault dMade GP) (Mine.ok_faultL T_l_fault Z_len Z_enumerate dTakes) (Mine.ok_many T_l_many Z_len)
  case S => exact fun K H a ns hl hb hO hS => ⟨a, ns, rfl, Mine.scr_of hO hS hl hb, fun _ => rfl⟩
  case C => exact fun _ _ _ _ z => z




