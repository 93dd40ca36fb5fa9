import PyProof.Rows.All
import Wide.All
import OpenK.AllK
import Wide.FinOn
import Lean
import PyProof.EqAt
import PyProof.EqKinds
import PyProof.TupleCall
import KE.KRevIter
import PyProof.ListNew
import PyProof.NeKinds
import PyProof.StrBlockL
import KE.LcSums
import PyProof.Rows.EqDataRows
import PyProof.Draws
import PyProof.EnumMake
import PyProof.ZipIter
import PyProof.WalksMore
import PyProof.P3In
import PyProof.IsRules
import KE.KTab
import PyProof.Rows.SumAny
import PyProof.ExcClass2
import PyProof.ExcInit
import PyProof.StationsW
import PyProof.InstStoreFacts
import PySem.Challenge.RW_leansay_k13_rows_amiss
set_option Elab.async false
set_option linter.all false
set_option maxRecDepth 100000
/-! THE HAND LAYER, for ints, bools, texts, own classes, LISTS and tuples (index, slices, in, append, pop ..), calls, loops. Paste it whole ahead of your own text; what your proof does not reach may be deleted. -/
namespace L2
open PySem PySem.Spec PyProof.Rows

/-- a key: an int or a str -/
abbrev Key := Sum Int Str
def keyIs : Key → Value → Bool
  | .inl k, v => Value.isInt k v
  | .inr x, v => Value.isStrOf x v
def keyH (w : World) : Key → Int
  | .inl k => hashInt k
  | .inr x => hashStr w x
theorem keyIs_shape : ∀ {k : Key} {v : Value}, keyIs k v = true → (∃ i t, k = Sum.inl i ∧ v = Value.int i t) ∨ (∃ x t, k = Sum.inr x ∧ v = Value.str x t)
  | .inl i, v, h => by
    obtain ⟨t, e⟩ := Value.isInt_shape (k := i) (v := v) h
    exact .inl ⟨i, t, rfl, e⟩
  | .inr x, v, h => by
    obtain ⟨t, e⟩ := Value.isStrOf_shape (x := x) (v := v) h
    exact .inr ⟨x, t, rfl, e⟩
theorem key_ll (a b : Int) : decide ((Sum.inl a : Key) = Sum.inl b) = (a == b) := by
  by_cases e : a = b
  · subst e; simp
  · have h : ¬ (Sum.inl a : Key) = Sum.inl b := fun q => e (Sum.inl.inj q)
    rw [decide_eq_false h]
    exact (beq_eq_false_iff_ne.mpr e).symm
theorem key_rr (a b : Str) : decide ((Sum.inr a : Key) = Sum.inr b) = decide (a = b) := by
  by_cases e : a = b
  · subst e; simp
  · have h : ¬ (Sum.inr a : Key) = Sum.inr b := fun q => e (Sum.inr.inj q)
    rw [decide_eq_false h, decide_eq_false e]
theorem key_lr (a : Int) (b : Str) : decide ((Sum.inl a : Key) = Sum.inr b) = false := decide_eq_false (fun q => nomatch q)
theorem key_rl (a : Str) (b : Int) : decide ((Sum.inr a : Key) = Sum.inl b) = false := decide_eq_false (fun q => nomatch q)

def mixKind (prog : Program) (w : World) : PySem.KeyKind prog w Key where
  is := keyIs
  hash := keyH w
  inj := fun v a b ha hb => by
    rcases keyIs_shape ha with ⟨i, t, rfl, rfl⟩ | ⟨x, t, rfl, rfl⟩
    · rcases keyIs_shape hb with ⟨j, u, rfl, e⟩ | ⟨y, u, rfl, e⟩
      · injection e with e1 _; rw [e1]
      · exact nomatch e
    · rcases keyIs_shape hb with ⟨j, u, rfl, e⟩ | ⟨y, u, rfl, e⟩
      · exact nomatch e
      · injection e with e1 _; rw [e1]
  byValue := fun k v h => by
    rcases keyIs_shape h with ⟨i, t, rfl, rfl⟩ | ⟨x, t, rfl, rfl⟩ <;> rfl
  pyHash := fun hv h => by
    rcases keyIs_shape hv with ⟨i, t, rfl, rfl⟩ | ⟨x, t, rfl, rfl⟩
    · exact wpAny_pyHash_int h
    · exact wpAny_pyHash_str h
  eqBool := fun hu hv h => by
    rcases keyIs_shape hu with ⟨i, t, rfl, rfl⟩ | ⟨x, t, rfl, rfl⟩
    · rcases keyIs_shape hv with ⟨j, u, rfl, rfl⟩ | ⟨y, u, rfl, rfl⟩
      · rw [key_ll] at h; exact wpAny_eqBool_int h
      · rw [key_lr] at h; exact SeqAt.EqAt.int_str i t y u _ _ _ _ h
    · rcases keyIs_shape hv with ⟨j, u, rfl, rfl⟩ | ⟨y, u, rfl, rfl⟩
      · rw [key_rl] at h; exact SeqAt.EqAt.str_int x t j u _ _ _ _ h
      · rw [key_rr] at h; exact wpAny_eqBool_str h
  «strs» := fun k x t v h => by
    rcases keyIs_shape h with ⟨i, u, rfl, e⟩ | ⟨y, u, rfl, e⟩
    · exact nomatch e
    · injection e with e1 _
      subst e1
      cases v <;> rfl

end L2

namespace L2
open PySem PySem.Spec PyProof.Rows

/-- a value, without the heap -/
inductive V where
  | non | bl (b : Bool) | int (i : Int) | str (x : Str) | byt (b : Array UInt8) | flt (b : UInt64) | ref (a : Addr) | ty (n : String)
  deriving DecidableEq

def RelV : V → Value → Prop
  | .non, u => u = Value.none
  | .bl b, u => u = Value.bool b
  | .int i, u => ∃ t, u = Value.int i t
  | .str x, u => ∃ t, u = Value.str x t
  | .byt b, u => ∃ t, u = Value.bytes b t
  | .flt b, u => ∃ t, u = Value.float b t
  | .ref a, u => u = Value.ref a
  | .ty n, u => u = Value.type n

abbrev Vals : List V → List Value → Prop := Paired RelV
theorem Vals.length {xs : List V} {us : List Value} (r : Vals xs us) : xs.length = us.length := Paired.length r
theorem Vals.get : ∀ {xs : List V} {us : List Value} {i : Nat} {x : V}, Vals xs us → xs[i]? = some x → ∃ u, us[i]? = some u ∧ RelV x u
  | _, _, _, _, .nil, e => by simp at e
  | _, _, 0, _, .cons r _, e => by simp at e; subst e; exact ⟨_, rfl, r⟩
  | _, _, i + 1, x, .cons _ t, e => by
    obtain ⟨u, h1, h2⟩ := Vals.get (i := i) (x := x) t (by simpa using e)
    exact ⟨u, by simpa using h1, h2⟩
theorem Vals.append : ∀ {xs ys : List V} {us ws : List Value}, Vals xs us → Vals ys ws → Vals (xs ++ ys) (us ++ ws)
  | _, _, _, _, .nil, s => s
  | _, _, _, _, .cons r t, s => .cons r (Vals.append t s)
theorem Vals.take : ∀ {xs : List V} {us : List Value} (n : Nat), Vals xs us → Vals (xs.take n) (us.take n)
  | _, _, 0, _ => .nil
  | _, _, _ + 1, .nil => .nil
  | _, _, n + 1, .cons r t => .cons r (Vals.take n t)
theorem Vals.drop : ∀ {xs : List V} {us : List Value} (n : Nat), Vals xs us → Vals (xs.drop n) (us.drop n)
  | _, _, 0, r => r
  | _, _, _ + 1, .nil => .nil
  | _, _, n + 1, .cons _ t => Vals.drop n t

def RelO : Option V → Option Value → Prop
  | some v, some u => RelV v u
  | none, none => True
  | _, _ => False
def KV {κ : Type} : List (κ × V) → List (κ × Value) → Prop := Paired fun (p : κ × V) (q : κ × Value) => p.1 = q.1 ∧ RelV p.2 q.2

/-- a key of a dict (00_mix): an int or a text -/
def kV : Key → V
  | .inl i => .int i
  | .inr x => .str x

/-- what stands at a tracked address -/
inductive HO where
  /-- a list -/
  | lst (xs : List V)
  /-- a tuple (never changes) -/
  | tup (xs : List V)
  /-- a dict whose keys are ints and texts; one whose keys are tuples of ints and texts (the empty one is both) -/
  | dK (kvs : List (Key × V)) | dT (kvs : List (List Key × V))
  /-- a set of ints: its members, its size -/
  | set (S : Int → Bool) (n : Nat)
  /-- an instance of the class at C, its dict at dx, its attributes -/
  | ins (C dx : Addr) (fs : List (Str × V))
  /-- the dict of the instance at x -/
  | own (x : Addr)
  /-- the dict of an exception -/
  | xd (fs : List (Str × V))
  /-- a bound method, f of x -/
  | met (f x : Addr)
  /-- a range object lo, lo + 1, .. below hi -/
  | rng (lo hi : Int)
  /-- a thing that is known to the object (the script; a dict while a loop walks it): read, never written while it is so -/
  | frz (o : Obj) (u : HO)
  /-- a code object's table -/
  | tbl (ps : Array Value)
  /-- any other thing, by what is true of its one object (a def of one's own: SetO a S n := HO.ext fun h => ..) -/
  | ext (φ : Heap → Prop)

abbrev Hp := Addr → Option HO
def upd (H : Hp) (a : Addr) (o : HO) : Hp := fun b => if b = a then some o else H b
theorem upd_same {H : Hp} {a : Addr} {o : HO} : upd H a o a = some o := by unfold upd; rw [if_pos rfl]
theorem upd_ne {H : Hp} {a b : Addr} {o : HO} (h : b ≠ a) : upd H a o b = H b := by unfold upd; rw [if_neg h]
/-- two objects of different content stand apart -/
theorem ne_of {H : Hp} {a b : Addr} {o u : HO} (h : H a = some o) (h' : H b = some u) (d : o ≠ u) : a ≠ b := by
  intro e; subst e; rw [h] at h'; exact d (Option.some.inj h')
theorem ne_of_none {H : Hp} {a b : Addr} {o : HO} (h : H a = some o) (h' : H b = none) : a ≠ b := by
  intro e; subst e; rw [h] at h'; cases h'

section
variable (P : Program) (w : World)
def ObjOk (H : Hp) (h : Heap) (a : Addr) : HO → Prop
  | .lst xs => xs.length ≤ sizeLine ∧ ∃ (its : List Value) (n : Nat), Vals xs its ∧ h.get? a = some { cls := .type "list", data := .seq its.toArray n }
  | .tup xs => xs.length ≤ sizeLine ∧ ∃ its : List Value, Vals xs its ∧ IsTup h a its.toArray
  | .dK kvs => kvs.length ≤ sizeLine ∧ (a == sysModules) = false ∧ ∃ vs, KV kvs vs ∧ h.DictOf (mixKind P w) a vs
  | .dT kvs => kvs.length ≤ sizeLine ∧ (a == sysModules) = false ∧ ∃ xs : List (List Key × Addr × Value),
      Paired (fun (p : List Key × V) (q : List Key × Addr × Value) => p.1 = q.1 ∧ H q.2.1 = some (.tup (p.1.map kV)) ∧ RelV p.2 q.2.2) kvs xs ∧
      ∃ o es ep, h.get? a = some o ∧ o.ExactDict ∧ o.data = .dict es ep ∧ es.toList = xs.map (entryOfKey (tupleKind (mixKind P w))) ∧ (xs.map (·.1)).Nodup
  | .set S n => h.SetOf (intKind P w) a S n
  | .ins C dx fs => H dx = some (.own a) ∧ fs.length ≤ 1000 ∧ dx ≠ a ∧ h.get? a = some (PySem.W.instObj C dx) ∧
      ∃ mA, h.Ns1 dx mA ∧ (∀ f, RelO (fs.lookup f) (mA f)) ∧ PySem.Within mA (fs.map (·.1))
  | .own _ => ∃ o, h.get? a = some o
  | .xd fs => ∃ mA, h.Ns1 a mA ∧ ∀ f, RelO (fs.lookup f) (mA f)
  | .rng lo hi => ∃ t u v, h.get? a = some { cls := .type "range", data := .fields #[.int lo t, .int hi u, .int 1 v] }
  | .frz o u => h.get? a = some o ∧ ObjOk H h a u
  | .tbl ps => h.get? a = some { cls := .none, data := .fields ps }
  | .met f x => h.get? a = some (PySem.W.methodObj (.ref f) (.ref x))
  | .ext φ => φ h ∧ (∃ o, h.get? a = some o) ∧ ∀ h1 h2 : Heap, φ h1 → (∀ o, h1.get? a = some o → h2.get? a = some o) → φ h2
/-- the abstract heap is held -/
def HOk (H : Hp) (h : Heap) : Prop := ∀ a o, H a = some o → ObjOk P w H h a o
end

section
variable {P : Program} {w : World} {H H' : Hp} {h h' : Heap} {a : Addr} {o : HO}
theorem ObjOk.lt (x : ObjOk P w H h a o) : a < h.objs.size := by
  cases o with
  | lst xs => obtain ⟨_, _, _, _, e⟩ := x; exact Heap.lt_size e
  | tup xs => obtain ⟨_, _, _, p⟩ := x; exact p.lt
  | dK kvs => obtain ⟨_, _, _, _, o, _, _, e, _⟩ := x; exact Heap.lt_size e
  | dT kvs => obtain ⟨_, _, _, _, o, _, _, e, _⟩ := x; exact Heap.lt_size e
  | set S n => obtain ⟨o, _, _, _, e, _⟩ := x; exact Heap.lt_size e
  | ins C dx fs => obtain ⟨_, _, _, e, _⟩ := x; exact Heap.lt_size e
  | own y => obtain ⟨_, e⟩ := x; exact Heap.lt_size e
  | xd fs => obtain ⟨_, ⟨_, _, _, e, _⟩, _⟩ := x; exact Heap.lt_size e
  | rng lo hi => obtain ⟨_, _, _, e⟩ := x; exact Heap.lt_size e
  | frz ob u => obtain ⟨e, _⟩ := x; exact Heap.lt_size e
  | tbl ps => exact Heap.lt_size (show h.get? a = some _ from x)
  | met f y => exact Heap.lt_size (show h.get? a = some _ from x)
  | ext φ => obtain ⟨_, ⟨_, e⟩, _⟩ := x; exact Heap.lt_size e
theorem Paired.mapP {α β : Type} {F G : α → β → Prop} : ∀ {l₁ : List α} {l₂ : List β}, Paired F l₁ l₂ → (∀ a b, F a b → G a b) → Paired G l₁ l₂
  | _, _, .nil, _ => .nil
  | _, _, .cons r t, f => .cons (f _ _ r) (Paired.mapP t f)
/-- what an object's description leans on: its own object, its own dict, the tuples -/
theorem ObjOk.stay (x : ObjOk P w H h a o) (k : ∀ b u, (b = a ∨ H b = some (.own a)) → h.get? b = some u → h'.get? b = some u)
    (ho : ∀ b, H b = some (.own a) → H' b = some (.own a)) (ht : ∀ b xs, H b = some (.tup xs) → H' b = some (.tup xs)) : ObjOk P w H' h' a o := by
  induction o with
  | lst xs => obtain ⟨z, its, n, r, e⟩ := x; exact ⟨z, its, n, r, k _ _ (.inl rfl) e⟩
  | tup xs => obtain ⟨z, its, r, ob, e, c⟩ := x; exact ⟨z, its, r, ob, k _ _ (.inl rfl) e, c⟩
  | dK kvs => obtain ⟨z, y, vs, r, ob, es, ep, e, c⟩ := x; exact ⟨z, y, vs, r, ob, es, ep, k _ _ (.inl rfl) e, c⟩
  | dT kvs =>
    obtain ⟨z, y, xs, r, ob, es, ep, e, c⟩ := x
    exact ⟨z, y, xs, Paired.mapP r fun p q z => ⟨z.1, ht _ _ z.2.1, z.2.2⟩, ob, es, ep, k _ _ (.inl rfl) e, c⟩
  | set S n => obtain ⟨ob, es, ep, t, e, c⟩ := x; exact ⟨ob, es, ep, t, k _ _ (.inl rfl) e, c⟩
  | ins C dx fs =>
    obtain ⟨d, z, ne, e, mA, ⟨od, es, ep, e2, c⟩, r⟩ := x
    exact ⟨ho _ d, z, ne, k _ _ (.inl rfl) e, mA, ⟨od, es, ep, k _ _ (.inr d) e2, c⟩, r⟩
  | own y => obtain ⟨ob, e⟩ := x; exact ⟨ob, k _ _ (.inl rfl) e⟩
  | xd fs => obtain ⟨mA, ⟨od, es, ep, e, c⟩, r⟩ := x; exact ⟨mA, ⟨od, es, ep, k _ _ (.inl rfl) e, c⟩, r⟩
  | rng lo hi => obtain ⟨t, u, v, e⟩ := x; exact ⟨t, u, v, k _ _ (.inl rfl) e⟩
  | frz ob u ih => obtain ⟨e, q⟩ := x; exact ⟨k _ _ (.inl rfl) e, ih q⟩
  | tbl ps =>
    have e : h.get? a = some { cls := .none, data := .fields ps } := x
    show h'.get? a = some { cls := .none, data := .fields ps }
    exact k a _ (.inl rfl) e
  | met f y =>
    have e : h.get? a = some (PySem.W.methodObj (.ref f) (.ref y)) := x
    show h'.get? a = some (PySem.W.methodObj (.ref f) (.ref y))
    exact k a _ (.inl rfl) e
  | ext φ => obtain ⟨p, ⟨o, e⟩, st⟩ := x; exact ⟨st _ _ p fun o q => k _ _ (.inl rfl) q, ⟨o, k _ _ (.inl rfl) e⟩, st⟩
theorem HOk.lt (x : HOk P w H h) (e : H a = some o) : a < h.objs.size := (x a o e).lt
theorem HOk.fresh (x : HOk P w H h) (e : h.objs.size ≤ a) : H a = none := by
  cases q : H a with
  | none => rfl
  | some u => exact absurd (Nat.lt_of_lt_of_le (x.lt q) e) (Nat.lt_irrefl _)
/-- every object of the heap is kept -/
theorem HOk.kept (x : HOk P w H h) (k : ∀ b u, h.get? b = some u → h'.get? b = some u) : HOk P w H h' := fun a o e =>
  (x a o e).stay (fun b u _ q => k b u q) (fun _ q => q) fun _ _ q => q
/-- a new object is laid and tracked -/
theorem HOk.laid (x : HOk P w H h) (k : ∀ b u, h.get? b = some u → h'.get? b = some u) (hp : h.objs.size ≤ a) (new : ObjOk P w (upd H a o) h' a o) : HOk P w (upd H a o) h' := fun b u e => by
  have hn := x.fresh hp
  by_cases hb : b = a
  · subst hb; rw [upd_same] at e; cases e; exact new
  · rw [upd_ne hb] at e
    exact (x b u e).stay (fun c v _ q => k c v q) (fun c q => by rw [upd_ne (ne_of_none q hn)]; exact q) fun c xs q => by rw [upd_ne (ne_of_none q hn)]; exact q
end

/-- what may be read as u: it is u, or a known u -/
def Rd (H : Hp) (a : Addr) (u : HO) : Prop := H a = some u ∨ ∃ o, H a = some (.frz o u)
theorem Rd.ok {P : Program} {w : World} {H : Hp} {h : Heap} {a : Addr} {u : HO} (r : Rd H a u) (x : HOk P w H h) : ObjOk P w H h a u := by
  rcases r with r | ⟨o, r⟩
  · exact x a u r
  · obtain ⟨_, q⟩ := x a _ r
    exact q
/-- what may be written -/
def Mut : Option HO → Prop
  | some (.lst _) => True
  | some (.dK _) => True
  | some (.dT _) => True
  | some (.set _ _) => True
  | some (.ins _ _ _) => True
  | some (.ext _) => True
  | _ => False
section
variable {P : Program} {w : World} {H : Hp} {h h' : Heap} {x e : Addr} {o' : HO}
/-- the object at e is changed: x itself, or the dict of the instance x -/
theorem HOk.write (ok : HOk P w H h) (mu : Mut (H x)) (he : e = x ∨ H e = some (.own x)) (k : ∀ b u, b ≠ e → h.get? b = some u → h'.get? b = some u) (heo : ∃ u, h'.get? e = some u)
    (new : ObjOk P w (upd H x o') h' x o') : HOk P w (upd H x o') h' := fun b u q => by
  have nown : ∀ c y, H c = some (.own y) → c ≠ x := fun c y r z => by subst z; rw [r] at mu; exact mu
  have ntup : ∀ c xs, H c = some (.tup xs) → c ≠ x := fun c xs r z => by subst z; rw [r] at mu; exact mu
  by_cases hb : b = x
  · subst hb; rw [upd_same] at q; cases q; exact new
  · rw [upd_ne hb] at q
    by_cases hbe : b = e
    · have q' : H b = some (.own x) := by
        rcases he with z | z
        · exact absurd (hbe.trans z) hb
        · rw [hbe]; exact z
      rw [q] at q'; cases q'
      obtain ⟨v, hv⟩ := heo
      exact ⟨v, by rw [hbe]; exact hv⟩
    · refine (ok b u q).stay (fun c v hc r => k c v ?_ r) (fun c r => by rw [upd_ne (nown c b r)]; exact r) fun c xs r => by rw [upd_ne (ntup c xs r)]; exact r
      rcases hc with rfl | hc
      · exact hbe
      · rintro rfl
        rcases he with z | z
        · exact nown c b hc z
        · rw [hc] at z; cases z; exact hb rfl
end

/-! ### kept unless tracked; of the frames at fs (the callers') the slots may change (an exception that passes writes there); of the records at ex (iterators) nothing is said -/
structure Un (fs ex : List Addr) (H H' : Hp) (h h' : Heap) : Prop where
  keep : ∀ b o, h.get? b = some o → H b = none → b ∉ fs → b ∉ ex → h'.get? b = some o
  slot : ∀ b o, h.get? b = some o → H b = none → b ∈ fs → b ∉ ex → ∃ sl, h'.get? b = some { o with slots := sl }
  free : ∀ b o, h.get? b = some o → H b = none → b ∉ ex → H' b = none
  there : ∀ b o, h.get? b = some o → b ∉ ex → ∃ o', h'.get? b = some o'
  tups : ∀ b xs, H b = some (.tup xs) → H' b = some (.tup xs)
  frzs : ∀ b o u, H b = some (.frz o u) → H' b = some (.frz o u)
  tbls : ∀ b ps, H b = some (.tbl ps) → ∃ more, H' b = some (.tbl (ps ++ more))
section
variable {fs fs' ex ex' : List Addr} {H H1 H2 : Hp} {h h1 h2 h' : Heap} {a x e : Addr} {o : HO}
theorem Un.any (u : Un fs ex H H1 h h1) {b : Addr} {ob : Obj} (q : h.get? b = some ob) (n : H b = none) (hx : b ∉ ex) : ∃ sl, h1.get? b = some { ob with slots := sl } := by
  by_cases hb : b ∈ fs
  · exact u.slot b ob q n hb hx
  · exact ⟨ob.slots, u.keep b ob q n hb hx⟩
theorem Un.kept (k : ∀ b u, h.get? b = some u → h'.get? b = some u) : Un fs ex H H h h' :=
  ⟨fun b ob q _ _ _ => k b ob q, fun b ob q _ _ _ => ⟨ob.slots, k b ob q⟩, fun _ _ _ n _ => n, fun b ob q _ => ⟨ob, k b ob q⟩, fun _ _ q => q, fun _ _ _ q => q, fun _ ps q => ⟨#[], by rw [q]; simp⟩⟩
theorem Un.refl : Un fs ex H H h h := Un.kept fun _ _ q => q
theorem Un.laid (k : ∀ b u, h.get? b = some u → h'.get? b = some u) (hp : h.objs.size ≤ a) (hn : H a = none) : Un fs ex H (upd H a o) h h' where
  keep := fun b u q _ _ _ => k b u q
  slot := fun b u q _ _ _ => ⟨u.slots, k b u q⟩
  free := fun b u q n _ => by rw [upd_ne (Nat.ne_of_lt (Nat.lt_of_lt_of_le (Heap.lt_size q) hp))]; exact n
  there := fun b u q _ => ⟨u, k b u q⟩
  tups := fun b xs q => by rw [upd_ne (ne_of_none q hn)]; exact q
  frzs := fun b u xs q => by rw [upd_ne (ne_of_none q hn)]; exact q
  tbls := fun b ps q => ⟨#[], by rw [upd_ne (ne_of_none q hn), q]; simp⟩
theorem Un.write (mu : Mut (H x)) (he : e = x ∨ H e = some (.own x)) (k : ∀ b u, b ≠ e → h.get? b = some u → h'.get? b = some u) (heo : ∃ u, h'.get? e = some u) : Un fs ex H (upd H x o) h h' := by
  have hx : ∀ b, H b = none → b ≠ x := fun b n z => by subst z; rw [n] at mu; exact mu
  have hb : ∀ b, H b = none → b ≠ e := fun b n z => by
    subst z
    rcases he with r | r
    · exact hx b n r
    · rw [n] at r; cases r
  have hm : ∀ b u, H b = some u → ¬ Mut (some u) → b ≠ x := fun b u q nm z => by subst z; rw [q] at mu; exact nm mu
  refine ⟨fun b u q n _ _ => k b u (hb b n) q, fun b u q n _ _ => ⟨u.slots, k b u (hb b n) q⟩, fun b u q n _ => by rw [upd_ne (hx b n)]; exact n, fun b u q _ => ?_,
    fun b xs q => by rw [upd_ne (hm b _ q fun z => z)]; exact q, fun b u xs q => by rw [upd_ne (hm b _ q fun z => z)]; exact q, fun b ps q => ⟨#[], by rw [upd_ne (hm b _ q fun z => z), q]; simp⟩⟩
  by_cases hbe : b = e
  · subst hbe; exact heo
  · exact ⟨u, k b u hbe q⟩
end

/-! ### the heap without what is tracked -/
def trk (h : Heap) (H : Hp) : List Addr := (List.range h.objs.size).filter fun a => (H a).isSome
def hidT (h : Heap) (H : Hp) : Heap := PySem.W.hideAll h (trk h H)
theorem hidT_size (h : Heap) (H : Hp) : (hidT h H).objs.size = h.objs.size := PySem.W.hideAll_size _ _
theorem hidT_get {h : Heap} {H : Hp} {b : Addr} {o : Obj} (e : h.get? b = some o) (n : H b = none) : (hidT h H).get? b = some o :=
  PySem.W.hideAll_get _ e fun hm => by
    have q : (H b).isSome = true := (List.mem_filter.mp hm).2
    rw [n] at q; simp at q
theorem of_hidT {h : Heap} {H : Hp} {b : Addr} {o : Obj} (e : (hidT h H).get? b = some o) : h.get? b = some o ∧ H b = none := by
  have e' : h.get? b = some o := PySem.W.of_hideAll (trk h H) e
  refine ⟨e', ?_⟩
  cases q : H b with
  | none => rfl
  | some x =>
    have hm : b ∈ trk h H := List.mem_filter.mpr ⟨List.mem_range.mpr (Heap.lt_size e'), by simp [q]⟩
    have z : (hidT h H).get? b = none := PySem.W.hideAll_none (trk h H) hm
    rw [z] at e; cases e

/-! ### OpenK's ledger, filled with every new object but one -/
end L2

namespace L2
open PySem PySem.Spec PyProof.Rows

/-- the module's facts, over the base: the heap at the law's entry without what is tracked there -/
structure Mod (K : PySem.W.Frag) (mg : Str → Option Value) (base : Heap) : Prop where
  kin : K.In base
  glob : base.Ns mainGlobals mg
  blt : ∃ mb, base.Ns builtinsNs mb ∧ ∀ x : Str, x ≠ "__name__" → mb x = bootBuiltins x
  nolimit : base.NoLimit

/-- the context: a def's body (or a comprehension's block) running. base: fixed through the whole law; s₀, H₀: the entry; outer: the frames whose slots others may change (a def's callers); stack: all frames that run;
   ex: iterators that were made ahead of the entry and are walked here (a comprehension's); fn: the names whose cells were made at the entry (a def: all; a comprehension's block: its own); calm: not within an except suite; pn: pins that every state bears; xe: what is wanted of an exception that leaves the code -/
structure Cx where
  prog : Program
  w : World
  K : PySem.W.Frag
  mg : Str → Option Value
  base : Heap
  A : Around
  N : List Str
  s₀ : Shared
  H₀ : Hp
  env : Env
  outer : List Env
  stack : List Env
  ex : List Addr
  fn : Str → Bool
  calm : Bool
  pn : List (Addr × Obj)
  xe : Value → Shared → Prop
/-- the callers' frames -/
def frs (l : List Env) : List Addr := l.filterMap (·.frame)
abbrev Cx.fs (X : Cx) : List Addr := frs X.outer

def Vis (sc : Scope) (x : Str) : Prop := sc.names.lookup x = some .local ∨ sc.names.lookup x = some .cell ∨ sc.names.lookup x = some .free
def Loc (sc : Scope) (x : Str) : Prop := sc.names.lookup x = some .local ∨ sc.names.lookup x = some .cell
def Look (env : Env) (h : Heap) (m : Str → Option Value) (x : Str) (u : Value) : Prop :=
  (env.kindOf x = some .local ∧ m x = some u) ∨ ((env.kindOf x = some .cell ∨ env.kindOf x = some .free) ∧ ∃ c, env.cells.lookup x = some c ∧ h.IsCell c (some u))

structure Cx.Ok (X : Cx) : Prop where
  mod : Mod X.K X.mg X.base
  kind : X.env.scope.kind = .function
  glob : X.env.globals = mainGlobals
  blt : X.env.builtins = builtinsNs
  above : X.s₀.heap.objs.size ≤ X.env.locals
  inj : ∀ x y c, X.env.cells.lookup x = some c → X.env.cells.lookup y = some c → x = y
  has : ∀ x, (X.env.kindOf x = some .cell ∨ X.env.kindOf x = some .free) → ∃ c, X.env.cells.lookup x = some c
  cab : ∀ x c, X.fn x = true → X.env.cells.lookup x = some c → X.s₀.heap.objs.size ≤ c
  hd : X.calm = true → X.A.handled = none
  frames : X.A.frames = some X.stack
  stk : X.stack = X.outer ∨ (X.stack = X.env :: X.outer ∧ X.env.frame = some X.env.locals)
  exf : ∀ b ∈ X.ex, b ≠ X.env.locals ∧ ∀ x c, X.env.cells.lookup x = some c → c ≠ b
  bs : ∀ b o, X.base.get? b = some o → X.s₀.heap.get? b = some o ∧ X.H₀ b = none
  bsz : X.base.objs.size ≤ X.s₀.heap.objs.size
  noex : ∀ b o, X.base.get? b = some o → b ∉ X.ex
  exfs : ∀ b ∈ X.ex, b ∉ X.fs
  funs : X.s₀.heap.FunFrames X.base X.outer
  frf : ∀ b ∈ X.fs, X.H₀ b = none

structure Inv (X : Cx) (pins : List (Addr × Obj)) (σ : List (Option V)) (H : Hp) (s : Shared) : Prop where
  ok : X.Ok
  os : s.os = X.s₀.os
  bare : AllBare s.gens
  base : Un X.fs X.ex X.H₀ H X.s₀.heap s.heap
  loc : ∃ m, s.heap.Ns X.env.locals m ∧ ∀ (i : Nat) (x : Str) (v : V), X.N[i]? = some x → σ[i]? = some (some v) → Vis X.env.scope x → ∃ u, RelV v u ∧ Look X.env s.heap m x u
  cell : ∀ x c, X.env.cells.lookup x = some c → ∃ v, s.heap.IsCell c v
  free : H X.env.locals = none
  freeC : ∀ x c, X.env.cells.lookup x = some c → H c = none
  pin : ∀ p ∈ X.pn ++ pins, s.heap.get? p.1 = some p.2 ∧ H p.1 = none ∧ p.1 ≠ X.env.locals ∧ p.1 ∉ X.fs ∧ ∀ v, p.2.data ≠ .cell v
  hok : HOk X.prog X.w H s.heap
  len : σ.length = X.N.length

section
variable {X : Cx} {pins : List (Addr × Obj)} {σ : List (Option V)} {H H' : Hp} {s : Shared} {h' : Heap}

theorem Cx.Ok.nofr (ok : X.Ok) {b : Addr} {o : Obj} (e : X.base.get? b = some o) : b ∉ X.fs := fun hb => by
  have := (ok.funs.mem hb).1
  rw [e] at this; cases this
theorem Inv.bs (I : Inv X pins σ H s) : ∀ b o, X.base.get? b = some o → s.heap.get? b = some o ∧ H b = none := fun b o e =>
  ⟨I.base.keep b o (I.ok.bs b o e).1 (I.ok.bs b o e).2 (I.ok.nofr e) (I.ok.noex b o e), I.base.free b o (I.ok.bs b o e).1 (I.ok.bs b o e).2 (I.ok.noex b o e)⟩
theorem Inv.bk (I : Inv X pins σ H s) : ∀ b o, X.base.get? b = some o → s.heap.get? b = some o := fun b o e => (I.bs b o e).1
theorem Inv.mod (I : Inv X pins σ H s) : Mod X.K X.mg X.base := I.ok.mod
theorem Inv.kIn (I : Inv X pins σ H s) : X.K.In s.heap := I.ok.mod.kin.keeps I.bk
theorem Inv.lt (I : Inv X pins σ H s) : X.env.locals < s.heap.objs.size := let ⟨_, hn, _⟩ := I.loc; hn.lt
theorem Inv.sz (I : Inv X pins σ H s) : X.s₀.heap.objs.size ≤ s.heap.objs.size := Nat.le_trans I.ok.above (Nat.le_of_lt I.lt)
theorem Inv.nofs (I : Inv X pins σ H s) {a : Addr} (h : s.heap.objs.size ≤ a) : a ∉ X.fs := fun hb => by
  obtain ⟨_, o, ho, _⟩ := I.ok.funs.mem hb
  exact absurd (Nat.lt_of_lt_of_le (Heap.lt_size ho) (Nat.le_trans I.sz h)) (Nat.lt_irrefl _)
theorem Inv.cne (I : Inv X pins σ H s) : ∀ x c, X.env.cells.lookup x = some c → c ≠ X.env.locals := fun x c e z => by
  obtain ⟨v, o, ho, hd⟩ := I.cell x c e
  obtain ⟨m, ⟨o', es, ep, ho', hd', _⟩, _⟩ := I.loc
  rw [z, ho'] at ho; cases ho; rw [hd'] at hd; cases hd
theorem Inv.funs (I : Inv X pins σ H s) : s.heap.FunFrames X.base X.outer := by
  have all : ∀ (l : List Env), (∀ b ∈ frs l, b ∈ X.fs) → X.s₀.heap.FunFrames X.base l → s.heap.FunFrames X.base l := by
    intro l
    induction l with
    | nil => intro _ _; trivial
    | cons env r ih =>
      intro hs hl
      obtain ⟨hk, ⟨L, o, hf, hn, ho, hd⟩, hr⟩ := hl
      have hL : L ∈ X.fs := hs L (by unfold frs; rw [List.filterMap_cons, hf]; exact List.mem_cons_self)
      obtain ⟨sl, e⟩ := I.base.slot L o ho (I.ok.frf L hL) hL fun z => I.ok.exfs L z hL
      exact ⟨hk, ⟨L, _, hf, hn, e, hd⟩, ih (fun b hb => hs b (by unfold frs; rw [List.filterMap_cons, hf]; exact List.mem_cons_of_mem _ hb)) hr⟩
  exact all X.outer (fun _ hb => hb) I.ok.funs

/-- the frames that run, for a call -/
theorem Inv.stack (I : Inv X pins σ H s) : s.heap.FunFrames X.base X.stack := by
  rcases I.ok.stk with e | ⟨e, hf⟩
  · rw [e]; exact I.funs
  · rw [e]
    obtain ⟨m, hn, _⟩ := I.loc
    refine .cons (by rw [I.ok.kind]; decide) hf hn ?_ I.funs
    exact Heap.get?_none_of_le (Nat.le_trans I.ok.bsz I.ok.above)
theorem Inv.stkSub (I : Inv X pins σ H s) : ∀ b ∈ frs X.stack, b ∈ X.env.locals :: X.fs := fun b hb => by
  rcases I.ok.stk with e | ⟨e, hf⟩
  · rw [e] at hb; exact List.mem_cons_of_mem _ hb
  · rw [e] at hb
    unfold frs at hb
    rw [List.filterMap_cons, hf] at hb
    exact hb
theorem Inv.stkFree (I : Inv X pins σ H s) : ∀ b ∈ frs X.stack, H b = none := fun b hb => by
  rcases List.mem_cons.mp (I.stkSub b hb) with e | hb
  · rw [e]; exact I.free
  · obtain ⟨_, o, ho, _⟩ := I.ok.funs.mem hb
    exact I.base.free b o ho (I.ok.frf b hb) fun z => I.ok.exfs b z hb

/-- THE STEP: the untracked objects but the frame and the records at ch are kept (the callers' frames up to slots), the frame's map is kept, the new abstract heap is held -/
theorem Inv.step {g' : Array GenState} {t' : Nat} {d' : Drawn} {ch : List Addr} (I : Inv X pins σ H s)
    (hch : ∀ b ∈ ch, (b ∈ X.ex ∨ X.s₀.heap.objs.size ≤ b) ∧ b ≠ X.env.locals ∧ (∀ x c, X.env.cells.lookup x = some c → c ≠ b) ∧ ∀ p ∈ X.pn ++ pins, p.1 ≠ b)
    (keep : ∀ b o, b ≠ X.env.locals → b ∉ X.fs → b ∉ ch → s.heap.get? b = some o → H b = none → h'.get? b = some o)
    (slot : ∀ b o, b ≠ X.env.locals → b ∈ X.fs → b ∉ ch → s.heap.get? b = some o → H b = none → ∃ sl, h'.get? b = some { o with slots := sl }) (free : ∀ b o, b ∉ ch → s.heap.get? b = some o → H b = none → H' b = none)
    (there : ∀ b o, b ∉ ch → s.heap.get? b = some o → ∃ o', h'.get? b = some o')
    (tups : ∀ b xs, H b = some (.tup xs) → H' b = some (.tup xs)) (frzs : ∀ b o u, H b = some (.frz o u) → H' b = some (.frz o u)) (tbls : ∀ b ps, H b = some (.tbl ps) → ∃ more, H' b = some (.tbl (ps ++ more)))
    (ns : ∀ m, s.heap.Ns X.env.locals m → h'.Ns X.env.locals m) (hok : HOk X.prog X.w H' h') (hg : AllBare g') :
    Inv X pins σ H' { s with heap := h', gens := g', drawn := d', toks := t' } := by
  have neL : ∀ b o, X.s₀.heap.get? b = some o → b ≠ X.env.locals := fun b o e => Nat.ne_of_lt (Nat.lt_of_lt_of_le (Heap.lt_size e) I.ok.above)
  have neC : ∀ b o, X.s₀.heap.get? b = some o → b ∉ X.ex → b ∉ ch := fun b o e hx hb => by
    rcases (hch b hb).1 with z | z
    · exact hx z
    · exact absurd (Nat.lt_of_lt_of_le (Heap.lt_size e) z) (Nat.lt_irrefl _)
  have cellK : ∀ x c, X.env.cells.lookup x = some c → ∀ v, s.heap.IsCell c v → h'.IsCell c v := fun x c e v ⟨o, ho, hd⟩ => by
    have nch : c ∉ ch := fun z => (hch c z).2.2.1 x c e rfl
    by_cases hc : c ∈ X.fs
    · obtain ⟨sl, q⟩ := slot c o (I.cne x c e) hc nch ho (I.freeC x c e)
      exact ⟨_, q, hd⟩
    · exact ⟨o, keep c o (I.cne x c e) hc nch ho (I.freeC x c e), hd⟩
  refine ⟨I.ok, I.os, hg, ⟨fun b o e n hb hx => ?_, fun b o e n hb hx => ?_, fun b o e n hx => ?_, fun b o e hx => ?_, fun b xs e => tups b xs (I.base.tups b xs e), fun b o xs e => frzs b o xs (I.base.frzs b o xs e), fun b ps e => ?_⟩, ?_, fun x c e => ?_, ?_, fun x c e => ?_, fun p hp => ?_, hok, I.len⟩
  · exact keep b o (neL b o e) hb (neC b o e hx) (I.base.keep b o e n hb hx) (I.base.free b o e n hx)
  · obtain ⟨sl, e1⟩ := I.base.slot b o e n hb hx
    obtain ⟨sl', e2⟩ := slot b _ (neL b o e) hb (neC b o e hx) e1 (I.base.free b o e n hx)
    exact ⟨sl', e2⟩
  · obtain ⟨o', e1⟩ := I.base.there b o e hx
    exact free b o' (neC b o e hx) e1 (I.base.free b o e n hx)
  · obtain ⟨o', e1⟩ := I.base.there b o e hx
    exact there b o' (neC b o e hx) e1
  · obtain ⟨m1, e1⟩ := I.base.tbls b ps e
    obtain ⟨m2, e2⟩ := tbls b _ e1
    exact ⟨m1 ++ m2, by rw [e2, Array.append_assoc]⟩
  · obtain ⟨m, hn, hl⟩ := I.loc
    refine ⟨m, ns m hn, fun i x v e1 e2 e3 => ?_⟩
    obtain ⟨u, r, l⟩ := hl i x v e1 e2 e3
    refine ⟨u, r, ?_⟩
    rcases l with l | ⟨k, c, e, z⟩
    · exact .inl l
    · exact .inr ⟨k, c, e, cellK x c e _ z⟩
  · obtain ⟨v, z⟩ := I.cell x c e
    exact ⟨v, cellK x c e v z⟩
  · obtain ⟨m, ⟨o, _, _, ho, _⟩, _⟩ := I.loc
    exact free _ o (fun z => (hch _ z).2.1 rfl) ho I.free
  · obtain ⟨v, o, ho, hd⟩ := I.cell x c e
    exact free c o (fun z => (hch c z).2.2.1 x c e rfl) ho (I.freeC x c e)
  · obtain ⟨e, n, ne, nf, d⟩ := I.pin p hp
    have nch : p.1 ∉ ch := fun z => (hch p.1 z).2.2.2 p hp rfl
    exact ⟨keep p.1 p.2 ne nf nch e n, free p.1 p.2 nch e n, ne, nf, d⟩
/-- .. where the frame's own object is kept too -/
theorem Inv.un {t' : Nat} (I : Inv X pins σ H s) (u : Un X.fs [] H H' s.heap h') (hok : HOk X.prog X.w H' h') : Inv X pins σ H' { s with heap := h', toks := t' } := by
  obtain ⟨m, ⟨o, es, ep, ho, r⟩, _⟩ := id I.loc
  obtain ⟨sl, hL⟩ := u.any ho I.free (by simp)
  exact I.step (g' := s.gens) (d' := s.drawn) (ch := []) (fun _ z => nomatch z) (fun b o _ hb _ e n => u.keep b o e n hb (by simp)) (fun b o _ hb _ e n => u.slot b o e n hb (by simp)) (fun b o _ e n => u.free b o e n (by simp)) (fun b o _ e => u.there b o e (by simp)) u.tups u.frzs u.tbls (fun m' hm => by
    obtain ⟨o', es', ep', ho', r'⟩ := hm
    rw [ho] at ho'; cases ho'
    exact ⟨_, es', ep', hL, r'⟩) hok I.bare
/-- behind a call (or a comprehension's block): the slots of this frame may have changed too, the records at ch may have turned -/
theorem Inv.call {g' : Array GenState} {t' : Nat} {d' : Drawn} {ch : List Addr} (I : Inv X pins σ H s) (u : Un (frs X.stack) ch H H' s.heap h') (hok : HOk X.prog X.w H' h') (hg : AllBare g')
    (hch : ∀ b ∈ ch, (b ∈ X.ex ∨ X.s₀.heap.objs.size ≤ b) ∧ b ≠ X.env.locals ∧ (∀ x c, X.env.cells.lookup x = some c → c ≠ b) ∧ ∀ p ∈ X.pn ++ pins, p.1 ≠ b) :
    Inv X pins σ H' { s with heap := h', gens := g', drawn := d', toks := t' } := by
  obtain ⟨m, ⟨o, es, ep, ho, r⟩, _⟩ := id I.loc
  obtain ⟨sl, hL⟩ := u.any ho I.free fun z => (hch _ z).2.1 rfl
  exact I.step (ch := ch) hch (fun b o hL hb hc e n => u.keep b o e n (fun z => (List.mem_cons.mp (I.stkSub b z)).elim hL hb) hc) (fun b o _ _ hc e n => u.any e n hc) (fun b o hc e n => u.free b o e n hc) (fun b o hc e => u.there b o e hc) u.tups u.frzs u.tbls (fun m' hm => by
    obtain ⟨o', es', ep', ho', r'⟩ := hm
    rw [ho] at ho'; cases ho'
    exact ⟨_, es', ep', hL, r'⟩) hok hg
/-- an untracked record of ours (an iterator) has turned -/
theorem Inv.turned {t' : Nat} {it : Addr} (I : Inv X pins σ H s) (k : ∀ b o, b ≠ it → s.heap.get? b = some o → h'.get? b = some o) (hn : H it = none) (hL : it ≠ X.env.locals)
    (h1 : it ∈ X.ex ∨ X.s₀.heap.objs.size ≤ it) (h2 : ∀ x c, X.env.cells.lookup x = some c → c ≠ it) (h3 : ∀ p ∈ X.pn ++ pins, p.1 ≠ it) : Inv X pins σ H { s with heap := h', toks := t' } := by
  have nit : ∀ b u, H b = some u → b ≠ it := fun b u e z => by rw [z, hn] at e; cases e
  refine I.step (g' := s.gens) (d' := s.drawn) (ch := [it]) (fun b hb => ?_) (fun b o _ _ hc e _ => k b o (fun z => hc (by simp [z])) e) (fun b o _ _ hc e _ => ⟨o.slots, k b o (fun z => hc (by simp [z])) e⟩) (fun _ _ _ _ n => n)
    (fun b o hc e => ⟨o, k b o (fun z => hc (by simp [z])) e⟩) (fun _ _ e => e) (fun _ _ _ e => e) (fun b ps e => ⟨#[], by rw [e]; simp⟩) (fun m hm => ?_) (fun b u e => ?_) I.bare
  · have e : b = it := by simpa using hb
    subst e
    exact ⟨h1, hL, h2, h3⟩
  · obtain ⟨o, es, ep, ho, r⟩ := hm
    exact ⟨o, es, ep, k _ o (Ne.symm hL) ho, r⟩
  · refine (I.hok b u e).stay (fun c v hc q => k c v ?_ q) (fun _ q => q) fun _ _ q => q
    rcases hc with z | z
    · rw [z]; exact nit b u e
    · exact nit c _ z
theorem Inv.tok (I : Inv X pins σ H s) (t : Nat) : Inv X pins σ H { s with toks := t } := I.un (h' := s.heap) (t' := t) Un.refl I.hok
/-- all objects kept -/
theorem Inv.kept {t' : Nat} (I : Inv X pins σ H s) (k : ∀ b u, s.heap.get? b = some u → h'.get? b = some u) : Inv X pins σ H { s with heap := h', toks := t' } := I.un (Un.kept k) (I.hok.kept k)
/-- a new object laid and tracked -/
theorem Inv.laid {a : Addr} {o : HO} {t' : Nat} (I : Inv X pins σ H s) (k : ∀ b u, s.heap.get? b = some u → h'.get? b = some u) (hp : s.heap.objs.size ≤ a) (new : ObjOk X.prog X.w (upd H a o) h' a o) :
    Inv X pins σ (upd H a o) { s with heap := h', toks := t' } := I.un (Un.laid k hp (I.hok.fresh hp)) (I.hok.laid k hp new)
/-- an object written -/
theorem Inv.write {x e : Addr} {o : HO} {t' : Nat} (I : Inv X pins σ H s) (mu : Mut (H x)) (he : e = x ∨ H e = some (.own x)) (k : ∀ b u, b ≠ e → s.heap.get? b = some u → h'.get? b = some u) (heo : ∃ u, h'.get? e = some u)
    (new : ObjOk X.prog X.w (upd H x o) h' x o) : Inv X pins σ (upd H x o) { s with heap := h', toks := t' } := I.un (Un.write mu he k heo) (I.hok.write mu he k heo new)
theorem Inv.pins_of {pins' : List (Addr × Obj)} (I : Inv X pins σ H s) (h : ∀ p ∈ pins', s.heap.get? p.1 = some p.2 ∧ H p.1 = none ∧ p.1 ≠ X.env.locals ∧ p.1 ∉ X.fs ∧ ∀ v, p.2.data ≠ .cell v) : Inv X pins' σ H s :=
  ⟨I.ok, I.os, I.bare, I.base, I.loc, I.cell, I.free, I.freeC, fun p hp => (List.mem_append.mp hp).elim (fun z => I.pin p (List.mem_append_left _ z)) (h p), I.hok, I.len⟩

theorem nodup_ix {N : List Str} (hN : N.Nodup) {i j : Nat} {x : Str} (a : N[i]? = some x) (b : N[j]? = some x) : i = j := by
  obtain ⟨h1, e1⟩ := List.getElem?_eq_some_iff.mp a
  obtain ⟨h2, e2⟩ := List.getElem?_eq_some_iff.mp b
  exact (List.getElem_inj hN).mp (e1.trans e2.symm)

/-- a name is stored; what changed -/
theorem store_ok2 {M : Model} {A : Around} {E : Value → Shared → Prop} {i : Nat} {x : Str} {v : V} {u : Value} {Q : Unit → Shared → Prop} (I : Inv X pins σ H s) (hN : X.N.Nodup) (hi : X.N[i]? = some x) (hx : Loc X.env.scope x) (r : RelV v u)
    (h : ∀ s', Inv X pins (σ.set i (some v)) H s' → (∃ a, Heap.SameBut a s.heap s'.heap ∧ (a = X.env.locals ∨ X.env.cells.lookup x = some a)) → Q () s') (hf : X.fn x = true ∨ X.env.scope.names.lookup x = some .local := by first | exact .inl rfl | exact .inr rfl | assumption) : wpAny M A (storeName X.env x u) Q E s := by
  obtain ⟨m, hn, hl⟩ := id I.loc
  have hcls : (X.env.scope.kind == .class || (X.env.scope.kind == .module && X.env.locals != X.env.globals)) = false := by rw [I.ok.kind]; rfl
  have hiσ : i < σ.length := by rw [I.len]; exact (List.getElem?_eq_some_iff.mp hi).1
  have cne := I.cne
  have tracked : ∀ {a : Addr} {h' : Heap}, (∃ o, s.heap.get? a = some o ∧ H a = none) → Heap.SameBut a s.heap h' → HOk X.prog X.w H h' := fun {a h'} ha hs b ob e => by
    obtain ⟨_, _, hfree⟩ := ha
    refine (I.hok b ob e).stay (fun c w' hc q => (hs.2 c ?_).trans q) (fun _ q => q) fun _ _ q => q
    rintro rfl
    rcases hc with rfl | hc
    · rw [hfree] at e; cases e
    · rw [hfree] at hc; cases hc
  rcases hx with hk | hk
  · refine wpAny_storeName_local hk hn (fun h' hn' hs => ?_) hcls
    obtain ⟨oL, _, _, hoL, _⟩ := id hn
    refine h _ ⟨I.ok, I.os, I.bare, ⟨fun b o e n hb hx => ?_, fun b o e n hb hx => ?_, I.base.free, fun b o e hx => ?_, I.base.tups, I.base.frzs, I.base.tbls⟩, ⟨_, hn', fun j y v' e1 e2 e3 => ?_⟩, fun y c e => ?_, I.free, I.freeC, fun p hp => ?_, tracked ⟨oL, hoL, I.free⟩ hs, by simpa using I.len⟩ ⟨_, hs, .inl rfl⟩
    · exact (hs.2 b (Nat.ne_of_lt (Nat.lt_of_lt_of_le (Heap.lt_size e) I.ok.above))).trans (I.base.keep b o e n hb hx)
    · obtain ⟨sl, e1⟩ := I.base.slot b o e n hb hx
      exact ⟨sl, (hs.2 b (Nat.ne_of_lt (Nat.lt_of_lt_of_le (Heap.lt_size e) I.ok.above))).trans e1⟩
    · obtain ⟨o', e1⟩ := I.base.there b o e hx
      exact ⟨o', (hs.2 b (Nat.ne_of_lt (Nat.lt_of_lt_of_le (Heap.lt_size e) I.ok.above))).trans e1⟩
    · by_cases hj : j = i
      · subst hj
        rw [hi] at e1; cases e1
        rw [List.getElem?_set_self hiσ] at e2
        cases e2
        exact ⟨u, r, .inl ⟨hk, by simp⟩⟩
      · rw [List.getElem?_set_ne (Ne.symm hj)] at e2
        obtain ⟨u', r', q⟩ := hl j y v' e1 e2 e3
        refine ⟨u', r', ?_⟩
        rcases q with ⟨k, e⟩ | ⟨k, c, e, z⟩
        · refine .inl ⟨k, ?_⟩
          have : y ≠ x := fun e => hj (nodup_ix hN e1 (e ▸ hi))
          simp [this, e]
        · exact .inr ⟨k, c, e, z.sameBut hs (cne y c e)⟩
    · obtain ⟨w', z⟩ := I.cell y c e
      exact ⟨w', z.sameBut hs (cne y c e)⟩
    · obtain ⟨e, n, ne, nf, d⟩ := I.pin p hp
      exact ⟨(hs.2 p.1 ne).trans e, n, ne, nf, d⟩
  · have hfn : X.fn x = true := by
      rcases hf with z | z
      · exact z
      · rw [z] at hk; cases hk
    obtain ⟨c, hc⟩ := I.ok.has x (.inl hk)
    obtain ⟨w', z⟩ := I.cell x c hc
    refine wpAny_storeName_cell I.ok.kind hk hc z (fun h' hc' hs => ?_)
    obtain ⟨oc, hoc, hocd⟩ := id z
    refine h { s with heap := h' } ⟨I.ok, I.os, I.bare, ⟨fun b o e n hb hx => ?_, fun b o e n hb hx => ?_, I.base.free, fun b o e hx => ?_, I.base.tups, I.base.frzs, I.base.tbls⟩, ⟨m, hn.sameBut hs (Ne.symm (cne x c hc)), fun j y v' e1 e2 e3 => ?_⟩, fun y c' e => ?_, I.free, I.freeC, fun p hp => ?_, tracked ⟨oc, hoc, I.freeC x c hc⟩ hs, by simpa using I.len⟩ ⟨c, hs, .inr hc⟩
    · exact (hs.2 b (Nat.ne_of_lt (Nat.lt_of_lt_of_le (Heap.lt_size e) (I.ok.cab x c hfn hc)))).trans (I.base.keep b o e n hb hx)
    · obtain ⟨sl, e1⟩ := I.base.slot b o e n hb hx
      exact ⟨sl, (hs.2 b (Nat.ne_of_lt (Nat.lt_of_lt_of_le (Heap.lt_size e) (I.ok.cab x c hfn hc)))).trans e1⟩
    · obtain ⟨o', e1⟩ := I.base.there b o e hx
      exact ⟨o', (hs.2 b (Nat.ne_of_lt (Nat.lt_of_lt_of_le (Heap.lt_size e) (I.ok.cab x c hfn hc)))).trans e1⟩
    · by_cases hj : j = i
      · subst hj
        rw [hi] at e1; cases e1
        rw [List.getElem?_set_self hiσ] at e2
        cases e2
        exact ⟨u, r, .inr ⟨.inl hk, c, hc, hc'⟩⟩
      · rw [List.getElem?_set_ne (Ne.symm hj)] at e2
        obtain ⟨u', r', q⟩ := hl j y v' e1 e2 e3
        refine ⟨u', r', ?_⟩
        rcases q with q | ⟨k, c', e, z'⟩
        · exact .inl q
        · refine .inr ⟨k, c', e, z'.sameBut hs ?_⟩
          rintro rfl
          exact hj (nodup_ix hN e1 (I.ok.inj _ _ _ e hc ▸ hi))
    · by_cases hcc : c' = c
      · subst hcc; exact ⟨_, hc'⟩
      · obtain ⟨w2, z2⟩ := I.cell y c' e
        exact ⟨w2, z2.sameBut hs hcc⟩
    · obtain ⟨e, n, ne, nf, d⟩ := I.pin p hp
      refine ⟨(hs.2 p.1 ?_).trans e, n, ne, nf, d⟩
      intro q
      rw [q, hoc] at e
      have q' : oc = p.2 := Option.some.inj e
      exact d w' (by rw [← q']; exact hocd)
theorem store_ok {M : Model} {A : Around} {E : Value → Shared → Prop} {i : Nat} {x : Str} {v : V} {u : Value} {Q : Unit → Shared → Prop} (I : Inv X pins σ H s) (hN : X.N.Nodup) (hi : X.N[i]? = some x) (hx : Loc X.env.scope x) (r : RelV v u)
    (h : ∀ s', Inv X pins (σ.set i (some v)) H s' → Q () s') (hf : X.fn x = true ∨ X.env.scope.names.lookup x = some .local := by first | exact .inl rfl | exact .inr rfl | assumption) : wpAny M A (storeName X.env x u) Q E s :=
  store_ok2 I hN hi hx r (fun s' I' _ => h s' I') hf
/-- behind a call or a block, the state as it is -/
theorem Inv.call' {s' : Shared} {ch : List Addr} (I : Inv X pins σ H s) (ho : s'.os = s.os) (u : Un (frs X.stack) ch H H' s.heap s'.heap) (hok : HOk X.prog X.w H' s'.heap) (hg : AllBare s'.gens)
    (hch : ∀ b ∈ ch, (b ∈ X.ex ∨ X.s₀.heap.objs.size ≤ b) ∧ b ≠ X.env.locals ∧ (∀ x c, X.env.cells.lookup x = some c → c ≠ b) ∧ ∀ p ∈ X.pn ++ pins, p.1 ≠ b) : Inv X pins σ H' s' := by
  obtain ⟨h', g', d', t', o'⟩ := s'
  have e : o' = s.os := ho
  subst e
  exact I.call (g' := g') (t' := t') (d' := d') u hok hg hch
end

/-! ### the judgements -/
/-- an exception: its class, its own dict's address (where it has one), the abstract heap behind it -/
abbrev XK := Value → Option Addr → Hp → Prop
abbrev St := List (Option V)
abbrev VK := V → Hp → Prop
/-- an expression's reading; a test's; an argument list's -/
abbrev TE := St → Hp → VK → Prop
abbrev TT := St → Hp → (Bool → Hp → Prop) → Prop
abbrev TA := St → Hp → (List V → Hp → Prop) → Prop
/-- what is wanted behind a statement -/
structure Ends where
  nx : St → Hp → Prop
  rt : VK
  bk : St → Hp → Prop := fun _ _ => False
  ct : St → Hp → Prop := fun _ _ => False
abbrev TS := Ends → St → Hp → Prop

def EP (X : Cx) (pins : List (Addr × Obj)) (σ : St) (Q : VK) (u : Value) (s' : Shared) : Prop := ∃ v H', Inv X pins σ H' s' ∧ RelV v u ∧ Q v H'
def TP (X : Cx) (pins : List (Addr × Obj)) (σ : St) (Q : Bool → Hp → Prop) (b : Bool) (s' : Shared) : Prop := ∃ H', Inv X pins σ H' s' ∧ Q b H'
def AP (X : Cx) (pins : List (Addr × Obj)) (σ : St) (Q : List V → Hp → Prop) (us : List Value) (s' : Shared) : Prop := ∃ vs H', Inv X pins σ H' s' ∧ Vals vs us ∧ Q vs H'
def SP (X : Cx) (pins : List (Addr × Obj)) (D : Ends) (f : Flow) (s' : Shared) : Prop :=
  match f with
  | .next => ∃ σ' H', Inv X pins σ' H' s' ∧ D.nx σ' H'
  | .brk => ∃ σ' H', Inv X pins σ' H' s' ∧ D.bk σ' H'
  | .cont => ∃ σ' H', Inv X pins σ' H' s' ∧ D.ct σ' H'
  | .ret u => ∃ v σ' H', Inv X pins σ' H' s' ∧ RelV v u ∧ D.rt v H'

def PE (X : Cx) (e : Expr) (t : TE) : Prop :=
  ∀ (pins : List (Addr × Obj)) (s : Shared) (σ : St) (H : Hp) (Q : VK), Inv X pins σ H s → t σ H Q → wpAny (model X.prog X.w) X.A (eval e X.env) (EP X pins σ Q) X.xe s
def PT (X : Cx) (e : Expr) (t : TT) : Prop :=
  ∀ (pins : List (Addr × Obj)) (s : Shared) (σ : St) (H : Hp) (Q : Bool → Hp → Prop), Inv X pins σ H s → t σ H Q → wpAny (model X.prog X.w) X.A (isTrue e X.env (eval e X.env)) (TP X pins σ Q) X.xe s
/-- a test whatever its 'whole' is (and, or) -/
def PW (X : Cx) (e : Expr) (t : TT) : Prop :=
  ∀ (whole : Sem Value) (pins : List (Addr × Obj)) (s : Shared) (σ : St) (H : Hp) (Q : Bool → Hp → Prop), Inv X pins σ H s → t σ H Q → wpAny (model X.prog X.w) X.A (isTrue e X.env whole) (TP X pins σ Q) X.xe s
theorem PW.pt {X : Cx} {e : Expr} {t : TT} (h : PW X e t) : PT X e t := h _
/-- an argument list (no star), from the left -/
def PA (X : Cx) (es : List Expr) (t : TA) : Prop :=
  ∀ (pos : Pos) (pins : List (Addr × Obj)) (s : Shared) (σ : St) (H : Hp) (Q : List V → Hp → Prop), Inv X pins σ H s → t σ H Q → wpAny (model X.prog X.w) X.A (spliced (backTo pos (starEach es X.env))) (AP X pins σ Q) X.xe s
def PS (X : Cx) (st : Stmt) (t : TS) : Prop :=
  ∀ (pins : List (Addr × Obj)) (s : Shared) (σ : St) (H : Hp) (D : Ends), Inv X pins σ H s → t D σ H → wpAny (model X.prog X.w) X.A (exec st X.env) (SP X pins D) X.xe s
def PSs (X : Cx) (st : List Stmt) (t : TS) : Prop :=
  ∀ (pins : List (Addr × Obj)) (s : Shared) (σ : St) (H : Hp) (D : Ends), Inv X pins σ H s → t D σ H → wpAny (model X.prog X.w) X.A (execs st X.env) (SP X pins D) X.xe s
/-- weaken the end -/
theorem thn {α : Type} {t : Sem α} {Q Q' : α → Shared → Prop} {M : Model} {A : Around} {E : Value → Shared → Prop} {s : Shared} (h : wpAny M A t Q E s) (hQ : ∀ a s, Q a s → Q' a s) : wpAny M A t Q' E s := wpAny_mono h hQ fun _ _ x => x
end L2

namespace L2
open PySem PySem.Spec PyProof.Rows
section
variable {X : Cx}

/-- two expressions in a row -/
theorem bin {a b : Expr} {ta tb : TE} (ha : PE X a ta) (hb : PE X b tb) {pins : List (Addr × Obj)} {s : Shared} {σ : St} {H : Hp} {R : V → V → Hp → Prop} (I : Inv X pins σ H s) (h : ta σ H fun x H1 => tb σ H1 fun y H2 => R x y H2)
    {α : Type} {Q : α → Shared → Prop} {f : Value → Value → Sem α}
    (hf : ∀ v u s2 x y H2, Inv X pins σ H2 s2 → RelV x v → RelV y u → R x y H2 → wpAny (model X.prog X.w) X.A (f v u) Q X.xe s2) :
    wpAny (model X.prog X.w) X.A (eval a X.env) (fun v s₁ => wpAny (model X.prog X.w) X.A (eval b X.env) (fun u s₂ => wpAny (model X.prog X.w) X.A (f v u) Q X.xe s₂) X.xe s₁) X.xe s := by
  refine thn (ha pins s σ H _ I h) fun v s1 ⟨x, H1, I1, r1, q1⟩ => ?_
  refine thn (hb pins s1 σ H1 _ I1 q1) fun u s2 ⟨y, H2, I2, r2, q2⟩ => ?_
  exact hf v u s2 x y H2 I2 r1 r2 q2

/-! ### names and constants -/
def tVar (i : Nat) : TE := fun σ H Q => ∃ v, σ[i]? = some (some v) ∧ Q v H
def tC (v : V) : TE := fun _ H Q => Q v H
theorem pe_var {i : Nat} {x : Str} {pos : Pos} (hN : X.N[i]? = some x) (hv : Vis X.env.scope x) (hd : (x == ("__debug__" : Str)) = false := by decide) (hcd : (x == ("__classdict__" : Str)) = false := by decide) : PE X (.Name x pos) (tVar i) := by
  intro pins s σ H Q I h
  obtain ⟨v, e, h⟩ := h
  obtain ⟨m, hn, hl⟩ := I.loc
  obtain ⟨u, r, l⟩ := hl i x v hN e hv
  have fin : EP X pins σ Q u s := ⟨v, H, I, r, h⟩
  rcases l with ⟨hk, hm⟩ | ⟨hk, c, hc, hcell⟩
  · exact wpAny_Name (wpAny_loadName_local I.ok.kind hk hn hm fin) hd
  · rcases hk with hk | hk
    · exact wpAny_Name (wpAny_loadName_cell I.ok.kind hk hc hcell fin) hd
    · exact wpAny_Name (wpAny_loadName_free I.ok.kind hk hc hcell fin hcd) hd
theorem pe_int {i j pos} : PE X (.Constant (.int i) j pos) (tC (.int i)) := fun _ _ _ H _ I h => wpAny_Constant_int ⟨.int i, H, I.tok _, ⟨_, rfl⟩, h⟩
theorem pe_bl {b j pos} : PE X (.Constant (.bool b) j pos) (tC (.bl b)) := fun _ _ _ H _ I h => Constant_bool ⟨.bl b, H, I, rfl, h⟩
theorem pe_non {j pos} : PE X (.Constant .none j pos) (tC .non) := fun _ _ _ H _ I h => Constant_none ⟨.non, H, I, rfl, h⟩
theorem pe_str {x j pos} : PE X (.Constant (.str x) j pos) (tC (.str x)) := fun _ _ _ H _ I h => Calls.Constant_str ⟨.str x, H, I.tok _, ⟨_, rfl⟩, h⟩

/-- a global name of the def -/
def Gl (X : Cx) (x : Str) : Prop := X.env.kindOf x = some .globalImplicit
theorem ld_glob {E : Value → Shared → Prop} {pins : List (Addr × Obj)} {s : Shared} {σ : St} {H : Hp} {x : Str} {u : Value} {pos : Pos} {Q : Value → Shared → Prop} (I : Inv X pins σ H s) (hg : Gl X x) (hm : X.mg x = some u) (h : Q u s)
    (hd : (x == ("__debug__" : Str)) = false := by decide) : wpAny (model X.prog X.w) X.A (eval (.Name x pos) X.env) Q E s :=
  Calls.Name_function_global I.ok.kind hg (Calls.loadGlobal_global (by rw [I.ok.glob]; exact I.mod.glob.keeps I.bk) hm h) hd
theorem ld_blt {E : Value → Shared → Prop} {pins : List (Addr × Obj)} {s : Shared} {σ : St} {H : Hp} {x : Str} {u : Value} {pos : Pos} {Q : Value → Shared → Prop} (I : Inv X pins σ H s) (hg : Gl X x) (hm : X.mg x = none) (hv : bootBuiltins x = some u) (h : Q u s)
    (hn : x ≠ "__name__" := by decide) (hd : (x == ("__debug__" : Str)) = false := by decide) : wpAny (model X.prog X.w) X.A (eval (.Name x pos) X.env) Q E s := by
  obtain ⟨mb, h1, h2⟩ := I.mod.blt
  exact Calls.Name_function_global I.ok.kind hg (Calls.loadGlobal_builtin (by rw [I.ok.glob]; exact I.mod.glob.keeps I.bk) hm (by rw [I.ok.blt]; exact h1.keeps I.bk) ((h2 x hn).trans hv) h) hd
/-- a module's constant, a class, a function, as a value -/
theorem pe_glob {x : Str} {v : V} {u : Value} {pos : Pos} (hg : Gl X x) (hm : X.mg x = some u) (r : RelV v u) (hd : (x == ("__debug__" : Str)) = false := by decide) : PE X (.Name x pos) (tC v) :=
  fun _ _ _ H _ I h => ld_glob I hg hm ⟨v, H, I, r, h⟩ hd
theorem pe_bltn {x : Str} {v : V} {u : Value} {pos : Pos} (hg : Gl X x) (hm : X.mg x = none) (hv : bootBuiltins x = some u) (r : RelV v u) (hn : x ≠ "__name__" := by decide) (hd : (x == ("__debug__" : Str)) = false := by decide) : PE X (.Name x pos) (tC v) :=
  fun _ _ _ H _ I h => ld_blt I hg hm hv ⟨v, H, I, r, h⟩ hn hd

/-! ### arithmetic -/
variable {a b : Expr} {ta tb : TE} {pos : Pos}

/-! ### comparisons -/
def PC (X : Cx) (op : CmpOp) (a b : Expr) (t : TE) : Prop :=
  ∀ (pins : List (Addr × Obj)) (s : Shared) (σ : St) (H : Hp) (Q : VK), Inv X pins σ H s → t σ H Q →
    wpAny (model X.prog X.w) X.A (eval a X.env) (fun v s₁ => wpAny (model X.prog X.w) X.A (eval b X.env) (fun u s₂ => wpAny (model X.prog X.w) X.A (compareOp op v u) (EP X pins σ Q) X.xe s₂) X.xe s₁) X.xe s
/-- a comparison as a value, as a test -/
def tB (t : TE) : TT := fun σ H Q => t σ H fun x H1 => ∃ c, x = .bl c ∧ Q c H1
theorem pt_cmp {op : CmpOp} {t : TE} (h : PC X op a b t) (h1 : behindInMarks op b = false := by first | exact nobehind _ (by decide) (by decide) | rfl) : PT X (.Compare a [op] [b] pos) (tB t) := by
  intro pins s σ H Q I hw
  refine wpAny_isTrue_Compare1 (thn (h pins s σ H _ I hw) fun v s1 h1 => thn h1 fun u s2 h2 => thn h2 fun c s3 ⟨x, H1, I1, r1, q1⟩ => ?_) h1
  obtain ⟨d, rfl, q⟩ := q1
  cases r1
  exact wpAny_truthy_bool ⟨H1, I1, q⟩
/-- an expression whose value is a bool, as a test -/
theorem pt_val {e : Expr} {t : TE} (h : PE X e t) (he : ∀ whole, isTrue e X.env whole = (do let v ← whole; standAt e.pos; holding [v] (truthy v)) := by intro _; rfl) : PT X e (tB t) := by
  intro pins s σ H Q I hw
  refine isTrue_plain (thn (h pins s σ H _ I hw) fun v s1 ⟨x, H1, I1, r1, q1⟩ => ?_) (he _)
  obtain ⟨d, rfl, q⟩ := q1
  cases r1
  exact wpAny_truthy_bool ⟨H1, I1, q⟩

/-! ### and, or, not -/
variable {tA tB' : TT} {rest : List Expr}
def tAnd (t u : TT) : TT := fun σ H Q => t σ H fun c H1 => if c = true then u σ H1 Q else Q false H1
def tOr (t u : TT) : TT := fun σ H Q => t σ H fun c H1 => if c = true then Q true H1 else u σ H1 Q
def tNot (t : TT) : TT := fun σ H Q => t σ H fun c H1 => Q (!c) H1
theorem pw_and1 (ha : PT X a tA) : PW X (.BoolOp .And [a] pos) tA := by
  intro wh pins s σ H Q I h
  refine isTrue_and (thn (ha pins s σ H Q I h) fun c s1 e => ?_)
  cases c with
  | true => exact isTrue_and_nil e
  | false => exact e
theorem pw_or1 (ha : PT X a tA) : PW X (.BoolOp .Or [a] pos) tA := by
  intro wh pins s σ H Q I h
  refine isTrue_or (thn (ha pins s σ H Q I h) fun c s1 e => ?_)
  cases c with
  | false => exact isTrue_or_nil e
  | true => exact e
theorem pw_and (ha : PT X a tA) (hb : PW X (.BoolOp .And (b :: rest) pos) tB') : PW X (.BoolOp .And (a :: b :: rest) pos) (tAnd tA tB') := by
  intro wh pins s σ H Q I h
  refine isTrue_and (thn (ha pins s σ H _ I h) fun c s1 ⟨H1, I1, q1⟩ => ?_)
  cases c with
  | true => exact hb wh pins s1 σ H1 Q I1 q1
  | false => exact ⟨H1, I1, q1⟩
theorem pw_or (ha : PT X a tA) (hb : PW X (.BoolOp .Or (b :: rest) pos) tB') : PW X (.BoolOp .Or (a :: b :: rest) pos) (tOr tA tB') := by
  intro wh pins s σ H Q I h
  refine isTrue_or (thn (ha pins s σ H _ I h) fun c s1 ⟨H1, I1, q1⟩ => ?_)
  cases c with
  | true => exact ⟨H1, I1, q1⟩
  | false => exact hb wh pins s1 σ H1 Q I1 q1
theorem pt_not (ha : PT X a tA) : PT X (.UnaryOp .Not a pos) (tNot tA) := by
  intro pins s σ H Q I h
  exact isTrue_not (ha pins s σ H (fun c H1 => Q (!c) H1) I h)
/-- .. as values (bools) -/
def tAndV (ta tb : TE) : TE := fun σ H Q => ta σ H fun x H1 => ∃ c, x = .bl c ∧ if c = true then tb σ H1 Q else Q (.bl false) H1
def tNotV (ta : TE) : TE := fun σ H Q => ta σ H fun x H1 => ∃ c, x = .bl c ∧ Q (.bl (!c)) H1
theorem pe_one {op} {t : TE} (h : PE X a t) : PE X (.BoolOp op [a] pos) t := fun pins s σ H Q I hw => BoolOp_one (h pins s σ H Q I hw)
theorem pe_and (ha : PE X a ta) (hb : PE X (.BoolOp .And (b :: rest) pos) tb) : PE X (.BoolOp .And (a :: b :: rest) pos) (tAndV ta tb) := by
  intro pins s σ H Q I h
  refine BoolOp_and (thn (ha pins s σ H _ I h) fun v s1 ⟨x, H1, I1, r1, q1⟩ => ?_)
  obtain ⟨c, rfl, q1⟩ := q1
  cases r1
  refine wpAny_truthy_bool ?_
  cases c with
  | true => exact hb pins s1 σ H1 Q I1 q1
  | false => exact ⟨.bl false, H1, I1, rfl, q1⟩
theorem pe_not (ha : PE X a ta) : PE X (.UnaryOp .Not a pos) (tNotV ta) := by
  intro pins s σ H Q I h
  refine UnaryOp_ (thn (ha pins s σ H _ I h) fun v s1 ⟨x, H1, I1, r1, q1⟩ => ?_)
  obtain ⟨c, rfl, q1⟩ := q1
  cases r1
  exact not_of (wpAny_truthy_bool ⟨.bl (!c), H1, I1, rfl, q1⟩)
/-- a if t else b -/
def tIf (t : TT) (ta tb : TE) : TE := fun σ H Q => t σ H fun c H1 => if c = true then ta σ H1 Q else tb σ H1 Q
theorem pe_ifExp {c : Expr} (hc : PT X c tA) (ha : PE X a ta) (hb : PE X b tb) : PE X (.IfExp c a b pos) (tIf tA ta tb) := by
  intro pins s σ H Q I h
  refine wpAny_IfExp (thn (hc pins s σ H _ I h) fun d s1 ⟨H1, I1, q1⟩ => ?_)
  cases d with
  | true => exact ha pins s1 σ H1 Q I1 q1
  | false => exact hb pins s1 σ H1 Q I1 q1
end
end L2

namespace L2
open PySem PySem.Spec PyProof.Rows

/-! ### a list, a tuple that is read: tracked, frozen, or an object of the module -/
def SqL (K : PySem.W.Frag) (H : Hp) (a : Addr) (xs : List V) : Prop :=
  Rd H a (.lst xs) ∨
    ∃ (o : Obj) (its : Array Value) (n : Nat), K.lookup a = some o ∧ o.cls = .type "list" ∧ o.dict = none ∧ o.data = .seq its n ∧ its.size ≤ sizeLine ∧ Vals xs its.toList
def SqT (K : PySem.W.Frag) (H : Hp) (a : Addr) (xs : List V) : Prop :=
  Rd H a (.tup xs) ∨
    ∃ (o : Obj) (its : Array Value) (n : Nat), K.lookup a = some o ∧ o.cls = .type "tuple" ∧ o.data = .seq its n ∧ its.size ≤ sizeLine ∧ Vals xs its.toList
def absV : Value → Option V
  | .none => some .non
  | .bool b => some (.bl b)
  | .int i _ => some (.int i)
  | .str x _ => some (.str x)
  | .bytes b _ => some (.byt b)
  | .float b _ => some (.flt b)
  | .ref a => some (.ref a)
  | .type n => some (.ty n)
  | _ => none
theorem RelV.abs {x : V} {u : Value} (r : RelV x u) : absV u = some x := by
  cases x with
  | non => cases r; rfl
  | bl _ => cases r; rfl
  | int _ => obtain ⟨t, rfl⟩ := r; rfl
  | str _ => obtain ⟨t, rfl⟩ := r; rfl
  | byt _ => obtain ⟨t, rfl⟩ := r; rfl
  | flt _ => obtain ⟨t, rfl⟩ := r; rfl
  | ref _ => cases r; rfl
  | ty _ => cases r; rfl
theorem RelV.inj {x y : V} {u : Value} (r : RelV x u) (q : RelV y u) : x = y := Option.some.inj (r.abs.symm.trans q.abs)
theorem Vals.inj : ∀ {xs ys : List V} {us : List Value}, Vals xs us → Vals ys us → xs = ys
  | _, _, _, .nil, .nil => rfl
  | _, _, _, .cons r t, .cons r' t' => by rw [r.inj r', Vals.inj t t']
section
variable {X : Cx} {pins : List (Addr × Obj)} {σ : St} {H : Hp} {s : Shared} {a : Addr} {xs ys : List V}
theorem SqL.of {K : PySem.W.Frag} (h : H a = some (.lst xs)) : SqL K H a xs := .inl (.inl h)
theorem SqT.of {K : PySem.W.Frag} (h : H a = some (.tup xs)) : SqT K H a xs := .inl (.inl h)
theorem Inv.list (I : Inv X pins σ H s) (h : SqL X.K H a xs) : ∃ its : List Value, Vals xs its ∧ PlainL s.heap a its.toArray ∧ xs.length ≤ sizeLine := by
  rcases h with h | ⟨o, its, n, hk, hc, hd, hs, hz, r⟩
  · obtain ⟨z, its, n, r, e⟩ := h.ok I.hok
    exact ⟨its, r, ⟨_, n, e, rfl, rfl, rfl⟩, z⟩
  · refine ⟨its.toList, r, ⟨o, n, I.kIn a o hk, hc, hd, by simpa using hs⟩, ?_⟩
    have e := r.length
    simp only [Array.length_toList] at e
    omega
theorem Inv.tuple (I : Inv X pins σ H s) (h : SqT X.K H a xs) : ∃ its : List Value, Vals xs its ∧ IsTup s.heap a its.toArray ∧ xs.length ≤ sizeLine := by
  rcases h with h | ⟨o, its, n, hk, hc, hs, hz, r⟩
  · obtain ⟨z, its, r, p⟩ := h.ok I.hok
    exact ⟨its, r, p, z⟩
  · refine ⟨its.toList, r, ⟨o, I.kIn a o hk, hc, n, by simpa using hs⟩, ?_⟩
    have e := r.length
    simp only [Array.length_toList] at e
    omega
theorem Inv.list_inj (I : Inv X pins σ H s) (h : SqL X.K H a xs) (h' : SqL X.K H a ys) : xs = ys := by
  obtain ⟨its, r, ⟨o, n, e, _, _, d⟩, _⟩ := I.list h
  obtain ⟨its', r', ⟨o', n', e', _, _, d'⟩, _⟩ := I.list h'
  rw [e] at e'; cases e'
  rw [d] at d'
  injection d' with d1 _
  have : its = its' := by simpa using congrArg Array.toList d1
  subst this
  exact r.inj r'
theorem Inv.tuple_inj (I : Inv X pins σ H s) (h : SqT X.K H a xs) (h' : SqT X.K H a ys) : xs = ys := by
  obtain ⟨its, r, ⟨o, e, _, n, d⟩, _⟩ := I.tuple h
  obtain ⟨its', r', ⟨o', e', _, n', d'⟩, _⟩ := I.tuple h'
  rw [e] at e'; cases e'
  rw [d] at d'
  injection d' with d1 _
  have : its = its' := by simpa using congrArg Array.toList d1
  subst this
  exact r.inj r'
end

/-! ### another wish about exceptions -/
abbrev Cx.wish (X : Cx) (E : Value → Shared → Prop) : Cx := { X with xe := E }
/-- no exception leaves -/
abbrev Cx.nox (X : Cx) : Cx := X.wish fun _ _ => False
theorem Cx.Ok.wish {X : Cx} (ok : X.Ok) (E : Value → Shared → Prop) : (X.wish E).Ok :=
  ⟨ok.mod, ok.kind, ok.glob, ok.blt, ok.above, ok.inj, ok.has, ok.cab, ok.hd, ok.frames, ok.stk, ok.exf, ok.bs, ok.bsz, ok.noex, ok.exfs, ok.funs, ok.frf⟩
theorem Cx.Ok.unwish {X : Cx} {E : Value → Shared → Prop} (ok : (X.wish E).Ok) : X.Ok :=
  ⟨ok.mod, ok.kind, ok.glob, ok.blt, ok.above, ok.inj, ok.has, ok.cab, ok.hd, ok.frames, ok.stk, ok.exf, ok.bs, ok.bsz, ok.noex, ok.exfs, ok.funs, ok.frf⟩
section
variable {X : Cx} {pins : List (Addr × Obj)} {σ : St} {H : Hp} {s : Shared} {E : Value → Shared → Prop}
theorem Inv.wish (I : Inv X pins σ H s) (E : Value → Shared → Prop) : Inv (X.wish E) pins σ H s := ⟨I.ok.wish E, I.os, I.bare, I.base, I.loc, I.cell, I.free, I.freeC, I.pin, I.hok, I.len⟩
theorem Inv.unwish (I : Inv (X.wish E) pins σ H s) : Inv X pins σ H s := ⟨I.ok.unwish, I.os, I.bare, I.base, I.loc, I.cell, I.free, I.freeC, I.pin, I.hok, I.len⟩
theorem SP.unwish {D : Ends} {f : Flow} {s' : Shared} (h : SP (X.wish E) pins D f s') : SP X pins D f s' := by
  cases f with
  | next => obtain ⟨σ', H', I, q⟩ := h; exact ⟨σ', H', I.unwish, q⟩
  | brk => obtain ⟨σ', H', I, q⟩ := h; exact ⟨σ', H', I.unwish, q⟩
  | cont => obtain ⟨σ', H', I, q⟩ := h; exact ⟨σ', H', I.unwish, q⟩
  | ret u => obtain ⟨v, σ', H', I, r, q⟩ := h; exact ⟨v, σ', H', I.unwish, r, q⟩
theorem PSs.nox {st : List Stmt} {t : TS} (h : PSs X.nox st t) : PSs X st t := fun pins s σ H D I hw =>
  wpAny_mono (h pins s σ H D (I.wish _) hw) (fun _ _ q => q.unwish) fun _ _ z => False.elim z
end

/-! ### blocks and small statements -/
section
variable {X : Cx} {st : Stmt} {rest : List Stmt} {t u : TS} {e : Expr} {te : TE} {pos : Pos}
def tNext : TS := fun D σ H => D.nx σ H
def tSeq (t u : TS) : TS := fun D σ H => t { D with nx := u D } σ H
theorem pss_nil : PSs X [] tNext := fun _ _ σ H _ I h => wpAny_execs_nil ⟨σ, H, I, h⟩
theorem pss_cons (h1 : PS X st t) (h2 : PSs X rest u) : PSs X (st :: rest) (tSeq t u) := by
  intro pins s σ H D I h
  refine wpAny_execs_cons (thn (h1 pins s σ H { D with nx := u D } I h) fun f s1 q => ?_)
  cases f with
  | next =>
    obtain ⟨σ', H', I', q⟩ := q
    exact h2 pins s1 σ' H' D I' q
  | ret v => exact q
  | brk => exact q
  | cont => exact q
theorem pss_one (h1 : PS X st t) : PSs X [st] t := by
  intro pins s σ H D I h
  refine wpAny_execs_cons (thn (h1 pins s σ H D I h) fun f s1 q => ?_)
  cases f with
  | next => exact wpAny_execs_nil q
  | ret v => exact q
  | brk => exact q
  | cont => exact q
/-- in a def's body nothing is shown -/
theorem Inv.quiet {pins : List (Addr × Obj)} {σ : St} {H : Hp} {s : Shared} (I : Inv X pins σ H s) : interactive X.env = false := by simp [interactive, I.ok.kind]
/-- an expression whose value is dropped -/
def tDrop (te : TE) : TS := fun D σ H => te σ H fun _ H1 => D.nx σ H1
theorem ps_expr (he : PE X e te) (hs : swapsWith e none pos.line X.env = pure false := by rfl) : PS X (.Expr e pos) (tDrop te) := by
  intro pins s σ H D I h
  exact wpAny_Expr_any (thn (he pins s σ H _ I h) fun v s1 ⟨x, H1, I1, r1, q1⟩ => ⟨σ, H1, I1, q1⟩) I.quiet hs
def tRet (te : TE) : TS := fun D σ H => te σ H D.rt
theorem ps_ret (he : PE X e te) : PS X (.Return (some e) pos) (tRet te) := by
  intro pins s σ H D I h
  exact wpAny_Return_some (thn (he pins s σ H _ I h) fun v s1 ⟨x, H1, I1, r1, q1⟩ => ⟨x, σ, H1, I1, r1, q1⟩)
def tIfS (c : TT) (t u : TS) : TS := fun D σ H => c σ H fun b H1 => if b = true then t D σ H1 else u D σ H1
theorem ps_if {c : Expr} {a b : List Stmt} {tc : TT} (hc : PT X c tc) (ha : PSs X a t) (hb : PSs X b u) : PS X (.If c a b pos) (tIfS tc t u) := by
  intro pins s σ H D I h
  refine wpAny_If (thn (hc pins s σ H _ I h) fun d s1 ⟨H1, I1, q1⟩ => ?_)
  cases d with
  | true => exact ha pins s1 σ H1 D I1 q1
  | false => exact hb pins s1 σ H1 D I1 q1
end

/-! ### targets -/
abbrev TG := V → St → Hp → (St → Hp → Prop) → Prop
abbrev TGs := List V → St → Hp → (St → Hp → Prop) → Prop
def PG (X : Cx) (target : Expr) (t : TG) : Prop :=
  ∀ (pins : List (Addr × Obj)) (s : Shared) (σ : St) (H : Hp) (v : V) (u : Value) (Q : St → Hp → Prop), Inv X pins σ H s → RelV v u → t v σ H Q →
    wpAny (model X.prog X.w) X.A (assign target X.env u) (fun _ s' => ∃ σ' H', Inv X pins σ' H' s' ∧ Q σ' H') X.xe s
/-- several targets, one after another -/
def PGs (X : Cx) (ts : List Expr) (t : TGs) : Prop :=
  ∀ (pins : List (Addr × Obj)) (s : Shared) (σ : St) (H : Hp) (vs : List V) (us : List Value) (Q : St → Hp → Prop), Inv X pins σ H s → Vals vs us → t vs σ H Q →
    wpAny (model X.prog X.w) X.A (assignInOrder ((assignEach ts X.env).map (·.2)) us) (fun _ s' => ∃ σ' H', Inv X pins σ' H' s' ∧ Q σ' H') X.xe s
section
variable {X : Cx} {pos : Pos}
def gName (i : Nat) : TG := fun v σ H Q => Q (σ.set i (some v)) H
theorem pg_name {i : Nat} {x : Str} (hN : X.N.Nodup) (hi : X.N[i]? = some x) (hx : Loc X.env.scope x) (hf : X.fn x = true ∨ X.env.scope.names.lookup x = some .local := by first | exact .inl rfl | exact .inr rfl | assumption) : PG X (.Name x pos) (gName i) := by
  intro pins s σ H v u Q I r h
  exact wpAny_assign_Name (store_ok I hN hi hx r (fun s' I' => ⟨_, H, I', h⟩) hf)
def gNil : TGs := fun vs σ H Q => vs = [] ∧ Q σ H
def gCons (t : TG) (u : TGs) : TGs := fun vs σ H Q => ∃ v r, vs = v :: r ∧ t v σ H fun σ' H' => u r σ' H' Q
theorem pgs_nil : PGs X [] gNil := by
  intro pins s σ H vs us Q I r h
  obtain ⟨e, h⟩ := h
  subst e
  cases r
  exact assignInOrder_nil ⟨σ, H, I, h⟩
theorem pgs_cons {e : Expr} {es : List Expr} {t : TG} {u : TGs} (h1 : PG X e t) (h2 : PGs X es u)
    (hs : (assignEach (e :: es) X.env).map (·.2) = assign e X.env :: (assignEach es X.env).map (·.2) := by rfl) : PGs X (e :: es) (gCons t u) := by
  intro pins s σ H vs us Q I r h
  obtain ⟨v, vr, e1, h⟩ := h
  subst e1
  cases r with
  | cons r rr =>
    rw [hs]
    refine assignInOrder_cons (thn (h1 pins s σ H _ _ _ I r h) fun _ s1 ⟨σ1, H1, I1, q1⟩ => ?_)
    exact h2 pins s1 σ1 H1 _ _ Q I1 rr q1
/-- (a, b, ..) = a tuple of that length -/
def gTup (K : PySem.W.Frag) (n : Nat) (t : TGs) : TG := fun v σ H Q => ∃ a xs, v = .ref a ∧ SqT K H a xs ∧ xs.length = n ∧ t xs σ H Q
theorem pg_tup {es : List Expr} {k : Nat} {t : TGs} {n : Nat} (hc : X.calm = true) (h : PGs X es t)
    (hn : (assignEach es X.env).length = n := by rfl) (hst : (assignEach es X.env).findIdx? (·.1) = none := by rfl) : PG X (.Tuple es k pos) (gTup X.K n t) := by
  intro pins s σ H v u Q I r hw
  obtain ⟨a, xs, e1, hq, hl, hw⟩ := hw
  subst e1
  cases r
  obtain ⟨its, rv, ht, hz⟩ := I.tuple hq
  refine assign_Tuple_tuple (I.ok.hd hc) ht (by simp [hn, ← hl, rv.length]) hst fun h' hx => ?_
  have I1 : Inv X pins σ H { s with heap := h' } := I.kept (t' := s.toks) fun b o e => hx b o (Nat.ne_of_lt (Heap.lt_size e)) e
  exact h pins _ σ H xs _ Q I1 (by simpa using rv) hw
/-- target = value -/
def tAsg (te : TE) (g : TG) : TS := fun D σ H => te σ H fun x H1 => g x σ H1 D.nx
/-- name = value -/
theorem ps_set {i : Nat} {x : Str} {e : Expr} {te : TE} {pos' : Pos} (hN : X.N.Nodup) (hi : X.N[i]? = some x) (hx : Loc X.env.scope x) (he : PE X e te) (hs : swapsWith e (some (.Name x pos')) pos.line X.env = pure false := by rfl) (hf : X.fn x = true ∨ X.env.scope.names.lookup x = some .local := by first | exact .inl rfl | exact .inr rfl | assumption) :
    PS X (.Assign [.Name x pos'] e pos) (tAsg te (gName i)) := by
  intro pins s σ H D I h
  refine wpAny_Assign_Name (thn (he pins s σ H _ I h) fun v s1 ⟨y, H1, I1, r1, q1⟩ => ?_) hs
  exact store_ok I1 hN hi hx r1 (fun s2 I2 => ⟨_, H1, I2, q1⟩) hf
end

/-! ### while -/
section
variable {X : Cx} {pos : Pos}
end

/-! ### what a loop or a comprehension walks -/
/-- at turn i: it yields x (the heap may grow), or it stops -/
structure It where
  go : Nat → Hp → Prop
  yld : Nat → Hp → V → Hp → Prop
  stop : Nat → Hp → Prop
/-- the iterator's own objects may turn: they are not the frame's, not pinned, younger than the entry (or a comprehension's own) -/
def FpOk (X : Cx) (pins : List (Addr × Obj)) (H : Hp) (b : Addr) : Prop :=
  H b = none ∧ b ≠ X.env.locals ∧ b ∉ X.fs ∧ (b ∈ X.ex ∨ X.s₀.heap.objs.size ≤ b) ∧ (∀ x c, X.env.cells.lookup x = some c → c ≠ b) ∧ ∀ p ∈ X.pn ++ pins, p.1 ≠ b
theorem Inv.fpOk {X : Cx} {pins : List (Addr × Obj)} {σ : St} {H H' : Hp} {s : Shared} {b : Addr} (I : Inv X pins σ H s) (hb : s.heap.objs.size ≤ b) (hn : H' b = none) : FpOk X pins H' b := by
  refine ⟨hn, Nat.ne_of_gt (Nat.lt_of_lt_of_le I.lt hb), I.nofs hb, .inr (Nat.le_trans I.sz hb), fun x c e z => ?_, fun p hp z => ?_⟩
  · obtain ⟨v, q⟩ := I.cell x c e
    exact absurd (Nat.lt_of_lt_of_le q.lt (by rw [z]; exact hb)) (Nat.lt_irrefl _)
  · exact absurd (Nat.lt_of_lt_of_le (Heap.lt_size (I.pin p hp).1) (by rw [z]; exact hb)) (Nat.lt_irrefl _)
structure Turn (P : Program) (w : World) (K : PySem.W.Frag) (tg : Expr) (J : It) (fp : List Addr) (it : Addr) (tn : Nat → Heap → Prop) : Prop where
  mem : it ∈ fp
  obj : ∀ i h, tn i h → ∀ b ∈ fp, ∃ o, h.get? b = some o ∧ ∀ v, o.data ≠ .cell v
  keep : ∀ i h h', tn i h → (∀ b ∈ fp, ∀ o, h.get? b = some o → h'.get? b = some o) → tn i h'
  item : ∀ (X : Cx), X.prog = P → X.w = w → X.K = K → X.calm = true → ∀ (i : Nat) (pins : List (Addr × Obj)) (s : Shared) (σ : St) (H : Hp) (E : Value → Shared → Prop), Inv X pins σ H s → (∀ b ∈ fp, FpOk X pins H b) → tn i s.heap → J.go i H →
    wpAny (model P w) X.A (pyNext (.ref it)) (fun r s1 => ∃ u, r = some u ∧
      wpAny (model P w) X.A (letOwnedTupleGo tg (.ref it) u) (fun _ s2 => ∃ x H', Inv X pins σ H' s2 ∧ RelV x u ∧ J.yld i H x H' ∧ tn (i + 1) s2.heap ∧ ∀ b ∈ fp, H' b = none) E s1) E s
  done : ∀ (X : Cx), X.prog = P → X.w = w → X.K = K → X.calm = true → ∀ (i : Nat) (pins : List (Addr × Obj)) (s : Shared) (σ : St) (H : Hp) (E : Value → Shared → Prop), Inv X pins σ H s → (∀ b ∈ fp, FpOk X pins H b) → tn i s.heap → J.stop i H →
    wpAny (model P w) X.A (pyNext (.ref it)) (fun r s1 => r = none ∧ Inv X pins σ H s1) E s
  self : ∀ (A : Around) (i : Nat) (s : Shared) (Q : Value → Shared → Prop) (E : Value → Shared → Prop), tn i s.heap → Q (.ref it) s → wpAny (model P w) A (pyIter (.ref it)) Q E s
abbrev TI := St → Hp → (It → Hp → Prop) → Prop
/-- an iterator has come -/
def PIE (X : Cx) (pins : List (Addr × Obj)) (σ : St) (tg : Expr) (R : It → Hp → Prop) (itv : Value) (s2 : Shared) : Prop :=
  ∃ (it : Addr) (fp : List Addr) (tn : Nat → Heap → Prop) (J : It) (H' : Hp), itv = .ref it ∧ Inv X pins σ H' s2 ∧ Turn X.prog X.w X.K tg J fp it tn ∧ tn 0 s2.heap ∧ (∀ b ∈ fp, FpOk X pins H' b) ∧ R J H'
def PI (X : Cx) (tg iter : Expr) (wi : TI) : Prop :=
  ∀ (pins : List (Addr × Obj)) (s : Shared) (σ : St) (H : Hp) (R : It → Hp → Prop), Inv X pins σ H s → wi σ H R →
    wpAny (model X.prog X.w) X.A (eval iter X.env) (fun v s1 => wpAny (model X.prog X.w) X.A (pyIter v) (PIE X pins σ tg R) X.xe s1) X.xe s

/-- the step ahead of the store is nothing for an iterator that keeps no tuple -/
theorem go_of {M : Model} {A : Around} {E : Value → Shared → Prop} {s : Shared} {tg : Expr} {it : Addr} {u : Value} {o : Obj} {n : String} {vs : Array Value} {Q : Unit → Shared → Prop} (ho : s.heap.get? it = some o) (hc : o.cls = .type n) (hd : o.data = .fields vs)
    (hn : ["enumerate", "zip", "dict_itemiterator", "dict_reverseitemiterator", "odict_iterator", "itertools.zip_longest", "itertools.pairwise"].contains n = false) (hQ : Q () s) : wpAny M A (letOwnedTupleGo tg (.ref it) u) Q E s := by
  unfold letOwnedTupleGo
  cases tg <;> first
    | exact wpAny_pure hQ
    | (cases u <;> first
        | exact wpAny_pure hQ
        | (refine wpAny_bind (wpAny_load ho ?_)
           rw [hc, hd]
           show wpAny M A (if (["enumerate", "zip", "dict_itemiterator", "dict_reverseitemiterator", "odict_iterator", "itertools.zip_longest", "itertools.pairwise"].contains n && vs[0]? == some (rawInt _)) = true then _ else _) Q E s
           rw [if_neg (by intro h; rw [hn, Bool.false_and] at h; cases h)]
           exact wpAny_pure hQ))

/-- the list at a, as it stands at each turn (a loop may append to it) -/
def Itl (K : PySem.W.Frag) (a : Addr) : It :=
  ⟨fun i H => ∃ xs x, SqL K H a xs ∧ xs[i]? = some x, fun i H x H' => H' = H ∧ ∀ xs, SqL K H a xs → xs[i]? = some x, fun i H => ∃ xs, SqL K H a xs ∧ xs.length ≤ i⟩
def Itt (K : PySem.W.Frag) (a : Addr) : It :=
  ⟨fun i H => ∃ xs x, SqT K H a xs ∧ xs[i]? = some x, fun i H x H' => H' = H ∧ ∀ xs, SqT K H a xs → xs[i]? = some x, fun i H => ∃ xs, SqT K H a xs ∧ xs.length ≤ i⟩
/-- lo, lo + 1, .. (n of them) -/
def Itr (lo : Int) (n : Nat) : It := ⟨fun i _ => i < n, fun i H x H' => H' = H ∧ x = .int (lo + i), fun i _ => n ≤ i⟩
theorem turn_list {P : Program} {w : World} {K : PySem.W.Frag} {tg : Expr} (a it : Addr) : Turn P w K tg (Itl K a) [it] it (fun i h => h.IsListIter it a i) where
  mem := by simp
  obj := fun i h st b hb => by
    have e : b = it := by simpa using hb
    subst e
    obtain ⟨o, e, c, d⟩ := st
    exact ⟨o, e, fun v z => by rw [d] at z; cases z⟩
  keep := fun i h h' st k => st.at fun o e => k it (by simp) o e
  item := by
    intro X hP hw hK hc i pins s σ H E I hf st hg
    subst hP hw hK
    obtain ⟨xs, x, hq, hx⟩ := hg
    obtain ⟨its, rv, p, hz⟩ := I.list hq
    obtain ⟨u, hu, ru⟩ := rv.get hx
    obtain ⟨f0, f1, f2, f3, f4, f5⟩ := hf it (by simp)
    refine wpAny_pyNext_list_item st p.isList (x := u) (by simpa using hu) fun h' st' sb => ?_
    have I1 : Inv X pins σ H { s with heap := h' } := I.turned (t' := s.toks) (fun b o hb e => (sb.2 b hb).trans e) f0 f1 f3 f4 f5
    obtain ⟨o, e, c, d⟩ := id st'
    exact ⟨u, rfl, go_of (s := { s with heap := h' }) e c d (by decide) ⟨x, H, I1, ru, ⟨rfl, fun ys hy => by rw [I.list_inj hy hq]; exact hx⟩, st', fun b hb => (hf b hb).1⟩⟩
  done := by
    intro X hP hw hK hc i pins s σ H E I hf st hg
    subst hP hw hK
    obtain ⟨xs, hq, hx⟩ := hg
    obtain ⟨its, rv, p, hz⟩ := I.list hq
    obtain ⟨f0, f1, f2, f3, f4, f5⟩ := hf it (by simp)
    have hl := rv.length
    exact wpAny_pyNext_list_end (I.ok.hd hc) st p.isList (by simp; omega) fun h' eb => ⟨rfl, I.turned (t' := s.toks) (fun b o hb e => eb b o hb e) f0 f1 f3 f4 f5⟩
  self := fun _ _ _ _ _ st h => wpAny_pyIter_listiter st h
theorem turn_tuple {P : Program} {w : World} {K : PySem.W.Frag} {tg : Expr} (a it : Addr) : Turn P w K tg (Itt K a) [it] it (fun i h => h.IsTupleIter it a i) where
  mem := by simp
  obj := fun i h st b hb => by
    have e : b = it := by simpa using hb
    subst e
    obtain ⟨o, e, c, d⟩ := st
    exact ⟨o, e, fun v z => by rw [d] at z; cases z⟩
  keep := fun i h h' st k => st.at fun o e => k it (by simp) o e
  item := by
    intro X hP hw hK hc i pins s σ H E I hf st hg
    subst hP hw hK
    obtain ⟨xs, x, hq, hx⟩ := hg
    obtain ⟨its, rv, p, hz⟩ := I.tuple hq
    obtain ⟨u, hu, ru⟩ := rv.get hx
    obtain ⟨f0, f1, f2, f3, f4, f5⟩ := hf it (by simp)
    refine wpAny_pyNext_tuple_item st (show s.heap.IsTuple a its.toArray from p) (x := u) (by simpa using hu) fun h' st' sb => ?_
    have I1 : Inv X pins σ H { s with heap := h' } := I.turned (t' := s.toks) (fun b o hb e => (sb.2 b hb).trans e) f0 f1 f3 f4 f5
    obtain ⟨o, e, c, d⟩ := id st'
    exact ⟨u, rfl, go_of (s := { s with heap := h' }) e c d (by decide) ⟨x, H, I1, ru, ⟨rfl, fun ys hy => by rw [I.tuple_inj hy hq]; exact hx⟩, st', fun b hb => (hf b hb).1⟩⟩
  done := by
    intro X hP hw hK hc i pins s σ H E I hf st hg
    subst hP hw hK
    obtain ⟨xs, hq, hx⟩ := hg
    obtain ⟨its, rv, p, hz⟩ := I.tuple hq
    obtain ⟨f0, f1, f2, f3, f4, f5⟩ := hf it (by simp)
    have hl := rv.length
    exact wpAny_pyNext_tuple_end (I.ok.hd hc) st (show s.heap.IsTuple a its.toArray from p) (by simp; omega) fun h' eb => ⟨rfl, I.turned (t' := s.toks) (fun b o hb e => eb b o hb e) f0 f1 f3 f4 f5⟩
  self := fun _ _ _ _ _ st h => wpAny_pyIter_tupleiter st h
theorem turn_range {P : Program} {w : World} {K : PySem.W.Frag} {tg : Expr} (it : Addr) (lo : Int) (n : Nat) : Turn P w K tg (Itr lo n) [it] it (fun i h => IsRangeIter h it (lo + (i : Nat) * 1) ((n : Int) - (i : Nat)) 1) where
  mem := by simp
  obj := fun i h st b hb => by
    have e : b = it := by simpa using hb
    subst e
    exact ⟨_, st, fun v z => by
      have z' : Data.fields _ = Data.cell v := z
      cases z'⟩
  keep := fun i h h' st k => k it (by simp) _ st
  item := by
    intro X hP hw hK hc i pins s σ H E I hf st hg
    subst hP hw hK
    obtain ⟨f0, f1, f2, f3, f4, f5⟩ := hf it (by simp)
    have W := Walks.range (prog := X.prog) (w := X.w) (I.ok.hd hc) it lo 1 n
    refine W.item i s _ _ hg st fun v h' tk hv st' kk => ?_
    obtain ⟨t, rfl⟩ := hv
    have I1 : Inv X pins σ H { s with heap := h', toks := tk } := I.turned (fun b o hb e => kk b o (by simpa using hb) e) f0 f1 f3 f4 f5
    refine ⟨_, rfl, go_of (s := { s with heap := h', toks := tk }) (n := "range_iterator") st' rfl rfl (by decide) ⟨.int (lo + i), H, I1, ⟨t, ?_⟩, ⟨rfl, rfl⟩, st', fun b hb => (hf b hb).1⟩⟩
    rw [Int.mul_one]
  done := by
    intro X hP hw hK hc i pins s σ H E I hf st hg
    subst hP hw hK
    obtain ⟨f0, f1, f2, f3, f4, f5⟩ := hf it (by simp)
    exact wpAny_pyNext_range_end (I.ok.hd hc) st (by have : n ≤ i := hg; omega) fun h' eb => ⟨rfl, I.turned (t' := s.toks) (fun b o hb e => eb b o hb e) f0 f1 f3 f4 f5⟩
  self := fun _ _ _ _ _ st h => wpAny_pyIter_rangeiter st h
end L2

namespace L2
open PySem PySem.Spec PyProof.Rows
section
variable {X : Cx} {tg : Expr}
def iTup (K : PySem.W.Frag) (tl : TE) : TI := fun σ H R => tl σ H fun x H1 => ∃ a, x = .ref a ∧ (∃ xs, SqT K H1 a xs) ∧ R (Itt K a) H1
theorem pi_tup {l : Expr} {tl : TE} (hl : PE X l tl) : PI X tg l (iTup X.K tl) := by
  intro pins s σ H R I h
  refine thn (hl pins s σ H _ I h) fun v s1 ⟨x, H1, I1, r1, q1⟩ => ?_
  obtain ⟨a, e, ⟨xs, hq⟩, q⟩ := q1
  subst e
  cases r1
  obtain ⟨its, rv, p, hz⟩ := I1.tuple hq
  refine wpAny_pyIter_tuple (show s1.heap.IsTuple a its.toArray from p) ?_
  refine ⟨s1.heap.objs.size, [s1.heap.objs.size], _, _, H1, rfl, I1.kept (t' := s1.toks) fun b o e => Heap.get?_push_of_some _ e, turn_tuple a _, ⟨_, Heap.get?_push_size _ rfl, rfl, rfl⟩, fun b hb => ?_, q⟩
  have e : b = s1.heap.objs.size := by simpa using hb
  subst e
  exact I1.fpOk (Nat.le_refl _) (I1.hok.fresh (Nat.le_refl _))
/-- a range object just made, walked -/
theorem range_it {pins : List (Addr × Obj)} {σ : St} {H : Hp} {s : Shared} {R : It → Hp → Prop} {E : Value → Shared → Prop} {lo hi : Int} {t u v : Tok} {tk : Nat} (I : Inv X pins σ H s) (h1 : -(2 ^ 62) ≤ lo) (h2 : lo < 2 ^ 62) (h3 : -(2 ^ 62) ≤ hi) (h4 : hi < 2 ^ 62)
    (q : R (Itr lo (hi - lo).toNat) H) : wpAny (model X.prog X.w) X.A (pyIter (.ref s.heap.objs.size)) (PIE X pins σ tg R) E { s with heap := s.heap.push { cls := .type "range", data := .fields #[.int lo t, .int hi u, .int 1 v] }, toks := tk } := by
  refine wpAny_pyIter_range (IsRange.new ..) (small_one h1 h2 h3 h4) ?_
  have I1 : Inv X pins σ H { s with heap := s.heap.push { cls := .type "range", data := .fields #[.int lo t, .int hi u, .int 1 v] }, toks := tk } := I.kept fun b o e => Heap.get?_push_of_some _ e
  refine ⟨(s.heap.push { cls := .type "range", data := .fields #[.int lo t, .int hi u, .int 1 v] }).objs.size, [(s.heap.push { cls := .type "range", data := .fields #[.int lo t, .int hi u, .int 1 v] }).objs.size], _, _, H, rfl,
    I1.kept (t' := tk) fun b o e => Heap.get?_push_of_some _ e, turn_range _ lo (hi - lo).toNat, ?_, fun b hb => ?_, q⟩
  · have e1 : lo + ((0 : Nat) : Int) * 1 = lo := by simp
    have e2 : (((hi - lo).toNat : Nat) : Int) - ((0 : Nat) : Int) = Builtin.Range.rangeSize lo hi 1 := by rw [rangeSize_one]; split <;> omega
    show IsRangeIter _ _ (lo + ((0 : Nat) : Int) * 1) ((((hi - lo).toNat : Nat) : Int) - ((0 : Nat) : Int)) 1
    rw [e1, e2]
    exact Heap.get?_push_size _ rfl
  · have e : b = (s.heap.push { cls := .type "range", data := .fields #[.int lo t, .int hi u, .int 1 v] }).objs.size := by simpa using hb
    subst e
    exact I1.fpOk (Nat.le_refl _) (I1.hok.fresh (Nat.le_refl _))
def iRng1 (ta : TA) : TI := fun σ H R => ta σ H fun vs H1 => ∃ j : Int, vs = [.int j] ∧ -(2 ^ 62) ≤ j ∧ j < 2 ^ 62 ∧ R (Itr 0 j.toNat) H1
theorem pi_range1 {a : Expr} {ta : TA} {p pos : Pos} (hg : Gl X "range") (hm : X.mg "range" = none) (ha : PA X [a] ta) (hs : starEach [a] X.env = [(false, eval a X.env)] := by rfl) : PI X tg (.Call (.Name "range" p) [a] [] pos) (iRng1 ta) := by
  intro pins s σ H R I h
  refine Call_ (ld_blt I hg hm boot_range (PyProof.Rows.callWith_type1 (thn (ha pos pins s σ H _ I h) fun us s1 ⟨vs, H1, I1, r1, q1⟩ => ?_) hs rfl))
  obtain ⟨j, e, q1, q2, q⟩ := q1
  subst e
  cases r1 with
  | cons r rr =>
    cases rr
    obtain ⟨t, rfl⟩ := r
    exact call_range_1 (range_it I1 (by omega) (by omega) q1 q2 (by simpa using q))

/-! ### for -/
/-- W: the invariant by the turn and a measure; N: what the body is to reach -/
def tFor (wi : TI) (g : TG) (tb : TS) : TS := fun D σ H => wi σ H fun J H1 => ∃ W : Nat → Nat → St → Hp → Prop, (∃ m, W 0 m σ H1) ∧ ∀ i m σ H, W i m σ H →
  (J.stop i H ∧ D.nx σ H) ∨ (J.go i H ∧ ∃ N : St → Hp → Prop, (∀ σ' H', N σ' H' → ∃ m', m' < m ∧ W (i + 1) m' σ' H') ∧ ∀ x H', J.yld i H x H' → g x σ H' fun σ2 H2 => tb { D with nx := N, ct := N, bk := D.nx } σ2 H2)
/-- the records at fp as they stand -/
def pinsAt (fp : List Addr) (h : Heap) : List (Addr × Obj) := fp.filterMap fun b => (h.get? b).map fun o => (b, o)
theorem mem_pinsAt {fp : List Addr} {h : Heap} {b : Addr} {o : Obj} (hb : b ∈ fp) (e : h.get? b = some o) : (b, o) ∈ pinsAt fp h := List.mem_filterMap.mpr ⟨b, hb, by rw [e]; rfl⟩
theorem of_pinsAt {fp : List Addr} {h : Heap} {p : Addr × Obj} (hp : p ∈ pinsAt fp h) : p.1 ∈ fp ∧ h.get? p.1 = some p.2 := by
  obtain ⟨b, hb, e⟩ := List.mem_filterMap.mp hp
  cases q : h.get? b with
  | none => rw [q] at e; cases e
  | some o =>
    rw [q] at e
    have e' : (b, o) = p := Option.some.inj e
    subst e'
    exact ⟨hb, q⟩
theorem Inv.pinned {pins : List (Addr × Obj)} {σ : St} {H : Hp} {s : Shared} {fp : List Addr} (I : Inv X pins σ H s) (hf : ∀ b ∈ fp, FpOk X pins H b) (ho : ∀ b ∈ fp, ∃ o, s.heap.get? b = some o ∧ ∀ v, o.data ≠ .cell v) : Inv X (pins ++ pinsAt fp s.heap) σ H s :=
  I.pins_of fun p hp => (List.mem_append.mp hp).elim (fun z => I.pin p (List.mem_append_right _ z)) fun z => by
    obtain ⟨hb, e⟩ := of_pinsAt z
    obtain ⟨f0, f1, f2, _⟩ := hf p.1 hb
    obtain ⟨o, e', d⟩ := ho p.1 hb
    rw [e] at e'; cases e'
    exact ⟨e, f0, f1, f2, d⟩
theorem Inv.unpinned {pins pl : List (Addr × Obj)} {σ : St} {H : Hp} {s : Shared} (I : Inv X (pins ++ pl) σ H s) : Inv X pins σ H s := I.pins_of fun p hp => I.pin p (List.mem_append_right _ (List.mem_append_left _ hp))
theorem ps_for {iter : Expr} {body : List Stmt} {wi : TI} {g : TG} {tb : TS} {pos : Pos} (hp : PassesOwn (model X.prog X.w) X.A X.env X.xe) (hc : X.calm = true) (hi : PI X tg iter wi) (hg : PG X tg g) (hb : PSs X body tb)
    (hs : ∀ x, foldedSetIterable iter X.env x = pure x := by intro _; rfl) : PS X (.For tg iter body [] pos) (tFor wi g tb) := by
  intro pins s σ H D I h
  refine wpAny_For (thn (hi pins s σ H _ I h) fun v s1 h1 => thn h1 fun itv s2 h2 => ?_) hs
  obtain ⟨it, fp, tn, J, H2, e, I2, T, st2, f2, W, ⟨m0, w0⟩, turn⟩ := h2
  subst e
  -- what stays true of the iterator's objects through the loop
  have stat : ∀ {H' : Hp}, (∀ b ∈ fp, H' b = none) → ∀ b ∈ fp, FpOk X pins H' b := fun hn b hb => ⟨hn b hb, (f2 b hb).2⟩
  refine codeAny_forLoop_any (fun n s' => ∃ i σ' H', Inv X pins σ' H' s' ∧ tn i s'.heap ∧ (∀ b ∈ fp, H' b = none) ∧ W i n σ' H') ?_ m0 ⟨0, σ, H2, I2, st2, fun b hb => (f2 b hb).1, w0⟩
  rintro n s3 ⟨i, σ3, H3, I3, st3, fr3, w3⟩
  rcases turn i n σ3 H3 w3 with ⟨stop, qn⟩ | ⟨go, N, hN, step⟩
  · refine wpAny_passesOwn hp (thn (T.done X rfl rfl rfl hc i pins s3 σ3 H3 X.xe I3 (stat fr3) st3 stop) fun r s4 ⟨hr, I4⟩ => ?_)
    subst hr
    exact wpAny_execs_nil ⟨σ3, H3, I4, qn⟩
  · refine wpAny_passesOwn hp (thn (T.item X rfl rfl rfl hc i pins s3 σ3 H3 X.xe I3 (stat fr3) st3 go) fun r s4 ⟨u, hr, h4⟩ => ?_)
    subst hr
    refine wpAny_passesOwn hp (thn h4 fun _ s5 ⟨x, H5, I5, r5, y5, st5, fr5⟩ => ?_)
    have I5' := I5.pinned (stat fr5) (T.obj _ _ st5)
    refine wpAny_passesOwn hp (thn (hg _ s5 σ3 H5 x u _ I5' r5 (step x H5 y5)) fun _ s6 ⟨σ6, H6, I6, q6⟩ => ?_)
    refine wpAny_passesOwn hp (thn (hb _ s6 σ6 H6 _ I6 q6) fun f s7 q7 => ?_)
    have again : ∀ {σ7 : St} {H7 : Hp}, Inv X (pins ++ pinsAt fp s5.heap) σ7 H7 s7 → N σ7 H7 → ∃ m, m < n ∧ ∃ i σ' H', Inv X pins σ' H' s7 ∧ tn i s7.heap ∧ (∀ b ∈ fp, H' b = none) ∧ W i m σ' H' := fun {σ7 H7} I7 n7 => by
      obtain ⟨m', hm, w7⟩ := hN σ7 H7 n7
      refine ⟨m', hm, i + 1, σ7, H7, I7.unpinned, T.keep _ _ _ st5 fun b hb o e => (I7.pin (b, o) (List.mem_append_right _ (List.mem_append_right _ (mem_pinsAt hb e)))).1, fun b hb => ?_, w7⟩
      obtain ⟨o, e, d⟩ := T.obj _ _ st5 b hb
      exact (I7.pin (b, o) (List.mem_append_right _ (List.mem_append_right _ (mem_pinsAt hb e)))).2.1
    cases f with
    | next => obtain ⟨σ7, H7, I7, n7⟩ := q7; exact again I7 n7
    | cont => obtain ⟨σ7, H7, I7, n7⟩ := q7; exact again I7 n7
    | brk => obtain ⟨σ7, H7, I7, q7⟩ := q7; exact ⟨σ7, H7, I7.unpinned, q7⟩
    | ret v => obtain ⟨x7, σ7, H7, I7, r7, q7⟩ := q7; exact ⟨x7, σ7, H7, I7.unpinned, r7, q7⟩
end

/-! ### the forms one uses -/
theorem for_range {lo : Int} {n : Nat} {g : TG} {tb : TS} {D : Ends} {σ : St} {H : Hp} (Pv : Nat → St → Hp → Prop) (h0 : Pv 0 σ H)
    (hs : ∀ i σ H, i < n → Pv i σ H → g (.int (lo + i)) σ H fun σ2 H2 => tb { D with nx := Pv (i + 1), ct := Pv (i + 1), bk := D.nx } σ2 H2) (hd : ∀ σ H, Pv n σ H → D.nx σ H) :
    ∃ W : Nat → Nat → St → Hp → Prop, (∃ m, W 0 m σ H) ∧ ∀ i m σ H, W i m σ H →
      ((Itr lo n).stop i H ∧ D.nx σ H) ∨ ((Itr lo n).go i H ∧ ∃ N : St → Hp → Prop, (∀ σ' H', N σ' H' → ∃ m', m' < m ∧ W (i + 1) m' σ' H') ∧ ∀ x H', (Itr lo n).yld i H x H' → g x σ H' fun σ2 H2 => tb { D with nx := N, ct := N, bk := D.nx } σ2 H2) := by
  refine ⟨fun i m σ H => m = n - i ∧ i ≤ n ∧ Pv i σ H, ⟨n, by simp, Nat.zero_le _, h0⟩, ?_⟩
  rintro i m σ H ⟨rfl, hi, p⟩
  by_cases hlt : i < n
  · refine .inr ⟨hlt, Pv (i + 1), fun σ' H' p' => ⟨n - (i + 1), by omega, rfl, hlt, p'⟩, fun x H' y => ?_⟩
    obtain ⟨e, y⟩ := y
    subst e y
    exact hs i σ _ hlt p
  · have e : i = n := by omega
    subst e
    exact .inl ⟨Nat.le_refl _, hd σ H p⟩
end L2

namespace L2
open PySem PySem.Spec PyProof.Rows

abbrev R2 := V → V → Hp → VK → Prop
/-- a two-place operation on values: f is binaryOp op, inplaceOp op or compareOp op -/
def OpR (X : Cx) (f : Value → Value → Sem Value) (r : R2) : Prop :=
  ∀ (pins : List (Addr × Obj)) (s : Shared) (σ : St) (H : Hp) (x y : V) (v u : Value) (Q : VK), Inv X pins σ H s → RelV x v → RelV y u → r x y H Q →
    wpAny (model X.prog X.w) X.A (f v u) (EP X pins σ Q) X.xe s
/-- a one-place operation -/
def UnR (X : Cx) (f : Value → Sem Value) (r : V → Hp → VK → Prop) : Prop :=
  ∀ (pins : List (Addr × Obj)) (s : Shared) (σ : St) (H : Hp) (x : V) (v : Value) (Q : VK), Inv X pins σ H s → RelV x v → r x H Q →
    wpAny (model X.prog X.w) X.A (f v) (EP X pins σ Q) X.xe s
/-- a call of a value that is known (a builtin, a type) with values -/
def CallR (X : Cx) (f : Value) (r : List V → Hp → VK → Prop) : Prop :=
  ∀ (pins : List (Addr × Obj)) (s : Shared) (σ : St) (H : Hp) (xs : List V) (us : List Value) (Q : VK), Inv X pins σ H s → Vals xs us → r xs H Q →
    wpAny (model X.prog X.w) X.A (call f us) (EP X pins σ Q) X.xe s
/-- a value's truth -/
def TruR (X : Cx) (r : V → Hp → (Bool → Hp → Prop) → Prop) : Prop :=
  ∀ (pins : List (Addr × Obj)) (s : Shared) (σ : St) (H : Hp) (x : V) (v : Value) (Q : Bool → Hp → Prop), Inv X pins σ H s → RelV x v → r x H Q →
    wpAny (model X.prog X.w) X.A (truthy v) (TP X pins σ Q) X.xe s

def tOp (r : R2) (ta tb : TE) : TE := fun σ H Q => ta σ H fun x H1 => tb σ H1 fun y H2 => r x y H2 Q
def tUn (r : V → Hp → VK → Prop) (ta : TE) : TE := fun σ H Q => ta σ H fun x H1 => r x H1 Q
/-- ints in, under C, and a value out -/
def rI (C : Int → Int → Prop) (g : Int → Int → V) : R2 := fun x y H Q => ∃ i j, x = .int i ∧ y = .int j ∧ C i j ∧ Q (g i j) H
def rI0 (g : Int → Int → V) : R2 := fun x y H Q => ∃ i j, x = .int i ∧ y = .int j ∧ Q (g i j) H
def rU (g : Int → V) : V → Hp → VK → Prop := fun x H Q => ∃ i, x = .int i ∧ Q (g i) H

section
variable {X : Cx} {a b c : Expr} {ta tb tc : TE} {pos : Pos}

theorem binT (ha : PE X a ta) (hb : PE X b tb) {pins : List (Addr × Obj)} {s : Shared} {σ : St} {H : Hp} {R : V → V → Hp → Prop} (I : Inv X pins σ H s)
    (h : ta σ H fun x H1 => tb σ H1 fun y H2 => R x y H2) {Q : Value → Shared → Prop} {f : Value → Value → Sem Value}
    (hf : ∀ v u s2 x y H2, Inv X pins σ H2 s2 → RelV x v → RelV y u → R x y H2 → wpAny (model X.prog X.w) X.A (f v u) Q X.xe s2) :
    wpAny (model X.prog X.w) X.A (eval a X.env) (fun v s₁ => wpAny (model X.prog X.w) X.A (eval b X.env) (fun u s₂ => wpAny (model X.prog X.w) X.A (f v u) Q X.xe s₂) X.xe s₁) X.xe s := by
  refine thn (ha pins s σ H _ I h) fun v s1 ⟨x, H1, I1, r1, q1⟩ => ?_
  refine thn (hb pins s1 σ H1 _ I1 q1) fun u s2 ⟨y, H2, I2, r2, q2⟩ => ?_
  exact hf v u s2 x y H2 I2 r1 r2 q2

theorem pe_op {op : Operator} {r : R2} (ho : OpR X (binaryOp op) r) (ha : PE X a ta) (hb : PE X b tb) : PE X (.BinOp a op b pos) (tOp r ta tb) := by
  intro pins s σ H Q I h
  exact wpAny_BinOp (binT ha hb I h fun v u s2 x y H2 I2 rx ry q => ho pins s2 σ H2 x y v u Q I2 rx ry q)
theorem pe_un {op : UnaryOp} {r : V → Hp → VK → Prop} (ho : UnR X (unaryOp op) r) (ha : PE X a ta) : PE X (.UnaryOp op a pos) (tUn r ta) := by
  intro pins s σ H Q I h
  exact UnaryOp_ (thn (ha pins s σ H _ I h) fun v s1 ⟨x, H1, I1, r1, q1⟩ => ho pins s1 σ H1 x v Q I1 r1 q1)

/-! ### ints -/
theorem opI {f : Value → Value → Sem Value} {C : Int → Int → Prop} {g : Int → Int → Int}
    (rule : ∀ (i j : Int) (t u : Tok) (s : Shared) (Q : Value → Shared → Prop) (E : Value → Shared → Prop), C i j → Q (.int (g i j) s.toks) { s with toks := s.toks + 1 } → wpAny (model X.prog X.w) X.A (f (.int i t) (.int j u)) Q E s) :
    OpR X f (rI C fun i j => .int (g i j)) := by
  intro pins s σ H x y v u Q I rx ry h
  obtain ⟨i, j, rfl, rfl, hc, q⟩ := h
  obtain ⟨t, rfl⟩ := rx
  obtain ⟨t', rfl⟩ := ry
  exact rule i j t t' s _ _ hc ⟨.int (g i j), H, I.tok _, ⟨_, rfl⟩, q⟩
theorem opI0 {f : Value → Value → Sem Value} {g : Int → Int → Int}
    (rule : ∀ (i j : Int) (t u : Tok) (s : Shared) (Q : Value → Shared → Prop) (E : Value → Shared → Prop), Q (.int (g i j) s.toks) { s with toks := s.toks + 1 } → wpAny (model X.prog X.w) X.A (f (.int i t) (.int j u)) Q E s) :
    OpR X f (rI0 fun i j => .int (g i j)) := by
  intro pins s σ H x y v u Q I rx ry h
  obtain ⟨i, j, rfl, rfl, q⟩ := h
  obtain ⟨t, rfl⟩ := rx
  obtain ⟨t', rfl⟩ := ry
  exact rule i j t t' s _ _ ⟨.int (g i j), H, I.tok _, ⟨_, rfl⟩, q⟩
theorem opB0 {f : Value → Value → Sem Value} {g : Int → Int → Bool}
    (rule : ∀ (i j : Int) (t u : Tok) (s : Shared) (Q : Value → Shared → Prop) (E : Value → Shared → Prop), Q (.bool (g i j)) s → wpAny (model X.prog X.w) X.A (f (.int i t) (.int j u)) Q E s) :
    OpR X f (rI0 fun i j => .bl (g i j)) := by
  intro pins s σ H x y v u Q I rx ry h
  obtain ⟨i, j, rfl, rfl, q⟩ := h
  obtain ⟨t, rfl⟩ := rx
  obtain ⟨t', rfl⟩ := ry
  exact rule i j t t' s _ _ ⟨.bl (g i j), H, I, rfl, q⟩

def CDiv (i j : Int) : Prop := 0 < j ∧ j < 1073741824
def CPow (i j : Int) : Prop := 0 ≤ j ∧ j ≤ 1000000 ∧ i.natAbs < 2 ^ 64

theorem op_add : OpR X (binaryOp .Add) (rI0 fun i j => .int (i + j)) := opI0 fun _ _ _ _ _ _ _ q => add_int q
theorem op_sub : OpR X (binaryOp .Sub) (rI0 fun i j => .int (i - j)) := opI0 fun _ _ _ _ _ _ _ q => sub_int q
/-- // by a positive divisor -/
theorem op_fdiv : OpR X (binaryOp .FloorDiv) (rI CDiv fun i j => .int (i / j)) := opI fun i j _ _ _ _ _ hc q => by
  have h1 : (0 : Int) < j := hc.1
  have h2 : j < 1073741824 := hc.2
  exact floordiv_int (by omega) (by rw [Int.fdiv_eq_ediv_of_nonneg i (by omega)]; exact q) (.inl (PyProof.noPylong_small (by omega)))
/-- % by a positive divisor of any size -/
theorem op_mod : OpR X (binaryOp .Mod) (rI (fun _ j => 0 < j) fun i j => .int (i % j)) := opI fun i j _ _ _ _ _ hc q => by
  have h1 : (0 : Int) < j := hc
  exact mod_int' (by omega) (by rw [Int.fmod_eq_emod_of_nonneg i (by omega)]; exact q)
theorem op_modN : OpR X (binaryOp .Mod) (rI (fun _ j => j ≠ 0) fun i j => .int (i.fmod j)) := opI fun _ _ _ _ _ _ _ hc q => mod_int' hc q
theorem op_pow : OpR X (binaryOp .Pow) (rI CPow fun i j => .int (i ^ j.toNat)) := opI fun _ _ _ _ _ _ _ hc q => pow_int_small hc.1 hc.2.1 hc.2.2 q


theorem unI {f : Value → Sem Value} {g : Int → Int}
    (rule : ∀ (i : Int) (t : Tok) (s : Shared) (Q : Value → Shared → Prop) (E : Value → Shared → Prop), Q (.int (g i) s.toks) { s with toks := s.toks + 1 } → wpAny (model X.prog X.w) X.A (f (.int i t)) Q E s) :
    UnR X f (rU fun i => .int (g i)) := by
  intro pins s σ H x v Q I rx h
  obtain ⟨i, rfl, q⟩ := h
  obtain ⟨t, rfl⟩ := rx
  exact rule i t s _ _ ⟨.int (g i), H, I.tok _, ⟨_, rfl⟩, q⟩
theorem un_neg : UnR X (unaryOp .USub) (rU fun i => .int (-i)) := unI fun _ _ _ _ _ q => neg_int q

/-! ### bools among ints: n += (a < b) -/
end

/-! ### comparisons -/
/-- the scalars that == tells apart as data does -/
def scal : V → V → Bool
  | .non, .non => true | .non, .int _ => true | .int _, .non => true | .non, .bl _ => true | .bl _, .non => true | .non, .str _ => true | .str _, .non => true
  | .int _, .int _ => true | .bl _, .bl _ => true | .str _, .str _ => true | .byt _, .byt _ => true
  | .int _, .str _ => true | .str _, .int _ => true | .bl _, .str _ => true | .str _, .bl _ => true
  | _, _ => false
def rEq : R2 := fun x y H Q => scal x y = true ∧ Q (.bl (decide (x = y))) H
def rNe : R2 := fun x y H Q => scal x y = true ∧ Q (.bl (!decide (x = y))) H

theorem dec_int {i j : Int} : decide (V.int i = V.int j) = (i == j) := by
  rw [Bool.eq_iff_iff]
  simp
theorem dec_bl {i j : Bool} : decide (V.bl i = V.bl j) = (i == j) := by
  rw [Bool.eq_iff_iff]
  simp
theorem dec_str {i j : Str} : decide (V.str i = V.str j) = (i == j) := by
  rw [Bool.eq_iff_iff]
  simp
theorem dec_byt {i j : Array UInt8} : decide (V.byt i = V.byt j) = (i.toList == j.toList) := by
  rw [Bool.eq_iff_iff]
  cases i
  cases j
  simp

section
variable {X : Cx} {a b c : Expr} {ta tb tc : TE} {pos : Pos}
theorem fin_bl {pins : List (Addr × Obj)} {σ : St} {H : Hp} {s : Shared} {Q : VK} {k k' : Bool} (I : Inv X pins σ H s) (q : Q (.bl k) H) (e : k = k') : EP X pins σ Q (.bool k') s := by
  subst e
  exact ⟨.bl k, H, I, rfl, q⟩
theorem op_eq : OpR X (compareOp .Eq) rEq := by
  intro pins s σ H x y v u Q I rx ry h
  obtain ⟨hs, q⟩ := h
  cases x with
  | non =>
    cases rx
    cases y with
    | non => cases ry; exact PySem.EqNone.eq_none_none (fin_bl I q (by simp))
    | bl j => cases ry; exact PySem.EqNone.eq_none_bool (fin_bl I q (by simp))
    | int j => obtain ⟨t', rfl⟩ := ry; exact PySem.EqNone.eq_none_int (fin_bl I q (by simp))
    | str j => obtain ⟨t', rfl⟩ := ry; exact PySem.EqNone.eq_none_str (fin_bl I q (by simp))
    | _ => exact absurd (show false = true from hs) Bool.false_ne_true
  | bl i =>
    cases rx
    cases y with
    | non => cases ry; exact PySem.EqNone.eq_bool_none (fin_bl I q (by simp))
    | bl j => cases ry; exact eq_bool (fin_bl I q dec_bl)
    | str j => obtain ⟨t', rfl⟩ := ry; exact PySem.EqMixed.eq_bool_str (fin_bl I q (by simp))
    | _ => exact absurd (show false = true from hs) Bool.false_ne_true
  | int i =>
    obtain ⟨t, rfl⟩ := rx
    cases y with
    | non => cases ry; exact PySem.EqNone.eq_int_none (fin_bl I q (by simp))
    | int j => obtain ⟨t', rfl⟩ := ry; exact eq_int (fin_bl I q dec_int)
    | str j => obtain ⟨t', rfl⟩ := ry; exact PySem.EqMixed.eq_int_str (fin_bl I q (by simp))
    | _ => exact absurd (show false = true from hs) Bool.false_ne_true
  | str i =>
    obtain ⟨t, rfl⟩ := rx
    cases y with
    | non => cases ry; exact PySem.EqNone.eq_str_none (fin_bl I q (by simp))
    | bl j => cases ry; exact PySem.EqMixed.eq_str_bool (fin_bl I q (by simp))
    | int j => obtain ⟨t', rfl⟩ := ry; exact PySem.EqMixed.eq_str_int (fin_bl I q (by simp))
    | str j => obtain ⟨t', rfl⟩ := ry; exact eq_str (fin_bl I q dec_str)
    | _ => exact absurd (show false = true from hs) Bool.false_ne_true
  | byt i =>
    obtain ⟨t, rfl⟩ := rx
    cases y with
    | byt j => obtain ⟨t', rfl⟩ := ry; exact PySem.W.eq_bytes (fin_bl I q dec_byt)
    | _ => exact absurd (show false = true from hs) Bool.false_ne_true
  | _ => cases y <;> exact absurd (show false = true from hs) Bool.false_ne_true
theorem op_ne : OpR X (compareOp .NotEq) rNe := by
  intro pins s σ H x y v u Q I rx ry h
  obtain ⟨hs, q⟩ := h
  cases x with
  | non =>
    cases rx
    cases y with
    | non => cases ry; exact PySem.EqNone.ne_none_none (fin_bl I q (by simp))
    | bl j => cases ry; exact PySem.EqNone.ne_none_bool (fin_bl I q (by simp))
    | int j => obtain ⟨t', rfl⟩ := ry; exact PySem.EqNone.ne_none_int (fin_bl I q (by simp))
    | str j => obtain ⟨t', rfl⟩ := ry; exact PySem.EqNone.ne_none_str (fin_bl I q (by simp))
    | _ => exact absurd (show false = true from hs) Bool.false_ne_true
  | bl i =>
    cases rx
    cases y with
    | non => cases ry; exact PySem.EqNone.ne_bool_none (fin_bl I q (by simp))
    | bl j => cases ry; exact ne_bool (fin_bl I q (congrArg not dec_bl))
    | str j => obtain ⟨t', rfl⟩ := ry; exact PySem.EqMixed.ne_bool_str (fin_bl I q (by simp))
    | _ => exact absurd (show false = true from hs) Bool.false_ne_true
  | int i =>
    obtain ⟨t, rfl⟩ := rx
    cases y with
    | non => cases ry; exact PySem.EqNone.ne_int_none (fin_bl I q (by simp))
    | int j => obtain ⟨t', rfl⟩ := ry; exact ne_int (fin_bl I q (congrArg not dec_int))
    | str j => obtain ⟨t', rfl⟩ := ry; exact PySem.EqMixed.ne_int_str (fin_bl I q (by simp))
    | _ => exact absurd (show false = true from hs) Bool.false_ne_true
  | str i =>
    obtain ⟨t, rfl⟩ := rx
    cases y with
    | non => cases ry; exact PySem.EqNone.ne_str_none (fin_bl I q (by simp))
    | bl j => cases ry; exact PySem.EqMixed.ne_str_bool (fin_bl I q (by simp))
    | int j => obtain ⟨t', rfl⟩ := ry; exact PySem.EqMixed.ne_str_int (fin_bl I q (by simp))
    | str j => obtain ⟨t', rfl⟩ := ry; exact ne_str (fin_bl I q (congrArg not dec_str))
    | _ => exact absurd (show false = true from hs) Bool.false_ne_true
  | byt i =>
    obtain ⟨t, rfl⟩ := rx
    cases y with
    | byt j => obtain ⟨t', rfl⟩ := ry; exact PySem.W.ne_bytes (fin_bl I q (congrArg not dec_byt))
    | _ => exact absurd (show false = true from hs) Bool.false_ne_true
  | _ => cases y <;> exact absurd (show false = true from hs) Bool.false_ne_true

theorem op_lt : OpR X (compareOp .Lt) (rI0 fun i j => .bl (decide (i < j))) := opB0 fun _ _ _ _ _ _ _ q => lt_int q
theorem op_le : OpR X (compareOp .LtE) (rI0 fun i j => .bl (decide (i ≤ j))) := opB0 fun _ _ _ _ _ _ _ q => le_int q
theorem op_gt : OpR X (compareOp .Gt) (rI0 fun i j => .bl (decide (j < i))) := opB0 fun _ _ _ _ _ _ _ q => gt_int q
theorem op_ge : OpR X (compareOp .GtE) (rI0 fun i j => .bl (decide (j ≤ i))) := opB0 fun _ _ _ _ _ _ _ q => ge_int q

/-- is None, is not None: the right side a value none -/
theorem op_isN : OpR X (compareOp .Is) (fun x y H Q => y = .non ∧ Q (.bl (decide (x = .non))) H) := by
  intro pins s σ H x y v u Q I rx ry h
  obtain ⟨rfl, q⟩ := h
  cases ry
  refine is_none_gen (fin_bl I q ?_)
  cases x <;> first
    | (cases rx; rfl)
    | (obtain ⟨t, rfl⟩ := rx; rfl)
theorem op_notN : OpR X (compareOp .IsNot) (fun x y H Q => y = .non ∧ Q (.bl (!decide (x = .non))) H) := by
  intro pins s σ H x y v u Q I rx ry h
  obtain ⟨rfl, q⟩ := h
  cases ry
  refine isnot_none_gen (fin_bl I q ?_)
  cases x <;> first
    | (cases rx; rfl)
    | (obtain ⟨t, rfl⟩ := rx; rfl)



theorem nomark (b : Expr) {op : CmpOp} (h : op ≠ .In := by decide) (h2 : op ≠ .NotIn := by decide) : behindInMarks op b = false := by
  have e1 : (op == CmpOp.In) = false := by cases op <;> first | rfl | exact absurd rfl h
  have e2 : (op == CmpOp.NotIn) = false := by cases op <;> first | rfl | exact absurd rfl h2
  cases b <;> simp [behindInMarks, e1, e2]
/-- a comparison as a value; hm: nomark b, or (for in, not in) by with_unfolding_all rfl -/
theorem pe_cmpR {op : CmpOp} {r : R2} (ho : OpR X (compareOp op) r) (ha : PE X a ta) (hb : PE X b tb) (hm : behindInMarks op b = false) : PE X (.Compare a [op] [b] pos) (tOp r ta tb) := by
  intro pins s σ H Q I h
  exact wpAny_Compare1 (binT ha hb I h fun v u s2 x y H2 I2 rx ry q => ho pins s2 σ H2 x y v u Q I2 rx ry q) hm
/-- a reading of a value as a test -/
def tTest (t : TE) : TT := fun σ H Q => t σ H fun x H' => ∃ k, x = .bl k ∧ Q k H'
theorem pt_cmpR {op : CmpOp} {r : R2} (ho : OpR X (compareOp op) r) (ha : PE X a ta) (hb : PE X b tb) (hm : behindInMarks op b = false) : PT X (.Compare a [op] [b] pos) (tTest (tOp r ta tb)) := by
  intro pins s σ H Q I h
  refine wpAny_isTrue_Compare1 (thn (ha pins s σ H _ I h) fun v s1 ⟨x, H1, I1, r1, q1⟩ => thn (hb pins s1 σ H1 _ I1 q1) fun u s2 ⟨y, H2, I2, r2, q2⟩ =>
    thn (ho pins s2 σ H2 x y v u _ I2 r1 r2 q2) fun c s3 ⟨z, H3, I3, r3, k, e, q3⟩ => ?_) hm
  subst e
  cases r3
  exact wpAny_truthy_bool ⟨H3, I3, q3⟩
/-- a op1 b op2 c -/
def tChain (r r' : R2) (ta tb tc : TE) : TE := fun σ H Q => ta σ H fun x H1 => tb σ H1 fun y H2 => r x y H2 fun z H3 => ∃ k, z = .bl k ∧
  (if k = true then tc σ H3 fun w' H4 => r' y w' H4 Q else Q (.bl false) H3)
theorem pe_chain {op op' : CmpOp} {r r' : R2} (ho : OpR X (compareOp op) r) (ho' : OpR X (compareOp op') r') (ha : PE X a ta) (hb : PE X b tb) (hc : PE X c tc)
    (hm : lastMarks [op, op'] [b, c] = false := by with_unfolding_all rfl) : PE X (.Compare a [op, op'] [b, c] pos) (tChain r r' ta tb tc) := by
  intro pins s σ H Q I h
  refine Compare_chain (thn (ha pins s σ H _ I h) fun v s1 ⟨x, H1, I1, r1, q1⟩ => chain_link (thn (hb pins s1 σ H1 _ I1 q1) fun u s2 ⟨y, H2, I2, r2, q2⟩ =>
    thn (ho pins s2 σ H2 x y v u _ I2 r1 r2 q2) fun d s3 ⟨z, H3, I3, r3, k, e, q3⟩ => ?_)) hm
  subst e
  cases r3
  refine wpAny_truthy_bool ?_
  cases k with
  | false => exact ite_ff ⟨.bl false, H3, I3, rfl, q3⟩
  | true => exact ite_tt (chain_last (thn (hc pins s3 σ H3 _ I3 q3) fun w' s4 ⟨z', H4, I4, r4, q4⟩ => ho' pins s4 σ H4 y z' u w' Q I4 r2 r4 q4))

/-! ### truth -/
/-- a value's truth by the abstract heap -/
def TruV (K : PySem.W.Frag) (x : V) (H : Hp) (k : Bool) : Prop :=
  match x with
  | .non => k = false
  | .bl b => k = b
  | .int i => k = (i != 0)
  | .str y => y.length ≤ sizeLine ∧ k = ((y.length : Int) != 0)
  | .byt y => y.size ≤ sizeLine ∧ k = ((y.size : Int) != 0)
  | .ref p => (∃ xs, SqL K H p xs ∧ k = !xs.isEmpty) ∨ (∃ xs, SqT K H p xs ∧ k = !xs.isEmpty) ∨ ∃ kvs, H p = some (.dK kvs) ∧ k = !kvs.isEmpty
  | _ => False
theorem isEmpty_kv {κ : Type} {kvs : List (κ × V)} {vs : List (κ × Value)} (r : KV kvs vs) : (!vs.isEmpty) = !kvs.isEmpty := by
  cases r <;> rfl
theorem isEmpty_of {xs : List V} {its : List Value} (r : Vals xs its) : (!its.toArray.isEmpty) = !xs.isEmpty := by
  cases r <;> simp
theorem line63 : (sizeLine : Nat) < 2 ^ 63 := by rw [sizeLine_eq]; decide
theorem tru_ok : TruR X (fun x H Q => ∃ k, TruV X.K x H k ∧ Q k H) := by
  intro pins s σ H x v Q I rx h
  obtain ⟨k, e, q⟩ := h
  have hl := line63
  have hs : sizeLine = 16777216 := sizeLine_eq
  cases x with
  | non =>
    cases rx
    have e' : k = false := e
    subst e'
    exact truthy_none ⟨H, I, q⟩
  | bl b =>
    cases rx
    have e' : k = b := e
    subst e'
    exact wpAny_truthy_bool ⟨H, I, q⟩
  | int i =>
    obtain ⟨t, rfl⟩ := rx
    have e' : k = (i != 0) := e
    subst e'
    exact PySem.P.truthy_int ⟨H, I, q⟩
  | str y =>
    obtain ⟨t, rfl⟩ := rx
    obtain ⟨hy, e'⟩ : y.length ≤ sizeLine ∧ k = ((y.length : Int) != 0) := e
    subst e'
    exact PySem.P.truthy_str (by omega) ⟨H, I.tok _, q⟩
  | byt y =>
    obtain ⟨t, rfl⟩ := rx
    obtain ⟨hy, e'⟩ : y.size ≤ sizeLine ∧ k = ((y.size : Int) != 0) := e
    subst e'
    exact PySem.W.truthy_bytes (by omega) ⟨H, I.tok _, q⟩
  | ref p =>
    cases rx
    have e' : (∃ xs, SqL X.K H p xs ∧ k = !xs.isEmpty) ∨ (∃ xs, SqT X.K H p xs ∧ k = !xs.isEmpty) ∨ ∃ kvs, H p = some (.dK kvs) ∧ k = !kvs.isEmpty := e
    rcases e' with ⟨xs, hx, e'⟩ | ⟨xs, hx, e'⟩ | ⟨kvs, hx, e'⟩
    · subst e'
      obtain ⟨its, r, pl, hz⟩ := I.list hx
      have hlen := r.length
      exact wpAny_truthy_list pl.isList (by simp only [List.size_toArray]; omega) ⟨H, I.tok _, by rw [isEmpty_of r]; exact q⟩
    · subst e'
      obtain ⟨its, r, pl, hz⟩ := I.tuple hx
      have hlen := r.length
      exact truthy_tuple pl (by simp only [List.size_toArray]; omega) ⟨H, I.tok _, by rw [isEmpty_of r]; exact q⟩
    · subst e'
      obtain ⟨hz, hS, vs, r, m⟩ : kvs.length ≤ sizeLine ∧ (p == sysModules) = false ∧ ∃ vs, KV kvs vs ∧ s.heap.DictOf (mixKind X.prog X.w) p vs := I.hok p _ hx
      have hlen : kvs.length = vs.length := Paired.length r
      exact wpAny_truthy_dict hS m (by omega) ⟨H, I.tok _, by rw [isEmpty_kv r]; exact q⟩
  | _ => exact (show False from e).elim

/-! ### strs and bytes -/


/-! ### scalar builtins, by CallR -/
theorem vals1 {x : V} {us : List Value} (r : Vals [x] us) : ∃ u, us = [u] ∧ RelV x u := by
  cases r with
  | cons r1 r2 => cases r2; exact ⟨_, rfl, r1⟩
theorem vals2 {x y : V} {us : List Value} (r : Vals [x, y] us) : ∃ u w', us = [u, w'] ∧ RelV x u ∧ RelV y w' := by
  cases r with
  | cons r1 r2 =>
    cases r2 with
    | cons r3 r4 => cases r4; exact ⟨_, _, rfl, r1, r3⟩
theorem call_max2 (hc : X.calm = true) : CallR X (.builtin "max") (fun xs H Q => ∃ i j, xs = [.int i, .int j] ∧ Q (.int (if j > i then j else i)) H) := by
  intro pins s σ H xs us Q I r h
  obtain ⟨i, j, rfl, q⟩ := h
  obtain ⟨u, w', rfl, ⟨t, rfl⟩, ⟨t', rfl⟩⟩ := vals2 r
  refine max_two_ints (I.ok.hd hc) fun h' tk k => ⟨_, H, I.kept k, ?_, q⟩
  by_cases hj : j > i
  · rw [if_pos hj, if_pos hj]; exact ⟨_, rfl⟩
  · rw [if_neg hj, if_neg hj]; exact ⟨_, rfl⟩
theorem call_min2 (hc : X.calm = true) : CallR X (.builtin "min") (fun xs H Q => ∃ i j, xs = [.int i, .int j] ∧ Q (.int (if j < i then j else i)) H) := by
  intro pins s σ H xs us Q I r h
  obtain ⟨i, j, rfl, q⟩ := h
  obtain ⟨u, w', rfl, ⟨t, rfl⟩, ⟨t', rfl⟩⟩ := vals2 r
  refine min_two_ints (I.ok.hd hc) fun h' tk k => ⟨_, H, I.kept k, ?_, q⟩
  by_cases hj : j < i
  · rw [if_pos hj, if_pos hj]; exact ⟨_, rfl⟩
  · rw [if_neg hj, if_neg hj]; exact ⟨_, rfl⟩
/-- len of a str, a bytes, a list, a tuple -/
def LenV (K : PySem.W.Frag) (x : V) (H : Hp) (n : Nat) : Prop :=
  match x with
  | .str y => y.length ≤ sizeLine ∧ n = y.length
  | .byt y => y.size ≤ sizeLine ∧ n = y.size
  | .ref p => (∃ xs, SqL K H p xs ∧ n = xs.length) ∨ ∃ xs, SqT K H p xs ∧ n = xs.length
  | _ => False
theorem call_len : CallR X (.builtin "len") (fun xs H Q => ∃ x n, xs = [x] ∧ LenV X.K x H n ∧ Q (.int n) H) := by
  intro pins s σ H xs us Q I r h
  obtain ⟨x, n, rfl, e, q⟩ := h
  obtain ⟨u, rfl, rx⟩ := vals1 r
  have hl := line63
  have hs : sizeLine = 16777216 := sizeLine_eq
  cases x with
  | str y =>
    obtain ⟨t, rfl⟩ := rx
    obtain ⟨hy, e'⟩ : y.length ≤ sizeLine ∧ n = y.length := e
    subst e'
    exact len_str (by omega) ⟨.int _, H, I.tok _, ⟨_, rfl⟩, q⟩
  | byt y =>
    obtain ⟨t, rfl⟩ := rx
    obtain ⟨hy, e'⟩ : y.size ≤ sizeLine ∧ n = y.size := e
    subst e'
    exact PySem.W.len_bytes (by omega) ⟨.int _, H, I.tok _, ⟨_, rfl⟩, q⟩
  | ref p =>
    cases rx
    have e' : (∃ xs, SqL X.K H p xs ∧ n = xs.length) ∨ ∃ xs, SqT X.K H p xs ∧ n = xs.length := e
    rcases e' with ⟨xs, hx, e'⟩ | ⟨xs, hx, e'⟩
    · subst e'
      obtain ⟨its, r', pl, hz⟩ := I.list hx
      have hlen := r'.length
      exact Calls.call_len_list pl.isList (by simp only [List.size_toArray]; omega) ⟨.int xs.length, H, I.tok _, ⟨_, by simp only [List.size_toArray]; rw [hlen]⟩, q⟩
    · subst e'
      obtain ⟨its, r', pl, hz⟩ := I.tuple hx
      have hlen := r'.length
      exact len_tuple pl (by simp only [List.size_toArray]; omega) ⟨.int xs.length, H, I.tok _, ⟨_, by simp only [List.size_toArray]; rw [hlen]⟩, q⟩
  | _ => exact (show False from e).elim
end
end L2

namespace L2
open PySem PySem.Spec PyProof.Rows

/-! ### an instance, its attributes a map -/
structure ObjM (h : Heap) (x dx C : Addr) (mA : Str → Option Value) : Prop where
  obj : h.get? x = some (PySem.W.instObj C dx)
  ns : h.Ns1 dx mA
  ne : dx ≠ x

theorem lookIn_ns {h : Heap} {dx : Addr} {mA : Str → Option Value} (n : h.Ns1 dx mA) : ∃ od, h.get? dx = some od ∧ ∀ name, PySem.W.lookIn name od = some (mA name) := by
  obtain ⟨o, es, ep, ho, hd, hk, _, hm⟩ := n
  refine ⟨o, ho, fun name => ?_⟩
  have e := hm name
  unfold nsFind findBy at e
  rw [← Array.find?_toList] at e
  unfold PySem.W.lookIn
  rw [hd]
  dsimp only
  split
  · rename_i y q
    rw [q] at e
    exact congrArg some e
  · rename_i q
    rw [q] at e
    have a : es.toList.any (·.refKey) = false := by
      rw [List.any_eq_false]
      intro y hy
      obtain ⟨z, t, hkey⟩ := hk y (Array.mem_toList_iff.mp hy)
      simp [DictEntry.refKey, hkey]
    have a' : ¬ es.toList.any (·.refKey) = true := by rw [a]; exact Bool.false_ne_true
    rw [if_neg a']
    exact congrArg some e

theorem ObjM.look {h : Heap} {x dx C : Addr} {mA : Str → Option Value} (I : ObjM h x dx C mA) : ∃ od, PySem.W.InstAt h x (PySem.W.instObj C dx) C (some od) ∧ ∀ name, PySem.W.lookIn name od = some (mA name) :=
  let ⟨od, ho, hl⟩ := lookIn_ns I.ns
  ⟨od, ⟨I.obj, rfl, rfl, ho⟩, hl⟩

section
variable {prog : Program} {w : World} {A : Around} {E : Value → Shared → Prop} {s : Shared} {K : PySem.W.Frag} {x dx C f : Addr} {mA : Str → Option Value} {name : Str} {v : Value}





end

/-! ### the attributes as a list of pairs -/
def putF (f : Str) (v : V) : List (Str × V) → List (Str × V)
  | [] => [(f, v)]
  | (g, x) :: r => if g = f then (g, v) :: r else (g, x) :: putF f v r
theorem lookup_putF (f g : Str) (v : V) : ∀ fs : List (Str × V), (putF f v fs).lookup g = if g = f then some v else fs.lookup g
  | [] => by
    show List.lookup g [(f, v)] = _
    by_cases h : g = f
    · have hb : (g == f) = true := beq_iff_eq.mpr h
      simp only [List.lookup, hb, if_pos h]
    · have hb : (g == f) = false := beq_eq_false_iff_ne.mpr h
      simp only [List.lookup, hb, if_neg h]
  | (k, x) :: r => by
    have ih := lookup_putF f g v r
    rw [show putF f v ((k, x) :: r) = (if k = f then (k, v) :: r else (k, x) :: putF f v r) from rfl]
    by_cases hk : k = f
    · rw [if_pos hk]
      by_cases h : g = k
      · have hb : (g == k) = true := beq_iff_eq.mpr h
        simp only [List.lookup, hb, if_pos (h.trans hk)]
      · have hb : (g == k) = false := beq_eq_false_iff_ne.mpr h
        simp only [List.lookup, hb, if_neg (fun e : g = f => h (e.trans hk.symm))]
    · rw [if_neg hk]
      by_cases h : g = k
      · have hb : (g == k) = true := beq_iff_eq.mpr h
        simp only [List.lookup, hb, if_neg (fun e : g = f => hk (h.symm.trans e))]
      · have hb : (g == k) = false := beq_eq_false_iff_ne.mpr h
        simp only [List.lookup, hb]
        exact ih
theorem keys_putF (f : Str) (v : V) : ∀ fs : List (Str × V), f ∈ (putF f v fs).map (·.1) ∧ ∀ g, g ∈ fs.map (·.1) → g ∈ (putF f v fs).map (·.1)
  | [] => ⟨by simp [putF], fun g h => by simp at h⟩
  | (k, x) :: r => by
    obtain ⟨i1, i2⟩ := keys_putF f v r
    rw [show putF f v ((k, x) :: r) = (if k = f then (k, v) :: r else (k, x) :: putF f v r) from rfl]
    by_cases hk : k = f
    · rw [if_pos hk]
      subst hk
      exact ⟨by simp, fun g h => by simpa using h⟩
    · rw [if_neg hk]
      refine ⟨?_, fun g h => ?_⟩
      · rw [List.map_cons]
        exact List.mem_cons_of_mem _ i1
      · rw [List.map_cons] at h ⊢
        rcases List.mem_cons.mp h with e | e
        · exact List.mem_cons.mpr (.inl e)
        · exact List.mem_cons_of_mem _ (i2 g e)
theorem length_putF (f : Str) (v : V) : ∀ fs : List (Str × V), (putF f v fs).length ≤ fs.length + 1
  | [] => by simp [putF]
  | (k, x) :: r => by
    have ih := length_putF f v r
    rw [show putF f v ((k, x) :: r) = (if k = f then (k, v) :: r else (k, x) :: putF f v r) from rfl]
    by_cases hk : k = f
    · rw [if_pos hk, List.length_cons, List.length_cons]; omega
    · rw [if_neg hk, List.length_cons, List.length_cons]; omega

theorem RelO.some_of {v : V} {o : Option Value} (r : RelO (some v) o) : ∃ u, o = some u ∧ RelV v u := by
  cases o with
  | none => exact (show False from r).elim
  | some u => exact ⟨u, rfl, r⟩
theorem handed_of {v : V} {u : Value} (r : RelV v u) : PySem.W.handedIn u = true := by
  cases v with
  | non => cases (show u = Value.none from r); rfl
  | bl b => cases (show u = Value.bool b from r); rfl
  | int i => obtain ⟨t, e⟩ := (show ∃ t, u = Value.int i t from r); cases e; rfl
  | str x => obtain ⟨t, e⟩ := (show ∃ t, u = Value.str x t from r); cases e; rfl
  | byt b => obtain ⟨t, e⟩ := (show ∃ t, u = Value.bytes b t from r); cases e; rfl
  | flt b => obtain ⟨t, e⟩ := (show ∃ t, u = Value.float b t from r); cases e; rfl
  | ref a => cases (show u = Value.ref a from r); rfl
  | ty n => cases (show u = Value.type n from r); rfl

section
variable {P : Program} {w : World} {H H' : Hp} {h h' : Heap} {a C dx : Addr} {fs fs' : List (Str × V)}
theorem ins_get (hok : HOk P w H h) (e : H a = some (.ins C dx fs)) : ∃ mA, ObjM h a dx C mA ∧ (∀ f, RelO (fs.lookup f) (mA f)) ∧ PySem.Within mA (fs.map (·.1)) ∧ fs.length ≤ 1000 ∧ H dx = some (.own a) := by
  obtain ⟨d, z, ne, ob, mA, n, r, q⟩ := (show ObjOk P w H h a (.ins C dx fs) from hok a _ e)
  exact ⟨mA, ⟨ob, n, ne⟩, r, q, z, d⟩
end

/-! ### what of the text a class must have -/
structure Cls (K : PySem.W.Frag) (C : Addr) : Prop where
  pg : PySem.W.plainGet K C Str.empty = true
  hd : PySem.W.hasDictIn K C = true
  po : PySem.W.plainOver K C = true
  sa : PySem.W.findIn K (.ref C) "__setattr__" = some (some (.builtin "object.__setattr__"))
theorem Cls.get {K : PySem.W.Frag} {C : Addr} (c : Cls K C) (f : Str) : PySem.W.plainGet K C f = true := c.pg
/-- no class of it has the name -/
def NoAttr (K : PySem.W.Frag) (C : Addr) (f : Str) : Prop := PySem.W.findIn K (.ref C) f = some none

section
variable {X : Cx} {pins : List (Addr × Obj)} {σ : St} {H : Hp} {s : Shared} {a C dx : Addr} {fs : List (Str × V)} {f : Str} {v : V} {A : Around} {E : Value → Shared → Prop}






/-- e.f where nothing but the object is asked: through attributeBase (super) and the last hold -/
theorem attr_of {prog : Program} {w : World} {env : Env} {e : Expr} {f : Str} {pos : Pos} {s : Shared} {Q : Value → Shared → Prop} (hb : attributeBase e f env (eval e env) = eval e env)
    (h : wpAny (model prog w) A (eval e env) (fun o s₁ => wpAny (model prog w) A (getAttr o f true) Q E s₁) E s) : wpAny (model prog w) A (eval (.Attribute e f pos) env) Q E s :=
  Attribute_any_ h (by rw [arm_eval_Attribute, hb])
end

/-! ### readings and rules -/

section
variable {X : Cx} {o e value : Expr} {f : Str} {pos pos' tpos : Pos} {ta tv : TE}

end

/-! ### isinstance -/
section
variable {X : Cx} {pins : List (Addr × Obj)} {σ : St} {H : Hp} {s : Shared} {A : Around} {E : Value → Shared → Prop} {Q : Value → Shared → Prop} {c : Value} {b : Bool}
/-- the type of a value, as the fragment's deciders take it; for an instance its class -/
inductive TyOf (K : PySem.W.Frag) (H : Hp) : V → Value → Prop where
  | non : TyOf K H .non (.type "NoneType")
  | bl (x : Bool) : TyOf K H (.bl x) (.type "bool")
  | int (i : Int) : TyOf K H (.int i) (.type "int")
  | str (x : Str) : TyOf K H (.str x) (.type "str")
  | flt (x : UInt64) : TyOf K H (.flt x) (.type "float")
  | lst {a : Addr} {xs : List V} (e : H a = some (.lst xs)) : TyOf K H (.ref a) (.type "list")
  | frz {a : Addr} {o : Obj} {xs : List V} (e : H a = some (.frz o (.lst xs))) : TyOf K H (.ref a) (.type "list")
  | tup {a : Addr} {xs : List V} (e : H a = some (.tup xs)) : TyOf K H (.ref a) (.type "tuple")
  | dK {a : Addr} {kvs : List (Key × V)} (e : H a = some (.dK kvs)) : TyOf K H (.ref a) (.type "dict")
  | dT {a : Addr} {kvs : List (List Key × V)} (e : H a = some (.dT kvs)) : TyOf K H (.ref a) (.type "dict")
  | ins {a C dx : Addr} {fs : List (Str × V)} (e : H a = some (.ins C dx fs)) (cl : Cls K C) (ha : PySem.W.findIn K (.ref C) "__class__" = some (some (.builtin "object.__class__")))
      (hn : PySem.W.specialIn K (.builtin "object.__class__") "__get__" = some (some (.builtin "getset_descriptor.__get__"))) (htk : PySem.W.takesIn K (.builtin "object.__class__") = some true)
      (hm : PySem.W.mroIn K C (.type "object") = some true) : TyOf K H (.ref a) (.ref C)
/-- isinstance(x, c) for one class c, a built-in or an own one: kitOne's answer -/
theorem isinst_ok {x : V} {u t : Value} (I : Inv X pins σ H s) (rx : RelV x u) (ty : TyOf X.K H x t) (e : PySem.W.kitOne X.K t c = some b) (h : ∀ tk, Q (.bool b) { s with toks := tk }) :
    wpAny (model X.prog X.w) A (call (.builtin "isinstance") [u, c]) Q E s := by
  cases ty with
  | non => cases (show u = Value.none from rx); exact PySem.W.kia_one PySem.W.kitx_none I.kIn True.intro e (fun z => nomatch z) h
  | bl y => cases (show u = Value.bool y from rx); exact PySem.W.kia_one PySem.W.kitx_bool I.kIn True.intro e (fun z => nomatch z) h
  | int i => obtain ⟨t, q⟩ := (show ∃ t, u = Value.int i t from rx); cases q; exact PySem.W.kia_one PySem.W.kitx_int I.kIn True.intro e (fun z => nomatch z) h
  | str y => obtain ⟨t, q⟩ := (show ∃ t, u = Value.str y t from rx); cases q; exact PySem.W.kia_one PySem.W.kitx_str I.kIn True.intro e (fun z => nomatch z) h
  | flt y => obtain ⟨t, q⟩ := (show ∃ t, u = Value.float y t from rx); cases q; exact PySem.W.kia_one PySem.W.kitx_float I.kIn True.intro e (fun z => nomatch z) h
  | @lst a xs ea =>
    cases (show u = Value.ref a from rx)
    obtain ⟨_, _, n, _, h1⟩ := (show ObjOk X.prog X.w H s.heap a (.lst xs) from I.hok a _ ea)
    exact PySem.W.kia_one PySem.W.kitx_list I.kIn ⟨_, h1, rfl⟩ e (fun z => nomatch z) h
  | @frz a ob xs ea =>
    cases (show u = Value.ref a from rx)
    obtain ⟨_, _, _, n, _, h1⟩ := (show ObjOk X.prog X.w H s.heap a (.frz ob (.lst xs)) from I.hok a _ ea)
    exact PySem.W.kia_one PySem.W.kitx_list I.kIn ⟨_, h1, rfl⟩ e (fun z => nomatch z) h
  | @tup a xs ea =>
    cases (show u = Value.ref a from rx)
    obtain ⟨_, _, _, p⟩ := (show ObjOk X.prog X.w H s.heap a (.tup xs) from I.hok a _ ea)
    obtain ⟨o, h1, h2, _⟩ := p
    exact PySem.W.kia_one PySem.W.kitx_tuple I.kIn ⟨o, h1, h2⟩ e (fun z => nomatch z) h
  | @dK a kvs ea =>
    cases (show u = Value.ref a from rx)
    obtain ⟨_, _, vs, _, p⟩ := (show ObjOk X.prog X.w H s.heap a (.dK kvs) from I.hok a _ ea)
    obtain ⟨o, es, ep, h1, h2, _⟩ := p
    exact PySem.W.kia_one PySem.W.kitx_dict I.kIn ⟨o, h1, h2.1⟩ e (fun z => nomatch z) h
  | @dT a kvs ea =>
    cases (show u = Value.ref a from rx)
    obtain ⟨_, _, xs, _, o, es, ep, h1, h2, _⟩ := (show ObjOk X.prog X.w H s.heap a (.dT kvs) from I.hok a _ ea)
    exact PySem.W.kia_one PySem.W.kitx_dict I.kIn ⟨o, h1, h2.1⟩ e (fun z => nomatch z) h
  | @ins a C dx fs ea cl ha hn htk hm =>
    cases (show u = Value.ref a from rx)
    obtain ⟨mA, O, _⟩ := ins_get I.hok ea
    obtain ⟨od, J, _⟩ := O.look
    exact PySem.W.kia_one (PySem.W.kitx_own (cl.get _) cl.hd ha hn htk hm) I.kIn J e (fun z => nomatch z) h
end
end L2

namespace L2
open PySem PySem.Spec PyProof.Rows

/-! ### room -/
structure Room (k : Nat) (A : Around) : Prop where
  hd : A.handled = none
  dp : A.depth + 3 * k + 5 < recursionLimit
  un : A.units + 16 * k + 200 < cLine
theorem Room.mono {j k : Nat} {A : Around} (r : Room k A) (h : j ≤ k) : Room j A := ⟨r.hd, by have := r.dp; omega, by have := r.un; omega⟩
theorem Room.deeper {k : Nat} {A : Around} (r : Room (k + 1) A) (env : Env) : Room k (A.deeper env) :=
  ⟨r.hd, by have := r.dp; show A.depth + 1 + 3 * k + 5 < _; omega, by have := r.un; show A.units + 3 + 16 * k + 200 < _; omega⟩
theorem make_depth {A : Around} {C : Addr} {us : List Value} {kw : List (Str × Value)} : (A.under (.builtin "type.__call__" ⟨.ref C :: us, kw⟩)).depth = A.depth + 1 := by
  first | rfl | simp [Around.under, Code.weight, Code.isCreation, Code.isGuard, Code.isCaller, Code.frames, Code.isFrame, guardIds]
theorem make_units {A : Around} {C : Addr} {us : List Value} {kw : List (Str × Value)} : (A.under (.builtin "type.__call__" ⟨.ref C :: us, kw⟩)).units = A.units + 1 := by
  first | rfl | simp [Around.under, Code.cUnits, Code.frames, Code.isFrame]
theorem Room.make {k : Nat} {A : Around} (r : Room (k + 1) A) (C : Addr) (us : List Value) (kw : List (Str × Value)) : Room k (A.under (.builtin "type.__call__" ⟨.ref C :: us, kw⟩)) :=
  ⟨r.hd, by have := r.dp; rw [make_depth]; omega, by have := r.un; rw [make_units]; omega⟩
theorem Room.depth {k : Nat} {A : Around} (r : Room k A) : A.depth < recursionLimit := by have := r.dp; omega
theorem Room.units {k : Nat} {A : Around} (r : Room k A) : A.units + 64 < cLine := by have := r.un; omega

/-! ### argument lists and displays -/
def tNil : TA := fun _ H Q => Q [] H
def tCons (ta : TE) (tr : TA) : TA := fun σ H Q => ta σ H fun x H1 => tr σ H1 fun xs H2 => Q (x :: xs) H2
section
variable {X : Cx} {e : Expr} {es : List Expr} {te : TE} {t : TA} {pos : Pos}
theorem pa_nil : PA X [] tNil := fun _ _ _ _ H Q I h => Calls.spliced_nil ⟨[], H, I, .nil, h⟩
theorem pa_cons (ha : PE X e te) (hr : PA X es t) (hs : starEach (e :: es) X.env = (false, eval e X.env) :: starEach es X.env := by rfl) : PA X (e :: es) (tCons te t) := by
  intro pos pins s σ H Q I h
  rw [hs]
  show wpAny _ _ (spliced ((false, eval e X.env) :: backTo pos (starEach es X.env))) _ _ s
  refine Calls.spliced_cons (thn (ha pins s σ H _ I h) fun u s1 ⟨x, H1, I1, r1, q1⟩ => ?_)
  exact thn (hr pos pins s1 σ H1 _ I1 q1) fun us s2 ⟨xs, H2, I2, r2, q2⟩ => ⟨x :: xs, H2, I2, .cons r1 r2, q2⟩

/-- a tuple, a list of written items -/
def tTup (t : TA) : TE := fun σ H Q => t σ H fun xs H1 => xs.length ≤ sizeLine ∧ ∀ p, H1 p = none → Q (.ref p) (upd H1 p (.tup xs))
def tLst (t : TA) : TE := fun σ H Q => t σ H fun xs H1 => xs.length ≤ sizeLine ∧ ∀ p, H1 p = none → Q (.ref p) (upd H1 p (.lst xs))
theorem pe_tup {x1} (h : PA X es t) : PE X (.Tuple es x1 pos) (tTup t) := by
  intro pins s σ H Q I hq
  refine wpAny_Tuple_spliced (thn (h pos pins s σ H _ I hq) fun us s1 ⟨xs, H1, I1, r, z, q⟩ => ⟨by rw [← r.length]; exact z, ?_⟩)
  have hf : H1 s1.heap.objs.size = none := I1.hok.fresh (Nat.le_refl _)
  refine ⟨.ref s1.heap.objs.size, upd H1 s1.heap.objs.size (.tup xs), I1.laid (t' := s1.toks) (fun b u e => Heap.get?_push_of_some _ e) (Nat.le_refl _) ?_, rfl, q _ hf⟩
  exact ⟨z, us, r, ⟨_, Heap.get?_push_size _ rfl, rfl, _, rfl⟩⟩
theorem pe_lst (h : PA X es t) : PE X (.List es pos) (tLst t) := by
  intro pins s σ H Q I hq
  refine wpAny_List_spliced (thn (h pos pins s σ H _ I hq) fun us s1 ⟨xs, H1, I1, r, z, q⟩ => ⟨by rw [← r.length]; exact z, ?_⟩)
  have hf : H1 s1.heap.objs.size = none := I1.hok.fresh (Nat.le_refl _)
  refine ⟨.ref s1.heap.objs.size, upd H1 s1.heap.objs.size (.lst xs), I1.laid (t' := s1.toks) (fun b u e => Heap.get?_push_of_some _ e) (Nat.le_refl _) ?_, rfl, q _ hf⟩
  exact ⟨z, us, 0, r, Heap.get?_push_size _ rfl⟩
end

/-! ### what a def promises -/
/-- a def's promise: the bound arguments in the parameters' order, the heap, the wanted end, the wanted exception -/
abbrev Sp := List V → Hp → VK → XK → Prop
/-- how an exception lies behind a call (file 08 gives it): the callers' frames, abstract heap and state ahead of the call, the wish, the exception, the state -/
abbrev CXT := List Env → Hp → Shared → XK → Value → Shared → Prop

/-- the state at a call -/
structure Env0 (P : Program) (w : World) (K : PySem.W.Frag) (mg : Str → Option Value) (base : Heap) (A : Around) (outer : List Env) (s : Shared) (H : Hp) : Prop where
  frames : A.frames = some outer
  mod : Mod K mg base
  bs : ∀ b o, base.get? b = some o → s.heap.get? b = some o ∧ H b = none
  bsz : base.objs.size ≤ s.heap.objs.size
  funs : s.heap.FunFrames base outer
  frf : ∀ b ∈ frs outer, H b = none
  hok : HOk P w H s.heap
  bare : AllBare s.gens
/-- a call's end -/
def CE (outer : List Env) (P : Program) (w : World) (H : Hp) (s : Shared) (Q : VK) (u : Value) (s' : Shared) : Prop :=
  ∃ v H', s'.os = s.os ∧ AllBare s'.gens ∧ Un (frs outer) [] H H' s.heap s'.heap ∧ HOk P w H' s'.heap ∧ RelV v u ∧ Q v H'
def CR (CX : CXT) (outer : List Env) (P : Program) (w : World) (H : Hp) (s : Shared) (Q : VK) (E : XK) (r : Result) (s' : Shared) : Prop :=
  match r with
  | .ok (.ret u) => CE outer P w H s Q u s'
  | .ok _ => False
  | .error e => CX outer H s E e s'
structure FnOk (P : Program) (w : World) (K : PySem.W.Frag) (mg : Str → Option Value) (base : Heap) (CX : CXT) (k : Nat) (f : Addr) (fd : FuncData) (ps : List Str) (sp : Sp) : Prop where
  len : ∀ vs H Q E, sp vs H Q E → vs.length = ps.length
  run : ∀ (A : Around) (outer : List Env) (s : Shared) (H : Hp) (args : Args) (us : List Value) (vs : List V) (Q : VK) (E : XK), Room k A → Env0 P w K mg base A outer s H → BindsTo s fd args (ps.zip us) → Vals vs us → sp vs H Q E →
    codeAny (model P w) A (.call (.ref f) args) (CR CX outer P w H s Q E) s

theorem Env0.make {P : Program} {w : World} {K : PySem.W.Frag} {mg : Str → Option Value} {base : Heap} {A : Around} {outer : List Env} {s : Shared} {H : Hp} (e : Env0 P w K mg base A outer s H) (C : Addr) (us : List Value) (kw : List (Str × Value)) :
    Env0 P w K mg base (A.under (.builtin "type.__call__" ⟨.ref C :: us, kw⟩)) outer s H := ⟨by first | exact e.frames | (simpa [Around.under, Code.envs, Code.isFrame, pushEnvs] using e.frames), e.mod, e.bs, e.bsz, e.funs, e.frf, e.hok, e.bare⟩

section
variable {X : Cx} {pins : List (Addr × Obj)} {σ : St} {H : Hp} {s s' : Shared}
/-- from a body: what a callee wants -/
theorem Inv.env0 (I : Inv X pins σ H s) : Env0 X.prog X.w X.K X.mg X.base X.A X.stack s H :=
  ⟨I.ok.frames, I.ok.mod, I.bs, Nat.le_trans I.ok.bsz I.sz, I.stack, I.stkFree, I.hok, I.bare⟩
/-- behind a call -/
theorem Inv.after {Q : VK} {u : Value} (I : Inv X pins σ H s) (h : CE X.stack X.prog X.w H s Q u s') : EP X pins σ Q u s' := by
  obtain ⟨v, H', os, bare, un, hok, r, q⟩ := h
  obtain ⟨hh, g, d, t, os'⟩ := s'
  obtain rfl : os' = s.os := os
  exact ⟨v, H', I.call (h' := hh) (g' := g) (d' := d) (t' := t) (ch := []) un hok bare (fun b z => absurd z (by simp)), r, q⟩
end

/-! ### calls -/
/-- f(..): the written arguments, then the defaults dvs; E: what is wanted of an exception -/
def tCall (sp : Sp) (dvs : List V) (E : XK) (t : TA) : TE := fun σ H Q => t σ H fun vs H1 => sp (vs ++ dvs) H1 Q E

/-- how the parameters are bound: us the positional arguments, kw the keywords' values by name, ds the defaults that fill up -/
def Binds (K : PySem.W.Frag) (fd : FuncData) (ps : List Str) (ds : List Value) : Prop :=
  ∀ (s : Shared) (us : List Value), K.In s.heap → (us ++ ds).length = ps.length → BindsTo s fd ⟨us, []⟩ (ps.zip (us ++ ds))
/-- every parameter is given -/
theorem Binds.all {K : PySem.W.Frag} {fd : FuncData} {ps : List Str} (h : ∀ us : List Value, us.length = ps.length → bindArgs fd ⟨us, []⟩ = pure (ps.zip us)) : Binds K fd ps [] := fun s us _ hl => by
  rw [List.append_nil] at hl ⊢
  exact .of_eq (h us hl)

/-- an exception of a callee reaches what this body wants of exceptions -/
def Passes (CX : CXT) (X : Cx) (E : XK) : Prop := ∀ (pins : List (Addr × Obj)) (σ : St) (H : Hp) (s : Shared) (e : Value) (s' : Shared), Inv X pins σ H s → CX X.stack H s E e s' → X.xe e s'

section
variable {X : Cx} {CX : CXT} {k : Nat} {f C : Addr} {fd : FuncData} {ps : List Str} {sp : Sp} {dvs : List V} {ds : List Value} {E : XK} {x m : Str} {p pos apos : Pos} {e o : Expr} {es : List Expr} {ta : TE} {t : TA}

/-- the callee runs -/
theorem run_fn {pins : List (Addr × Obj)} {σ : St} {H : Hp} {s : Shared} {Q : VK} {us : List Value} {vs : List V} (F : FnOk X.prog X.w X.K X.mg X.base CX k f fd ps sp) (hr : Room k X.A) (hb : Binds X.K fd ps ds) (hd : Vals dvs ds) (hx : Passes CX X E)
    (I : Inv X pins σ H s) (r : Vals vs us) (h : sp (vs ++ dvs) H Q E) : wpAny (model X.prog X.w) X.A (call (.ref f) us) (EP X pins σ Q) X.xe s := by
  have r2 : Vals (vs ++ dvs) (us ++ ds) := r.append hd
  have hl : (us ++ ds).length = ps.length := by rw [← r2.length]; exact F.len _ _ _ _ h
  refine wpAny_call (codeAny_mono (F.run X.A X.stack s H ⟨us, []⟩ (us ++ ds) (vs ++ dvs) Q E hr I.env0 (hb s us I.kIn hl) r2 h) fun r s' hq => ?_)
  cases r with
  | error e => exact hx pins σ H s e s' I hq
  | ok fl =>
    cases fl with
    | ret u => exact I.after hq
    | next => exact False.elim hq
    | brk => exact False.elim hq
    | cont => exact False.elim hq

theorem pe_call (F : FnOk X.prog X.w X.K X.mg X.base CX k f fd ps sp) (hr : Room k X.A) (hg : Gl X x) (hm : X.mg x = some (.ref f)) (hk : PySem.W.keepIn X.K (.ref f) = true) (hb : Binds X.K fd ps ds) (hd : Vals dvs ds) (hx : Passes CX X E)
    (ha : PA X (e :: es) t) (hdb : (x == ("__debug__" : Str)) = false := by decide) (he : starEach (e :: es) X.env = (false, eval e X.env) :: starEach es X.env := by rfl) (hpl : (backTo pos (starEach es X.env)).any (·.1) = false := by rfl) :
    PE X (.Call (.Name x p) (e :: es) [] pos) (tCall sp dvs E t) := by
  intro pins s σ H Q I h
  refine wpAny_Call_Name_kw (ld_glob I hg hm ?_ hdb)
  refine PySem.W.callWith_K (h₀ := X.base) I.ok.mod.kin hk (thn (ha pos pins s σ H _ I h) fun us s1 ⟨vs, H1, I1, r, q⟩ => ⟨I1.kIn, ?_⟩) he hpl
  exact run_fn F hr hb hd hx I1 r q



end

/-! ### keywords -/
section
variable {X : Cx} {CX : CXT} {k : Nat} {f C : Addr} {fd : FuncData} {ps ks : List Str} {sp : Sp} {E : XK} {x m : Str} {p pos apos kpos : Pos} {e o : Expr} {es : List Expr} {kws : List Keyword} {te ta : TE} {t tk : TA} {nm : Option Str}

variable {g : List Value → List Value → List Value} {gV : List V → List V → List V}
end

/-! ### a def's body keeps its promise -/
/-- names: the parameters first -/
structure FnScope (N P : List Str) (sc : Scope) : Prop where
  kind : sc.kind = .function
  co : sc.isCoroutine = false
  gen : sc.isGenerator = false
  nd : N.Nodup
  pre : N.take P.length = P
  par : ∀ x ∈ P, sc.names.lookup x = some .local ∨ sc.names.lookup x = some .cell
  nofree : ∀ y ∈ sc.names, y.2 ≠ .free

theorem bindL_out {kindOf : Str → Option NameKind} {x : Str} : ∀ {binds : List (Str × Value)} {m : Str → Option Value}, (∀ v, (x, v) ∉ binds) → bindL kindOf binds m x = m x
  | [], _, _ => rfl
  | (n, v) :: r, m, h => by
    unfold bindL
    rw [bindL_out fun w hw => h w (List.mem_cons_of_mem _ hw)]
    split
    · have : x ≠ n := by rintro rfl; exact h v List.mem_cons_self
      simp [this]
    · rfl
theorem bindC_out {kindOf : Str → Option NameKind} {x : Str} : ∀ {binds : List (Str × Value)} {m : Str → Option Value}, (∀ v, (x, v) ∉ binds) → bindC kindOf binds m x = m x
  | [], _, _ => rfl
  | (n, v) :: r, m, h => by
    unfold bindC
    rw [bindC_out fun w hw => h w (List.mem_cons_of_mem _ hw)]
    split
    · rfl
    · have : x ≠ n := by rintro rfl; exact h v List.mem_cons_self
      simp [this]
theorem bindL_get {kindOf : Str → Option NameKind} {x : Str} {v : Value} : ∀ {P : List Str} {vs : List Value} {i : Nat} {m : Str → Option Value}, P.Nodup → P[i]? = some x → vs[i]? = some v → kindOf x = some .local →
    bindL kindOf (P.zip vs) m x = some v
  | [], _, _, _, _, h, _, _ => by simp at h
  | _ :: _, [], _, _, _, _, h, _ => by simp at h
  | p :: P, w :: vs, 0, m, nd, h1, h2, hk => by
    simp at h1 h2; subst h1; subst h2
    show bindL kindOf ((p, w) :: P.zip vs) m p = _
    unfold bindL
    rw [bindL_out fun v hv => (List.nodup_cons.mp nd).1 (List.of_mem_zip hv).1, if_pos hk]
    simp
  | p :: P, w :: vs, i + 1, m, nd, h1, h2, hk => by
    show bindL kindOf ((p, w) :: P.zip vs) m x = _
    unfold bindL
    exact bindL_get (i := i) (List.nodup_cons.mp nd).2 (by simpa using h1) (by simpa using h2) hk
theorem bindC_get {kindOf : Str → Option NameKind} {x : Str} {v : Value} : ∀ {P : List Str} {vs : List Value} {i : Nat} {m : Str → Option Value}, P.Nodup → P[i]? = some x → vs[i]? = some v → kindOf x ≠ some .local →
    bindC kindOf (P.zip vs) m x = some v
  | [], _, _, _, _, h, _, _ => by simp at h
  | _ :: _, [], _, _, _, _, h, _ => by simp at h
  | p :: P, w :: vs, 0, m, nd, h1, h2, hk => by
    simp at h1 h2; subst h1; subst h2
    show bindC kindOf ((p, w) :: P.zip vs) m p = _
    unfold bindC
    rw [bindC_out fun v hv => (List.nodup_cons.mp nd).1 (List.of_mem_zip hv).1, if_neg hk]
    simp
  | p :: P, w :: vs, i + 1, m, nd, h1, h2, hk => by
    show bindC kindOf ((p, w) :: P.zip vs) m x = _
    unfold bindC
    exact bindC_get (i := i) (List.nodup_cons.mp nd).2 (by simpa using h1) (by simpa using h2) hk

/-- the names' values at the entry -/
def start (N : List Str) (vs : List V) : St := vs.map some ++ List.replicate (N.length - vs.length) none

/-- the context of a def's body, at its entry; an exception leaves the frame, then lies as CX says -/
def cxOf (CX : CXT) (P : Program) (w : World) (K : PySem.W.Frag) (mg : Str → Option Value) (base : Heap) (N : List Str) (qual : Str) (scope : Scope) (f : Addr) (cd : Value) (A : Around) (outer : List Env) (s : Shared) (H : Hp) (E : XK) : Cx where
  prog := P
  w := w
  K := K
  mg := mg
  base := base
  A := A.deeper (envOfC qual scope s.heap.objs.size f cd)
  N := N
  s₀ := s
  H₀ := H
  env := envOfC qual scope s.heap.objs.size f cd
  outer := outer
  stack := envOfC qual scope s.heap.objs.size f cd :: outer
  ex := []
  calm := true
  fn := fun _ => true
  pn := []
  xe := fun e s' => wpAny (model P w) (A.deeper (envOfC qual scope s.heap.objs.size f cd)) (leaving (envOfC qual scope s.heap.objs.size f cd) e) (fun _ s'' => CX outer H s E e s'') (fun e' s'' => CX outer H s E e' s'') s'

theorem cell_has {sc : Scope} {n : Nat} {x : Str} (h : sc.names.lookup x = some .cell) : ∃ c, (cellsFrom n sc.names []).lookup x = some c := by
  have q := PySem.W.cellsFrom_some sc.names n [] (.inl h)
  exact Option.isSome_iff_exists.mp q

theorem inv_start {CX : CXT} {P : Program} {w : World} {K : PySem.W.Frag} {mg : Str → Option Value} {base : Heap} {N ps : List Str} {qual : Str} {scope : Scope} {f : Addr} {cd : Value} {A : Around} {outer : List Env} {s s1 : Shared} {H : Hp} {E : XK} {us : List Value} {vs : List V}
    (S : FnScope N ps scope) (hd : A.handled = none) (e0 : Env0 P w K mg base A outer s H) (hl : vs.length = ps.length) (r : Vals vs us)
    (x : InCallC s s.heap.objs.size (bindL (envOfC qual scope s.heap.objs.size f cd).kindOf (ps.zip us) fun _ => none) (cellsFrom (s.heap.objs.size + 1) scope.names []) (bindC (envOfC qual scope s.heap.objs.size f cd).kindOf (ps.zip us) fun _ => none) s1) :
    Inv (cxOf CX P w K mg base N qual scope f cd A outer s H E) [] (start N vs) H s1 := by
  have hpl : ps.length ≤ N.length := by have := congrArg List.length S.pre; rw [List.length_take] at this; omega
  obtain ⟨h1, tk, rfl, hk⟩ := x.done
  have noA : ∀ b : Addr, b ∉ (cxOf CX P w K mg base N qual scope f cd A outer s H E).ex := fun b z => absurd (show b ∈ ([] : List Addr) from z) (by simp)
  refine ⟨⟨e0.mod, S.kind, rfl, rfl, Nat.le_refl _, fun y z c h1 h2 => ?_, fun y hy => ?_, fun y c _ h => ?_, fun _ => hd, Around.frames_deeper e0.frames, .inr ⟨rfl, rfl⟩, fun b z => absurd z (noA b), e0.bs, e0.bsz, fun b _ _ => noA b, fun b z => absurd z (noA b), e0.funs, e0.frf⟩,
    rfl, e0.bare, Un.kept hk, ⟨_, x.toInCall.ns, fun i y v h1 h2 h3 => ?_⟩, fun y c h => ⟨_, x.cell y c h⟩, e0.hok.fresh (Nat.le_refl _), fun y c h => ?_, fun p hp => absurd (show p ∈ ([] : List (Addr × Obj)) from hp) (by simp), e0.hok.kept hk, ?_⟩
  · exact name_of_addr x.apart (PySem.mem_of_lookup h1) (PySem.mem_of_lookup h2)
  · have hy : scope.names.lookup y = some .cell ∨ scope.names.lookup y = some .free := hy
    rcases hy with hy | hy
    · exact cell_has hy
    · exact absurd rfl (S.nofree _ (PySem.mem_of_lookup hy))
  · exact Nat.le_of_lt (x.above y c (PySem.mem_of_lookup h))
  · have hi : i < vs.length := by
      unfold start at h2
      by_cases hi : i < vs.length
      · exact hi
      · rw [List.getElem?_append_right (by simpa using hi)] at h2
        rw [List.getElem?_replicate] at h2
        split at h2 <;> cases h2
    have ha : vs[i]? = some v := by
      unfold start at h2
      rw [List.getElem?_append_left (by simpa using hi), List.getElem?_map] at h2
      cases e : vs[i]? with
      | none => rw [e] at h2; cases h2
      | some a => rw [e] at h2; cases h2; rfl
    obtain ⟨u, hu, rv⟩ := r.get ha
    have hp : ps[i]? = some y := by
      rw [← S.pre, List.getElem?_take_of_lt (by omega)]; exact h1
    have ndP : ps.Nodup := by rw [← S.pre]; exact S.nd.sublist (List.take_sublist _ _)
    refine ⟨u, rv, ?_⟩
    rcases S.par y (List.mem_of_getElem? hp) with k | k
    · exact .inl ⟨k, bindL_get ndP hp hu k⟩
    · obtain ⟨c, e⟩ := cell_has (n := s.heap.objs.size + 1) k
      refine .inr ⟨.inl k, c, e, ?_⟩
      have q := x.cell y c e
      rw [bindC_get ndP hp hu (by show scope.names.lookup y ≠ _; rw [k]; decide)] at q
      exact q
  · exact e0.hok.fresh (Nat.le_of_lt (x.above y c (PySem.mem_of_lookup h)))
  · unfold start
    show _ = N.length
    rw [List.length_append, List.length_map, List.length_replicate]
    omega

/-- THE RULE: a def (or a method) of the text, by its body. The body's reading t is chosen for each entry; it is run at the parameters' values -/
theorem fn_of {CX : CXT} {P : Program} {w : World} {K : PySem.W.Frag} {mg : Str → Option Value} {base : Heap} {k : Nat} {f : Addr} {name qual : Str} {params : Arguments} {body : List Stmt} {scope : Scope} {dV kV doc pm cdv ct oc : Value} {an od : Option Addr}
    {osl : Array (Option Value)} {N ps : List Str} {sp : Sp} (lk : K.lookup f = some ⟨oc, od, .func (PySem.W.fnOf name qual params body scope dV kV doc pm an cdv ct), osl⟩) (hcd : PySem.W.codeIn K cdv qual = true) (S : FnScope N ps scope)
    (len : ∀ vs H Q E, sp vs H Q E → vs.length = ps.length)
    (hbody : ∀ (A : Around) (outer : List Env) (s : Shared) (H : Hp) (vs : List V) (Q : VK) (E : XK), Room k (A.deeper (envOfC qual scope s.heap.objs.size f cdv)) → sp vs H Q E →
      ∃ t, PSs (cxOf CX P w K mg base N qual scope f cdv A outer s H E) body t ∧ t { nx := fun _ H' => Q .non H', rt := Q } (start N vs) H) :
    FnOk P w K mg base CX (k + 1) f (PySem.W.fnOf name qual params body scope dV kV doc pm an cdv ct) ps sp := by
  refine ⟨len, fun A outer s H args us vs Q E hr e0 hb r hsp => ?_⟩
  have hl := len _ _ _ _ hsp
  have KX : K.In s.heap := e0.mod.kin.keeps fun b o e => (e0.bs b o e).1
  have lim : s.heap.NoLimit := e0.mod.nolimit.keeps fun b o e => (e0.bs b o e).1
  have hkind : ∀ y ∈ ps.zip us, scope.names.lookup y.1 = some .local ∨ (scope.names.lookup y.1 = some .cell ∧ ((cellsFrom (s.heap.objs.size + 1) scope.names []).lookup y.1).isSome = true) := fun ⟨n, v⟩ hy => by
    rcases S.par n (List.of_mem_zip hy).1 with q | q
    · exact .inl q
    · exact .inr ⟨q, PySem.W.cellsFrom_some _ _ _ (.inl q)⟩
  refine codeAny_call_function hr.depth (KX _ _ lk) rfl S.co S.gen rfl (PySem.W.codeRec_of KX hcd) (hb _ _ _ _ ?_)
  refine wpAny_newFunctionEnv_cells S.kind hkind fun env he s1 x => ?_
  subst he
  refine ⟨lim.keeps x.toInCall.keep, codeAny_func ?_⟩
  obtain ⟨t, ht, hq⟩ := hbody A outer s H vs Q E (hr.deeper _) hsp
  have I : Inv (cxOf CX P w K mg base N qual scope f cdv A outer s H E) [] (start N vs) H s1 := inv_start S hr.hd e0 hl r x
  refine wpAny_mono (ht [] s1 (start N vs) H _ I hq) (fun fl s' hs => ?_) fun e s' hs => hs
  have fin : ∀ {σ' : St} {H' : Hp} {v : V} {u : Value}, Inv (cxOf CX P w K mg base N qual scope f cdv A outer s H E) [] σ' H' s' → RelV v u → Q v H' → CE outer P w H s Q u s' :=
    fun {σ' H' v u} J rv q => ⟨v, H', J.os, J.bare, J.base, J.hok, rv, q⟩
  cases fl with
  | ret u =>
    obtain ⟨v, σ', H', J, rv, q⟩ := hs
    exact fin J rv q
  | next =>
    obtain ⟨σ', H', J, q⟩ := hs
    exact fin (v := V.non) (u := Value.none) J rfl q
  | brk =>
    obtain ⟨_, _, _, q⟩ := hs
    exact False.elim q
  | cont =>
    obtain ⟨_, _, _, q⟩ := hs
    exact False.elim q
end L2

namespace L2
open PySem PySem.Spec PyProof.Rows
section
variable {X : Cx} {x : Str} {p pos : Pos} {e : Expr} {es : List Expr} {t : TA} {id T : String} {r : List V → Hp → VK → Prop}

def tCB (r : List V → Hp → VK → Prop) (t : TA) : TE := fun σ H Q => t σ H fun vs H1 => r vs H1 Q
/-- f(e, ..), f a built-in function -/
theorem pe_callB (hc : CallR X (.builtin id) r) (hg : Gl X x) (hm : X.mg x = none) (hv : bootBuiltins x = some (.builtin id)) (ha : PA X (e :: es) t) (hn : x ≠ "__name__" := by decide) (hdb : (x == ("__debug__" : Str)) = false := by decide)
    (he : starEach (e :: es) X.env = (false, eval e X.env) :: starEach es X.env := by rfl) (hpl : (backTo pos (starEach es X.env)).any (·.1) = false := by rfl) : PE X (.Call (.Name x p) (e :: es) [] pos) (tCB r t) := by
  intro pins s σ H Q I h
  refine wpAny_Call_Name_kw (ld_blt I hg hm hv ?_ hn hdb)
  exact PyProof.Rows.callWith_builtin1 (thn (ha pos pins s σ H _ I h) fun us s1 ⟨vs, H1, I1, r1, q1⟩ => hc pins s1 σ H1 vs us Q I1 r1 q1) he hpl
/-- T(e, ..), T a built-in type -/
theorem pe_callTy (hc : CallR X (.type T) r) (hg : Gl X x) (hm : X.mg x = none) (hv : bootBuiltins x = some (.type T)) (ha : PA X (e :: es) t) (hn : x ≠ "__name__" := by decide) (hdb : (x == ("__debug__" : Str)) = false := by decide)
    (he : starEach (e :: es) X.env = (false, eval e X.env) :: starEach es X.env := by rfl) (hpl : (backTo pos (starEach es X.env)).any (·.1) = false := by rfl) : PE X (.Call (.Name x p) (e :: es) [] pos) (tCB r t) := by
  intro pins s σ H Q I h
  refine wpAny_Call_Name_kw (ld_blt I hg hm hv ?_ hn hdb)
  exact PyProof.Rows.callWith_type1 (thn (ha pos pins s σ H _ I h) fun us s1 ⟨vs, H1, I1, r1, q1⟩ => hc pins s1 σ H1 vs us Q I1 r1 q1) he hpl
end
end L2

namespace HT
open PySem PyProof.Rows



section
open PySem.SeqAt
open PySem.AutoSeq1 (wpAny_loadPart')
open PySem.MeetsSeq PySem.MeetsSeq2 PySem.MeetsSeq3

end

section
variable {prog : Program} {w : World} {A : Around} {E : Value → Shared → Prop} {s : Shared}


/-- t + u, t not empty -/
theorem cat_tup {t b : Addr} {vs ws : List Value} {Q : Value → Shared → Prop} (ht : IsTup s.heap t vs.toArray) (hb : IsTup s.heap b ws.toArray) (hv : vs ≠ [])
    (h1 : ws = [] → Q (.ref t) s) (h2 : ws ≠ [] → Q (.ref s.heap.objs.size) { s with heap := s.heap.push { cls := .type "tuple", data := .seq (vs ++ ws).toArray } })
    (hsz : vs.length + ws.length ≤ sizeLine) : wpAny (model prog w) A (binaryOp .Add (.ref t) (.ref b)) Q E s := by
  obtain ⟨⟨cls, dd, data, sl⟩, ho, hc, n, hd⟩ := id ht
  obtain ⟨⟨cls2, dd2, data2, sl2⟩, ho2, hc2, n2, hd2⟩ := id hb
  simp only at hc hd hc2 hd2
  subst hc hd hc2 hd2
  have e : vs.toArray ++ ws.toArray = (vs ++ ws).toArray := by simp
  by_cases hw : ws = []
  · exact concat_meets ⟨_, ho, rfl⟩ ⟨_, ho2, rfl⟩ noFill_tuple_add seq_tuple_add PySem.F.slot_tuple_add PySem.F.entry_tuple_add (PySem.F.args_tuple_add_2 _ _)
      (tuple_addW1 t b vs.toArray ws.toArray n n2 dd dd2 sl sl2 (by simpa using hv) (by simp [hw])) ⟨ho, ho2, h1 hw⟩
  · refine concat_meets ⟨_, ho, rfl⟩ ⟨_, ho2, rfl⟩ noFill_tuple_add seq_tuple_add PySem.F.slot_tuple_add PySem.F.entry_tuple_add (PySem.F.args_tuple_add_2 _ _)
      (tuple_addW2 t b vs.toArray ws.toArray n n2 dd dd2 sl sl2 (by simpa using hv) (by simpa using hw) (by rw [List.size_toArray, List.size_toArray]; exact hsz)) ⟨ho, ho2, ?_⟩
    rw [e]
    exact h2 hw

/-! ### t[a:b], not the whole -/
/-- a slice's bound as a place among n (d where it is left out) -/
def sIx (n d : Nat) : Option Int → Nat
  | none => d
  | some v => if v < 0 then (v + (n : Int)).toNat else min v.toNat n
theorem sIx_none (n d : Nat) : sIx n d none = d := rfl
theorem sIx_nat (n d k : Nat) : sIx n d (some (k : Int)) = min k n := by
  show (if (k : Int) < 0 then ((k : Int) + (n : Int)).toNat else min (k : Int).toNat n) = min k n
  rw [if_neg (by omega), Int.toNat_natCast]
theorem sIx_le (n d : Nat) (hd : d ≤ n) (o : Option Int) : sIx n d o ≤ n := by
  cases o with
  | none => exact hd
  | some v =>
    show (if v < 0 then (v + (n : Int)).toNat else min v.toNat n) ≤ n
    by_cases hv : v < 0
    · rw [if_pos hv]; omega
    · rw [if_neg hv]; exact Nat.min_le_right _ _
theorem clip_eq (v : Int) (n d : Nat) : (if v < 0 then max (v + (n : Int)) 0 else min v (n : Int)) = ((sIx n d (some v) : Nat) : Int) := by
  show (if v < 0 then max (v + (n : Int)) 0 else min v (n : Int)) = (((if v < 0 then (v + (n : Int)).toNat else min v.toNat n) : Nat) : Int)
  by_cases hv : v < 0
  · simp only [if_pos hv]; omega
  · simp only [if_neg hv]; omega
theorem adjust_gen (lo hi : Option Int) (n : Nat) : Builtin.Slice.sliceAdjust lo hi 1 (n : Int) = (((sIx n 0 lo : Nat) : Int), ((sIx n n hi : Nat) : Int)) := by
  have h1 : ¬ ((1 : Int) < 0) := by omega
  unfold Builtin.Slice.sliceAdjust
  simp only [h1, if_false]
  refine Prod.ext ?_ ?_
  · cases lo with
    | none => rfl
    | some v => exact clip_eq v n 0
  · cases hi with
    | none => rfl
    | some v => exact clip_eq v n n
theorem places_gen (i j : Nat) : Builtin.Slice.slicePlaces (i : Int) (j : Int) 1 = j - i := by
  unfold Builtin.Slice.slicePlaces
  have h1 : (1 : Int) > 0 := by omega
  simp only [h1, if_true, Int.ediv_one]
  split <;> omega
theorem slicePart_ {v : Value} {o : Option Int} {Q : Option Int → Shared → Prop} (p : IsPart v o) (h : Q o s) : wpAny (model prog w) A (Builtin.Slice.slicePartIndex v) Q E s := by
  cases p with
  | none => exact slicePart_none h
  | int i t => exact slicePart_int h
theorem sliceApplied_gen {sl : Addr} {vl vu : Value} {lo hi : Option Int} {n : Nat} {Q : Int × Int × Nat → Shared → Prop} (hs : s.heap.IsSliceOf sl vl vu .none) (pl : IsPart vl lo) (pu : IsPart vu hi)
    (h : Q (((sIx n 0 lo : Nat) : Int), 1, sIx n n hi - sIx n 0 lo) s) : wpAny (model prog w) A (Builtin.Slice.sliceApplied (.ref sl) (pure (n : Int))) Q E s := by
  obtain ⟨os, hos, hcs, hds⟩ := id hs
  unfold Builtin.Slice.sliceApplied Builtin.Slice.sliceFields
  refine wpAny_bind (wpAny_bind (wpAny_field hos hds (x := vl) rfl (wpAny_bind (wpAny_field hos hds (x := vu) rfl (wpAny_bind (wpAny_field hos hds (x := .none) rfl (wpAny_pure ?_)))))))
  refine wpAny_bind (slicePart_none ?_)
  show wpAny _ _ (if ((1 : Int) == 0) = true then _ else _) _ _ s
  rw [if_neg (by decide)]
  refine wpAny_bind (slicePart_ pl (wpAny_bind (slicePart_ pu (wpAny_bind (wpAny_pure ?_)))))
  show wpAny _ _ (match Builtin.Slice.sliceAdjust lo hi 1 (n : Int) with | (lo, hi) => pure (lo, (1 : Int), Builtin.Slice.slicePlaces lo hi 1)) _ _ s
  rw [adjust_gen lo hi n]
  show wpAny _ _ (pure (((sIx n 0 lo : Nat) : Int), (1 : Int), Builtin.Slice.slicePlaces ((sIx n 0 lo : Nat) : Int) ((sIx n n hi : Nat) : Int) 1)) _ _ s
  rw [places_gen]
  exact wpAny_pure h
theorem pick_gen (xs : Array Value) (i k : Nat) : ((List.range k).filterMap fun (m : Nat) => xs[((i : Int) + (m : Int) * 1).toNat]?).toArray = ((xs.toList.drop i).take k).toArray := by
  have e : (fun (m : Nat) => xs[((i : Int) + (m : Int) * 1).toNat]?) = fun m => xs[i + m]? := by
    funext m
    have : ((i : Int) + (m : Int) * 1).toNat = i + m := by omega
    rw [this]
  rw [e]
  have := pick_run xs i k
  rw [List.filterMap_map] at this
  have e2 : ((fun x => xs[x]?) ∘ fun x => i + x) = fun m => xs[i + m]? := rfl
  rw [e2] at this
  rw [this]

theorem getItem_tuple_cut {t sl : Addr} {items : Array Value} {vl vu : Value} {lo hi : Option Int} {Q : Value → Shared → Prop} (ht : IsTup s.heap t items) (hs : s.heap.IsSliceOf sl vl vu .none) (pl : IsPart vl lo) (pu : IsPart vu hi)
    (hw : ¬ (sIx items.size 0 lo = 0 ∧ sIx items.size items.size hi = items.size))
    (h : Q (.ref s.heap.objs.size) { s with heap := s.heap.push { cls := .type "tuple", data := .seq ((items.toList.drop (sIx items.size 0 lo)).take (sIx items.size items.size hi - sIx items.size 0 lo)).toArray } })
    (hsz : items.size ≤ sizeLine) : wpAny (model prog w) A (getItem (.ref t) (.ref sl)) Q E s := by
  have htake : sizeOk (.seq ((items.toList.drop (sIx items.size 0 lo)).take (sIx items.size items.size hi - sIx items.size 0 lo)).toArray) := by
    show ((items.toList.drop (sIx items.size 0 lo)).take (sIx items.size items.size hi - sIx items.size 0 lo)).toArray.size ≤ sizeLine
    rw [List.size_toArray, List.length_take, List.length_drop, Array.length_toList]
    omega
  have hj : sIx items.size items.size hi ≤ items.size := sIx_le _ _ (Nat.le_refl _) hi
  obtain ⟨os, hos, hcs, hds⟩ := id hs
  have hTs : s.TypeIs (.ref sl) "slice" := ⟨os, hos, hcs⟩
  unfold getItem
  try with_reducible refine wpAny_holding ?_
  first | refine wpAny_bind (wpAny_pure ?_) | skip
  refine wpAny_bind (wpAny_sequenceKey ht.typeIs (by decide) ?_)
  refine wpAny_bind (wpAny_callSpecial?_slot (name := Str.ofString "__getitem__") ht.typeIs PyProof.Rows.slot_tuple_getitem
    (wpAny_call_entry PyProof.Rows.slot_tuple_getitem ht.typeIs entry_tuple_getitem ?_ (args_tuple_getitem _ _)))
  show wpAny _ _ (Builtin.Tuple.tupleItemsOf (.ref t) >>= _) _ _ s
  refine wpAny_bind (tupleItemsOf_ ht ?_)
  refine wpAny_bind (wpAny_typeOf hTs ?_)
  rw [if_pos (by decide)]
  refine wpAny_bind (sliceApplied_gen hs pl pu ?_)
  have hno : ¬ ((((sIx items.size 0 lo : Nat) : Int) == 0 && (1 : Int) == 1 && (sIx items.size items.size hi - sIx items.size 0 lo) == items.size) = true) := by
    intro q
    rw [Bool.and_eq_true, Bool.and_eq_true] at q
    have q1 : ((sIx items.size 0 lo : Nat) : Int) = 0 := eq_of_beq q.1.1
    have q2 : sIx items.size items.size hi - sIx items.size 0 lo = items.size := eq_of_beq q.2
    exact hw ⟨by omega, by omega⟩
  show wpAny _ _ (if (((sIx items.size 0 lo : Nat) : Int) == 0 && (1 : Int) == 1 && (sIx items.size items.size hi - sIx items.size 0 lo) == items.size) = true then _ else _) _ _ s
  rw [if_neg hno, pick_gen]
  first
    | exact wpAny_bind (m := Builtin.Tuple.tupleExact _) (wpAny_newObj_type (wpAny_pure ⟨_, rfl, wpAny_pure h⟩) htake)
    | exact wpAny_bind (m := Builtin.Tuple.tupleExact _) (wpAny_newObj_type (wpAny_bind (wpAny_pure (wpAny_pure ⟨_, rfl, wpAny_pure h⟩))) htake)
    | exact wpAny_bind (wpAny_bind (m := Builtin.Tuple.tupleExact _) (wpAny_newObj_type (wpAny_pure (wpAny_pure ⟨_, rfl, wpAny_pure h⟩)) htake))
    | exact wpAny_bind (wpAny_bind (m := Builtin.Tuple.tupleExact _) (wpAny_newObj_type (wpAny_pure ⟨_, rfl, wpAny_pure h⟩) htake))
end
end HT

namespace L2
open PySem PySem.Spec PyProof.Rows

/-! ### the parts of a slice -/
abbrev TO := St → Hp → (Option Int → Hp → Prop) → Prop
/-- a slice's part (left out, or an int) -/
def PO (X : Cx) (e : Option Expr) (t : TO) : Prop :=
  ∀ (pins : List (Addr × Obj)) (s : Shared) (σ : St) (H : Hp) (Q : Option Int → Hp → Prop), Inv X pins σ H s → t σ H Q →
    wpAny (model X.prog X.w) X.A (evalPart e X.env) (fun u s' => ∃ o H', Inv X pins σ H' s' ∧ IsPart u o ∧ Q o H') X.xe s
def tNoPart : TO := fun _ H Q => Q none H
def tPart (t : TE) : TO := fun σ H Q => t σ H fun x H1 => ∃ i, x = .int i ∧ Q (some i) H1


section
variable {X : Cx} {e : Expr} {te : TE} {lo hi : Option Expr} {tl th : TO} {pos p2 : Pos}

theorem po_none : PO X none tNoPart := by
  intro pins s σ H Q I h
  rw [evalPart_none]
  exact wpAny_pure ⟨none, H, I, .none, h⟩
theorem po_some (h : PE X e te) : PO X (some e) (tPart te) := by
  intro pins s σ H Q I hw
  rw [evalPart_some]
  refine thn (h pins s σ H _ I hw) fun u s1 ⟨x, H1, I1, r1, q1⟩ => ?_
  obtain ⟨i, rfl, q⟩ := q1
  obtain ⟨t, rfl⟩ := r1
  exact ⟨some i, H1, I1, .int i t, q⟩

/-- what a slice of a value is, by values: the slice object stands at sl -/
def SlR (X : Cx) (r : V → Option Int → Option Int → Hp → VK → Prop) : Prop :=
  ∀ (pins : List (Addr × Obj)) (s : Shared) (σ : St) (H : Hp) (x : V) (v vl vu : Value) (lo hi : Option Int) (sl : Addr) (Q : VK), Inv X pins σ H s → RelV x v → s.heap.IsSliceOf sl vl vu .none → IsPart vl lo → IsPart vu hi → r x lo hi H Q →
    ∃ T id, typeLookup (.type T) "__getitem__" = pure (some (.builtin id)) ∧ s.TypeIs v T ∧ wpAny (model X.prog X.w) X.A (getItem v (.ref sl)) (EP X pins σ Q) X.xe s
def tSl (r : V → Option Int → Option Int → Hp → VK → Prop) (te : TE) (tl th : TO) : TE := fun σ H Q => te σ H fun x H1 => tl σ H1 fun l H2 => th σ H2 fun u H3 => r x l u H3 Q
/-- a[lo:hi], any a -/
theorem pe_slice {r : V → Option Int → Option Int → Hp → VK → Prop} (hr : SlR X r) (he : PE X e te) (hl : PO X lo tl) (hu : PO X hi th) : PE X (.Subscript e (.Slice lo hi none p2) pos) (tSl r te tl th) := by
  intro pins s σ H Q I h
  refine Subscript_ (thn (he pins s σ H _ I h) fun v s1 ⟨x, H1, I1, r1, q1⟩ => ?_)
  refine wpAny_Slice (thn (hl pins s1 σ H1 _ I1 q1) fun vl s2 ⟨l, H2, I2, pl, q2⟩ => thn (hu pins s2 σ H2 _ I2 q2) fun vu s3 ⟨u, H3, I3, pu, q3⟩ => ?_)
  rw [evalPart_none]
  refine wpAny_pure ?_
  have I4 : Inv X pins σ H3 { s3 with heap := s3.heap.push { cls := .type "slice", data := .fields #[vl, vu, .none] } } := I3.kept (t' := s3.toks) fun b ob q => Heap.get?_push_of_some _ q
  obtain ⟨T, id, hT, ht, hg⟩ := hr pins { s3 with heap := s3.heap.push { cls := .type "slice", data := .fields #[vl, vu, .none] } } σ H3 x v vl vu l u s3.heap.objs.size Q I4 r1 (Heap.IsSliceOf.new ..) pl pu q3
  show wpAny (model X.prog X.w) X.A (subscriptTail e (.Slice lo hi none p2) v (.ref s3.heap.objs.size)) (EP X pins σ Q) X.xe { s3 with heap := s3.heap.push { cls := .type "slice", data := .fields #[vl, vu, .none] } }
  exact tail_any (ops := [.ref s3.heap.objs.size, v]) ht hT hg (by with_unfolding_all rfl)

/-- the items of xs[lo:hi] -/
def cutV (xs : List V) (lo hi : Option Int) : List V := (xs.drop (HT.sIx xs.length 0 lo)).take (HT.sIx xs.length xs.length hi - HT.sIx xs.length 0 lo)
theorem cutV_length (xs : List V) (lo hi : Option Int) : (cutV xs lo hi).length ≤ xs.length := by
  unfold cutV
  rw [List.length_take, List.length_drop]
  omega
/-- t[lo:hi], not the whole of it (the whole would be t itself) -/
def rSlT (K : PySem.W.Frag) : V → Option Int → Option Int → Hp → VK → Prop := fun x lo hi H Q => ∃ a xs, x = .ref a ∧ SqT K H a xs ∧
  ¬ (HT.sIx xs.length 0 lo = 0 ∧ HT.sIx xs.length xs.length hi = xs.length) ∧ ∀ p, H p = none → Q (.ref p) (upd H p (.tup (cutV xs lo hi)))
theorem sl_tup : SlR X (rSlT X.K) := by
  intro pins s σ H x v vl vu lo hi sl Q I rx hs pl pu h
  obtain ⟨a, xs, rfl, hx, hw, q⟩ := h
  cases rx
  obtain ⟨its, r, ht, hz⟩ := I.tuple hx
  have hlen : its.toArray.size = xs.length := by rw [List.size_toArray]; exact r.length.symm
  refine ⟨"tuple", _, PyProof.Rows.slot_tuple_getitem.lookup, ht.typeIs, ?_⟩
  refine HT.getItem_tuple_cut ht hs pl pu (by rw [hlen]; exact hw) ?_ (by rw [hlen]; exact hz)
  rw [hlen]
  refine ⟨.ref s.heap.objs.size, _, I.laid (t' := s.toks) (o := .tup (cutV xs lo hi)) (fun b ob q => Heap.get?_push_of_some _ q) (Nat.le_refl _) ?_, rfl, q _ (I.hok.fresh (Nat.le_refl _))⟩
  exact ⟨Nat.le_trans (cutV_length xs lo hi) hz, _, (r.drop (HT.sIx xs.length 0 lo)).take (HT.sIx xs.length xs.length hi - HT.sIx xs.length 0 lo), IsTup.new _ _⟩

/-! ### t < u, t + u -/
/-- t + u, t not empty: u empty gives t itself -/
def rCatT (K : PySem.W.Frag) : R2 := fun x y H Q => ∃ a b xs ys, x = .ref a ∧ y = .ref b ∧ SqT K H a xs ∧ SqT K H b ys ∧ xs ≠ [] ∧ xs.length + ys.length ≤ sizeLine ∧
  (ys = [] → Q (.ref a) H) ∧ (ys ≠ [] → ∀ p, H p = none → Q (.ref p) (upd H p (.tup (xs ++ ys))))
theorem Vals.nil_iff {xs : List V} {us : List Value} (r : Vals xs us) : us = [] ↔ xs = [] := by
  cases r with
  | nil => simp
  | cons _ _ => simp
theorem op_catT : OpR X (binaryOp .Add) (rCatT X.K) := by
  intro pins s σ H x y v u Q I rx ry h
  obtain ⟨a, b, xs, ys, rfl, rfl, ha, hb, hx, hz, q1, q2⟩ := h
  cases rx
  cases ry
  obtain ⟨its, r1, p1, _⟩ := I.tuple ha
  obtain ⟨its2, r2, p2, _⟩ := I.tuple hb
  refine HT.cat_tup p1 p2 (fun z => hx (r1.nil_iff.mp z)) (fun z => ⟨.ref a, H, I, rfl, q1 (r2.nil_iff.mp z)⟩) (fun z => ?_) (by rw [← r1.length, ← r2.length]; exact hz)
  refine ⟨.ref s.heap.objs.size, _, I.laid (t' := s.toks) (o := .tup (xs ++ ys)) (fun b ob q => Heap.get?_push_of_some _ q) (Nat.le_refl _) ?_, rfl, q2 (fun w => z (r2.nil_iff.mpr w)) _ (I.hok.fresh (Nat.le_refl _))⟩
  exact ⟨by rw [List.length_append]; exact hz, _, r1.append r2, IsTup.new _ _⟩
/-- tuple(t) -/
theorem call_tupleT : CallR X (.type "tuple") (fun xs H Q => ∃ a ys, xs = [.ref a] ∧ SqT X.K H a ys ∧ Q (.ref a) H) := by
  intro pins s σ H xs us Q I r h
  obtain ⟨a, ys, rfl, ha, q⟩ := h
  obtain ⟨u, rfl, ru⟩ := vals1 r
  cases ru
  obtain ⟨its, _, p1, _⟩ := I.tuple ha
  exact call_tuple_same (items := its.toArray) p1 ⟨.ref a, H, I, rfl, q⟩
end
end L2

namespace L2
open PySem PySem.Spec PyProof.Rows

/-! ### places -/
/-- the place that an index of any sign means -/
def ixN (n : Nat) (i : Int) : Option Nat := if 0 ≤ i then (if i < n then some i.toNat else none) else if -(n : Int) ≤ i then some (i + n).toNat else none
def atI {α : Type} (xs : List α) (i : Int) : Option α := (ixN xs.length i).bind fun j => xs[j]?
theorem ixN_seq {n : Nat} {i : Int} {j : Nat} (h : ixN n i = some j) : seqIndex? i n = some j ∧ j < n ∧ -(n : Int) ≤ i ∧ i < n := by
  unfold ixN at h
  by_cases h0 : 0 ≤ i
  · rw [if_pos h0] at h
    by_cases h1 : i < n
    · rw [if_pos h1] at h
      have e : i.toNat = j := Option.some.inj h
      exact ⟨by rw [seqIndex_of h0 h1, e], by omega, by omega, h1⟩
    · rw [if_neg h1] at h; cases h
  · rw [if_neg h0] at h
    by_cases h1 : -(n : Int) ≤ i
    · rw [if_pos h1] at h
      have e : (i + n).toNat = j := Option.some.inj h
      exact ⟨by rw [seqIndex_neg (by omega) h1, e], by omega, h1, by omega⟩
    · rw [if_neg h1] at h; cases h
theorem atI_get {α : Type} {xs : List α} {i : Int} {v : α} (h : atI xs i = some v) : ∃ j, seqIndex? i xs.length = some j ∧ xs[j]? = some v ∧ j < xs.length ∧ -(xs.length : Int) ≤ i ∧ i < xs.length := by
  unfold atI at h
  cases e : ixN xs.length i with
  | none => rw [e] at h; cases h
  | some j =>
    rw [e] at h
    obtain ⟨h1, h2, h3, h4⟩ := ixN_seq e
    exact ⟨j, h1, h, h2, h3, h4⟩
theorem atI_nat {α : Type} {xs : List α} {j : Nat} {v : α} (h : xs[j]? = some v) : atI xs (j : Int) = some v := by
  have hj : j < xs.length := (List.getElem?_eq_some_iff.mp h).1
  have e : ixN xs.length (j : Int) = some j := by
    unfold ixN
    rw [if_pos (by omega), if_pos (by omega)]; simp
  unfold atI; rw [e]; exact h

/-! ### what may be subscripted -/
/-- what stands as an index of a plain subscript -/
def PlainIx (b : Expr) : Prop := ∀ o i, subscripted b false o i = operate [o, i] (getItem o i)
/-- a subscript by values -/
def IxR (X : Cx) (r : R2) : Prop :=
  ∀ (value slice : Expr) (pins : List (Addr × Obj)) (s : Shared) (σ : St) (H : Hp) (x y : V) (v u : Value) (Q : VK), Inv X pins σ H s → RelV x v → RelV y u → r x y H Q →
    subscripted slice false v u = operate [v, u] (getItem v u) → wpAny (model X.prog X.w) X.A (subscriptTail value slice v u) (EP X pins σ Q) X.xe s
/-- a call of a builtin's method by values: the receiver, the arguments -/
def MtR (X : Cx) (id : String) (r : V → List V → Hp → VK → Prop) : Prop :=
  ∀ (pins : List (Addr × Obj)) (s : Shared) (σ : St) (H : Hp) (x : V) (xs : List V) (v : Value) (us : List Value) (Q : VK), Inv X pins σ H s → RelV x v → Vals xs us → r x xs H Q →
    wpAny (model X.prog X.w) X.A (call (.builtin id) (v :: us)) (EP X pins σ Q) X.xe s
section
variable {X : Cx} {a b : Expr} {ta tb : TE} {pos : Pos}
/-- a[b] -/
theorem pe_ix {r : R2} (hr : IxR X r) (ha : PE X a ta) (hb : PE X b tb) (hs : PlainIx b) : PE X (.Subscript a b pos) (tOp r ta tb) := by
  intro pins s σ H Q I h
  exact Subscript_ (binT ha hb I h fun v u s2 x y H2 I2 rx ry q => hr a b pins s2 σ H2 x y v u Q I2 rx ry q (hs _ _))

def rIxL (K : PySem.W.Frag) : R2 := fun x y H Q => ∃ p xs i v, x = .ref p ∧ y = .int i ∧ SqL K H p xs ∧ atI xs i = some v ∧ Q v H
def rIxT (K : PySem.W.Frag) : R2 := fun x y H Q => ∃ p xs i v, x = .ref p ∧ y = .int i ∧ SqT K H p xs ∧ atI xs i = some v ∧ Q v H
theorem ix_list : IxR X (rIxL X.K) := by
  intro value slice pins s σ H x y v u Q I rx ry h hs
  obtain ⟨p, xs, i, z, rfl, rfl, hq, he, q⟩ := h
  cases rx
  obtain ⟨t, rfl⟩ := ry
  obtain ⟨its, r, pl, hz⟩ := I.list hq
  obtain ⟨j, h1, h2, h3, h4, h5⟩ := atI_get he
  obtain ⟨w, ew, rw'⟩ := r.get h2
  have hl := r.length
  have hn := line63
  have fin : EP X pins σ Q w s := ⟨z, H, I, rw', q⟩
  by_cases h0 : 0 ≤ i
  · have hj : i.toNat = j := by
      rw [seqIndex_of h0 h5] at h1
      exact Option.some.inj h1
    exact item_listR pl.isList h0 (by omega) (by rw [hj]; simpa using ew) fin hs
  · have hj : (i + (its.toArray.size : Int)).toNat = j := by
      rw [seqIndex_neg (by omega) h4] at h1
      rw [List.size_toArray, ← hl]
      exact Option.some.inj h1
    exact subscriptTail_builtinR (x := w) pl.isList.typeIs slot_list_getitem.lookup
      (wpAny_getItem_list_neg (Q := fun r s' => r = w ∧ EP X pins σ Q r s') pl.isList (by omega) (by rw [List.size_toArray] <;> omega) (by omega) (by rw [hj]; simpa using ew) ⟨rfl, fin⟩) hs
theorem ix_tup : IxR X (rIxT X.K) := by
  intro value slice pins s σ H x y v u Q I rx ry h hs
  obtain ⟨p, xs, i, z, rfl, rfl, hq, he, q⟩ := h
  cases rx
  obtain ⟨t, rfl⟩ := ry
  obtain ⟨its, r, pl, hz⟩ := I.tuple hq
  obtain ⟨j, h1, h2, h3, h4, h5⟩ := atI_get he
  obtain ⟨w, ew, rw'⟩ := r.get h2
  have hl := r.length
  have hn := line63
  have fin : EP X pins σ Q w s := ⟨z, H, I, rw', q⟩
  exact subscriptTail_builtinR (x := w) pl.typeIs slot_tuple_getitem.lookup
    (getItem_tuple (j := j) (Q := fun r s' => r = w ∧ EP X pins σ Q r s') pl (by omega) (by omega) (by rw [List.size_toArray, ← hl]; exact h1) (by simpa using ew) ⟨rfl, fin⟩) hs

/-! ### xs[i] = v, any sign -/

/-! ### slices -/
theorem slice_bounds (lo hi : Option Int) (n : Nat) : (sliceBounds lo hi none n).1 = ((HT.sIx n 0 lo : Nat) : Int) ∧ (sliceBounds lo hi none n).2.1 = ((HT.sIx n n hi : Nat) : Int) ∧ (sliceBounds lo hi none n).2.2 = 1 := by
  refine ⟨?_, ?_, rfl⟩
  · cases lo with
    | none => simp [sliceBounds, HT.sIx]
    | some i =>
      simp only [sliceBounds, HT.sIx, Option.getD_none, show (1 : Int) > 0 by decide, if_true]
      by_cases h : i < 0
      · simp only [h, if_true] <;> omega
      · simp only [h, if_false] <;> omega
  · cases hi with
    | none => simp [sliceBounds, HT.sIx]
    | some i =>
      simp only [sliceBounds, HT.sIx, Option.getD_none, show (1 : Int) > 0 by decide, if_true]
      by_cases h : i < 0
      · simp only [h, if_true] <;> omega
      · simp only [h, if_false] <;> omega
theorem slicePick_cut (its : List Value) (lo hi : Option Int) : slicePick its.toArray lo hi none = ((its.drop (HT.sIx its.length 0 lo)).take (HT.sIx its.length its.length hi - HT.sIx its.length 0 lo)).toArray := by
  obtain ⟨h1, h2, h3⟩ := slice_bounds lo hi its.toArray.size
  unfold slicePick
  rw [h1, h2, h3]
  simp only [sliceRange_one, pick_run, List.size_toArray] <;> rfl
/-- xs[lo:hi] of a list: a new list -/
def rSlL (K : PySem.W.Frag) : V → Option Int → Option Int → Hp → VK → Prop := fun x lo hi H Q => ∃ a xs, x = .ref a ∧ SqL K H a xs ∧ ∀ p, H p = none → Q (.ref p) (upd H p (.lst (cutV xs lo hi)))
theorem sl_list : SlR X (rSlL X.K) := by
  intro pins s σ H x v vl vu lo hi sl Q I rx hs pl pu h
  obtain ⟨a, xs, rfl, hx, q⟩ := h
  cases rx
  obtain ⟨its, r, ht, hz⟩ := I.list hx
  have hlen := r.length
  refine ⟨"list", _, slot_list_getitem.lookup, ht.isList.typeIs, ?_⟩
  refine wpAny_getItem_list_slice ht.isList hs pl pu .none (by simp) ?_ (by rw [List.size_toArray] <;> omega)
  rw [slicePick_cut, ← hlen]
  refine ⟨.ref s.heap.objs.size, _, I.laid (t' := s.toks) (o := .lst (cutV xs lo hi)) (fun b ob q => Heap.get?_push_of_some _ q) (Nat.le_refl _) ?_, rfl, q _ (I.hok.fresh (Nat.le_refl _))⟩
  exact ⟨Nat.le_trans (cutV_length xs lo hi) hz, _, 0, (r.drop (HT.sIx xs.length 0 lo)).take (HT.sIx xs.length xs.length hi - HT.sIx xs.length 0 lo), Heap.get?_push_size _ rfl⟩

/-! ### in, not in: flat items -/
def flatV : V → Bool
  | .non => true
  | .bl _ => true
  | .int _ => true
  | .str _ => true
  | _ => false
/-- == of flat values -/
def eqV : V → V → Bool
  | .non, .non => true
  | .bl a, .bl b => a == b
  | .bl a, .int b => (if a then 1 else 0) == b
  | .int a, .bl b => a == (if b then 1 else 0)
  | .int a, .int b => a == b
  | .str a, .str b => a == b
  | _, _ => false
theorem eqAt_V {A : Around} {s : Shared} {y x : V} {u v : Value} (ry : RelV y u) (rx : RelV x v) (fy : flatV y = true) (fx : flatV x = true) : SeqAt.EqAt A s u v (eqV y x) := by
  cases y with
  | non =>
    cases ry
    cases x with
    | non => cases rx; exact SeqAt.EqAt.same _
    | bl b => cases rx; exact SeqAt.EqAt.none_bool b
    | int b => obtain ⟨t, rfl⟩ := rx; exact SeqAt.EqAt.none_int b t
    | str b => obtain ⟨t, rfl⟩ := rx; exact SeqAt.EqAt.none_str b t
    | _ => exact absurd (show false = true from fx) Bool.false_ne_true
  | bl a =>
    cases ry
    cases x with
    | non => cases rx; exact SeqAt.EqAt.bool_none a
    | bl b => cases rx; exact SeqAt.EqAt.bool_bool a b
    | int b => obtain ⟨t, rfl⟩ := rx; exact SeqAt.EqAt.bool_int a b t
    | str b => obtain ⟨t, rfl⟩ := rx; exact SeqAt.EqAt.bool_str a b t
    | _ => exact absurd (show false = true from fx) Bool.false_ne_true
  | int a =>
    obtain ⟨t', rfl⟩ := ry
    cases x with
    | non => cases rx; exact SeqAt.EqAt.int_none a t'
    | bl b => cases rx; exact SeqAt.EqAt.int_bool a t' b
    | int b => obtain ⟨t, rfl⟩ := rx; exact SeqAt.EqAt.int_int a t' b t
    | str b => obtain ⟨t, rfl⟩ := rx; exact SeqAt.EqAt.int_str a t' b t
    | _ => exact absurd (show false = true from fx) Bool.false_ne_true
  | str a =>
    obtain ⟨t', rfl⟩ := ry
    cases x with
    | non => cases rx; exact SeqAt.EqAt.str_none a t'
    | bl b => cases rx; exact SeqAt.EqAt.str_bool a t' b
    | int b => obtain ⟨t, rfl⟩ := rx; exact SeqAt.EqAt.str_int a t' b t
    | str b => obtain ⟨t, rfl⟩ := rx; exact SeqAt.EqAt.str_str a t' b t
    | _ => exact absurd (show false = true from fx) Bool.false_ne_true
  | _ => exact absurd (show false = true from fy) Bool.false_ne_true
/-- the items' answers, read off the values (a value's own answer does not lean on its token) -/
def eqU (x : V) (u : Value) : Bool := match u with
  | .none => eqV .non x
  | .bool b => eqV (.bl b) x
  | .int i _ => eqV (.int i) x
  | .str z _ => eqV (.str z) x
  | _ => false
theorem eqU_of {x y : V} {u : Value} (r : RelV y u) (f : flatV y = true) : eqU x u = eqV y x := by
  cases y with
  | non => cases r; rfl
  | bl b => cases r; rfl
  | int i => obtain ⟨t, rfl⟩ := r; rfl
  | str z => obtain ⟨t, rfl⟩ := r; rfl
  | _ => exact absurd (show false = true from f) Bool.false_ne_true
theorem any_eqU {x : V} : ∀ {xs : List V} {us : List Value}, Vals xs us → xs.all flatV = true → us.any (eqU x) = xs.any fun y => eqV y x
  | _, _, .nil, _ => rfl
  | y :: xs, u :: us, .cons r t, f => by
    rw [List.all_cons, Bool.and_eq_true] at f
    rw [List.any_cons, List.any_cons, eqU_of r f.1, any_eqU t f.2]
theorem mem_eqAt {A : Around} {s : Shared} {x : V} {v : Value} (rx : RelV x v) (fx : flatV x = true) : ∀ {xs : List V} {us : List Value}, Vals xs us → xs.all flatV = true → ∀ u ∈ us, SeqAt.EqAt A s u v (eqU x u)
  | _, _, .nil, _ => fun u hu => by cases hu
  | y :: xs, u :: us, .cons r t, f => fun u' hu => by
    rw [List.all_cons, Bool.and_eq_true] at f
    rcases List.mem_cons.mp hu with rfl | hu
    · rw [eqU_of r f.1]; exact eqAt_V r rx f.1 fx
    · exact mem_eqAt rx fx t f.2 u' hu
def inV (x : V) (xs : List V) : Bool := xs.any fun y => eqV y x
/-- x in a list or tuple of flat items -/
def rIn (K : PySem.W.Frag) (neg : Bool) : R2 := fun x y H Q => ∃ p xs, y = .ref p ∧ (SqL K H p xs ∨ SqT K H p xs) ∧ flatV x = true ∧ xs.all flatV = true ∧ Q (.bl (if neg then !inV x xs else inV x xs)) H
theorem op_notIn_seq : OpR X (compareOp .NotIn) (rIn X.K true) := by
  intro pins s σ H x y v u Q I rx ry h
  obtain ⟨p, xs, rfl, hq, fx, fs, q⟩ := h
  cases ry
  rcases hq with hq | hq
  · obtain ⟨its, r, pl, hz⟩ := I.list hq
    refine SeqAt.notIn_listAt (eqU x) pl.isList (fun w hw => mem_eqAt rx fx r fs w (by simpa using hw)) ⟨.bl _, H, I, rfl, ?_⟩
    rw [show its.toArray.any (eqU x) = its.any (eqU x) by simp, any_eqU r fs]
    exact q
  · obtain ⟨its, r, pl, hz⟩ := I.tuple hq
    refine SeqAt.notIn_tupleAt (eqU x) pl (fun w hw => mem_eqAt rx fx r fs w (by simpa using hw)) ⟨.bl _, H, I, rfl, ?_⟩
    rw [show its.toArray.any (eqU x) = its.any (eqU x) by simp, any_eqU r fs]
    exact q

/-! ### len, list(x), tuple(x) of any list or tuple that is read -/
theorem call_list_of : CallR X (.type "list") (fun xs H Q => ∃ p ys, xs = [.ref p] ∧ (SqL X.K H p ys ∨ SqT X.K H p ys) ∧ ∀ l, H l = none → Q (.ref l) (upd H l (.lst ys))) := by
  intro pins s σ H xs us Q I r h
  obtain ⟨p, ys, rfl, hq, q⟩ := h
  obtain ⟨u, rfl, rx⟩ := vals1 r
  cases rx
  have fin : ∀ (its : List Value), Vals ys its → ys.length ≤ sizeLine → ∀ (h' : Heap) (c' : Nat), (∀ b o', s.heap.get? b = some o' → h'.get? b = some o') →
      h'.get? s.heap.objs.size = some { cls := .type "list", dict := none, data := .seq its.toArray c', slots := #[] } → EP X pins σ Q (.ref s.heap.objs.size) { s with heap := h' } := fun its r' hz h' c' kp e =>
    ⟨.ref s.heap.objs.size, _, I.laid (t' := s.toks) kp (Nat.le_refl _) (show ObjOk X.prog X.w _ h' _ (.lst ys) from ⟨hz, its, c', r', e⟩), rfl, q _ (I.hok.fresh (Nat.le_refl _))⟩
  rcases hq with hq | hq
  · obtain ⟨its, r', pl, hz⟩ := I.list hq
    have hlen := r'.length
    obtain ⟨o, ho, hc, n, hd⟩ := pl.isList
    exact call_list_seq p (.inl rfl) ho hc hd (fun h' c' kp e => fin its r' hz h' c' kp e) (by simp only [List.size_toArray] <;> omega)
  · obtain ⟨its, r', pl, hz⟩ := I.tuple hq
    have hlen := r'.length
    obtain ⟨o, ho, hc, n, hd⟩ := pl
    exact call_list_seq p (.inr rfl) ho hc hd (fun h' c' kp e => fin its r' hz h' c' kp e) (by simp only [List.size_toArray] <;> omega)

/-! ### the call of a builtin's method: o.m(..) -/
/-- the value is of that builtin type -/
def tyV (K : PySem.W.Frag) (T : String) (x : V) (H : Hp) : Prop := match x with
  | .str _ => T = "str"
  | .int _ => T = "int"
  | .ref p => (T = "list" ∧ ∃ xs, SqL K H p xs) ∨ (T = "tuple" ∧ ∃ o, K.lookup p = some o ∧ o.cls = .type "tuple" ∧ o.dict = none) ∨
      (T = "dict" ∧ ((∃ kvs, H p = some (.dK kvs)) ∨ ∃ kvs, H p = some (.dT kvs))) ∨ (T = "set" ∧ ∃ S n, H p = some (.set S n))
  | _ => False
theorem tyV_is {pins : List (Addr × Obj)} {σ : St} {H : Hp} {s : Shared} {T : String} {x : V} {v : Value} (I : Inv X pins σ H s) (r : RelV x v) (ty : tyV X.K T x H) :
    s.TypeIs v T ∧ ∀ a, v = .ref a → ∃ ob, s.heap.get? a = some ob ∧ ob.dict = none := by
  cases x with
  | str z =>
    obtain ⟨t, rfl⟩ := r
    cases (show T = "str" from ty)
    exact ⟨typeIs_str s z t, fun _ e => nomatch e⟩
  | int i =>
    obtain ⟨t, rfl⟩ := r
    cases (show T = "int" from ty)
    exact ⟨typeIs_int s i t, fun _ e => nomatch e⟩
  | ref p =>
    cases r
    rcases ty with ⟨rfl, xs, hq⟩ | ⟨rfl, o, hk, hc, hd⟩ | ⟨rfl, hk⟩ | ⟨rfl, S, n, hk⟩
    · obtain ⟨its, _, pl, _⟩ := I.list hq
      refine ⟨pl.isList.typeIs, fun a e => ?_⟩
      cases e
      obtain ⟨o, n, e, c, hd, _⟩ := pl
      exact ⟨o, e, hd⟩
    · refine ⟨⟨o, I.kIn p o hk, hc⟩, fun a e => ?_⟩
      cases e
      exact ⟨o, I.kIn _ o hk, hd⟩
    · have z : ∃ o, s.heap.get? p = some o ∧ o.ExactDict := by
        rcases hk with ⟨kvs, hk⟩ | ⟨kvs, hk⟩
        · obtain ⟨_, _, _, _, o, _, _, e, ex, _⟩ := I.hok p _ hk
          exact ⟨o, e, ex⟩
        · obtain ⟨_, _, _, _, o, _, _, e, ex, _⟩ := I.hok p _ hk
          exact ⟨o, e, ex⟩
      obtain ⟨o, e, ex⟩ := z
      refine ⟨⟨o, e, ex.1⟩, fun a e2 => ?_⟩
      cases e2
      exact ⟨o, e, ex.2.1⟩
    · obtain ⟨o, _, _, _, e, ex, _⟩ := I.hok p _ hk
      refine ⟨⟨o, e, ex.1⟩, fun a e2 => ?_⟩
      cases e2
      exact ⟨o, e, ex.2.1⟩
  | _ => exact False.elim ty
def tBM (K : PySem.W.Frag) (T : String) (r : V → List V → Hp → VK → Prop) (to : TE) (t : TA) : TE := fun σ H Q => to σ H fun x H1 => tyV K T x H1 ∧ t σ H1 fun xs H2 => r x xs H2 Q
variable {o e : Expr} {es : List Expr} {to : TE} {t : TA} {name : Str} {apos cpos : Pos} {T id : String} {r : V → List V → Hp → VK → Prop}
theorem pe_bm (pa : PlainAttrs T) (slot : Slot T name id) (hty : typeOf (.builtin id) = pure (.type "method_descriptor")) (hm : MtR X id r) (ho : PE X o to) (ha : PA X (e :: es) t)
    (hbase : attributeBase o name X.env (eval o X.env) = eval o X.env := by rfl)
    (hfew : ((backTo cpos (starEach (e :: es) X.env)).all (fun x => !x.1) && (backToKw cpos (keywordEach [] X.env)).all (fun x => x.1.isSome)
      && decide ((e :: es).length + ([] : List Keyword).length + (if ([] : List Keyword).isEmpty then 0 else 1) < 30)) = true := by rfl)
    (hline : (apos.endLine == cpos.line) = true := by rfl) (hs : starEach (e :: es) X.env = (false, eval e X.env) :: starEach es X.env := by rfl) (hplain : (backTo cpos (starEach es X.env)).any (·.1) = false := by rfl) :
    PE X (.Call (.Attribute o name apos) (e :: es) [] cpos) (tBM X.K T r to t) := by
  intro pins s σ H Q I h
  refine wpAny_Call_method_late hbase hfew hline rfl (thn (ho pins s σ H _ I h) fun v s1 ⟨x, H1, I1, r1, ty, q1⟩ => ?_)
  obtain ⟨h1, h2⟩ := tyV_is I1 r1 ty
  refine ⟨T, id, pa, slot, hty, h1, h2, ?_⟩
  have hA := ha cpos pins s1 σ H1 _ I1 q1
  rw [hs] at hA ⊢
  refine Calls.callWith_builtin (by show (false || (backTo cpos (starEach es X.env)).any (·.1)) = false; rw [hplain] <;> rfl) (Calls.evalArgs_plain ?_)
  exact thn hA fun us s2 ⟨vs, H2, I2, r2, q2⟩ => hm pins s2 σ H2 x vs v us Q I2 r1 r2 q2
/- xs.append(e), list.index on a module's tuple .. are MtR facts of 06m -/
end
end L2

namespace L2
open PySem PySem.Spec PyProof.Rows

def MtM (X : Cx) (id : String) (r : V → List V → Hp → VK → Prop) : Prop :=
  ∀ (pins : List (Addr × Obj)) (s : Shared) (σ : St) (H : Hp) (x : V) (xs : List V) (v : Value) (us : List Value) (Q : VK), Inv X pins σ H s → RelV x v → Vals xs us → r x xs H Q →
    wpAny (model X.prog X.w) X.A (call (.builtin id) (v :: us)) (EP X pins σ Q) X.xe s

/-! ### lists of values -/
theorem Vals.one : ∀ {x : V} {us : List Value}, Vals [x] us → ∃ u, us = [u] ∧ RelV x u
  | _, _, .cons r .nil => ⟨_, rfl, r⟩

section
variable {X : Cx} {pins : List (Addr × Obj)} {σ : St} {H : Hp} {s : Shared} {l b : Addr} {xs ys zs : List V}

/-! ### the two steps: a tracked list is rewritten, a new list is laid -/
theorem Inv.lset {its its' : List Value} {n : Nat} {f : Array Value → Array Value} {t' : Nat} (I : Inv X pins σ H s) (hH : H l = some (.lst xs))
    (e : s.heap.get? l = some { cls := .type "list", data := .seq its.toArray n }) (hf : f its.toArray = its'.toArray) (hv : Vals ys its') (hz : ys.length ≤ sizeLine) :
    Inv X pins σ (upd H l (.lst ys)) { s with heap := s.heap.update l (Obj.mapSeq f), toks := t' } := by
  have q := PySem.IsL.update e f
  rw [hf] at q
  refine I.write (x := l) (e := l) (by rw [hH]; exact trivial) (.inl rfl) (fun b' u hb hu => (Heap.get?_update_other s.heap (Obj.mapSeq f) (Ne.symm hb)).trans hu) ⟨_, q⟩ ?_
  exact ⟨hz, its', _, hv, q⟩
theorem Inv.lnew {its : List Value} {t' : Nat} (I : Inv X pins σ H s) (hv : Vals ys its) (hz : ys.length ≤ sizeLine) :
    Inv X pins σ (upd H s.heap.objs.size (.lst ys)) { s with heap := s.heap.push { cls := .type "list", data := .seq its.toArray }, toks := t' } :=
  I.laid (fun _ _ q => Heap.get?_push_of_some _ q) (Nat.le_refl _) ⟨hz, its, 0, hv, Heap.get?_push_size _ rfl⟩
theorem Inv.fresh (I : Inv X pins σ H s) : H s.heap.objs.size = none := I.hok.fresh (Nat.le_refl _)
theorem Inv.lstM (I : Inv X pins σ H s) (hH : H l = some (.lst xs)) : xs.length ≤ sizeLine ∧ ∃ (its : List Value) (n : Nat), Vals xs its ∧ xs.length = its.length ∧ s.heap.get? l = some { cls := .type "list", data := .seq its.toArray n } := by
  obtain ⟨z, its, n, r, e⟩ := I.hok l _ hH
  exact ⟨z, its, n, r, r.length, e⟩

theorem notLongL {n : Nat} (h : n ≤ sizeLine) : Builtin.List.listTooLong n = false := by
  unfold Builtin.List.listTooLong
  exact decide_eq_false (by omega)
end

section
variable {X : Cx}

/-! ### methods -/
def rAppend : V → List V → Hp → VK → Prop := fun x vs H Q => ∃ l xs y, x = .ref l ∧ vs = [y] ∧ H l = some (.lst xs) ∧ xs.length < sizeLine ∧ Q .non (upd H l (.lst (xs ++ [y])))
theorem mt_append : MtM X "list.append" rAppend := by
  intro pins s σ H x vs v us Q I rx rv h
  obtain ⟨l, xs, y, rfl, rfl, hH, hz, q⟩ := h
  cases rx
  obtain ⟨u, rfl, ru⟩ := rv.one
  obtain ⟨z, its, n, r, hl, e⟩ := I.lstM hH
  refine call_meets F.slot_list_append ⟨_, e, rfl⟩ F.entry_list_append (F.args_list_append_2 _ _) (PySem.list_append l its.toArray n u (by rw [List.size_toArray]; omega)) ⟨e, ?_⟩
  refine ⟨.non, _, I.lset (its' := its ++ [u]) hH e (by simp) (r.append (.cons ru .nil)) ?_, rfl, q⟩
  rw [List.length_append, List.length_singleton]
  omega

def rExtend : V → List V → Hp → VK → Prop := fun x vs H Q => ∃ l b xs zs, x = .ref l ∧ vs = [.ref b] ∧ H l = some (.lst xs) ∧ H b = some (.lst zs) ∧ xs.length + zs.length ≤ sizeLine ∧ Q .non (upd H l (.lst (xs ++ zs)))
theorem mt_extend : MtM X "list.extend" rExtend := by
  intro pins s σ H x vs v us Q I rx rv h
  obtain ⟨l, b, xs, zs, rfl, rfl, hH, hB, hz, q⟩ := h
  cases rx
  obtain ⟨u, rfl, ru⟩ := rv.one
  cases ru
  obtain ⟨z, its, n, r, hl, e⟩ := I.lstM hH
  obtain ⟨z2, its2, n2, r2, hl2, e2⟩ := I.lstM hB
  have hsz : its.toArray.size + its2.toArray.size ≤ sizeLine := by rw [List.size_toArray, List.size_toArray]; omega
  have hlong : ¬ (!its.toArray.isEmpty && Builtin.List.listTooLong (its.toArray.size + its2.toArray.size)) = true := by
    rw [notLongL hsz, Bool.and_false]
    exact Bool.false_ne_true
  refine call_meets F.slot_list_extend ⟨_, e, rfl⟩ F.entry_list_extend (F.args_list_extend_2 _ _)
    (AutoSeq1.list_extend_list_list_0 l its.toArray n b its2.toArray n2 hlong (by rw [List.size_toArray]; omega) (by omega)) ⟨e, e2, ?_⟩
  refine ⟨.non, _, I.lset (its' := its ++ its2) hH e (by simp) (r.append r2) ?_, rfl, q⟩
  rw [List.length_append]
  omega





/-! ### list + list, list += list, list * int -/
def rCat : R2 := fun x y H Q => ∃ l b xs zs, x = .ref l ∧ y = .ref b ∧ H l = some (.lst xs) ∧ H b = some (.lst zs) ∧ xs.length + zs.length ≤ sizeLine ∧ ∀ p, H p = none → Q (.ref p) (upd H p (.lst (xs ++ zs)))
theorem op_cat : OpR X (binaryOp .Add) rCat := by
  intro pins s σ H x y v u Q I rx ry h
  obtain ⟨l, b, xs, zs, rfl, rfl, hH, hB, hz, q⟩ := h
  cases rx
  cases ry
  obtain ⟨z, its, n, r, hl, e⟩ := I.lstM hH
  obtain ⟨z2, its2, n2, r2, hl2, e2⟩ := I.lstM hB
  refine PySem.P.add_list e e2 ?_ (by rw [List.size_toArray, List.size_toArray]; omega)
  have ea : its.toArray ++ its2.toArray = (its ++ its2).toArray := by simp
  rw [ea]
  exact ⟨.ref _, _, I.lnew (t' := s.toks) (r.append r2) (by rw [List.length_append]; omega), rfl, q _ I.fresh⟩

/-! ### del xs[i] -/
end

/-! ### xs[a:b] = ys -/
section
variable {prog : Program} {w : World} {A : Around} {E : Value → Shared → Prop} {s : Shared}
set_option maxRecDepth 100000 in
end

section
variable {X : Cx}
end
end L2

namespace Att
open PySem PySem.W PySem.Calls PyProof.Rows

/-! ### the script -/
theorem ints_of_wellAll {P : Params} {h : Heap} : ∀ (ns : List Int) (vs : List Value), WellAll P h vs (ns.map WData.int) → IntsAre vs ns := by
  intro ns
  induction ns with
  | nil =>
    intro vs w
    rw [List.map_nil] at w
    cases w
    exact .nil
  | cons n ns ih =>
    intro vs w
    rw [List.map_cons] at w
    cases w with
    | cons a b =>
      cases a
      exact .cons _ _ (ih _ b)

theorem script_of {l : OpenLaw} {n : Nat} (hn : l.most = some n) {P : Params} {h : Heap} {args : List WData} {vals : List Value}
    (hpre : l.row.toRowW.claim.pre args = true) (hwl : WellAll P h vals args) :
    ∃ a vs ns, vals = [Value.ref a] ∧ args = [WData.list (ns.map WData.int)] ∧ h.get? a = some { cls := .type "list", data := .seq vs.toArray } ∧ IntsAre vs ns ∧ ns.length ≤ n := by
  have hsh : WShape.hasAll [] args [.list .int] = true := (pre_splitW hpre).1
  have hc : l.pre.holds [] { args := args } = true := (pre_splitW hpre).2
  obtain ⟨d, r, rfl, h1, h2⟩ := hasAllW_cons hsh
  obtain rfl := hasAllW_nil h2
  obtain ⟨xs, rfl, h3⟩ := hasW_list h1
  obtain ⟨ns, rfl⟩ := items_int h3
  have hlen : ns.length ≤ n := by
    unfold OpenLaw.pre at hc
    have h4 : (WTm.not (.lt (.lit (.int (n : Int))) (.len (.arg 0)))).holds [] { args := [.list (ns.map .int)] } = true := by
      have h4 := (holds_andW hc).1
      rw [hn] at h4
      exact h4
    have h5 := condW_of h4 (w_not (w_lt w_lit (w_len_list (w_arg rfl))))
    rw [List.length_map] at h5
    refine Nat.le_of_not_lt fun q => ?_
    have q' : (n : Int) < ((ns.length : Nat) : Int) := by omega
    first
      | (rw [decide_eq_true q'] at h5; exact absurd h5 (by decide))
      | (simp at h5; omega)
  cases hwl with
  | cons w1 w2 =>
    cases w2
    cases w1 with
    | list ho hall => exact ⟨_, _, ns, rfl, rfl, ho, ints_of_wellAll ns _ hall, hlen⟩

theorem post_true (l : OpenLaw) (args : List WData) : l.row.toRowW.claim.post args (.bool true) args = true :=
  postW_of (r := l.row.toRowW) (X := (true == true))
    (show WShape.has [] (.bool true) .bool = true by first | rfl | decide | simp [WShape.has, WShape.arms, WShape.armsAll])
    (show (WTm.eq .res (.lit (.bool true))).value [] { args := args, res := some (.bool true), after := args } = some (.bool (true == true)) from w_eq_bool (w_res rfl) w_lit) rfl

/-! ### the attachment: holds_open's last premise (the goal 'hc' behind k_head) from a wpAny of the law's body -/



/-! ### rules over ANY heap (no ledger) from facts about the written part K: the library's own take a ledger (News) for what they write -/
section
variable {prog : Program} {w : World} {A : Around} {E : Value → Shared → Prop} {s : Shared} {K : Frag}





/-! the whole heap as the ledger: makes every rule that writes through a ledger a rule over any heap -/

end
end Att

namespace L2
open PySem PySem.Spec PyProof.Rows

theorem vals_ints : ∀ {vs : List Value} {ns : List Int}, IntsAre vs ns → Vals (ns.map V.int) vs
  | _, _, .nil => .nil
  | _, _, .cons n t h => .cons ⟨t, rfl⟩ (vals_ints h)

/-- nothing is tracked but the script, known to the object (or it is an object of the module) -/
def Only (H : Hp) : Prop := ∀ b, H b = none ∨ ∃ o xs, H b = some (.frz o (.lst xs))

/-- THE HEAD: the law's promise, at the heap behind the top. F, the promise of the law's def, may use that base is part of the heap (so K.In base, base.Ns mainGlobals mg stand in Mod) -/
theorem law_call {P : Program} {w : World} {K : PySem.W.Frag} {mg mb : Str → Option Value} {CX : CXT} {k : Nat} {fa a : Addr} {fd : FuncData} {x : Str} {sp : Sp} {s₁ : Shared} {vs : List Value} {ns : List Int}
    (KX : K.In s₁.heap) (hns : s₁.heap.Ns mainGlobals mg) (hb : s₁.heap.Ns builtinsNs mb) (hbb : ∀ x : Str, x ≠ "__name__" → mb x = bootBuiltins x) (hlim : s₁.heap.NoLimit) (hg : s₁.gens = #[])
    (ha : s₁.heap.get? a = some { cls := .type "list", data := .seq vs.toArray }) (hi : IntsAre vs ns) (hl : ns.length ≤ sizeLine) (hr : Room k callerA)
    (F : ∀ base : Heap, K.In base → base.Ns mainGlobals mg → FnOk P w K mg base CX k fa fd [x] sp) (hbind : ∀ (s : Shared) (u : Value), BindsTo s fd ⟨[u], []⟩ [(x, u)])
    (hsp : ∀ H : Hp, Only H → SqL K H a (ns.map V.int) → sp [.ref a] H (fun v _ => v = .bl true) fun _ _ _ => False)
    (hCX : ∀ H e s', CX [] H s₁ (fun _ _ _ => False) e s' → False) :
    codeAny (model P w) callerA (.call (.ref fa) ⟨[.ref a], []⟩) (fun r s' => r = .ok (.ret (.bool true)) ∧ OldK s₁.heap s'.heap ∧ s'.os = s₁.os ∧ AllBare s'.gens) s₁ := by
  have rv := vals_ints hi
  have lenV := hi.length
  -- from an abstract heap in which nothing but the script may be tracked
  have core : ∀ H : Hp, Only H → SqL K H a (ns.map V.int) → HOk P w H s₁.heap → (∀ b, H b ≠ none → b = a) → (H a ≠ none → K.lookup a = none) →
      codeAny (model P w) callerA (.call (.ref fa) ⟨[.ref a], []⟩) (fun r s' => r = .ok (.ret (.bool true)) ∧ OldK s₁.heap s'.heap ∧ s'.os = s₁.os ∧ AllBare s'.gens) s₁ := by
    intro H hO hS hok hA hK
    have base_of : ∀ {b : Addr} {o : Obj}, s₁.heap.get? b = some o → H b = none → (hidT s₁.heap H).get? b = some o := fun e n => hidT_get e n
    have noA : ∀ {b : Addr} {o : Obj} {es : Array DictEntry} {ep : Nat}, s₁.heap.get? b = some o → o.data = .dict es ep → H b = none := fun {b o es ep} e d => by
      cases q : H b with
      | none => rfl
      | some u =>
        have e' : b = a := hA b (by rw [q]; simp)
        subst e'
        rw [ha] at e; cases e
        have d' : Data.seq vs.toArray _ = Data.dict es ep := d
        cases d'
    have nsK : ∀ {b : Addr} {m : Str → Option Value}, s₁.heap.Ns b m → (hidT s₁.heap H).Ns b m := fun {b m} ⟨o, es, ep, e, d, r⟩ => ⟨o, es, ep, base_of e (noA e d), d, r⟩
    have hKb : K.In (hidT s₁.heap H) := fun b o e => base_of (KX b o e) (by
      cases q : H b with
      | none => rfl
      | some u =>
        have e' : b = a := hA b (by rw [q]; simp)
        subst e'
        rw [hK (by rw [q]; simp)] at e; cases e)
    have hM : Mod K mg (hidT s₁.heap H) := ⟨hKb, nsK hns, ⟨mb, nsK hb, hbb⟩, let ⟨mc, h1, h2⟩ := hlim; ⟨mc, nsK h1, h2⟩⟩
    have e0 : Env0 P w K mg (hidT s₁.heap H) callerA [] s₁ H := ⟨rfl, hM, fun b o e => of_hidT e, Nat.le_of_eq (hidT_size _ _), trivial, fun b hb => absurd (show b ∈ ([] : List Addr) from hb) (by simp), hok, .of_eq hg⟩
    refine codeAny_mono ((F _ hKb (nsK hns)).run callerA [] s₁ H ⟨[.ref a], []⟩ [.ref a] [.ref a] _ _ hr e0 (hbind s₁ (.ref a)) (.cons rfl .nil) (hsp H hO hS)) fun r s' h => ?_
    cases r with
    | error e => exact (hCX H e s' h).elim
    | ok fl =>
      cases fl with
      | next => exact False.elim h
      | brk => exact False.elim h
      | cont => exact False.elim h
      | ret u =>
        obtain ⟨v, H', os, bare, un, hok', r', q⟩ := h
        have q' : v = .bl true := q
        subst q'
        obtain rfl : u = Value.bool true := r'
        refine ⟨rfl, OldK.of_keep fun b o e => ?_, os, bare⟩
        cases q : H b with
        | none => exact un.keep b o e q (by intro z; exact absurd (show b ∈ ([] : List Addr) from z) (by simp)) (by simp)
        | some u =>
          rcases hO b with z | ⟨ob, xs, z⟩
          · rw [q] at z; cases z
          · have z2 := un.frzs b ob _ z
            obtain ⟨e1, _⟩ := hok b _ z
            obtain ⟨e2, _⟩ := hok' b _ z2
            rw [e] at e1; cases e1
            exact e2
  cases hk : K.lookup a with
  | some o =>
    -- the script is one of the module's own objects
    have e := KX a o hk
    rw [ha] at e
    cases e
    refine core (fun _ => none) (fun _ => .inl rfl) (.inr ⟨_, vs.toArray, _, hk, rfl, rfl, rfl, by rw [List.size_toArray, lenV]; exact hl, by simpa using rv⟩) (fun b u z => by have z' : (none : Option HO) = some u := z; cases z') (fun b z => absurd rfl z) fun z => absurd rfl z
  | none =>
    refine core (fun b => if b = a then some (.frz { cls := .type "list", data := .seq vs.toArray } (.lst (ns.map V.int))) else none) (fun b => ?_) (.inl (.inr ⟨{ cls := .type "list", data := .seq vs.toArray }, if_pos rfl⟩)) (fun b u z => ?_) (fun b z => ?_) fun _ => hk
    · by_cases hb : b = a
      · exact .inr ⟨_, _, if_pos hb⟩
      · exact .inl (if_neg hb)
    · by_cases hb : b = a
      · have z' := (if_pos hb).symm.trans z
        cases z'
        subst hb
        exact ⟨ha, by rw [List.length_map]; exact hl, vs, _, rv, ha⟩
      · have z' := (if_neg hb).symm.trans z
        cases z'
    · by_cases hb : b = a
      · exact hb
      · exact absurd (if_neg hb) z
end L2

namespace L2
open PySem PySem.Spec PyProof.Rows

abbrev KOf {K : PySem.W.Frag} {h : Heap} (_ : K.In h) : PySem.W.Frag := K

end L2

/- THE LAST THEOREM (shape; LID, My.* are yours):
   My.Adr: a structure of the addresses that your layer names (classes, functions); My.Txt K t: a structure (Prop) of the equations over K;
   My.txt_mk : {K} {implicit addresses ..} (e1 : nsIn K mainGlobals "law" = some (some (.ref f))) (e2 : K.lookup f = some ⟨oc, od, .func (fnOf "law" "law" params body scope dV kV doc pm an cdv ct), sl⟩) (e3 : codeIn K cdv "law" = true) .. : ∃ t, My.Txt K t

set_option maxRecDepth 100000 in
set_option maxHeartbeats 0 in
theorem PySem.Challenge.cw_LID_holds : PySem.Challenge.rw_LID.Holds := by
  w_on; o_law; k_head; (case hw => w_witness2)
  k_fill
  refine L2.walk_of (l := PySem.Challenge.rw_LID) (n := 63) (k := 40) (x := "script") (CX := fun w => ..) (sp := fun _ => My.sp_law) rfl (by decide) rfl ⟨rfl, by decide, by decide⟩ (fun w h Y => PySem.W.kIn_of Y) ?F ?S ?C
  case F =>
    intro w mg fa h KX G hmg
    have T : ∃ t, My.Txt (L2.KOf KX) t := by
      dsimp only [L2.KOf]                          -- K must stand as «<heap const> w.params» for k_is
      refine' My.txt_mk ?e1 ?e2 ?e3 ..
      (case e1 => PySem.W.k_is)                    -- in the order: a name -> its address -> its object -> its parts
      (case e2 => PySem.W.k_is)
      ..
    obtain ⟨t, T⟩ := T
    have e0 := hmg.symm.trans (PySem.W.mg_of KX G T.law)
    cases e0                                       -- fa is the law's own address
    exact ⟨_, fun s u => .of_eq rfl, fun base kb nb => My.law_fn T kb nb⟩     -- if «.of_eq rfl» comes too early: refine' ⟨_, ?b, fun base kb nb => My.law_fn T kb nb⟩; exact fun s u => .of_eq rfl
  case S => exact fun w H a ns hl hO hS => ..
  case C => exact ..
(the tactic k_is has no namespace: write k_is) -/

/-! SHORT WORDS over the layer: a def of the text, its body, what a loop and a test want. -/
namespace L2
open PySem PySem.Spec PyProof.Rows

/-! ### the text by places -/
/-- the j-th statement of a class's body -/
def inClass (s : Stmt) (j : Nat) : Stmt := match s with
  | .ClassDef _ _ _ body _ _ _ _ _ _ _ => body.getD j (.Pass ⟨0, 0, 0, 0⟩)
  | _ => .Pass ⟨0, 0, 0, 0⟩
def defArgs (s : Stmt) : Arguments := match s with
  | .FunctionDef _ a _ _ _ _ _ _ _ _ => a
  | _ => { posonlyargs := [], args := [], vararg := none, kwonlyargs := [], kw_defaults := [], kwarg := none, defaults := [] }
def defBody (s : Stmt) : List Stmt := match s with
  | .FunctionDef _ _ b _ _ _ _ _ _ _ => b
  | _ => []
def defScope (s : Stmt) : Scope := match s with
  | .FunctionDef _ _ _ _ _ _ sc _ _ _ => sc
  | _ => { kind := .function, names := [], isGenerator := false, isCoroutine := false }

/-! ### no exception leaves a def -/
abbrev CX0 : CXT := fun _ _ _ _ _ _ => False
abbrev E0 : XK := fun _ _ _ => False
theorem pass0 {X : Cx} : Passes CX0 X E0 := fun _ _ _ _ _ _ _ h => h.elim

/-! ### a def (or method) of the text as it stands behind the top -/
structure Fun (K : PySem.W.Frag) (x qual : Str) (st : Stmt) (f : Addr) (fd : FuncData) : Prop where
  ex : ∃ (oc : Value) (od : Option Addr) (kV doc pm : Value) (an : Option Addr) (cdv ct : Value) (osl : Array (Option Value)),
    fd = PySem.W.fnOf x qual (defArgs st) (defBody st) (defScope st) .none kV doc pm an cdv ct ∧ K.lookup f = some ⟨oc, od, .func fd, osl⟩ ∧ PySem.W.codeIn K cdv qual = true
  kp : PySem.W.keepIn K (.ref f) = true
section
variable {P : Program} {w : World} {K : PySem.W.Frag} {mg : Str → Option Value} {base : Heap}
/-- THE RULE for a def: its body as a term of rules, and the reading of that term -/
theorem Fun.ok {x qual : Str} {st : Stmt} {f : Addr} {fd : FuncData} {N ps : List Str} {k : Nat} {sp : Sp} (F : Fun K x qual st f fd) (S : FnScope N ps (defScope st)) (len : ∀ vs H Q E, sp vs H Q E → vs.length = ps.length)
    (hbody : ∀ (cdv : Value) (A : Around) (outer : List Env) (s : Shared) (H : Hp) (vs : List V) (Q : VK) (E : XK), Room k (A.deeper (envOfC qual (defScope st) s.heap.objs.size f cdv)) → sp vs H Q E →
      ∃ t, PSs (cxOf CX0 P w K mg base N qual (defScope st) f cdv A outer s H E).nox (defBody st) t ∧ t { nx := fun _ H' => Q .non H', rt := Q } (start N vs) H) : FnOk P w K mg base CX0 (k + 1) f fd ps sp := by
  obtain ⟨oc, od, kV, doc, pm, an, cdv, ct, osl, rfl, lk, hcd⟩ := F.ex
  refine fn_of lk hcd S len fun A outer s H vs Q E hr hsp => ?_
  obtain ⟨t, h, q⟩ := hbody cdv A outer s H vs Q E hr hsp
  exact ⟨t, h.nox, q⟩
/-- how its arguments bind (no defaults): h is «fun _ _ _ _ _ _ us hl => match us, hl with | [_, _], _ => rfl», one _ a parameter -/
theorem Fun.binds {x qual : Str} {st : Stmt} {f : Addr} {fd : FuncData} {ps : List Str} (F : Fun K x qual st f fd)
    (h : ∀ (kV doc pm : Value) (an : Option Addr) (cdv ct : Value) (us : List Value), us.length = ps.length → bindArgs (PySem.W.fnOf x qual (defArgs st) (defBody st) (defScope st) .none kV doc pm an cdv ct) ⟨us, []⟩ = pure (ps.zip us)) : Binds K fd ps [] := by
  obtain ⟨oc, od, kV, doc, pm, an, cdv, ct, osl, rfl, lk, hcd⟩ := F.ex
  exact .all (h kV doc pm an cdv ct)
theorem fun_mk {x qual : Str} {st : Stmt} {f : Addr} {oc : Value} {od an : Option Addr} {osl : Array (Option Value)} {kV doc pm cdv ct : Value} (l : K.lookup f = some ⟨oc, od, .func (PySem.W.fnOf x qual (defArgs st) (defBody st) (defScope st) .none kV doc pm an cdv ct), osl⟩)
    (c : PySem.W.codeIn K cdv qual = true) (k : PySem.W.keepIn K (.ref f) = true) : Fun K x qual st f (PySem.W.fnOf x qual (defArgs st) (defBody st) (defScope st) .none kV doc pm an cdv ct) := ⟨⟨oc, od, kV, doc, pm, an, cdv, ct, osl, rfl, l, c⟩, k⟩
end

/-! ### expressions in short: the name that stands in the i-th slot -/
section
variable {X : Cx}
theorem pv (i : Nat) {x : Str} {pos : Pos} (hN : X.N[i]? = some x := by rfl) (hv : Vis X.env.scope x := by first | exact Or.inl rfl | exact Or.inr (Or.inl rfl) | exact Or.inr (Or.inr rfl)) (hd : (x == ("__debug__" : Str)) = false := by decide)
    (hcd : (x == ("__classdict__" : Str)) = false := by decide) : PE X (.Name x pos) (tVar i) := pe_var hN hv hd hcd
end

/-! ### tests -/
theorem iteF {A B : Prop} (h : B) : if false = true then A else B := by
  rw [if_neg Bool.false_ne_true]
  exact h
theorem iteT {A B : Prop} (h : A) : if true = true then A else B := by
  rw [if_pos rfl]
  exact h
theorem ite2 {c A B : Prop} [Decidable c] (h1 : c → A) (h2 : ¬ c → B) : if c then A else B := by
  by_cases h : c
  · rw [if_pos h]
    exact h1 h
  · rw [if_neg h]
    exact h2 h
theorem iteNS {c A B : Prop} [Decidable c] (hc : c) (h : B) : if (!decide c) = true then A else B := by
  rw [decide_eq_true hc]
  exact iteF h

/-! ### heaps -/
/-- all that was tracked is as it was -/
def Same (H H' : Hp) : Prop := ∀ b o, H b = some o → H' b = some o
theorem Same.refl (H : Hp) : Same H H := fun _ _ h => h
theorem Same.trans {H H1 H2 : Hp} (a : Same H H1) (b : Same H1 H2) : Same H H2 := fun c o h => b c o (a c o h)
theorem Same.free {H H' : Hp} (e : Same H H') {l : Addr} (h : H' l = Option.none) : H l = Option.none := by
  cases q : H l with
  | none => rfl
  | some o =>
    rw [e l o q] at h
    cases h

end L2

set_option Elab.async false
set_option linter.all false
set_option maxRecDepth 100000
set_option maxHeartbeats 4000000
namespace L2
open PySem PySem.Spec PyProof.Rows

/-! ### a list comprehension: its block as a context of its own -/
/-- the context of the block: s, H the state behind the new list; fp the iterator's records -/
def cxComp (X : Cx) (scope : Scope) (cl : List (Str × Addr)) (N : List Str) (s : Shared) (H : Hp) (fp : List Addr) : Cx :=
  { prog := X.prog, w := X.w, K := X.K, mg := X.mg, base := X.base, A := X.A, N := N, s₀ := s, H₀ := H, env := compEnvC scope cl s.heap.objs.size X.env,
    outer := X.stack, stack := X.stack, ex := fp, fn := fun _ => false, calm := X.calm, pn := [], xe := fun _ _ => False }
/-- the names that the block sees: its own one, then those of the def at the places js -/
def cNames (X : Cx) (x : Str) (js : List Nat) : List Str := x :: js.map fun j => X.N.getD j ""
def cVals (js : List Nat) (σ : St) : St := js.map fun j => (σ[j]?).getD none
/-- each place holds a name that is a cell of the def's and free in the block -/
structure FreeAt (X : Cx) (scope : Scope) (js : List Nat) : Prop where
  all : ∀ j ∈ js, ∃ y, X.N[j]? = some y ∧ (X.env.kindOf y = some .cell ∨ X.env.kindOf y = some .free) ∧ (y, NameKind.free) ∈ scope.names ∧
    ((relabel scope X.env).names.lookup y = some .cell ∨ (relabel scope X.env).names.lookup y = some .free)
theorem fa_nil {X : Cx} {scope : Scope} : FreeAt X scope [] := ⟨fun _ h => nomatch h⟩
theorem fa_cons {X : Cx} {scope : Scope} {j : Nat} {js : List Nat} {y : Str} (h1 : X.N[j]? = some y) (h2 : X.env.kindOf y = some .cell ∨ X.env.kindOf y = some .free) (h3 : (y, NameKind.free) ∈ scope.names)
    (h4 : (relabel scope X.env).names.lookup y = some .cell ∨ (relabel scope X.env).names.lookup y = some .free) (r : FreeAt X scope js) : FreeAt X scope (j :: js) :=
  ⟨fun k hk => by
    rcases List.mem_cons.mp hk with e | e
    · subst e; exact ⟨y, h1, h2, h3, h4⟩
    · exact r.all k e⟩

theorem lookup_relabel {env : Env} : ∀ {names : List (Str × NameKind)} {y : Str} {k : NameKind},
    (names.map fun (n, k) => if (k == NameKind.free && env.scope.kind == .function && env.kindOf n == some .cell) then (n, NameKind.cell) else (n, k)).lookup y = some k →
    ∃ k', (y, k') ∈ names ∧ (k' = k ∨ (k = .cell ∧ k' = .free))
  | [], _, _, h => by simp at h
  | (n, k0) :: r, y, k, h => by
    by_cases hc : (k0 == NameKind.free && env.scope.kind == .function && env.kindOf n == some .cell) = true
    · rw [List.map_cons] at h
      dsimp only at h
      rw [if_pos hc] at h
      simp only [List.lookup_cons] at h
      have hf : k0 = .free := by
        rw [Bool.and_eq_true, Bool.and_eq_true] at hc
        exact beq_iff_eq.mp hc.1.1
      cases hx : y == n with
      | true =>
        rw [hx] at h
        have e := beq_iff_eq.mp hx
        subst e
        have e2 := Option.some.inj h
        exact ⟨k0, List.mem_cons_self, .inr ⟨e2.symm, hf⟩⟩
      | false =>
        rw [hx] at h
        obtain ⟨k', m, q⟩ := lookup_relabel h
        exact ⟨k', List.mem_cons_of_mem _ m, q⟩
    · rw [List.map_cons] at h
      dsimp only at h
      rw [if_neg hc] at h
      simp only [List.lookup_cons] at h
      cases hx : y == n with
      | true =>
        rw [hx] at h
        have e := beq_iff_eq.mp hx
        subst e
        have e2 := Option.some.inj h
        exact ⟨k0, List.mem_cons_self, .inl e2⟩
      | false =>
        rw [hx] at h
        obtain ⟨k', m, q⟩ := lookup_relabel h
        exact ⟨k', List.mem_cons_of_mem _ m, q⟩

section
variable {X : Cx} {pins : List (Addr × Obj)} {σ : St} {H : Hp} {s : Shared} {scope : Scope} {cl : List (Str × Addr)} {x : Str} {js : List Nat} {fp : List Addr}

theorem comp_ok (I : Inv X pins σ H s) (hk : scope.kind = .function) (hcell : ∀ y ∈ scope.names, y.2 ≠ .cell)
    (hcl1 : ∀ y c, cl.lookup y = some c → X.env.cells.lookup y = some c) (hcl2 : ∀ y, (y, NameKind.free) ∈ scope.names → ∃ c, cl.lookup y = some c)
    (hf : ∀ b ∈ fp, FpOk X pins H b) (hlt : ∀ b ∈ fp, b < s.heap.objs.size) : (cxComp X scope cl (cNames X x js) s H fp).Ok where
  mod := I.ok.mod
  kind := hk
  glob := I.ok.glob
  blt := I.ok.blt
  above := Nat.le_refl _
  inj := fun y z c h1 h2 => I.ok.inj y z c (hcl1 y c h1) (hcl1 z c h2)
  has := fun y hy => by
    have hy' : (relabel scope X.env).names.lookup y = some .cell ∨ (relabel scope X.env).names.lookup y = some .free := hy
    rcases hy' with h | h
    · obtain ⟨k', m, q⟩ := lookup_relabel h
      rcases q with q | ⟨_, q⟩
      · exact absurd q (hcell _ m)
      · subst q; exact hcl2 y m
    · obtain ⟨k', m, q⟩ := lookup_relabel h
      rcases q with q | ⟨q, _⟩
      · subst q; exact hcl2 y m
      · cases q
  cab := fun y c h _ => by cases h
  hd := I.ok.hd
  frames := I.ok.frames
  stk := .inl rfl
  exf := fun b hb => ⟨Nat.ne_of_lt (hlt b hb), fun y c h => (hf b hb).2.2.2.2.1 y c (hcl1 y c h)⟩
  bs := I.bs
  bsz := Nat.le_trans I.ok.bsz I.sz
  noex := fun b o e hb => by
    rcases (hf b hb).2.2.2.1 with z | z
    · exact I.ok.noex b o e z
    · exact absurd (Nat.lt_of_lt_of_le (Heap.lt_size e) (Nat.le_trans I.ok.bsz z)) (Nat.lt_irrefl _)
  exfs := fun b hb hz => (List.mem_cons.mp (I.stkSub b hz)).elim (hf b hb).2.1 (hf b hb).2.2.1
  funs := I.stack
  frf := I.stkFree

theorem comp_start {h₁ : Heap} {tk : Nat} (I : Inv X pins σ H s) (hk : scope.kind = .function) (hcell : ∀ y ∈ scope.names, y.2 ≠ .cell)
    (hcl1 : ∀ y c, cl.lookup y = some c → X.env.cells.lookup y = some c) (hcl2 : ∀ y, (y, NameKind.free) ∈ scope.names → ∃ c, cl.lookup y = some c) (hjs : FreeAt X scope js)
    (hf : ∀ b ∈ fp, FpOk X pins H b) (hlt : ∀ b ∈ fp, b < s.heap.objs.size) {m : Str → Option Value} (hn : h₁.Ns s.heap.objs.size m) (hkeep : ∀ b o, s.heap.get? b = some o → h₁.get? b = some o) :
    Inv (cxComp X scope cl (cNames X x js) s H fp) [] (none :: cVals js σ) H { s with heap := h₁, toks := tk } where
  ok := comp_ok I hk hcell hcl1 hcl2 hf hlt
  os := rfl
  bare := I.bare
  base := Un.kept hkeep
  loc := by
    refine ⟨m, hn, fun i y v h1 h2 h3 => ?_⟩
    cases i with
    | zero =>
      have z : (some none : Option (Option V)) = some (some v) := h2
      cases z
    | succ k =>
      have h1' : (js.map fun j => X.N.getD j "")[k]? = some y := h1
      have h2' : (js.map fun j => (σ[j]?).getD none)[k]? = some (some v) := h2
      rw [List.getElem?_map] at h1' h2'
      cases hj : js[k]? with
      | none => rw [hj] at h1'; cases h1'
      | some j =>
        rw [hj] at h1' h2'
        have e1 : X.N.getD j "" = y := Option.some.inj h1'
        have e2 : (σ[j]?).getD none = some v := Option.some.inj h2'
        obtain ⟨y', n1, n2, n3, n4⟩ := hjs.all j (List.mem_of_getElem? hj)
        have e3 : y' = y := by rw [← e1, List.getD_eq_getElem?_getD, n1]; rfl
        subst e3
        have e4 : σ[j]? = some (some v) := by
          cases q : σ[j]? with
          | none => rw [q] at e2; cases e2
          | some a => rw [q] at e2; exact congrArg some e2
        obtain ⟨m0, _, hl⟩ := I.loc
        obtain ⟨u, r, l⟩ := hl j y' v n1 e4 (n2.elim (fun z => Or.inr (Or.inl z)) fun z => Or.inr (Or.inr z))
        refine ⟨u, r, .inr ⟨n4, ?_⟩⟩
        rcases l with ⟨l, _⟩ | ⟨_, c, hc, hi⟩
        · exfalso
          rcases n2 with z | z <;> (rw [z] at l; cases l)
        · obtain ⟨c', hc'⟩ := hcl2 y' n3
          have e5 := hcl1 y' c' hc'
          rw [hc] at e5
          have e6 := Option.some.inj e5
          subst e6
          obtain ⟨o, ho, hd⟩ := hi
          exact ⟨c, hc', o, hkeep c o ho, hd⟩
  cell := fun y c h => by
    obtain ⟨v, o, ho, hd⟩ := I.cell y c (hcl1 y c h)
    exact ⟨v, o, hkeep c o ho, hd⟩
  free := I.hok.fresh (Nat.le_refl _)
  freeC := fun y c h => I.freeC y c (hcl1 y c h)
  pin := fun p hp => absurd (show p ∈ ([] : List (Addr × Obj)) from hp) (by simp)
  hok := I.hok.kept hkeep
  len := by
    show (none :: cVals js σ).length = (cNames X x js).length
    simp [cVals, cNames]
end

/-- the tests of a clause -/
def PIf (X : Cx) (ifs : List Expr) (t : TT) : Prop :=
  ∀ (pins : List (Addr × Obj)) (s : Shared) (σ : St) (H : Hp) (Q : Bool → Hp → Prop), Inv X pins σ H s → t σ H Q →
    wpAny (model X.prog X.w) X.A (forIn ifs true fun c r => if r = true then do let ok ← isTrue c X.env (eval c X.env); pure (ForInStep.yield ok) else pure (ForInStep.yield r)) (TP X pins σ Q) X.xe s
def tNoIf : TT := fun _ H Q => Q true H
theorem pif_nil {X : Cx} : PIf X [] tNoIf := fun _ _ _ H _ I h => wpAny_tests_nil ⟨H, I, h⟩

/-- [elt for x in iter if ..]: W an invariant by the turn and a measure; the list grows at D -/
def tComp (wi : TI) (tc : TT) (te : TE) (js : List Nat) : TE := fun σ H Q => wi σ H fun J H1 => ∀ D, H1 D = none →
  ∃ W : Nat → Nat → Hp → Prop, (∃ m, W 0 m (upd H1 D (.lst []))) ∧ ∀ i m H2, W i m H2 → (J.stop i H2 ∧ Q (.ref D) H2) ∨
    (J.go i H2 ∧ ∀ v H3, J.yld i H2 v H3 → tc (some v :: cVals js σ) H3 fun b H4 => if b = true then te (some v :: cVals js σ) H4 fun y H5 =>
      ∃ ys, H5 D = some (.lst ys) ∧ ys.length < sizeLine ∧ ∃ m', m' < m ∧ W (i + 1) m' (upd H5 D (.lst (ys ++ [y]))) else ∃ m', m' < m ∧ W (i + 1) m' H4)

section
variable {X : Cx} {elt iter : Expr} {x : Str} {px pos : Pos} {ifs : List Expr} {scope : Scope} {cl : List (Str × Addr)} {wi : TI} {tc : TT} {te : TE} {js : List Nat}

theorem comp_core {use : Option (Value → Sem Unit)} {Qv : Value → Shared → Prop} {pins : List (Addr × Obj)} {s : Shared} {σ : St} {H : Hp} {Q : VK}
    (hc : X.calm = true) (hi : PI X (.Name x px) iter wi) (hk : scope.kind = .function) (hcell : ∀ y ∈ scope.names, y.2 ≠ .cell) (hx : (relabel scope X.env).names.lookup x = some .local)
    (hcl1 : ∀ y c, cl.lookup y = some c → X.env.cells.lookup y = some c) (hcl2 : ∀ y, (y, NameKind.free) ∈ scope.names → ∃ c, cl.lookup y = some c) (hjs : FreeAt X scope js) (hnd : (cNames X x js).Nodup)
    (ht : ∀ s' H' fp, PIf (cxComp X scope cl (cNames X x js) s' H' fp) ifs tc) (he : ∀ s' H' fp, PE (cxComp X scope cl (cNames X x js) s' H' fp) elt te)
    (I : Inv X pins σ H s) (h : tComp wi tc te js σ H Q)
    (fin : ∀ (D C : Addr) (H' : Hp) (s' : Shared), Inv X pins σ H' s' → FpOk X pins H' C → (∃ m, s'.heap.Ns C m) → Q (.ref D) H' → compPost (model X.prog X.w) X.A X.xe use Qv (.ref D) C (.ok .next) s') :
    wpAny (model X.prog X.w) X.A (eval iter X.env) (fun xv s₁ => wpAny (model X.prog X.w) X.A (pyIter xv) (fun it s₂ => wpAny (model X.prog X.w) X.A (newList []) (fun acc s₃ =>
      wpAny (model X.prog X.w) X.A (newFunctionEnv scope X.env.globals cl [] X.env.qual none .none (some X.env)) (fun cenv s₄ =>
        codeAny (model X.prog X.w) X.A (.compStart (.ListComp elt [⟨.Name x px, iter, ifs, 0⟩] scope pos) 0 it acc { cenv with scope := relabel scope X.env })
          (compPost (model X.prog X.w) X.A X.xe use Qv acc cenv.locals) s₄) X.xe s₃) X.xe s₂) X.xe s₁) X.xe s := by
  refine thn (hi pins s σ H _ I h) fun v s1 h1 => thn h1 fun itv s2 h2 => ?_
  obtain ⟨it, fp, tn, J, H2, e, I2, T, st2, f2, hW⟩ := h2
  subst e
  obtain ⟨W, ⟨m0, w0⟩, turn⟩ := hW s2.heap.objs.size (I2.hok.fresh (Nat.le_refl _))
  have hlt2 : ∀ b ∈ fp, b < s2.heap.objs.size := fun b hb => let ⟨_, e, _⟩ := T.obj _ _ st2 b hb; Heap.lt_size e
  have I3 : Inv X pins σ (upd H2 s2.heap.objs.size (.lst [])) { s2 with heap := s2.heap.push { cls := .type "list", data := .seq ([] : List Value).toArray } } :=
    I2.lnew (t' := s2.toks) (its := []) .nil (Nat.zero_le _)
  refine wpAny_newObj_type ?_
  have k23 : ∀ b o, s2.heap.get? b = some o → (s2.heap.push { cls := .type "list", data := .seq ([] : List Value).toArray }).get? b = some o := fun b o e => Heap.get?_push_of_some _ e
  have sz3 : (s2.heap.push { cls := .type "list", data := .seq ([] : List Value).toArray }).objs.size = s2.heap.objs.size + 1 := Heap.size_push ..
  generalize hs3 : ({ s2 with heap := s2.heap.push { cls := .type "list", data := .seq ([] : List Value).toArray } } : Shared) = s3 at I3
  have hs3' : s3.heap = s2.heap.push { cls := .type "list", data := .seq ([] : List Value).toArray } := by rw [← hs3]
  have hlt3 : ∀ b ∈ fp, b < s3.heap.objs.size := fun b hb => by rw [hs3', sz3]; exact Nat.lt_succ_of_lt (hlt2 b hb)
  have f3 : ∀ b ∈ fp, FpOk X pins (upd H2 s2.heap.objs.size (.lst [])) b := fun b hb => ⟨by rw [upd_ne (Nat.ne_of_lt (hlt2 b hb))]; exact (f2 b hb).1, (f2 b hb).2⟩
  refine wpAny_newFunctionEnv hcell (by intro y hy; simp at hy) (fun h₁ hns hsb => ?_) hk
  have k34 : ∀ b o, s3.heap.get? b = some o → h₁.get? b = some o := fun b o e => hsb.extBut b o (Nat.ne_of_lt (Heap.lt_size e)) (Heap.get?_push_of_some _ e)
  have I4 := comp_start (x := x) (js := js) (tk := s3.toks + ([] : List (Str × Value)).length) I3 hk hcell hcl1 hcl2 hjs f3 hlt3 hns k34
  have st4 : tn 0 h₁ := T.keep 0 _ _ st2 fun b hb o e => k34 b o (by rw [hs3']; exact k23 b o e)
  -- the iterator's records stay what they are
  have stat : ∀ {H' : Hp}, (∀ b ∈ fp, H' b = none) → ∀ b ∈ fp, FpOk (cxComp X scope cl (cNames X x js) s3 (upd H2 s2.heap.objs.size (.lst [])) fp) [] H' b := fun hn b hb =>
    ⟨hn b hb, Nat.ne_of_lt (hlt3 b hb), fun hz => (List.mem_cons.mp (I3.stkSub b hz)).elim (f2 b hb).2.1 (f2 b hb).2.2.1, .inl hb, fun y c q => (f2 b hb).2.2.2.2.1 y c (hcl1 y c q), fun p hp => absurd (show p ∈ ([] : List (Addr × Obj)) from hp) (by simp)⟩
  have back : ∀ {σ' : St} {H' : Hp} {s' : Shared}, Inv (cxComp X scope cl (cNames X x js) s3 (upd H2 s2.heap.objs.size (.lst [])) fp) [] σ' H' s' → Inv X pins σ H' s' := fun {σ' H' s'} J' =>
    I3.call' (ch := fp) J'.os J'.base J'.hok J'.bare fun b hb => ⟨(f2 b hb).2.2.2.1, (f2 b hb).2.1, (f2 b hb).2.2.2.2.1, (f2 b hb).2.2.2.2.2⟩
  have loop : codeAny (model X.prog X.w) X.A (.compLoop (.ListComp elt [⟨.Name x px, iter, ifs, 0⟩] scope pos) 0 (.ref it) (.ref s2.heap.objs.size) (compEnvC scope cl s3.heap.objs.size X.env))
      (compPost (model X.prog X.w) X.A X.xe use Qv (.ref s2.heap.objs.size) s3.heap.objs.size) { s3 with heap := h₁, toks := s3.toks + ([] : List (Str × Value)).length } := by
    refine codeAny_compLoop_tests (fun n s' => ∃ i o H', Inv (cxComp X scope cl (cNames X x js) s3 (upd H2 s2.heap.objs.size (.lst [])) fp) [] (o :: cVals js σ) H' s' ∧ tn i s'.heap ∧ (∀ b ∈ fp, H' b = none) ∧ W i n H') ?_ m0
      ⟨0, none, _, I4, st4, fun b hb => (f3 b hb).1, w0⟩
    rintro n s5 ⟨i, o, H5, I5, st5, fr5, w5⟩
    rcases turn i n H5 w5 with ⟨stop, q⟩ | ⟨go, step⟩
    · refine thn (T.done (cxComp X scope cl (cNames X x js) s3 (upd H2 s2.heap.objs.size (.lst [])) fp) rfl rfl rfl hc i [] s5 _ H5 _ I5 (stat fr5) st5 stop) fun r s6 ⟨hr, I6⟩ => ?_
      subst hr
      exact fin _ _ H5 s6 (back I6) (I3.fpOk (Nat.le_refl _) I6.free) (let ⟨m, hm, _⟩ := I6.loc; ⟨m, hm⟩) q
    · refine thn (T.item (cxComp X scope cl (cNames X x js) s3 (upd H2 s2.heap.objs.size (.lst [])) fp) rfl rfl rfl hc i [] s5 _ H5 _ I5 (stat fr5) st5 go) fun r s6 ⟨u, hr, h6⟩ => ?_
      subst hr
      show wpAny _ _ (assign (.Name x px) _ u) _ _ s6
      intro Γ p hΓ
      have h6' := h6 Γ p hΓ
      obtain ⟨v, H6, I6, r6, y6, st6, fr6⟩ := h6'
      refine (?_ : wpAny _ _ _ _ _ s6) Γ p hΓ
      have I6' := I6.pinned (stat fr6) (T.obj _ _ st6)
      have hg : PG (cxComp X scope cl (cNames X x js) s3 (upd H2 s2.heap.objs.size (.lst [])) fp) (.Name x px) (gName 0) := pg_name (i := 0) hnd rfl (Or.inl hx) (.inr hx)
      refine wpAny_mono (hg _ s6 _ H6 v u (fun σ' H' => σ' = some v :: cVals js σ ∧ H' = H6) I6' r6 ⟨rfl, rfl⟩) (fun _ s7 q7 => ?_) (fun _ _ f => False.elim f)
      obtain ⟨σ7, H7, I7, e7, e8⟩ := q7
      subst e7 e8
      refine wpAny_mono (ht s3 _ fp _ s7 _ H7 _ I7 (step v H7 y6)) (fun ok s8 q8 => ?_) (fun _ _ f => False.elim f)
      obtain ⟨H8, I8, q8⟩ := q8
      have again : ∀ {s9 : Shared} {σ9 : St} {H9 : Hp} {m' : Nat}, Inv (cxComp X scope cl (cNames X x js) s3 (upd H2 s2.heap.objs.size (.lst [])) fp) ([] ++ pinsAt fp s6.heap) (some v :: cVals js σ) H9 s9 → m' < n → W (i + 1) m' H9 →
          ∃ m, m < n ∧ ∃ i o H', Inv (cxComp X scope cl (cNames X x js) s3 (upd H2 s2.heap.objs.size (.lst [])) fp) [] (o :: cVals js σ) H' s9 ∧ tn i s9.heap ∧ (∀ b ∈ fp, H' b = none) ∧ W i m H' := fun {s9 σ9 H9 m'} I9 hm w9 => by
        refine ⟨m', hm, i + 1, some v, H9, I9.unpinned, T.keep _ _ _ st6 fun b hb o e => (I9.pin (b, o) (List.mem_append_right _ (List.mem_append_right _ (mem_pinsAt hb e)))).1, fun b hb => ?_, w9⟩
        obtain ⟨o, e, d⟩ := T.obj _ _ st6 b hb
        exact (I9.pin (b, o) (List.mem_append_right _ (List.mem_append_right _ (mem_pinsAt hb e)))).2.1
      cases ok with
      | false =>
        rw [if_neg Bool.false_ne_true] at q8 ⊢
        obtain ⟨m', hm, w9⟩ := q8
        exact again (σ9 := []) I8 hm w9
      | true =>
        rw [if_pos rfl] at q8 ⊢
        refine wpAny_mono (he s3 _ fp _ s8 _ H8 _ I8 q8) (fun y s9 q9 => ?_) (fun _ _ f => False.elim f)
        obtain ⟨yv, H9, I9, r9, ys, hD, hl, m', hm, w9⟩ := q9
        refine wpAny_mono (mt_append (X := cxComp X scope cl (cNames X x js) s3 (upd H2 s2.heap.objs.size (.lst [])) fp) _ s9 _ H9 (.ref s2.heap.objs.size) [yv] (.ref s2.heap.objs.size) [y] (fun _ H' => H' = upd H9 s2.heap.objs.size (.lst (ys ++ [yv]))) I9 rfl (.cons r9 .nil) ⟨_, ys, yv, rfl, rfl, hD, hl, rfl⟩) (fun _ s10 q10 => ?_) (fun _ _ f => False.elim f)
        obtain ⟨_, H10, I10, _, e10⟩ := q10
        subst e10
        exact again (σ9 := []) I10 hm w9
  exact codeAny_compStart_list loop (T.self _ 0 _ _ _ st4 loop)

/-- the comprehension as an expression -/
theorem pe_comp (hc : X.calm = true) (hi : PI X (.Name x px) iter wi) (hk : scope.kind = .function) (hcell : ∀ y ∈ scope.names, y.2 ≠ .cell) (hnames : ∀ y ∈ scope.names, y.2 = .local → scope.names.lookup y.1 = some .local) (hx : (relabel scope X.env).names.lookup x = some .local)
    (hclos : closureFor scope X.env = pure cl) (hcl1 : ∀ y c, cl.lookup y = some c → X.env.cells.lookup y = some c) (hcl2 : ∀ y, (y, NameKind.free) ∈ scope.names → ∃ c, cl.lookup y = some c) (hjs : FreeAt X scope js) (hnd : (cNames X x js).Nodup)
    (ht : ∀ s' H' fp, PIf (cxComp X scope cl (cNames X x js) s' H' fp) ifs tc) (he : ∀ s' H' fp, PE (cxComp X scope cl (cNames X x js) s' H' fp) elt te)
    (hs : ∀ x, foldedSetIterable iter X.env x = pure x := by intro _; rfl) : PE X (.ListComp elt [⟨.Name x px, iter, ifs, 0⟩] scope pos) (tComp wi tc te js) := by
  intro pins s σ H Q I h
  rw [eval_ListComp]
  refine wpAny_comprehension_free (use := none) rfl hs hclos hk hnames (comp_core hc hi hk hcell hx hcl1 hcl2 hjs hnd ht he I h fun D C H' s' I' fC hC q => ?_)
  obtain ⟨m, hm⟩ := hC
  refine ⟨m, hm, fun h' sb => ?_⟩
  obtain ⟨f0, f1, f2, f3, f4, f5⟩ := fC
  exact ⟨.ref D, H', I'.turned (t' := s'.toks) (fun b o hb e => (sb.2 b hb).trans e) f0 f1 f3 f4 f5, rfl, q⟩

end
end L2


set_option Elab.async false
set_option linter.all false
set_option maxRecDepth 100000
set_option maxHeartbeats 4000000
namespace L2
open PySem PySem.Spec PyProof.Rows

/-! ### a def of the text: where it stands, what it promises -/
/-- the def st stands at the top by the name x -/
structure TopDef (K : PySem.W.Frag) (mg : Str → Option Value) (x : Str) (st : Stmt) : Prop where
  ex : ∃ (f : Addr) (fd : FuncData), Fun K x x st f fd ∧ mg x = some (.ref f)
theorem top_mk {K : PySem.W.Frag} {h : Heap} {mg : Str → Option Value} {x : Str} {st : Stmt} {f : Addr} {oc kV doc pm cdv ct : Value} {od an : Option Addr} {osl : Array (Option Value)} (X : K.In h) (G : h.Ns mainGlobals mg)
    (a : PySem.W.nsIn K mainGlobals x = some (some (.ref f)))
    (l : K.lookup f = some ⟨oc, od, .func (PySem.W.fnOf x x (defArgs st) (defBody st) (defScope st) .none kV doc pm an cdv ct), osl⟩)
    (c : PySem.W.codeIn K cdv x = true) (k : PySem.W.keepIn K (.ref f) = true) : TopDef K mg x st :=
  ⟨_, _, fun_mk l c k, PySem.W.mg_of X G a⟩
/-- the def by the name x keeps sp, within n calls of one another -/
structure Def (P : Program) (w : World) (K : PySem.W.Frag) (mg : Str → Option Value) (base : Heap) (n : Nat) (x : Str) (ps : List Str) (sp : Sp) : Prop where
  ex : ∃ (f : Addr) (fd : FuncData), FnOk P w K mg base CX0 n f fd ps sp ∧ Binds K fd ps [] ∧ PySem.W.keepIn K (.ref f) = true ∧ mg x = some (.ref f)
section
variable {P : Program} {w : World} {K : PySem.W.Frag} {mg : Str → Option Value} {base : Heap}
theorem def_of {x : Str} {st : Stmt} {N ps : List Str} {k : Nat} {sp : Sp} (T : TopDef K mg x st) (S : FnScope N ps (defScope st))
    (bd : ∀ (kV doc pm : Value) (an : Option Addr) (cdv ct : Value) (us : List Value), us.length = ps.length → bindArgs (PySem.W.fnOf x x (defArgs st) (defBody st) (defScope st) .none kV doc pm an cdv ct) ⟨us, []⟩ = pure (ps.zip us))
    (len : ∀ vs H Q E, sp vs H Q E → vs.length = ps.length)
    (body : ∀ (f : Addr) (cdv : Value) (A : Around) (outer : List Env) (s : Shared) (H : Hp) (vs : List V) (Q : VK) (E : XK), Room k (A.deeper (envOfC x (defScope st) s.heap.objs.size f cdv)) → sp vs H Q E →
      ∃ t, PSs (cxOf CX0 P w K mg base N x (defScope st) f cdv A outer s H E).nox (defBody st) t ∧ t { nx := fun _ H' => Q .non H', rt := Q } (start N vs) H) :
    Def P w K mg base (k + 1) x ps sp := by
  obtain ⟨f, fd, F, m⟩ := T.ex
  exact ⟨f, fd, F.ok S len (body f), F.binds bd, F.kp, m⟩
end
section
variable {X : Cx} {n : Nat} {x : Str} {ps : List Str} {sp : Sp} {e a b : Expr} {es : List Expr} {t : TA} {ta tb : TE} {p pos : Pos}
/-- f(..) of such a def -/
theorem pe_def (D : Def X.prog X.w X.K X.mg X.base n x ps sp) (hr : Room n X.A) (hg : Gl X x) (ha : PA X (e :: es) t) (hdb : (x == ("__debug__" : Str)) = false := by decide)
    (he : starEach (e :: es) X.env = (false, eval e X.env) :: starEach es X.env := by rfl) (hpl : (backTo pos (starEach es X.env)).any (·.1) = false := by rfl) :
    PE X (.Call (.Name x p) (e :: es) [] pos) (tCall sp [] E0 t) := by
  obtain ⟨f, fd, F, b, kp, m⟩ := D.ex
  exact pe_call F hr hg m kp b .nil pass0 ha hdb he hpl

/-! ### ints of any size -/
theorem op_mulK : OpR X (binaryOp .Mult) (rI IntMulOk fun i j => .int (i * j)) := opI fun _ _ _ _ _ _ _ hc q => PyProof.Rows.mul_int q hc

/-! ### isinstance(x, c) -/
theorem call_isi : CallR X (.builtin "isinstance") (fun xs H Q => ∃ (y : V) (c : V) (cv t : Value) (k : Bool), xs = [y, c] ∧ (∀ u, RelV c u → u = cv) ∧ TyOf X.K H y t ∧ PySem.W.kitOne X.K t cv = some k ∧ Q (.bl k) H) := by
  intro pins s σ H xs us Q I r h
  obtain ⟨y, c, cv, t, k, rfl, hc, ty, kt, q⟩ := h
  obtain ⟨u, w', rfl, r1, r2⟩ := vals2 r
  have e := hc _ r2
  subst e
  exact isinst_ok I r1 ty kt fun tk => ⟨.bl k, H, I.tok tk, rfl, q⟩
/-! ### sep.join(a list of texts) -/
end
end L2


set_option Elab.async false
set_option linter.all false
set_option maxRecDepth 100000
set_option maxHeartbeats 4000000
namespace L2
open PySem PySem.Spec PySem.Calls PyProof.Rows PySem.W PySem.Builtin.Getset_descriptor
/-- what the fragment says of an own class of exceptions, for isinstance -/
structure ExcCls (K : Frag) (D : Addr) : Prop where
  ga : findIn K (.ref D) "__getattribute__" = some (some (.builtin "BaseException.__getattribute__"))
  gt : findIn K (.ref D) "__getattr__" = some none
  cl : ∃ cd, clsIn K D = some cd
  ha : findIn K (.ref D) "__class__" = some (some (.builtin "object.__class__"))
  hn : specialIn K (.builtin "object.__class__") "__get__" = some (some (.builtin "getset_descriptor.__get__"))
  tk : takesIn K (.builtin "object.__class__") = some true
  hb : mroIn K D (.type "BaseException") = some true
  hm : mroIn K D (.type "object") = some true
section
variable {prog : Program} {w : World} {A : Around} {E : Value → Shared → Prop} {s : Shared} {K : Frag} {x D : Addr}
/-- an object of the class D, whatever else is in it -/
def OfCls (x D : Addr) (h : Heap) : Prop := ∃ ox, h.get? x = some ox ∧ ox.cls = .ref D
theorem OfCls.type {M : Model} {h : Heap} (I : OfCls x D h) : Looks M h (typeOf (.ref x)) (.ref D) := by
  obtain ⟨ox, a, b⟩ := I
  exact b ▸ (Looks.ld a).andThen .now
theorem exc_find {M : Model} {h : Heap} (c : ExcCls K D) (X : K.In h) :
    Looks M h (Builtin.ObjectAttr.find (.ref x) (.ref D) "__class__") (.bind (.builtin "getset_descriptor.__get__") (.builtin "object.__class__")) := by
  have l1 := looks_findIn (M := M) X c.ha
  have l2 := looks_specialIn (M := M) X c.hn
  have l3 := looks_takesIn (M := M) X c.tk
  have l4 : Looks M h (Builtin.ObjectAttr.dataDescriptor? (some (.builtin "object.__class__")) (some (.builtin "getset_descriptor.__get__"))) (some (.builtin "getset_descriptor.__get__", .builtin "object.__class__")) := l3.andThen .now
  exact l1.andThen (Looks.andThen (show Looks M h (Builtin.ObjectAttr.getOf (some (.builtin "object.__class__"))) _ from l2) (l4.andThen (Looks.tag .now)))
theorem exc_get {R : Result → Shared → Prop} {tp : Value} (c : ExcCls K D) (X : K.In s.heap) (I : OfCls x D s.heap) (h : R (.ok (.ret (.ref D))) s) :
    codeAny (model prog w) A (.call (.builtin "getset_descriptor.__get__") ⟨[.builtin "object.__class__", .ref x, tp], []⟩) R s := by
  obtain ⟨hh, g, dr, t, os⟩ := s
  have l0 := I.type (M := model prog w)
  have l1 := looks_mroIn (M := model prog w) X c.hm
  refine codeAny_call_builtin (KF.slot_gs).plain KF.entry_gs ?_
  refine (KF.slot_gs).check _ _ _ _ _ _ _ _ KF.type_class (KF.args_gs _ _ _) ?_
  unfold Builtin.«getset_descriptor.__get__» descrGet; rw [dga_obj]
  refine wpAny_bind (wpAny_pure ?_)
  unfold descrGetter descrCheckInstance descrNameAndClass isInstance; simp only [KF.owner_class]
  repeat lk
  refine ⟨Code.quiet_builtin _ (by decide +kernel), codeAny_builtin KF.entry_class ?_⟩; unfold Builtin.«object.__class__» shownTypeOf
  repeat lk
  exact h
theorem exc_class {Q : Option Value → Shared → Prop} (c : ExcCls K D) (X : K.In s.heap) (I : OfCls x D s.heap) (h : Q (some (.ref D)) { s with toks := s.toks + 1 }) :
    wpAny (model prog w) A (getAttr? (.ref x) "__class__") Q E s := by
  obtain ⟨hh, g, d, t, os⟩ := s
  have L0 := I.type (M := model prog w)
  have L1 := looks_findIn (M := model prog w) X c.ga
  have L2 := looks_findIn (M := model prog w) X c.gt
  have LB := looks_mroIn (M := model prog w) X c.hb
  have L3 := exc_find (M := model prog w) (x := x) c X
  unfold getAttr? getAttrBy? getAttrBy
  refine wpAny_bind (wpAny_mkText (wpAny_bind (wpAny_attempt (wpAny_holding (wpAny_bind (L0.at (wpAny_bind (L1.at ?_))))))))
  show wpAny _ _ (getAttrByItsOwn (.ref x) _ (.ref D) (.builtin "BaseException.__getattribute__") false false) _ _ _
  unfold getAttrByItsOwn
  show wpAny _ _ (typeLookup (.ref D) "__getattr__" >>= _) _ _ _
  refine wpAny_bind (L2.at ?_)
  refine wpAny_bind (wpAny_attempt (wpAny_holding ?_))
  show wpAny _ _ (boundAndCalled (.builtin "BaseException.__getattribute__") (.ref x) _) _ _ _
  unfold boundAndCalled
  have FB := (F.attrBase_ValueError).ga
  refine wpAny_bind (wpAny_of_eq (FB.bind (.ref x)) ?_)
  show wpAny _ _ (call (.builtin "BaseException.__getattribute__") [.ref x, _]) _ _ _
  refine wpAny_call (codeAny_call_builtin FB.plain F.entry_bexc_ga ?_)
  have kd : builtinKind "BaseException.__getattribute__" = some .slot := by decide +kernel
  have sp : splitId "BaseException.__getattribute__" = some ("BaseException", "__getattribute__") := by decide +kernel
  have ar := F.args_bexc_ga (.ref x) (.str "__class__" t)
  simp only [checkBuiltinCall, kd, sp]
  unfold isInstance
  refine wpAny_bind (wpAny_bind (L0.at (LB.at ?_)))
  rw [if_neg (by decide)]
  refine wpAny_of_eq ar ?_
  unfold Builtin.«object.__getattribute__»
  refine wpAny_bind (wpAny_pure (wpAny_bind (wpAny_pure (wpAny_bind (L0.at (wpAny_bind (L3.at ?_)))))))
  unfold Builtin.ObjectAttr.bindTo
  refine wpAny_bind (wpAny_holding (wpAny_call (exc_get (s := ⟨hh, g, d, t + 1, os⟩) c X I ?_)))
  refine wpAny_pure ?_
  exact handed_on rfl (wpAny_pure h)
theorem kitx_exc (c : ExcCls K D) : KitX K (.ref x) (.ref D) (OfCls x D) where
  ty := fun _ _ _ I => I.type
  it := fun _ _ X _ => by
    obtain ⟨cd, hcd⟩ := c.cl
    unfold clsIn at hcd
    split at hcd
    · rename_i c' d' cd' sl' ho
      intro A' Q' E' s' k q
      unfold isType loadHead
      exact wpAny_bind (wpAny_loadPart (k _ _ (X _ _ ho)) (wpAny_pure q))
    · cases hcd
  ne := fun h tp dd its n sl X htp => by
    obtain ⟨cd, hcd⟩ := c.cl
    refine Bool.eq_false_iff.mpr fun q => ?_
    have e : D = tp := Value.ref.inj (beq_iff_eq.mp q)
    subst e
    unfold clsIn at hcd
    split at hcd
    · rename_i c' d' cd' sl' ho
      have z := (X _ _ ho).symm.trans htp
      cases z
    · cases hcd
  ca := fun X I k => exc_class c X I k
end
end L2


set_option Elab.async false
set_option linter.all false
set_option maxRecDepth 100000
set_option maxHeartbeats 4000000
namespace L2
open PySem PySem.Spec PyProof.Rows
section
variable {P : Program} {w : World} {H : Hp} {h : Heap} {a : Addr} {o : HO}
theorem ObjOk.there (x : ObjOk P w H h a o) : ∃ ob, h.get? a = some ob := by
  cases o with
  | lst xs => obtain ⟨_, _, _, _, e⟩ := x; exact ⟨_, e⟩
  | tup xs => obtain ⟨_, _, _, ⟨_, e, _⟩⟩ := x; exact ⟨_, e⟩
  | dK kvs => obtain ⟨_, _, _, _, o, _, _, e, _⟩ := x; exact ⟨_, e⟩
  | dT kvs => obtain ⟨_, _, _, _, o, _, _, e, _⟩ := x; exact ⟨_, e⟩
  | set S n => obtain ⟨o, _, _, _, e, _⟩ := x; exact ⟨_, e⟩
  | ins C dx fs => obtain ⟨_, _, _, e, _⟩ := x; exact ⟨_, e⟩
  | own y => exact x
  | xd fs => obtain ⟨_, ⟨_, _, _, e, _⟩, _⟩ := x; exact ⟨_, e⟩
  | rng lo hi => obtain ⟨_, _, _, e⟩ := x; exact ⟨_, e⟩
  | frz ob u => obtain ⟨e, _⟩ := x; exact ⟨_, e⟩
  | tbl ps => exact ⟨_, (show h.get? a = some _ from x)⟩
  | met f y => exact ⟨_, (show h.get? a = some _ from x)⟩
  | ext φ => obtain ⟨_, e, _⟩ := x; exact e
end

/-! ### how an exception lies behind a call: ea the object, C its class; whatever is tracked, or stood ahead of the call, stands in B, which stays -/

/-! ### raise: the exception leaves the def -/
section
variable {P : Program} {w : World} {K : PySem.W.Frag} {mg : Str → Option Value} {base : Heap} {N : List Str} {qual : Str} {scope : Scope} {f : Addr} {cd : Value} {A : Around} {outer : List Env} {s : Shared} {H : Hp} {E : XK}
end
end L2


set_option Elab.async false
set_option linter.all false
set_option maxRecDepth 100000
set_option maxHeartbeats 4000000
namespace L2
open PySem PySem.Spec PyProof.Rows PySem.W

/-! ### raise X(..) of an own class without __init__ -/
abbrev bmV : List Value := [.type "ValueError", .type "Exception", .type "BaseException", .type "object"]

section
variable {P : Program} {w : World} {K : Frag} {mg : Str → Option Value} {base : Heap} {N : List Str} {qual : Str} {scope : Scope} {f : Addr} {cd : Value} {A : Around} {outer : List Env} {s : Shared} {H : Hp} {E : XK}
end

/-! ### a def that may raise -/

/-! ### except X -/
structure CatchCls (K : Frag) (D : Addr) : Prop where
  cl : ∃ cd, clsIn K D = some cd
  ty : typeIn K (.ref D) = some (.type "type")
  hb : mroIn K D (.type "BaseException") = some true
theorem exc_matches {M : Model} {A : Around} {E : Value → Shared → Prop} {s : Shared} {K : Frag} {e C D : Addr} {Q : Bool → Shared → Prop} (X : K.In s.heap) (I : OfCls e C s.heap) (c : CatchCls K D) {b : Bool} (hm : mroIn K C (.ref D) = some b) (hq : Q b s) :
    wpAny M A (excMatches (.ref e) (.ref D)) Q E s := by
  obtain ⟨hh, g, d, t, os⟩ := s
  have l0 := I.type (M := M)
  obtain ⟨ob, ho, hc⟩ := Option.map_eq_some_iff.mp c.ty
  have l1 : Looks M hh (typeOf (.ref D)) (.type "type") := hc ▸ (Looks.ld (X _ _ ho)).andThen .now
  have l2 : Looks M hh (isType (.ref D)) true := by
    obtain ⟨cd, hcd⟩ := c.cl
    unfold clsIn at hcd
    split at hcd
    · rename_i c' d' cd' sl' lo
      intro A' Q' E' s' k q
      unfold isType loadHead
      exact wpAny_bind (wpAny_loadPart (k _ _ (X _ _ lo)) (wpAny_pure q))
    · cases hcd
  have l3 := looks_mroIn (M := M) X c.hb
  have l4 := looks_mroIn (M := M) X hm
  have l5 : Looks M hh (isInstance (.ref D) (.type "tuple")) false := l1.andThen (Looks.of_pure tc_notTuple)
  have l6 : Looks M hh (isExcClass (.ref D)) true := l2.andThen (by exact l3)
  unfold excMatches
  refine wpAny_bind (l5.at ?_)
  rw [if_neg (by decide)]
  refine wpAny_bind (wpAny_pure ?_)
  simp only [List.forIn_cons, List.forIn_nil]
  refine wpAny_bind (wpAny_bind (wpAny_bind (l6.at ?_)))
  rw [if_neg (by decide)]
  refine wpAny_pure (wpAny_pure (wpAny_bind (l0.at (wpAny_bind (wpAny_bind (wpAny_bind (l4.at ?_)))))))
  cases b with
  | true => exact wpAny_pure (wpAny_pure (wpAny_pure hq))
  | false => exact wpAny_pure (wpAny_pure (wpAny_pure hq))
end L2


set_option Elab.async false
set_option linter.all false
set_option maxRecDepth 100000
set_option maxHeartbeats 4000000
namespace L2
open PySem PySem.Spec PyProof.Rows PySem.W

/-- the context of an except suite -/
def Cx.mark (X : Cx) (ea : Addr) : Cx := { X with A := X.A.mark (some (.ref ea)), calm := false }
section
variable {X : Cx} {pins : List (Addr × Obj)} {σ : St} {H H' : Hp} {s s' : Shared}
theorem Inv.mark (I : Inv X pins σ H s) (ea : Addr) : Inv (X.mark ea) pins σ H s :=
  ⟨⟨I.ok.mod, I.ok.kind, I.ok.glob, I.ok.blt, I.ok.above, I.ok.inj, I.ok.has, I.ok.cab, (fun z => by cases z), I.ok.frames, I.ok.stk, I.ok.exf, I.ok.bs, I.ok.bsz, I.ok.noex, I.ok.exfs, I.ok.funs, I.ok.frf⟩,
    I.os, I.bare, I.base, I.loc, I.cell, I.free, I.freeC, I.pin, I.hok, I.len⟩
theorem Inv.unmark {ea : Addr} (I : Inv (X.mark ea) pins σ H s) (ok : X.Ok) : Inv X pins σ H s :=
  ⟨ok, I.os, I.bare, I.base, I.loc, I.cell, I.free, I.freeC, I.pin, I.hok, I.len⟩
/-- an untracked object of ours is tracked from now on -/
theorem Inv.track {a : Addr} {φ : Heap → Prop} (I : Inv X pins σ H s) (n : H a = none) (new : X.s₀.heap.get? a = none) (hL : a ≠ X.env.locals) (hc : ∀ x c, X.env.cells.lookup x = some c → c ≠ a) (hp : ∀ p ∈ X.pn ++ pins, p.1 ≠ a)
    (p : φ s.heap) (there : ∃ o, s.heap.get? a = some o) (st : ∀ h1 h2 : Heap, φ h1 → (∀ o, h1.get? a = some o → h2.get? a = some o) → φ h2) : Inv X pins σ (upd H a (.ext φ)) s :=
  ⟨I.ok, I.os, I.bare, ⟨I.base.keep, I.base.slot, fun b o e z hx => by rw [upd_ne (fun q => by rw [q, new] at e; cases e)]; exact I.base.free b o e z hx, I.base.there,
      fun b xs e => by have q := I.base.tups b xs e; rw [upd_ne (ne_of_none q n)]; exact q, fun b o u e => by have q := I.base.frzs b o u e; rw [upd_ne (ne_of_none q n)]; exact q,
      fun b ps e => by obtain ⟨m, q⟩ := I.base.tbls b ps e; exact ⟨m, by rw [upd_ne (ne_of_none q n)]; exact q⟩⟩,
    I.loc, I.cell, by rw [upd_ne (Ne.symm hL)]; exact I.free, fun x c e => by rw [upd_ne (hc x c e)]; exact I.freeC x c e,
    fun q hq => by obtain ⟨a1, a2, a3⟩ := I.pin q hq; exact ⟨a1, by rw [upd_ne (hp q hq)]; exact a2, a3⟩,
    fun b u e => by
      by_cases hb : b = a
      · subst hb
        rw [upd_same] at e
        cases e
        exact ⟨p, there, st⟩
      · rw [upd_ne hb] at e
        exact (I.hok b u e).stay (fun _ _ _ z => z) (fun c z => by rw [upd_ne (ne_of_none z n)]; exact z) fun c xs z => by rw [upd_ne (ne_of_none z n)]; exact z,
    I.len⟩
/-- a name of the frame's is gone -/
theorem Inv.unname {i : Nat} {x : Str} {v : Option Value} {m : Str → Option Value} {h' : Heap} {tk : Nat} (I : Inv X pins σ H s) (hN : X.N.Nodup) (hi : X.N[i]? = some x)
    (hm : s.heap.Ns X.env.locals m) (hn : h'.Ns X.env.locals fun y => if y = x then v else m y) (hs : Heap.SameBut X.env.locals s.heap h') : Inv X pins (σ.set i none) H { s with heap := h', toks := tk } := by
  have old : ∀ b o, X.s₀.heap.get? b = some o → b ≠ X.env.locals := fun b o e => Nat.ne_of_lt (Nat.lt_of_lt_of_le (Heap.lt_size e) I.ok.above)
  have cellK : ∀ y c, X.env.cells.lookup y = some c → ∀ u, s.heap.IsCell c u → h'.IsCell c u := fun y c e u z => z.sameBut hs (I.cne y c e)
  refine ⟨I.ok, I.os, I.bare, ⟨fun b o e n hb hx => (hs.2 b (old b o e)).trans (I.base.keep b o e n hb hx), fun b o e n hb hx => ?_, I.base.free, fun b o e hx => ?_, I.base.tups, I.base.frzs, I.base.tbls⟩, ⟨_, hn, fun j y u e1 e2 e3 => ?_⟩,
    fun y c e => ?_, I.free, I.freeC, fun p hp => ?_, fun b u e => ?_, by simpa using I.len⟩
  · obtain ⟨sl, z⟩ := I.base.slot b o e n hb hx
    exact ⟨sl, (hs.2 b (old b o e)).trans z⟩
  · obtain ⟨o', z⟩ := I.base.there b o e hx
    exact ⟨o', (hs.2 b (old b o e)).trans z⟩
  · by_cases hj : j = i
    · subst hj
      have e4 : (σ.set j none)[j]? = some (some u) := e2
      by_cases hl : j < σ.length
      · rw [List.getElem?_set_self hl] at e4
        cases e4
      · rw [List.getElem?_eq_none (by rw [List.length_set]; omega)] at e4
        cases e4
    · have e4 : (σ.set i none)[j]? = some (some u) := e2
      rw [List.getElem?_set_ne (Ne.symm hj)] at e4
      obtain ⟨m0, hm0, hl⟩ := I.loc
      have em : m0 = m := by
        obtain ⟨o1, es1, ep1, g1, d1, _, r1⟩ := hm0
        obtain ⟨o2, es2, ep2, g2, d2, _, r2⟩ := hm
        rw [g1] at g2
        cases g2
        rw [d1] at d2
        cases d2
        funext z
        exact (r1 z).symm.trans (r2 z)
      subst em
      obtain ⟨u', r', q⟩ := hl j y u e1 e4 e3
      refine ⟨u', r', ?_⟩
      rcases q with ⟨k, e⟩ | ⟨k, c, e, z⟩
      · refine .inl ⟨k, ?_⟩
        have ne : y ≠ x := fun e => hj (nodup_ix hN e1 (e ▸ hi))
        show (if y = x then v else m0 y) = some u'
        rw [if_neg ne]
        exact e
      · exact .inr ⟨k, c, e, cellK y c e _ z⟩
  · obtain ⟨u, z⟩ := I.cell y c e
    exact ⟨u, cellK y c e u z⟩
  · obtain ⟨a1, a2, a3, a4⟩ := I.pin p hp
    exact ⟨(hs.2 _ a3).trans a1, a2, a3, a4⟩
  · have nl : ∀ c z, H c = some z → c ≠ X.env.locals := fun c z q e => by rw [e, I.free] at q; cases q
    exact (I.hok b u e).stay (fun c z hc q => (hs.2 c (hc.elim (fun k => by rw [k]; exact nl b u e) fun k => nl c _ k)).trans q) (fun _ z => z) fun _ _ z => z
/-- the frame again, at a heap in which B stays -/
theorem Inv.caught {ea : Addr} {C : Value} (I : Inv X pins σ H s) {t : Addr} {B : Heap} {h6 : Heap} {tk : Nat} (ho : s'.os = s.os) (hg : AllBare s'.gens) (un : Un (frs X.stack) [] H H' s.heap s'.heap) (hok : HOk X.prog X.w H' s'.heap)
    (cov : ∀ b o, s'.heap.get? b = some o → b ∉ frs X.stack → ((∃ u, H' b = some u) ∨ ∃ o', s.heap.get? b = some o') → B.get? b = some o) (st : B.StaysIn h6) (up : s'.heap.UpToSlots h6) : Inv X pins σ H' { s' with heap := h6, toks := tk } := by
  have fr := I.stack
  have frf : ∀ b u, H' b = some u → b ∉ frs X.stack := fun b u e z => by
    obtain ⟨_, o, e2, _⟩ := fr.mem z
    have q := un.free b o e2 (I.stkFree b z) (by simp)
    rw [e] at q; cases q
  have slotK : ∀ b o, s.heap.get? b = some o → b ∈ frs X.stack → ∃ sl, h6.get? b = some { o with slots := sl } := fun b o e hb => by
    obtain ⟨_, o', e2, nf⟩ := fr.mem hb
    have e3 : some o' = some o := e2.symm.trans e
    cases e3
    obtain ⟨sl, e4⟩ := un.slot b _ e (I.stkFree b hb) hb (by simp)
    obtain ⟨sl', e5⟩ := up b _ e4 nf
    exact ⟨sl', e5⟩
  have u6 : Un (frs X.stack) [] H H' s.heap h6 := by
    refine ⟨fun b o e n hb hx => st b o (cov b o (un.keep b o e n hb hx) hb (.inr ⟨o, e⟩)), fun b o e n hb hx => slotK b o e hb, un.free, fun b o e hx => ?_, un.tups, un.frzs, un.tbls⟩
    by_cases hb : b ∈ frs X.stack
    · obtain ⟨sl, z⟩ := slotK b o e hb
      exact ⟨_, z⟩
    · obtain ⟨o', z⟩ := un.there b o e hx
      exact ⟨o', st b o' (cov b o' z hb (.inr ⟨o, e⟩))⟩
  have k6 : HOk X.prog X.w H' h6 := fun b u e => (hok b u e).stay (fun c z hc q => by
    have tr : ∃ v, H' c = some v := hc.elim (fun k => ⟨u, by rw [k]; exact e⟩) fun k => ⟨_, k⟩
    obtain ⟨v, hv⟩ := tr
    exact st c z (cov c z q (frf c v hv) (.inl ⟨v, hv⟩))) (fun _ z => z) fun _ _ z => z
  exact I.call' (s' := { s' with heap := h6, toks := tk }) (ch := []) ho u6 k6 hg fun b hb => nomatch hb
end
end L2


set_option Elab.async false
set_option linter.all false
set_option maxRecDepth 100000
set_option maxHeartbeats 4000000
namespace L2
open PySem PySem.Spec PyProof.Rows PySem.W

/-! ### try: f(..) except Y as n: suite -/

/-! ### isinstance(an exception that was caught, c) -/
end L2


set_option Elab.async false
set_option linter.all false
set_option maxRecDepth 100000
set_option maxHeartbeats 4000000
namespace L2
open PySem PySem.Spec PyProof.Rows PySem.W
section
variable {X : Cx}
/-! ### == of two tuples of ints -/

/-! ### a, b = a list -/

/-! ### a comprehension's free names -/
theorem clo_aux {env : Env} : ∀ (names : List (Str × NameKind)) (acc : List (Str × Addr)), (∀ y, (y, NameKind.free) ∈ names → ∃ c, env.cells.lookup y = some c) →
    ∃ cl : List (Str × Addr), (forIn names acc (fun x r => match x with
        | (name, kind) => if (kind == NameKind.free) = true then do let a ← cellOf env name; pure (ForInStep.yield ((name, a) :: r)) else pure (ForInStep.yield r)) : Sem _) = pure cl ∧
      (∀ y c, cl.lookup y = some c → acc.lookup y = some c ∨ env.cells.lookup y = some c) ∧ (∀ y, (y, NameKind.free) ∈ names → ∃ c, cl.lookup y = some c) ∧ ∀ y, (∃ c, acc.lookup y = some c) → ∃ c, cl.lookup y = some c
  | [], acc, _ => ⟨acc, rfl, fun _ _ h => .inl h, (fun _ h => nomatch h), fun _ h => h⟩
  | (nm, kd) :: r, acc, h => by
    by_cases hk : kd = .free
    · subst hk
      obtain ⟨c, hc⟩ := h nm List.mem_cons_self
      obtain ⟨cl, e, p1, p2, p3⟩ := clo_aux r ((nm, c) :: acc) fun y hy => h y (List.mem_cons_of_mem _ hy)
      refine ⟨cl, ?_, fun y d hd => ?_, fun y hy => ?_, fun y hy => ?_⟩
      · rw [List.forIn_cons]
        have z : cellOf env nm = pure c := by unfold cellOf; rw [hc]
        simp only [z, beq_self_eq_true, if_true]
        exact e
      · rcases p1 y d hd with q | q
        · rw [List.lookup_cons] at q
          cases hy : y == nm with
          | true =>
            rw [hy] at q
            have e1 := beq_iff_eq.mp hy
            subst e1
            cases q
            exact .inr hc
          | false => rw [hy] at q; exact .inl q
        · exact .inr q
      · rcases List.mem_cons.mp hy with q | q
        · cases q
          exact p3 nm ⟨c, by rw [List.lookup_cons, beq_self_eq_true]⟩
        · exact p2 y q
      · obtain ⟨d, hd⟩ := hy
        refine p3 y ?_
        rw [List.lookup_cons]
        cases y == nm with
        | true => exact ⟨c, rfl⟩
        | false => exact ⟨d, hd⟩
    · obtain ⟨cl, e, p1, p2, p3⟩ := clo_aux r acc fun y hy => h y (List.mem_cons_of_mem _ hy)
      refine ⟨cl, ?_, p1, fun y hy => ?_, p3⟩
      · rw [List.forIn_cons]
        have z : (kd == NameKind.free) = false := by simpa using hk
        simp only [z, Bool.false_eq_true, if_false]
        exact e
      · rcases List.mem_cons.mp hy with q | q
        · cases q; exact absurd rfl hk
        · exact p2 y q
theorem clo_of {scope : Scope} {env : Env} (h : ∀ y, (y, NameKind.free) ∈ scope.names → ∃ c, env.cells.lookup y = some c) :
    ∃ cl, closureFor scope env = pure cl ∧ (∀ y c, cl.lookup y = some c → env.cells.lookup y = some c) ∧ ∀ y, (y, NameKind.free) ∈ scope.names → ∃ c, cl.lookup y = some c := by
  obtain ⟨cl, e, p1, p2, _⟩ := clo_aux (env := env) scope.names [] h
  refine ⟨cl, ?_, fun y c hc => (p1 y c hc).elim (fun z => by cases z) fun z => z, p2⟩
  unfold closureFor
  show (forIn scope.names [] _ >>= fun s => pure s) = pure cl
  rw [bind_pure]
  exact e
/-- what the block's free names ask: each is one of those at js -/
theorem free_of {scope : Scope} {js : List Nat} {pins : List (Addr × Obj)} {σ : St} {H : Hp} {s : Shared} (I : Inv X pins σ H s) (hf : ∀ y, (y, NameKind.free) ∈ scope.names → X.env.kindOf y = some .cell ∨ X.env.kindOf y = some .free) :
    ∀ y, (y, NameKind.free) ∈ scope.names → ∃ c, X.env.cells.lookup y = some c := fun y hy => I.ok.has y (hf y hy)
variable {elt iter : Expr} {x : Str} {px pos : Pos} {ifs : List Expr} {scope : Scope} {wi : TI} {tc : TT} {te : TE} {js : List Nat}
theorem pe_compF (hc : X.calm = true) (hi : PI X (.Name x px) iter wi) (hk : scope.kind = .function) (hcell : ∀ y ∈ scope.names, y.2 ≠ .cell) (hnames : ∀ y ∈ scope.names, y.2 = .local → scope.names.lookup y.1 = some .local) (hx : (relabel scope X.env).names.lookup x = some .local)
    (hf : ∀ p ∈ scope.names, p.2 = .free → X.env.kindOf p.1 = some .cell ∨ X.env.kindOf p.1 = some .free) (hjs : FreeAt X scope js) (hnd : (cNames X x js).Nodup)
    (ht : ∀ cl s' H' fp, PIf (cxComp X scope cl (cNames X x js) s' H' fp) ifs tc) (he : ∀ cl s' H' fp, PE (cxComp X scope cl (cNames X x js) s' H' fp) elt te)
    (hs : ∀ x, foldedSetIterable iter X.env x = pure x := by intro _; rfl) : PE X (.ListComp elt [⟨.Name x px, iter, ifs, 0⟩] scope pos) (tComp wi tc te js) := by
  intro pins s σ H Q I h
  obtain ⟨cl, e, p1, p2⟩ := clo_of (free_of (js := js) I fun y hy => hf (y, .free) hy rfl)
  exact pe_comp hc hi hk hcell hnames hx e p1 p2 hjs hnd (ht cl) (he cl) hs pins s σ H Q I h
end
end L2


set_option Elab.async false
set_option maxRecDepth 100000
set_option maxHeartbeats 4000000
/-! ### the law's call, with the bound of its ints' bits -/
namespace L2
open PySem PySem.Spec PyProof.Rows PySem.W
theorem weight_mem : ∀ {ns : List Int} {n : Int}, n ∈ ns → WData.weight (.int n) ≤ WData.weightAll (ns.map WData.int)
  | [], _, h => nomatch h
  | m :: r, n, h => by
    show _ ≤ WData.weight (.int m) + 1 + WData.weightAll (r.map WData.int)
    rcases List.mem_cons.mp h with e | e
    · subst e; omega
    · have := weight_mem (ns := r) e
      omega
theorem bits_weight (n : Int) : Builtin.Int.intBits n = WData.weight (.int n) := by
  show _ = if n == 0 then 0 else n.natAbs.log2 + 1
  unfold Builtin.Int.intBits
  by_cases h : n = 0
  · subst h; rfl
  · simp [h]
theorem script_bits {ns : List Int} (h : WData.layableAll [.list (ns.map .int)] = true) : ∀ n ∈ ns, Builtin.Int.intBits n ≤ 1048576 := fun n hn => by
  have h1 : WData.layable (.list (ns.map .int)) = true := by
    simpa [WData.layableAll] using h
  have h2 : WData.weight (.list (ns.map .int)) ≤ 2 ^ 20 := by
    unfold WData.layable at h1
    rw [Bool.and_eq_true, Bool.and_eq_true] at h1
    exact of_decide_eq_true h1.2
  have h3 : WData.weightAll (ns.map WData.int) ≤ 2 ^ 20 := h2
  have h4 := weight_mem hn
  rw [bits_weight]
  omega
theorem walk_bits {l : OpenLaw} {n k : Nat} {q : Program} {loose : List Str} {XP : (Str → Option Value) → Heap → Prop} {YP : World → Heap → Prop} {d : DefRec} {K : Params → Frag} {CX : CXT} {sp : Frag → Sp} {x : Str}
    (hn : l.most = some n) (hn2 : n ≤ sizeLine) (hdf : d.params.defaults = []) (hr : Room k callerA) (hY : ∀ (w : World) (h : Heap), YP w h → (K w.params).In h)
    (F : ∀ (w : World) (mg : Str → Option Value) (fa : Addr) (h : Heap), (K w.params).In h → h.Ns mainGlobals mg → mg d.name = some (.ref fa) →
      ∃ fd : FuncData, (∀ (s : Shared) (u : Value), BindsTo s fd ⟨[u], []⟩ [(x, u)]) ∧ ∀ base : Heap, (K w.params).In base → base.Ns mainGlobals mg → FnOk l.prog w (K w.params) mg base CX k fa fd [x] (sp (K w.params)))
    (hsp : ∀ (K : Frag) (H : Hp) (a : Addr) (ns : List Int), ns.length ≤ n → (∀ m ∈ ns, Builtin.Int.intBits m ≤ 1048576) → Only H → SqL K H a (ns.map V.int) → sp K [.ref a] H (fun v _ => v = .bl true) fun _ _ _ => False)
    (hCX : ∀ (H : Hp) (s : Shared) (e : Value) (s' : Shared), CX [] H s (fun _ _ _ => False) e s' → False) : WalkO q loose XP YP l.row.toRowW d [] (fun f vs => PySem.call f vs) := by
  intro w s₀ s₁ mg mb G Y fa o pm cd doc dV kV ho hd hcd hD hmg hg args vals as hpre hlay hrd hwl hlo
  obtain rfl : dV = .none := Dflts.none hD hdf
  obtain rfl : kV = .none := Dflts.noKw hD
  obtain ⟨a, vs, ns, rfl, rfl, hobj, hints, hlen⟩ := Att.script_of hn hpre hwl
  have KX := hY w _ Y
  obtain ⟨fd, hb, hF⟩ := F w mg fa _ KX G.T.g hmg
  have c := law_call KX G.T.g G.T.b G.T.builtins G.T.nolimit hg hobj hints (Nat.le_trans hlen hn2) hr hF hb (fun H hO hS => hsp (K w.params) H a ns hlen (script_bits hlay) hO hS) fun H e s' => hCX H s₁ e s'
  refine enter_call (codeAny_mono c fun r s' hq => ?_)
  obtain ⟨rfl, h2, h3, h4⟩ := hq
  exact ⟨.inl ⟨.bool true, .bool true, [], rfl, fun _ => rfl, .bool true, Att.post_true l _, fun _ => ⟨List.Pairwise.nil, fun _ hm => (nomatch hm)⟩⟩, h2, h3, h4⟩
end L2


namespace L2
open PySem PySem.Spec PyProof.Rows

/-! ### lists of pairs as tables -/
section
variable {κ : Type} [DecidableEq κ]



end


/-! ### a tracked dict, its keys ints and texts or tuples of these -/


section
variable {P : Program} {w : World} {H : Hp} {h : Heap} {a : Addr}
end



section
variable {X : Cx} {pins : List (Addr × Obj)} {σ : St} {H : Hp} {s : Shared} {a : Addr} {y v : V} {u r : Value} {o : Option V} {A : Around} {E : Value → Shared → Prop}

theorem Inv.big (I : Inv X pins σ H s) : sysModules < s.heap.objs.size := by
  have h : mainGlobals < s.heap.objs.size := (I.mod.glob.keeps I.bk).lt
  exact Nat.lt_trans (by decide) h

end

section
variable {X : Cx} {pins : List (Addr × Obj)} {σ : St} {H : Hp} {s : Shared} {a : Addr} {kvs : List (Key × V)} {k : Key} {u : Value} {A : Around} {E : Value → Shared → Prop}
end


/-! ### readings and rules -/



section
variable {X : Cx} {o i e value : Expr} {pos pos' tpos : Pos} {td ty tv : TE}
end


/-! ### displays -/
theorem dk_empty {P : Program} {w : World} {H : Hp} (h : Heap) (hb : sysModules < h.objs.size) : ObjOk P w H (h.push { cls := .type "dict", data := .dict #[] }) h.objs.size (.dK []) :=
  ⟨Nat.zero_le _, beq_eq_false_iff_ne.mpr (Ne.symm (Nat.ne_of_lt hb)), [], .nil, Heap.DictOf.new h⟩
/-- {}, to be a dict of the kind that is wanted -/
def tDNewK : TE := fun _ H Q => ∀ p, H p = none → Q (.ref p) (upd H p (.dK []))
section
variable {X : Cx} {pos : Pos}
theorem pe_dnewK : PE X (.Dict [] [] pos) tDNewK := fun pins s σ H Q I h =>
  wpAny_Dict_empty ⟨.ref s.heap.objs.size, _, I.laid (a := s.heap.objs.size) (o := .dK []) (t' := s.toks) (fun _ _ q => Heap.get?_push_of_some _ q) (Nat.le_refl _) (dk_empty s.heap I.big), rfl, h _ (I.hok.fresh (Nat.le_refl _))⟩
end




/-! ### methods -/
/-- a method call o.m(e) of a built-in, with one argument: what must be seen of the text -/
structure M1 (X : Cx) (o : Expr) (m : Str) (apos : Pos) (e : Expr) (cpos : Pos) : Prop where
  base : attributeBase o m X.env (eval o X.env) = eval o X.env
  few : ((backTo cpos (starEach [e] X.env)).all (fun x => !x.1) && (backToKw cpos (keywordEach [] X.env)).all (fun x => x.1.isSome)
    && decide (([e] : List Expr).length + ([] : List Keyword).length + (if ([] : List Keyword).isEmpty then 0 else 1) < 30)) = true
  line : (apos.endLine == cpos.line) = true
  trees : backTo cpos (starEach [e] X.env) = [(false, eval e X.env)]


section
variable {X : Cx} {pins : List (Addr × Obj)} {σ : St} {H : Hp} {s : Shared} {a : Addr} {y d : V} {u r : Value} {o : Option V} {A : Around} {E : Value → Shared → Prop}
end

section
variable {X : Cx} {o e f : Expr} {apos cpos : Pos} {td ty tx : TE}
end

/-! ### dict(d): a copy -/
section
variable {X : Cx} {pins : List (Addr × Obj)} {σ : St} {H : Hp} {s : Shared} {a : Addr} {kvs : List (Key × V)} {A : Around} {E : Value → Shared → Prop}
end


section
variable {X : Cx} {pins : List (Addr × Obj)} {σ : St} {H : Hp} {s : Shared} {a : Addr} {y : V} {u : Value} {A : Around} {E : Value → Shared → Prop}
end
end L2


set_option Elab.async false
set_option linter.all false
set_option maxRecDepth 100000
set_option maxHeartbeats 4000000
namespace L2
open PySem PySem.Spec PyProof.Rows
/-! ### list(reversed(a list)) -/
section
variable {prog : Program} {w : World} {A : Around} {E : Value → Shared → Prop} {s : Shared} {R : Result → Shared → Prop} {l it S : Addr} {items : Array Value}
end
end L2


set_option Elab.async false
set_option linter.all false
set_option maxRecDepth 100000
set_option maxHeartbeats 4000000
namespace L2
open PySem PySem.Spec PyProof.Rows
/-! ### a method of whatever class the object is of -/
section
variable {X : Cx} {o e : Expr} {es : List Expr} {ta te : TE} {t : TA} {m x : Str} {k : Nat} {p pos apos p2 pos2 : Pos} {C : Addr}
/-! ### C(), no __init__ of its own -/
/-! ### list(reversed(e)) -/
/-! ### != of two lists of texts -/
end
end L2


set_option Elab.async false
set_option linter.all false
set_option maxRecDepth 100000
set_option maxHeartbeats 4000000
namespace Mine
open PySem
/-! ### sayings as trees -/
inductive W5 where
  | more | less | greater | lesser | leads
def W5.str : W5 → Str
  | .more => "more" | .less => "less" | .greater => "greater" | .lesser => "lesser" | .leads => "leads"
inductive Tr where
  | never | always | lp | lq
  | no (t : Tr)
  | fold (w : W5) (a b : Tr)
/-! ### a text is of one tree -/
/-! ### worths, putting in, the parts in their order -/
end Mine


set_option Elab.async false
set_option linter.all false
set_option maxRecDepth 100000
set_option maxHeartbeats 4000000
namespace L2
open PySem PySem.Spec PyProof.Rows

/-! ### data in the heap: ints, truths, texts, None, and tuples of these -/
mutual
def Dat (K : PySem.W.Frag) (H : Hp) : PyData → V → Prop
  | .none, v => v = .non
  | .bool b, v => v = .bl b
  | .int i, v => v = .int i
  | .str x, v => v = .str x
  | .tuple ds, v => ∃ a xs, v = .ref a ∧ SqT K H a xs ∧ DatAll K H ds xs
  | .list _, _ => False
  | .dict _, _ => False
def DatAll (K : PySem.W.Frag) (H : Hp) : List PyData → List V → Prop
  | [], xs => xs = []
  | d :: ds, xs => ∃ x r, xs = x :: r ∧ Dat K H d x ∧ DatAll K H ds r
end
/-- tuples, and what is frozen, stay -/
structure Tst (H H' : Hp) : Prop where
  t : ∀ b xs, H b = some (.tup xs) → H' b = some (.tup xs)
  f : ∀ b o u, H b = some (.frz o u) → H' b = some (.frz o u)
theorem Same.ts {H H' : Hp} (e : Same H H') : Tst H H' := ⟨fun b xs h => e b _ h, fun b o u h => e b _ h⟩
theorem SqT.ts {K : PySem.W.Frag} {H H' : Hp} {a : Addr} {xs : List V} (h : SqT K H a xs) (e : Tst H H') : SqT K H' a xs := by
  rcases h with (h | ⟨o, h⟩) | h
  · exact .inl (.inl (e.t _ _ h))
  · exact .inl (.inr ⟨o, e.f _ _ _ h⟩)
  · exact .inr h
mutual
theorem Dat.ts {K : PySem.W.Frag} {H H' : Hp} (e : Tst H H') : ∀ {d : PyData} {v : V}, Dat K H d v → Dat K H' d v
  | .none, _, h => h
  | .bool _, _, h => h
  | .int _, _, h => h
  | .str _, _, h => h
  | .tuple _, _, ⟨a, xs, h1, h2, h3⟩ => ⟨a, xs, h1, h2.ts e, DatAll.ts e h3⟩
  | .list _, _, h => h
  | .dict _, _, h => h
theorem DatAll.ts {K : PySem.W.Frag} {H H' : Hp} (e : Tst H H') : ∀ {ds : List PyData} {xs : List V}, DatAll K H ds xs → DatAll K H' ds xs
  | [], _, h => h
  | _ :: _, _, ⟨x, r, h1, h2, h3⟩ => ⟨x, r, h1, Dat.ts e h2, DatAll.ts e h3⟩
end
mutual
theorem Dat.reads {X : Cx} {pins : List (Addr × Obj)} {σ : St} {H : Hp} {s : Shared} (I : Inv X pins σ H s) : ∀ (d : PyData) {v : V} {u : Value}, Dat X.K H d v → RelV v u → ∃ as, Reads s.heap u d as
  | .none, _, _, h, r => by
    cases (show _ = V.non from h)
    cases (show _ = Value.none from r)
    exact ⟨[], .none⟩
  | .bool b, _, _, h, r => by
    cases (show _ = V.bl b from h)
    cases (show _ = Value.bool b from r)
    exact ⟨[], .bool b⟩
  | .int i, _, _, h, r => by
    cases (show _ = V.int i from h)
    obtain ⟨t, q⟩ := (show ∃ t, _ = Value.int i t from r)
    cases q
    exact ⟨[], .int i t⟩
  | .str x, _, _, h, r => by
    cases (show _ = V.str x from h)
    obtain ⟨t, q⟩ := (show ∃ t, _ = Value.str x t from r)
    cases q
    exact ⟨[], .str x t⟩
  | .tuple ds, _, _, ⟨a, xs, h1, h2, h3⟩, r => by
    cases h1
    cases (show _ = Value.ref a from r)
    obtain ⟨its, rv, ⟨o, ho, hc, n, hd⟩, _⟩ := I.tuple h2
    obtain ⟨as, ra⟩ := DatAll.reads I ds h3 rv
    exact ⟨as, .tuple ho hc hd (by simpa using ra)⟩
  | .list _, _, _, h, _ => False.elim h
  | .dict _, _, _, h, _ => False.elim h
theorem DatAll.reads {X : Cx} {pins : List (Addr × Obj)} {σ : St} {H : Hp} {s : Shared} (I : Inv X pins σ H s) : ∀ (ds : List PyData) {xs : List V} {us : List Value}, DatAll X.K H ds xs → Vals xs us → ∃ as, ReadsAll s.heap us ds as
  | [], _, _, h, r => by
    cases (show _ = ([] : List V) from h)
    cases r
    exact ⟨[], .nil⟩
  | d :: ds, _, _, ⟨x, t, h1, h2, h3⟩, r => by
    cases h1
    cases r with
    | cons r1 r2 =>
      obtain ⟨as, a1⟩ := Dat.reads I d h2 r1
      obtain ⟨bs, b1⟩ := DatAll.reads I ds h3 r2
      exact ⟨as ++ bs, .cons a1 b1⟩
end
section
variable {X : Cx}
/-! ### isinstance of a tuple, a list that is read -/
/-! ### all, any of a list of truths -/
theorem bools_of {bs : List Bool} : ∀ {us : List Value}, Vals (bs.map V.bl) us → LSm.BoolsAre us bs := by
  induction bs with
  | nil => intro us r; cases r; exact .nil
  | cons b r ih =>
    intro us q
    cases q with
    | cons a t =>
      cases (show _ = Value.bool b from a)
      exact .cons b (ih t)
theorem call_all (hc : X.calm = true) : CallR X (.builtin "all") (fun xs H Q => ∃ (l : Addr) (bs : List Bool), xs = [.ref l] ∧ SqL X.K H l (bs.map V.bl) ∧ Q (.bl (bs.all id)) H) := by
  intro pins s σ H xs us Q I r h
  obtain ⟨l, bs, rfl, hq, q⟩ := h
  obtain ⟨u, rfl, rx⟩ := vals1 r
  cases rx
  obtain ⟨its, rv, pl, _⟩ := I.list hq
  have hl := pl.isList
  have hb := bools_of rv
  have hlt : l < s.heap.objs.size := by obtain ⟨_, e, _⟩ := hl; exact Heap.lt_size e
  refine call_all_walk (wpAny_pyIter_list hl ?_)
  refine ⟨s.heap.objs.size, [s.heap.objs.size, l], [s.heap.objs.size], its.toArray.size, _, _, fun i => (bs[i]?).getD true, rfl, Walks.list (A := X.A.in1) (I.ok.hd hc) _ l (Nat.ne_of_lt hlt) its.toArray,
    ⟨⟨_, Heap.get?_push_size _ rfl, rfl, rfl⟩, hl.push _⟩, fun i v s' Q' E' hP hQ => ?_, fun h' tk hk => ?_⟩
  · obtain ⟨b, e, rfl⟩ := hb.get i v (by simpa using hP)
    simp only [e, Option.getD_some] at hQ
    exact wpAny_truthy_bool hQ
  · have e : ((List.range its.toArray.size).all fun i => (bs[i]?).getD true) = bs.all id := by
      rw [List.size_toArray, hb.length]; exact LSm.range_all bs
    rw [e]
    exact ⟨.bl _, H, I.kept (t' := tk) (LSm.kept_iter hk), rfl, q⟩
end
/-! ### the same, where the context's K is named (within a comprehension the reading may not name the context) -/
section
variable {X : Cx} {K : PySem.W.Frag}
end
/-! ### what such data say when they are compared -/
/-! ### a tuple, an int that stands at the top -/
theorem topint_mk {K : PySem.W.Frag} {h : Heap} {mg : Str → Option Value} {x : Str} {v : Value} {n : Int} (X : K.In h) (G : h.Ns mainGlobals mg) (e : PySem.W.nsIn K mainGlobals x = some (some v)) (q : ∃ t, v = .int n t) : ∃ t, mg x = some (.int n t) := by
  obtain ⟨t, rfl⟩ := q
  exact ⟨t, PySem.W.mg_of X G e⟩
end L2


set_option Elab.async false
namespace Mine
namespace Lo
end Lo

/-! ### stretches and lines, as they are told -/
namespace Ln
/-! ### the stretch in which x lies -/
end Ln
end Mine


set_option Elab.async false
set_option linter.all false
set_option maxRecDepth 100000
set_option maxHeartbeats 4000000
namespace Mine
open PySem L2
/-! ### small numbers -/
def Sm (x : Int) : Prop := x.natAbs < 2 ^ 200
abbrev bits (x : Int) : Nat := Builtin.Int.intBits x
theorem bits_of {x : Int} {m : Nat} (h : x.natAbs < 2 ^ m) : bits x ≤ m := intBits_le_iff.mpr h
theorem mulS {a b : Int} (ha : Sm a) (hb : Sm b) : IntMulOk a b := IntMulOk.of_le (m := 200) (n := 200) (bits_of ha) (bits_of hb) (by decide)
theorem sm_of {x : Int} (h : x.natAbs ≤ 10 ^ 50) : Sm x := Nat.lt_of_le_of_lt h (by decide +kernel)
/-! ### items of the script -/
theorem at_script {ns : List Int} {i : Int} (h0 : 0 ≤ i) (h : i < (ns.length : Int)) : ∃ v : Int, atI (ns.map V.int) i = some (.int v) ∧ v ∈ ns := by
  have hi : i.toNat < ns.length := by omega
  have ek : i = ((i.toNat : Nat) : Int) := by omega
  have q : atI (ns.map V.int) ((i.toNat : Nat) : Int) = some (.int ns[i.toNat]) := atI_nat (by rw [List.getElem?_map, List.getElem?_eq_getElem hi] <;> rfl)
  rw [← ek] at q
  exact ⟨_, q, List.getElem_mem hi⟩
theorem at_of {xs : List V} {i : Int} {x : V} (h0 : 0 ≤ i) (h : xs[i.toNat]? = some x) : atI xs i = some x := by
  have ek : i = ((i.toNat : Nat) : Int) := by omega
  rw [ek]
  exact atI_nat h
/-- a script as the law has it: a list of at most 63 ints, each of at most 2 ** 20 bits; it is frozen -/
structure Scr (K : PySem.W.Frag) (H : Hp) (a : Addr) (ns : List Int) : Prop where
  sq : (∃ o, H a = some (.frz o (.lst (ns.map V.int)))) ∨ ∃ (o : Obj) (its : Array Value) (n : Nat), K.lookup a = some o ∧ o.cls = .type "list" ∧ o.dict = none ∧ o.data = .seq its n ∧ its.size ≤ sizeLine ∧ Vals (ns.map V.int) its.toList
  few : ns.length ≤ 63
  bit : ∀ n ∈ ns, bits n ≤ 1048576
theorem Scr.l {K : PySem.W.Frag} {H : Hp} {a : Addr} {ns : List Int} (S : Scr K H a ns) : SqL K H a (ns.map V.int) := S.sq.elim (fun h => .inl (.inr h)) .inr
theorem Scr.ts {K : PySem.W.Frag} {H H' : Hp} {a : Addr} {ns : List Int} (S : Scr K H a ns) (e : Tst H H') : Scr K H' a ns := ⟨S.sq.elim (fun ⟨o, h⟩ => .inl ⟨o, e.f _ _ _ h⟩) .inr, S.few, S.bit⟩
theorem scr_of {K : PySem.W.Frag} {H : Hp} {a : Addr} {ns : List Int} (O : Only H) (h : SqL K H a (ns.map V.int)) (few : ns.length ≤ 63) (bit : ∀ n ∈ ns, bits n ≤ 1048576) : Scr K H a ns := by
  refine ⟨?_, few, bit⟩
  rcases h with (h | h) | h
  · exfalso
    rcases O a with z | ⟨o, xs, z⟩
    · rw [h] at z; cases z
    · rw [h] at z; cases z
  · exact .inl h
  · exact .inr h
theorem same_new {H : Hp} {p : Addr} (h : H p = none) (o : HO) : Same H (upd H p o) := fun b u q => by rw [upd_ne (ne_of_none q h)]; exact q
/-- a change at what was not there at first -/
theorem same_mut {H H' : Hp} {l : Addr} (e : Same H H') (h : H l = none) (o : HO) : Same H (upd H' l o) := fun b u q => by rw [upd_ne (ne_of_none q h)]; exact e b u q
/-! ### fractions, stretches, lines as data -/
section
variable {K : PySem.W.Frag} {H H' : Hp} {a : Addr} {v e : V} {p q m h : Int} {s : St4} {L : List St4}
end
mutual
theorem eqv_self : ∀ d : PyData, d.canLay0 = true → PyData.eqv d d = true
  | .none, _ => by simp [PyData.eqv]
  | .bool _, _ => by simp [PyData.eqv]
  | .int _, _ => by simp [PyData.eqv]
  | .str _, _ => by simp [PyData.eqv]
  | .list xs, h => by simp only [PyData.eqv]; exact eqvAll_self xs (by simpa [PyData.canLay0] using h)
  | .tuple xs, h => by simp only [PyData.eqv]; exact eqvAll_self xs (by simpa [PyData.canLay0] using h)
  | .dict _, h => by simp [PyData.canLay0] at h
theorem eqvAll_self : ∀ xs : List PyData, PyData.canLayAll0 xs = true → PyData.eqvAll xs xs = true
  | [], _ => by simp [PyData.eqvAll]
  | x :: xs, h => by
    have h' : x.canLay0 = true ∧ PyData.canLayAll0 xs = true := by simpa [PyData.canLayAll0] using h
    simp [PyData.eqvAll, eqv_self x h'.1, eqvAll_self xs h'.2]
end
end Mine


set_option Elab.async false
set_option linter.all false
set_option maxRecDepth 100000
set_option maxHeartbeats 4000000
namespace Mine
open PySem L2
/-! ### what stands in the heap -/
/-- tuples and instances stay -/
def fixO : HO → Bool
  | .tup _ => true
  | .ins _ _ _ => true
  | .own _ => true
  | .frz _ _ => true
  | _ => false
def Kp (H H' : Hp) : Prop := ∀ b o, H b = some o → fixO o = true → H' b = some o
theorem Kp.of {H H' : Hp} (e : Same H H') : Kp H H' := fun b o h _ => e b o h
theorem kp_mut {H : Hp} {l : Addr} {o u : HO} (h : H l = some o) (f : fixO o = false) : Kp H (upd H l u) := fun b z hb fz => by
  rw [upd_ne (ne_of hb h fun e => by rw [e, f] at fz; cases fz)]
  exact hb
theorem kit_same {K : PySem.W.Frag} {t : Value} : PySem.W.kitOne K t t = some true := by unfold PySem.W.kitOne; rw [if_pos (beq_self_eq_true t)]
/-- all but c stays -/
def SB (c : V) (H H' : Hp) : Prop := ∀ b o, H b = some o → V.ref b ≠ c → H' b = some o
theorem SB.trans {c : V} {H H1 H2 : Hp} (a : SB c H H1) (b : SB c H1 H2) : SB c H H2 := fun d o h n => b d o (a d o h n) n
theorem SB.of {c : V} {H H' : Hp} (e : Same H H') : SB c H H' := fun b o h _ => e b o h
theorem sb_upd {a : Addr} (H : Hp) (u : HO) : SB (.ref a) H (upd H a u) := fun b o h n => by
  rw [upd_ne fun z => n (by rw [z])]
  exact h
/-- the law's tuples -/
inductive Tu (H : Hp) : Addr → Tr → Prop where
  | never {a} : H a = some (.tup [.str "never"]) → Tu H a .never
  | always {a} : H a = some (.tup [.str "always"]) → Tu H a .always
  | lp {a} : H a = some (.tup [.str "p"]) → Tu H a .lp
  | lq {a} : H a = some (.tup [.str "q"]) → Tu H a .lq
  | no {a b t} : H a = some (.tup [.str "not", .ref b]) → Tu H b t → Tu H a (.no t)
  | fold {a b d w x y} : H a = some (.tup [.str (W5.str w), .ref b, .ref d]) → Tu H b x → Tu H d y → Tu H a (.fold w x y)
/-- the program's classes -/
structure CCs where
  (ne al le no mo ls gr lr ld : Addr)
def CCs.fold (c : CCs) : W5 → Addr
  | .more => c.mo | .less => c.ls | .greater => c.gr | .lesser => c.lr | .leads => c.ld
def fName (x : V) : List (Str × V) := [("name", x)]
def fPart (x : V) : List (Str × V) := [("part", x)]
def fTwo (x y : V) : List (Str × V) := [("one", x), ("other", y)]
inductive Ob (c : CCs) (H : Hp) : Addr → Tr → Prop where
  | never {a dx} : H a = some (.ins c.ne dx []) → Ob c H a .never
  | always {a dx} : H a = some (.ins c.al dx []) → Ob c H a .always
  | lp {a dx} : H a = some (.ins c.le dx (fName (.str "p"))) → Ob c H a .lp
  | lq {a dx} : H a = some (.ins c.le dx (fName (.str "q"))) → Ob c H a .lq
  | no {a dx b t} : H a = some (.ins c.no dx (fPart (.ref b))) → Ob c H b t → Ob c H a (.no t)
  | fold {a dx b d w x y} : H a = some (.ins (c.fold w) dx (fTwo (.ref b) (.ref d))) → Ob c H b x → Ob c H d y → Ob c H a (.fold w x y)
/-- things one by one -/
inductive All2 {α β : Type} (R : α → β → Prop) : List α → List β → Prop where
  | nil : All2 R [] []
  | cons {a b as bs} : R a b → All2 R as bs → All2 R (a :: as) (b :: bs)
theorem All2.imp {α β : Type} {R R' : α → β → Prop} (f : ∀ a b, R a b → R' a b) {as : List α} {bs : List β} (h : All2 R as bs) : All2 R' as bs := by
  induction h with
  | nil => exact .nil
  | cons r _ ih => exact .cons (f _ _ r) ih
theorem All2.app {α β : Type} {R : α → β → Prop} {as cs : List α} {bs ds : List β} (h : All2 R as bs) (k : All2 R cs ds) : All2 R (as ++ cs) (bs ++ ds) := by
  induction h with
  | nil => exact k
  | cons r _ ih => exact .cons r ih
theorem All2.len {α β : Type} {R : α → β → Prop} {as : List α} {bs : List β} (h : All2 R as bs) : as.length = bs.length := by
  induction h with
  | nil => rfl
  | cons _ _ ih => rw [List.length_cons, List.length_cons, ih]
theorem All2.get {α β : Type} {R : α → β → Prop} {as : List α} {bs : List β} (h : All2 R as bs) : ∀ (i : Nat) (a : α), as[i]? = some a → ∃ b, bs[i]? = some b ∧ R a b := by
  induction h with
  | nil => intro i a z; cases z
  | cons r _ ih =>
    intro i x z
    cases i with
    | zero => cases z; exact ⟨_, rfl, r⟩
    | succ i => exact ih i x z
/-- a piece: a word or a saying -/
inductive Pc where
  | w (x : Str)
  | t (t : Tr)
inductive PcV (c : CCs) (H : Hp) : V → Pc → Prop where
  | w (x : Str) : PcV c H (.str x) (.w x)
  | t {a : Addr} {t : Tr} : Ob c H a t → PcV c H (.ref a) (.t t)
end Mine

namespace L2
open PySem PySem.Spec PyProof.Rows
section
variable {P : Program} {w : World} {K : PySem.W.Frag} {mg : Str → Option Value} {base : Heap}
end
section
variable {X : Cx} {x : Str} {C : Addr} {k : Nat} {ps : List Str} {sp : Sp} {e : Expr} {es : List Expr} {t : TA} {p pos : Pos}
end
end L2
namespace Mine
open PySem L2
/-! ### the classes -/
/-! ### promises -/
end Mine

namespace Mine
open PySem L2

end Mine
namespace Mine
open PySem L2
end Mine


set_option Elab.async false
set_option linter.all false
set_option maxRecDepth 100000
set_option maxHeartbeats 4000000
namespace Mine
open PySem L2
theorem Scr.to {K : PySem.W.Frag} {H H' : Hp} {a : Addr} {ns : List Int} (h : Scr K H a ns) (e : Same H H') : Scr K H' a ns := h.ts e.ts
/-! ### promises of the law's own defs -/
end Mine
namespace L2
open PySem PySem.Spec PyProof.Rows
/-! ### t[lo:hi], also the whole -/
namespace HT
variable {prog : Program} {w : World} {A : Around} {E : Value → Shared → Prop} {s : Shared}
theorem item_whole {t sl : Addr} {items : Array Value} {vl vu : Value} {lo hi : Option Int} {Q : Value → Shared → Prop} (ht : IsTup s.heap t items) (hs : s.heap.IsSliceOf sl vl vu .none) (pl : IsPart vl lo) (pu : IsPart vu hi)
    (h0 : _root_.HT.sIx items.size 0 lo = 0) (h1 : _root_.HT.sIx items.size items.size hi = items.size) (h : Q (.ref t) s) : wpAny (model prog w) A (getItem (.ref t) (.ref sl)) Q E s := by
  obtain ⟨os, hos, hcs, hds⟩ := id hs
  have hTs : s.TypeIs (.ref sl) "slice" := ⟨os, hos, hcs⟩
  unfold getItem
  try with_reducible refine wpAny_holding ?_
  first | refine wpAny_bind (wpAny_pure ?_) | skip
  refine wpAny_bind (wpAny_sequenceKey ht.typeIs (by decide) ?_)
  refine wpAny_bind (wpAny_callSpecial?_slot (name := Str.ofString "__getitem__") ht.typeIs PyProof.Rows.slot_tuple_getitem
    (wpAny_call_entry PyProof.Rows.slot_tuple_getitem ht.typeIs PyProof.Rows.entry_tuple_getitem ?_ (PyProof.Rows.args_tuple_getitem _ _)))
  show wpAny _ _ (Builtin.Tuple.tupleItemsOf (.ref t) >>= _) _ _ s
  refine wpAny_bind (PyProof.Rows.tupleItemsOf_ ht ?_)
  refine wpAny_bind (wpAny_typeOf hTs ?_)
  rw [if_pos (by decide)]
  refine wpAny_bind (_root_.HT.sliceApplied_gen hs pl pu ?_)
  have yes : (((_root_.HT.sIx items.size 0 lo : Nat) : Int) == 0 && (1 : Int) == 1 && (_root_.HT.sIx items.size items.size hi - _root_.HT.sIx items.size 0 lo) == items.size) = true := by rw [h0, h1]; simp
  show wpAny _ _ (if (((_root_.HT.sIx items.size 0 lo : Nat) : Int) == 0 && (1 : Int) == 1 && (_root_.HT.sIx items.size items.size hi - _root_.HT.sIx items.size 0 lo) == items.size) = true then _ else _) _ _ s
  rw [if_pos yes]
  unfold Builtin.Tuple.tupleIsExact
  refine wpAny_bind (wpAny_bind (wpAny_typeOf ht.typeIs (wpAny_pure ?_)))
  rw [if_pos (by decide)]
  exact wpAny_bind (wpAny_rule (wpAny_pure ⟨_, rfl, wpAny_pure h⟩))
end HT
section
variable {X : Cx}
def rSlA (K : PySem.W.Frag) : V → Option Int → Option Int → Hp → VK → Prop := fun x lo hi H Q => ∃ (a : Addr) (xs : List V), x = .ref a ∧ SqT K H a xs ∧ (_root_.HT.sIx xs.length 0 lo = 0 → _root_.HT.sIx xs.length xs.length hi = xs.length → Q (.ref a) H) ∧
  (¬ (_root_.HT.sIx xs.length 0 lo = 0 ∧ _root_.HT.sIx xs.length xs.length hi = xs.length) → ∀ p, H p = none → Q (.ref p) (upd H p (.tup (cutV xs lo hi))))
theorem sl_tupA : SlR X (rSlA X.K) := by
  intro pins s σ H x v vl vu lo hi sl Q I rx hs pl pu h
  obtain ⟨a, xs, rfl, hx, q1, q2⟩ := h
  by_cases hw : _root_.HT.sIx xs.length 0 lo = 0 ∧ _root_.HT.sIx xs.length xs.length hi = xs.length
  · cases rx
    obtain ⟨its, r, ht, hz⟩ := I.tuple hx
    have hlen : its.toArray.size = xs.length := by rw [List.size_toArray]; exact r.length.symm
    refine ⟨"tuple", _, PyProof.Rows.slot_tuple_getitem.lookup, ht.typeIs, ?_⟩
    exact HT.item_whole ht hs pl pu (by rw [hlen]; exact hw.1) (by rw [hlen]; exact hw.2) ⟨.ref a, H, I, rfl, q1 hw.1 hw.2⟩
  · exact sl_tup pins s σ H (.ref a) v vl vu lo hi sl Q I rx hs pl pu ⟨a, xs, rfl, hx, hw, q2 hw⟩
end
end L2
namespace Mine
open PySem L2
end Mine
namespace Mine
open PySem L2
theorem word_at (m : Int) (h0 : 0 ≤ m) (h : m < 5) : ∃ u : W5, atI [V.str "more", .str "less", .str "greater", .str "lesser", .str "leads"] m = some (.str u.str) := by
  have hm : m = 0 ∨ m = 1 ∨ m = 2 ∨ m = 3 ∨ m = 4 := by omega
  rcases hm with rfl | rfl | rfl | rfl | rfl
  · exact ⟨.more, rfl⟩
  · exact ⟨.less, rfl⟩
  · exact ⟨.greater, rfl⟩
  · exact ⟨.lesser, rfl⟩
  · exact ⟨.leads, rfl⟩
end Mine
namespace Mine
open PySem L2
end Mine
namespace Mine
open PySem L2
theorem tNoIf_go {σ : St} {H : Hp} {A B : Hp → Prop} (h : A H) : tNoIf σ H fun b H4 => if b = true then A H4 else B H4 := by
  show if true = true then A H else B H
  rw [if_pos rfl]
  exact h
end Mine
namespace L2
open PySem PySem.Spec PyProof.Rows
end L2
namespace Mine
open PySem L2
def spLaw (K : PySem.W.Frag) : Sp := fun vs H Q _ => ∃ (a : Addr) (ns : List Int), vs = [.ref a] ∧ Scr K H a ns ∧ ∀ H', Q (.bl true) H'
/-! ### comprehensions without a test -/
theorem comp_from {wi : TI} {tc : TT} {te : TE} {js : List Nat} {σ : St} {H : Hp} {Q : VK} (h : wi σ H fun J H1 => tComp (fun _ H R => R J H) tc te js σ H1 Q) : tComp wi tc te js σ H Q := h
theorem comp_list {K : PySem.W.Frag} {wi : TI} {te : TE} {js : List Nat} {σ : St} {H0 : Hp} {Q : VK} {xs : List V} (Src : Addr → Hp → Prop) (hwi : ∀ R : It → Hp → Prop, (∀ l H, Src l H → R (Itl K l) H) → wi σ H0 R) (hsrc : ∀ l H, Src l H → H l = some (.lst xs)) (hx : xs.length ≤ 1000)
    (Pv : Addr → Addr → Nat → List V → Hp → Prop) (h0 : ∀ l H D, Src l H → H D = none → Pv l D 0 [] (upd H D (.lst [])))
    (hs : ∀ l D i v ys H', xs[i]? = some v → l ≠ D → H' l = some (.lst xs) → H' D = some (.lst ys) → Pv l D i ys H' → ∀ N : VK, (∀ y H'', H'' l = some (.lst xs) → H'' D = some (.lst ys) → Pv l D (i + 1) (ys ++ [y]) (upd H'' D (.lst (ys ++ [y]))) → N y H'') → te (some v :: cVals js σ) H' N)
    (hd : ∀ l D ys H', H' l = some (.lst xs) → H' D = some (.lst ys) → Pv l D xs.length ys H' → Q (.ref D) H') : tComp wi tNoIf te js σ H0 Q := by
  refine hwi _ fun l H src => ?_
  intro D hD
  have e := hsrc l H src
  have nl : l ≠ D := ne_of_none e hD
  refine ⟨fun i m H' => m = xs.length - i ∧ i ≤ xs.length ∧ H' l = some (.lst xs) ∧ ∃ ys, ys.length = i ∧ H' D = some (.lst ys) ∧ Pv l D i ys H', ⟨xs.length, rfl, Nat.zero_le _, by rw [upd_ne nl]; exact e, [], rfl, upd_same, h0 l H D src hD⟩, ?_⟩
  rintro i m H2 ⟨rfl, hi, e2, ys, hy, eD, p⟩
  by_cases hlt : i < xs.length
  · refine .inr ⟨⟨xs, xs[i], SqL.of e2, by simp [hlt]⟩, fun v H3 y => ?_⟩
    obtain ⟨eh, y⟩ := y
    subst eh
    refine tNoIf_go ?_
    refine hs l D i v ys _ (y xs (SqL.of e2)) nl e2 eD p _ fun y H5 z1 z2 z3 => ?_
    exact ⟨ys, z2, Nat.lt_of_le_of_lt (show ys.length ≤ 1000 by omega) (by decide), xs.length - (i + 1), by omega, rfl, hlt, by rw [upd_ne nl]; exact z1, ys ++ [y], by rw [List.length_append, hy]; rfl, upd_same, z3⟩
  · have ei : i = xs.length := by omega
    subst ei
    exact .inl ⟨⟨xs, SqL.of e2, Nat.le_refl _⟩, hd l D ys H2 e2 eD p⟩
theorem comp_tup {K : PySem.W.Frag} {wi : TI} {te : TE} {js : List Nat} {σ : St} {H0 : Hp} {Q : VK} {xs : List V} (Src : Addr → Hp → Prop) (hwi : ∀ R : It → Hp → Prop, (∀ l H, Src l H → R (Itt K l) H) → wi σ H0 R) (hsrc : ∀ l H, Src l H → H l = some (.tup xs)) (hx : xs.length ≤ 1000)
    (Pv : Addr → Addr → Nat → List V → Hp → Prop) (h0 : ∀ l H D, Src l H → H D = none → Pv l D 0 [] (upd H D (.lst [])))
    (hs : ∀ l D i v ys H', xs[i]? = some v → l ≠ D → H' l = some (.tup xs) → H' D = some (.lst ys) → Pv l D i ys H' → ∀ N : VK, (∀ y H'', H'' l = some (.tup xs) → H'' D = some (.lst ys) → Pv l D (i + 1) (ys ++ [y]) (upd H'' D (.lst (ys ++ [y]))) → N y H'') → te (some v :: cVals js σ) H' N)
    (hd : ∀ l D ys H', H' l = some (.tup xs) → H' D = some (.lst ys) → Pv l D xs.length ys H' → Q (.ref D) H') : tComp wi tNoIf te js σ H0 Q := by
  refine hwi _ fun l H src => ?_
  intro D hD
  have e := hsrc l H src
  have nl : l ≠ D := ne_of_none e hD
  refine ⟨fun i m H' => m = xs.length - i ∧ i ≤ xs.length ∧ H' l = some (.tup xs) ∧ ∃ ys, ys.length = i ∧ H' D = some (.lst ys) ∧ Pv l D i ys H', ⟨xs.length, rfl, Nat.zero_le _, by rw [upd_ne nl]; exact e, [], rfl, upd_same, h0 l H D src hD⟩, ?_⟩
  rintro i m H2 ⟨rfl, hi, e2, ys, hy, eD, p⟩
  by_cases hlt : i < xs.length
  · refine .inr ⟨⟨xs, xs[i], SqT.of e2, by simp [hlt]⟩, fun v H3 y => ?_⟩
    obtain ⟨eh, y⟩ := y
    subst eh
    refine tNoIf_go ?_
    refine hs l D i v ys _ (y xs (SqT.of e2)) nl e2 eD p _ fun y H5 z1 z2 z3 => ?_
    exact ⟨ys, z2, Nat.lt_of_le_of_lt (show ys.length ≤ 1000 by omega) (by decide), xs.length - (i + 1), by omega, rfl, hlt, by rw [upd_ne nl]; exact z1, ys ++ [y], by rw [List.length_append, hy]; rfl, upd_same, z3⟩
  · have ei : i = xs.length := by omega
    subst ei
    exact .inl ⟨⟨xs, SqT.of e2, Nat.le_refl _⟩, hd l D ys H2 e2 eD p⟩
theorem comp_mapT {α : Type} {K : PySem.W.Frag} {wi : TI} {te : TE} {js : List Nat} {σ : St} {H : Hp} {Q : VK} {xs : List V} {ts : List α} {R : Hp → V → α → Prop} (g : α → V) (hR : ∀ H H' v t, Same H H' → R H v t → R H' v t) (Src : Addr → Hp → Prop)
    (hwi : ∀ R : It → Hp → Prop, (∀ l H, Src l H → R (Itt K l) H) → wi σ H R) (hsrc : ∀ l H', Src l H' → H' l = some (.tup xs) ∧ Same H H') (hx : xs.length ≤ 1000) (o : All2 (R H) xs ts)
    (hs : ∀ v t H' (N : VK), t ∈ ts → R H' v t → (∀ H'', Same H' H'' → N (g t) H'') → te (some v :: cVals js σ) H' N) (hd : ∀ D H', Same H H' → H D = none → H' D = some (.lst (ts.map g)) → Q (.ref D) H') : tComp wi tNoIf te js σ H Q := by
  refine comp_tup Src hwi (fun l H src => (hsrc l H src).1) hx (fun l D i ys H' => H D = none ∧ Same H H' ∧ ys = (ts.take i).map g) (fun l H' D src hD => ⟨(hsrc l H' src).2.free hD, (hsrc l H' src).2.trans (same_new hD _), rfl⟩) (fun l D i v ys H' hv nl el eD h N hN => ?_) (fun l D ys H' el eD h => ?_)
  · obtain ⟨hD, sm, rfl⟩ := h
    obtain ⟨t, ht, hr⟩ := o.get i v hv
    refine hs v t H' N (List.mem_of_getElem? ht) (hR _ _ _ _ sm hr) fun H'' s2 => hN _ _ (s2 _ _ el) (s2 _ _ eD) ⟨hD, fun d u z => ?_, ?_⟩
    · rw [upd_ne (ne_of_none z hD)]
      exact s2 _ _ (sm _ _ z)
    · rw [List.take_add_one, ht, List.map_append]
      rfl
  · obtain ⟨hD, sm, rfl⟩ := h
    refine hd D H' sm hD ?_
    rw [o.len, List.take_length] at eD
    exact eD

end Mine
namespace Mine
open PySem L2
end Mine


set_option Elab.async false
set_option linter.all false
set_option maxRecDepth 100000
set_option maxHeartbeats 4000000
namespace Mine
open PySem L2
/-! ### rows: a word and numbers of rows ahead -/
abbrev Rw := List Key
def rowK (x : Str) (is : List Nat) : Rw := .inr x :: is.map fun i : Nat => .inl (i : Int)
/-- a row as a tuple on the heap -/
abbrev RwV (H : Hp) (v : V) (r : Rw) : Prop := ∃ a, v = .ref a ∧ H a = some (.tup (r.map kV))
theorem RwV.to {H H' : Hp} (e : Kp H H') (v : V) (r : Rw) (h : RwV H v r) : RwV H' v r := by
  obtain ⟨a, z, o⟩ := h
  exact ⟨a, z, e _ _ o rfl⟩
theorem rowK_kV (x : Str) (is : List Nat) : (rowK x is).map kV = V.str x :: is.map fun i : Nat => V.int (i : Int) := by
  unfold rowK
  rw [List.map_cons, List.map_map]
  rfl
end Mine


set_option Elab.async false
set_option linter.all false
set_option maxRecDepth 100000
set_option maxHeartbeats 4000000
namespace L2
open PySem PySem.Spec PyProof.Rows
section
variable {X : Cx} {pins : List (Addr × Obj)} {σ : St} {H H' : Hp} {s s' : Shared} {h' : Heap}
/-- several records of ours have turned -/
theorem Inv.turnedL {t' : Nat} {fp : List Addr} (I : Inv X pins σ H s) (kp : ∀ b o, b ∉ fp → s.heap.get? b = some o → h'.get? b = some o) (hf : ∀ b ∈ fp, FpOk X pins H b) : Inv X pins σ H { s with heap := h', toks := t' } := by
  have far : ∀ b u, H b = some u → b ∉ fp := fun b u e z => by
    have := (hf b z).1
    rw [e] at this; cases this
  refine I.step (ch := fp) (g' := s.gens) (d' := s.drawn) (fun b hb => ⟨(hf b hb).2.2.2.1, (hf b hb).2.1, (hf b hb).2.2.2.2.1, (hf b hb).2.2.2.2.2⟩) (fun b o _ _ hc e _ => kp b o hc e) (fun b o _ _ hc e _ => ⟨o.slots, kp b o hc e⟩) (fun _ _ _ _ n => n)
    (fun b o hc e => ⟨o, kp b o hc e⟩) (fun _ _ e => e) (fun _ _ _ e => e) (fun b ps e => ⟨#[], by rw [e]; simp⟩) (fun m hm => ?_) (fun b u e => ?_) I.bare
  · obtain ⟨o, es, ep, ho, r⟩ := hm
    exact ⟨o, es, ep, kp _ o (fun z => (hf _ z).2.1 rfl) ho, r⟩
  · exact (I.hok b u e).stay (fun c v hc q => kp c v (hc.elim (fun z => by rw [z]; exact far b u e) fun z => far c _ z) q) (fun _ q => q) fun _ _ q => q
/-- what lies there untracked is tracked from now on -/
theorem Inv.trackO {a : Addr} {o : HO} (I : Inv X pins σ H s) (n : H a = none) (new : X.s₀.heap.get? a = none) (hL : a ≠ X.env.locals) (hc : ∀ x c, X.env.cells.lookup x = some c → c ≠ a) (hp : ∀ p ∈ X.pn ++ pins, p.1 ≠ a)
    (p : ObjOk X.prog X.w (upd H a o) s.heap a o) : Inv X pins σ (upd H a o) s :=
  ⟨I.ok, I.os, I.bare, ⟨I.base.keep, I.base.slot, fun b o e z hx => by rw [upd_ne (fun q => by rw [q, new] at e; cases e)]; exact I.base.free b o e z hx, I.base.there,
      fun b xs e => by have q := I.base.tups b xs e; rw [upd_ne (ne_of_none q n)]; exact q, fun b o u e => by have q := I.base.frzs b o u e; rw [upd_ne (ne_of_none q n)]; exact q,
      fun b ps e => by obtain ⟨m, q⟩ := I.base.tbls b ps e; exact ⟨m, by rw [upd_ne (ne_of_none q n)]; exact q⟩⟩,
    I.loc, I.cell, by rw [upd_ne (Ne.symm hL)]; exact I.free, fun x c e => by rw [upd_ne (hc x c e)]; exact I.freeC x c e,
    fun q hq => by obtain ⟨a1, a2, a3⟩ := I.pin q hq; exact ⟨a1, by rw [upd_ne (hp q hq)]; exact a2, a3⟩,
    fun b u e => by
      by_cases hb : b = a
      · subst hb
        rw [upd_same] at e
        cases e
        exact p
      · rw [upd_ne hb] at e
        exact (I.hok b u e).stay (fun _ _ _ z => z) (fun c z => by rw [upd_ne (ne_of_none z n)]; exact z) fun c xs z => by rw [upd_ne (ne_of_none z n)]; exact z,
    I.len⟩
end

/-! ### what yields a new tuple at each turn -/
/-- src: what stands in the tuple of turn i -/
def ItT (go : Nat → Hp → Prop) (src : Nat → Hp → List V → Prop) (n : Nat → Hp → Prop) : It :=
  ⟨go, fun i H v H' => ∃ (T : Addr) (vs : List V), H T = none ∧ v = .ref T ∧ H' = upd H T (.tup vs) ∧ src i H vs, n⟩
/-- one turn, by the library's walk that yields tuples -/
theorem turn_item {X : Cx} {elts : List Expr} {kk : Nat} {tpos : Pos} {I₀ : Addr} {fp' wr fp : List Addr} {n : Nat} {Pt : Nat → Array Value → Prop} {St : Nat → Heap → Prop} {Mid : Nat → Addr → Heap → Prop} (W : WalksT X.prog X.w X.A I₀ fp' wr n Pt St Mid)
    {pins : List (Addr × Obj)} {s : Shared} {σ : L2.St} {H : Hp} {E : Value → Shared → Prop} {i : Nat} {vs : List V} {src : Nat → Hp → List V → Prop} {tn : Nat → Heap → Prop} (I : Inv X pins σ H s) (hf : ∀ b ∈ fp, FpOk X pins H b) (hob : ∀ b ∈ fp, ∃ o, s.heap.get? b = some o) (hw : ∀ b ∈ wr, b ∈ fp) (hi : i < n) (st : St i s.heap)
    (hv : ∀ vals, Pt i vals → Vals vs vals.toList) (hz : vs.length ≤ sizeLine) (hsrc : src i H vs) (htn : ∀ h, St (i + 1) h → tn (i + 1) h) {gop stp : Nat → Hp → Prop} :
    wpAny (model X.prog X.w) X.A (pyNext (.ref I₀)) (fun r s1 => ∃ u, r = some u ∧
      wpAny (model X.prog X.w) X.A (letOwnedTupleGo (.Tuple elts kk tpos) (.ref I₀) u) (fun _ s2 => ∃ x H', Inv X pins σ H' s2 ∧ RelV x u ∧ (ItT gop src stp).yld i H x H' ∧ tn (i + 1) s2.heap ∧ ∀ b ∈ fp, H' b = none) E s1) E s := by
  refine W.item i s _ _ hi st fun T vals h1 tk hP hT hTup hM kp => ?_
  refine ⟨.ref T, rfl, W.go elts kk tpos i T { s with heap := h1, toks := tk } _ _ hM fun h2 hst kp2 => ?_⟩
  have I1 : Inv X pins σ H { s with heap := h2, toks := tk } := I.turnedL (fun b o hb e => kp2 b o (fun z => hb (hw b z)) (kp b o (fun z => hb (hw b z)) e)) hf
  have nT : H T = none := I.hok.fresh hT
  have tup : h2.IsTuple T vals := by
    obtain ⟨o, e, r⟩ := hTup
    exact ⟨o, kp2 T o (W.apart i T h1 hM) e, r⟩
  have new : X.s₀.heap.get? T = none := by
    cases z : X.s₀.heap.get? T with
    | none => rfl
    | some o => exact absurd (Nat.lt_of_lt_of_le (Heap.lt_size z) (Nat.le_trans I.sz hT)) (Nat.lt_irrefl _)
  refine ⟨.ref T, upd H T (.tup vs), I1.trackO nT new (Nat.ne_of_gt (Nat.lt_of_lt_of_le I.lt hT)) (fun x c e z => ?_) (fun p hp z => ?_) ⟨hz, vals.toList, hv vals hP, (by rw [Array.toArray_toList]; exact tup)⟩, rfl, ⟨T, vs, nT, rfl, rfl, hsrc⟩, htn _ hst, fun b hb => ?_⟩
  · obtain ⟨v, o, ho, _⟩ := I.cell x c e
    exact absurd (Nat.lt_of_lt_of_le (Heap.lt_size ho) (by rw [z]; exact hT)) (Nat.lt_irrefl _)
  · exact absurd (Nat.lt_of_lt_of_le (Heap.lt_size (I.pin p hp).1) (by rw [z]; exact hT)) (Nat.lt_irrefl _)
  · have e0 := (hf b hb).1
    obtain ⟨o, ho⟩ := hob b hb
    have bT : b ≠ T := fun z => absurd (Nat.lt_of_lt_of_le (Heap.lt_size ho) (by rw [z]; exact hT)) (Nat.lt_irrefl _)
    rw [upd_ne bT]
    exact e0
/-! ### enumerate of a list -/
def srcE (K : PySem.W.Frag) (a : Addr) : Nat → Hp → List V → Prop := fun i H vs => ∃ x, vs = [.int i, x] ∧ ∀ xs, SqL K H a xs → xs[i]? = some x
def ItE (K : PySem.W.Frag) (a : Addr) : It := ItT (fun i H => ∃ xs x, SqL K H a xs ∧ xs[i]? = some x) (srcE K a) fun i H => ∃ xs, SqL K H a xs ∧ xs.length ≤ i
theorem isList_ne {h : Heap} {a b : Addr} {its : Array Value} {o : Obj} {T : String} (l : h.IsList a its) (e : h.get? b = some o) (c : o.cls = .type T) (n : T ≠ "list") : a ≠ b := fun z => by
  obtain ⟨o', e', c', _⟩ := l
  rw [z, e] at e'
  cases e'
  rw [c] at c'
  exact n (Value.type.inj c')
theorem turn_enum {P : Program} {w : World} {K : PySem.W.Frag} {elts : List Expr} {kk : Nat} {tpos : Pos} (a e it : Addr) (hei : e ≠ it) :
    Turn P w K (.Tuple elts kk tpos) (ItE K a) [e, it] e (fun i h => (∃ old, IsEnum h e it i old) ∧ h.IsListIter it a i) where
  mem := by simp
  obj := fun i h st b hb => by
    obtain ⟨⟨old, he⟩, o, ho, _, hd⟩ := st
    rcases List.mem_cons.mp hb with rfl | hb
    · exact ⟨_, he, fun v z => by cases z⟩
    · rw [List.mem_singleton.mp hb]
      exact ⟨o, ho, fun v z => by rw [hd] at z; cases z⟩
  keep := fun i h h' st k => by
    obtain ⟨⟨old, he⟩, l⟩ := st
    exact ⟨⟨old, k e (by simp) _ he⟩, l.at fun o z => k it (by simp) o z⟩
  item := by
    intro X hP hw hK hc i pins s σ H E I hf st hg
    subst hP hw hK
    obtain ⟨xs, x, hq, hx⟩ := hg
    obtain ⟨its, rv, p, hz⟩ := I.list hq
    obtain ⟨u, hu, ru⟩ := rv.get hx
    obtain ⟨⟨old, he⟩, hit⟩ := st
    have hL := p.isList
    have ne1 : a ≠ e := isList_ne hL he rfl (by decide)
    have ne2 : a ≠ it := by
      obtain ⟨o, ho, hc', _⟩ := id hit
      exact isList_ne hL ho hc' (by decide)
    have W := WalksT.enumerateD (A := X.A) (Draws.list (prog := X.prog) (w := X.w) (A := X.A.in1) (I.ok.hd hc) it a ne2 its.toArray) e hei (by simp; exact ⟨hei, Ne.symm ne1⟩) (by simp)
    refine turn_item (fp := [e, it]) (vs := [.int i, x]) (src := srcE X.K a) (tn := fun i h => (∃ old, IsEnum h e it i old) ∧ h.IsListIter it a i) W I hf (fun b hb => ?_) (fun b hb => hb) (by have := (List.getElem?_eq_some_iff.mp hu).1; simpa using this) ⟨⟨old, he⟩, hit, hL⟩ (fun vals hP => ?_) (by show 2 ≤ sizeLine; decide) ⟨x, rfl, fun ys hy => by rw [I.list_inj hy hq]; exact hx⟩ fun h st => ⟨?_, st.2.1⟩
    · rcases List.mem_cons.mp hb with rfl | hb
      · exact ⟨_, he⟩
      · rw [List.mem_singleton.mp hb]
        obtain ⟨o, ho, _⟩ := id hit
        exact ⟨o, ho⟩
    · obtain ⟨t, y, hy, rfl⟩ := hP
      have ey : y = u := by
        have : its[i]? = some y := by simpa using hy
        rw [hu] at this
        exact (Option.some.inj this).symm
      subst ey
      exact .cons ⟨t, rfl⟩ (.cons ru .nil)
    · obtain ⟨old', z⟩ := st.1
      exact ⟨old', z⟩
  done := by
    intro X hP hw hK hc i pins s σ H E I hf st hg
    subst hP hw hK
    obtain ⟨xs, hq, hx⟩ := hg
    obtain ⟨its, rv, p, hz⟩ := I.list hq
    obtain ⟨⟨old, he⟩, hit⟩ := st
    have hl := rv.length
    obtain ⟨f0, f1, f2, f3, f4, f5⟩ := hf it (by simp)
    exact wpAny_pyNext_enum_end (I.ok.hd hc) he hit p.isList (by simp; omega) fun h' eb => ⟨rfl, I.turned (t' := s.toks) (fun b o hb e => eb b o hb e) f0 f1 f3 f4 f5⟩
  self := fun _ _ _ _ _ st h => by
    obtain ⟨⟨old, he⟩, _⟩ := st
    exact wpAny_pyIter_enum he h
section
variable {X : Cx}
def iEnum (K : PySem.W.Frag) (tl : TE) : TI := fun σ H R => tl σ H fun x H1 => ∃ a, x = .ref a ∧ (∃ xs, SqL K H1 a xs) ∧ R (ItE K a) H1
theorem pi_enum {elts : List Expr} {kk : Nat} {tpos p pos : Pos} {e : Expr} {te : TE} (hg : Gl X "enumerate") (hm : X.mg "enumerate" = none) (he : PE X e te)
    (hs : starEach [e] X.env = [(false, eval e X.env)] := by rfl) : PI X (.Tuple elts kk tpos) (.Call (.Name "enumerate" p) [e] [] pos) (iEnum X.K te) := by
  intro pins s σ H R I h
  have b1 : bootBuiltins "enumerate" = some (.type "enumerate") := by decide +kernel
  refine wpAny_Call_Name_kw (ld_blt I hg hm b1 ?_ (by decide) (by decide))
  refine PyProof.Rows.callWith_type1 ?_ hs (by rfl)
  rw [hs]
  refine Calls.spliced_cons (thn (he pins s σ H _ I h) fun u s1 ⟨y, H1, I1, ry, a, ey, ⟨xs, hq⟩, q⟩ => ?_)
  subst ey
  have eu : u = Value.ref a := ry
  subst eu
  refine Calls.spliced_nil ?_
  obtain ⟨its, rv, pl, hz⟩ := I1.list hq
  refine call_enumerate_list pl.isList fun h' e1 e2 e3 kp => ?_
  have I2 : Inv X pins σ H1 { s1 with heap := h' } := I1.kept (t' := s1.toks) kp
  refine wpAny_pyIter_enum (s := { s1 with heap := h' }) e1 ?_
  refine ⟨_, [s1.heap.objs.size + 1, s1.heap.objs.size], _, ItE X.K a, H1, rfl, I2, turn_enum a _ _ (Nat.ne_of_gt (Nat.lt_succ_self _)), ⟨⟨_, e1⟩, e2⟩, fun b hb => ?_, q⟩
  have nb : s1.heap.objs.size ≤ b := by
    rcases List.mem_cons.mp hb with rfl | hb
    · exact Nat.le_succ _
    · rw [List.mem_singleton.mp hb]; exact Nat.le_refl _
  exact I1.fpOk nb (I1.hok.fresh nb)
end
/-- over a list that the body leaves as it is, with the turns' numbers -/
theorem for_enum {K : PySem.W.Frag} {a : Addr} {xs : List V} {g : TG} {tb : TS} {D : Ends} {σ : St} {H : Hp} (Pv : Nat → St → Hp → Prop) (h0 : Pv 0 σ H) (hl : ∀ i σ H, i ≤ xs.length → Pv i σ H → SqL K H a xs)
    (hs : ∀ i x T σ H, xs[i]? = some x → Pv i σ H → H T = none → g (.ref T) σ (upd H T (.tup [.int i, x])) fun σ2 H2 => tb { D with nx := Pv (i + 1), ct := Pv (i + 1), bk := D.nx } σ2 H2) (hd : ∀ σ H, Pv xs.length σ H → D.nx σ H) :
    ∃ W : Nat → Nat → St → Hp → Prop, (∃ m, W 0 m σ H) ∧ ∀ i m σ H, W i m σ H →
      ((ItE K a).stop i H ∧ D.nx σ H) ∨ ((ItE K a).go i H ∧ ∃ N : St → Hp → Prop, (∀ σ' H', N σ' H' → ∃ m', m' < m ∧ W (i + 1) m' σ' H') ∧ ∀ x H', (ItE K a).yld i H x H' → g x σ H' fun σ2 H2 => tb { D with nx := N, ct := N, bk := D.nx } σ2 H2) := by
  refine ⟨fun i m σ H => m = xs.length - i ∧ i ≤ xs.length ∧ Pv i σ H, ⟨xs.length, by simp, Nat.zero_le _, h0⟩, ?_⟩
  rintro i m σ H ⟨rfl, hi, p⟩
  have q := hl i σ H hi p
  by_cases hlt : i < xs.length
  · refine .inr ⟨⟨xs, xs[i], q, by simp [hlt]⟩, Pv (i + 1), fun σ' H' p' => ⟨xs.length - (i + 1), by omega, rfl, hlt, p'⟩, fun x H' y => ?_⟩
    obtain ⟨T, vs, nT, rfl, rfl, x, rfl, hx⟩ := y
    exact hs i x T σ H (hx xs q) p nT
  · have e : i = xs.length := by omega
    subst e
    exact .inl ⟨⟨xs, q, Nat.le_refl _⟩, hd σ H p⟩
end L2


set_option Elab.async false
set_option linter.all false
set_option maxRecDepth 100000
set_option maxHeartbeats 4000000
namespace L2
open PySem PySem.Spec PyProof.Rows PySem.AutoSeq1
/-! ### enumerate of a tuple -/
section
variable {prog : Program} {w : World} {A : Around} {E : Value → Shared → Prop} {s : Shared}
end
section
variable {X : Cx}
end
end L2


set_option Elab.async false
set_option linter.all false
set_option maxRecDepth 100000
set_option maxHeartbeats 4000000
namespace L2
open PySem PySem.Spec PyProof.Rows
/-! ### zip of two lists -/
section
variable {X : Cx}
end
end L2


set_option Elab.async false
set_option linter.all false
set_option maxRecDepth 100000
set_option maxHeartbeats 4000000
namespace L2
open PySem PySem.Spec PyProof.Rows
/-! ### list.insert at a place that is not below nought -/
section
variable {X : Cx}
end
end L2


set_option Elab.async false
set_option linter.all false
set_option maxRecDepth 100000
set_option maxHeartbeats 4000000
namespace L2
open PySem PySem.Spec PyProof.Rows
/-! ### in and not in, of data in a list -/
section
variable {X : Cx}
end
end L2


set_option Elab.async false
set_option linter.all false
set_option maxRecDepth 100000
set_option maxHeartbeats 4000000
namespace L2
open PySem PySem.Spec PyProof.Rows
section
variable {X : Cx}
/-! ### l.index(x) of data -/
end
end L2


set_option Elab.async false
set_option linter.all false
set_option maxRecDepth 100000
set_option maxHeartbeats 4000000
namespace Mine
open PySem L2
/-! ### rows as data -/
end Mine


set_option Elab.async false
set_option linter.all false
set_option maxRecDepth 100000
set_option maxHeartbeats 4000000
namespace Mine
open PySem L2
/-! ### rows by their kinds -/
inductive Gr where
  | ne | al | p | q
  | no (i : Nat)
  | fold (u : W5) (i j : Nat)
def Gr.word : Gr → Str
  | .ne => "never" | .al => "always" | .p => "p" | .q => "q" | .no _ => "not" | .fold u _ _ => u.str
def Gr.nums : Gr → List Nat
  | .no i => [i]
  | .fold _ i j => [i, j]
  | _ => []
def Gr.rw (g : Gr) : Rw := rowK g.word g.nums
/-- each of rows ahead -/
def GrOk (k : Nat) (g : Gr) : Prop := ∀ i ∈ g.nums, i < k
def GrsOk (gs : List Gr) : Prop := ∀ k g, gs[k]? = some g → GrOk k g
theorem Gr.len (g : Gr) : g.nums.length ≤ 2 := by cases g <;> simp [Gr.nums]
/-! ### each row a saying of letters -/
/-- the dict of how many each word takes -/
def TK : List (Str × Int) := [("never", 0), ("always", 0), ("p", 0), ("q", 0), ("not", 1), ("more", 2), ("less", 2), ("greater", 2), ("lesser", 2), ("leads", 2)]
/-! ### the rows of a tree -/
end Mine


set_option Elab.async false
set_option linter.all false
set_option maxRecDepth 100000
set_option maxHeartbeats 4000000
namespace L2
open PySem PySem.Spec PyProof.Rows
variable {X : Cx}
/-! ### is True, is not True, of a truth -/
/-! ### methods of built-in things within a comprehension -/
end L2


set_option Elab.async false
set_option linter.all false
set_option maxRecDepth 100000
set_option maxHeartbeats 4000000
namespace L2
open PySem PySem.Spec PyProof.Rows
/-! ### what is never come to -/
def tDead : TS := fun _ _ _ => False
/-! ### sum of a list of ints -/
/-! ### TABLE.get(x) of a dict at a file's top -/
structure TopDict (K : PySem.W.Frag) (mg : Str → Option Value) (x : Str) (D : List (Str × Int)) : Prop where
  ex : ∃ a o es ep, mg x = some (.ref a) ∧ (a == sysModules) = false ∧ K.lookup a = some o ∧ o.ExactDict ∧ o.data = .dict es ep ∧ KTD.Rows (fun (n : Int) v => ∃ t, v = Value.int n t) es.toList D
theorem topdict_mk {K : PySem.W.Frag} {h : Heap} {mg : Str → Option Value} {x : Str} {a : Addr} {es : Array DictEntry} {ep : Nat} {D : List (Str × Int)} (X : K.In h) (G : h.Ns mainGlobals mg)
    (e : PySem.W.nsIn K mainGlobals x = some (some (.ref a))) (l : K.lookup a = some ⟨.type "dict", none, .dict es ep, #[]⟩) (hs : (a == sysModules) = false) (r : KTD.Rows (fun (n : Int) v => ∃ t, v = Value.int n t) es.toList D) : TopDict K mg x D :=
  ⟨a, _, es, ep, PySem.W.mg_of X G e, hs, l, ⟨rfl, rfl, rfl⟩, rfl, r⟩
def tTGet (D : List (Str × Int)) (ty : TE) : TE := fun σ H Q => ty σ H fun y H1 => ∃ k, y = .str k ∧ Q (match KTD.datumAt k D with | some n => .int n | none => .non) H1
theorem pe_tget {X : Cx} {x : Str} {D : List (Str × Int)} {e : Expr} {p apos cpos : Pos} {ty : TE} (T : TopDict X.K X.mg x D) (hg : Gl X x) (he : PE X e ty) (m : M1 X (.Name x p) "get" apos e cpos) (hdb : (x == ("__debug__" : Str)) = false := by decide) :
    PE X (.Call (.Attribute (.Name x p) "get" apos) [e] [] cpos) (tTGet D ty) := by
  intro pins s σ H Q I h
  obtain ⟨a, o, es, ep, hm, hs, lk, xd, dt, rw'⟩ := T.ex
  have tab : ∀ {s1 : Shared} {H1 : Hp}, Inv X pins σ H1 s1 → KTD.TextTab s1.heap a (D.map fun q => (q.1, KTD.Dat.flat (.int q.2))) := fun {s1 H1} I1 =>
    ⟨hs, o, es, ep, I1.kIn _ _ lk, xd, dt, KTD.Rows.mono (R' := KTD.Dat.At s1.heap) (f := fun n => KTD.Dat.flat (.int n)) (fun n v z => by obtain ⟨t, rfl⟩ := z; exact PyProof.V.Flat.int n t) rw'⟩
  refine wpAny_Call_method m.base m.few m.line PySem.F.plainAttrs_dict PySem.F.slot_dict_get PySem.F.type_dict_get (ld_glob I hg hm ?_ hdb)
  have T1 : KTD.Here s.heap s.heap a _ := ⟨tab I, fun _ _ z => z⟩
  refine ⟨T1.typeIs, T1.noDict, ?_⟩
  rw [m.trees]
  refine Calls.callWith_builtin rfl (Calls.evalArgs_plain (Calls.spliced_cons (thn (he pins s σ H _ I h) fun iv s2 ⟨y, H2, I2, ry, k, ek, q2⟩ => Calls.spliced_nil ?_)))
  subst ek
  obtain ⟨t, rfl⟩ := ry
  have T2 : KTD.Here s2.heap s2.heap a _ := ⟨tab I2, fun _ _ z => z⟩
  have dm : ∀ D' : List (Str × Int), KTD.datumAt k (D'.map fun q => (q.1, KTD.Dat.flat (.int q.2))) = (KTD.datumAt k D').map fun n => KTD.Dat.flat (.int n) := by
    intro D'
    induction D' with
    | nil => rfl
    | cons c D' ih =>
      show (if decide (k = c.1) = true then _ else KTD.datumAt k (D'.map _)) = Option.map _ (if decide (k = c.1) = true then _ else KTD.datumAt k D')
      split
      · rfl
      · exact ih
  refine call_meetsIn PySem.F.slot_dict_get T2.typeIs PySem.F.entry_dict_get (PySem.F.args_dict_get_2 _ _) KTD.meets_get1 ⟨T2, fun d v e1 e2 => ?_, fun e1 => ?_⟩
  · rw [dm] at e1
    cases hn : KTD.datumAt k D with
    | none => rw [hn] at e1; cases e1
    | some n =>
      rw [hn] at e1 q2
      cases e1
      obtain ⟨t', rfl⟩ := PyProof.V.Flat.int_inv e2
      exact ⟨.int n, H2, I2.tok _, ⟨t', rfl⟩, q2⟩
  · rw [dm] at e1
    cases hn : KTD.datumAt k D with
    | none =>
      rw [hn] at q2
      exact ⟨.non, H2, I2.tok _, rfl, q2⟩
    | some n => rw [hn] at e1; cases e1
end L2


set_option Elab.async false
set_option linter.all false
set_option maxRecDepth 100000
set_option maxHeartbeats 4000000
namespace L2
open PySem PySem.Spec PySem.Calls PyProof.Rows PySem.W
section
variable {P : Program} {w : World} {K : PySem.W.Frag} {mg : Str → Option Value} {base : Heap} {N : List Str} {qual : Str} {scope : Scope} {f : Addr} {cd : Value} {A : Around} {outer : List Env} {s : Shared} {H : Hp} {E : XK}
end
end L2


set_option Elab.async false
set_option linter.all false
set_option maxRecDepth 100000
set_option maxHeartbeats 4000000
namespace L2
open PySem PySem.Spec PyProof.Rows PySem.W
/-! ### try: f(..) except Y: suite -/
end L2


set_option Elab.async false
set_option linter.all false
set_option maxRecDepth 100000
set_option maxHeartbeats 4000000
namespace L2
open PySem PySem.Spec PyProof.Rows
variable {X : Cx}
/-! ### items without a star: by the constructor alone -/
def plainArg (e : Expr) : Bool := match e with
  | .Starred _ _ => false
  | _ => true
theorem star_plain {e : Expr} {es : List Expr} {env : Env} (h : plainArg e = true) : starEach (e :: es) env = (false, eval e env) :: starEach es env := by
  cases e <;> first | rfl | cases h
theorem paS {e : Expr} {es : List Expr} {te : TE} {t : TA} (ha : PE X e te) (hr : PA X es t) (h : plainArg e = true := by rfl) : PA X (e :: es) (tCons te t) := pa_cons ha hr (star_plain h)
end L2


set_option Elab.async false
set_option linter.all false
set_option maxRecDepth 100000
set_option maxHeartbeats 4000000
namespace L2
open PySem PySem.Spec PyProof.Rows
/-! ### written things of constants and names, as deep as one likes, in one step -/
inductive Lt where
  | non | bl (b : Bool) | int (i : Int) | str (x : Str) | var (i : Nat) | tup (xs : List Lt) | lst (xs : List Lt) | dic
def visB (sc : Scope) (x : Str) : Bool := match sc.names.lookup x with
  | some .local => true
  | some .cell => true
  | some .free => true
  | _ => false
mutual
def litE (N : List Str) (sc : Scope) : Expr → Option Lt
  | .Constant .none _ _ => some .non
  | .Constant (.bool b) _ _ => some (.bl b)
  | .Constant (.int i) _ _ => some (.int i)
  | .Constant (.str x) _ _ => some (.str x)
  | .UnaryOp .USub (.Constant (.int i) _ _) _ => some (.int (-i))
  | .Name x _ => match N.idxOf? x with
    | some i => if visB sc x && !(x == ("__debug__" : Str)) && !(x == ("__classdict__" : Str)) then some (.var i) else none
    | none => none
  | .Tuple es _ _ => match litEs N sc es with
    | some xs => some (.tup xs)
    | none => none
  | .List es _ => match litEs N sc es with
    | some xs => some (.lst xs)
    | none => none
  | .Dict [] [] _ => some .dic
  | _ => none
def litEs (N : List Str) (sc : Scope) : List Expr → Option (List Lt)
  | [] => some []
  | e :: es => match litE N sc e, litEs N sc es with
    | some x, some xs => if plainArg e then some (x :: xs) else none
    | _, _ => none
end
mutual
def tLit : Lt → TE
  | .non => tC .non
  | .bl b => tC (.bl b)
  | .int i => tC (.int i)
  | .str x => tC (.str x)
  | .var i => tVar i
  | .tup xs => tTup (tLits xs)
  | .lst xs => tLst (tLits xs)
  | .dic => tDNewK
def tLits : List Lt → TA
  | [] => tNil
  | x :: xs => tCons (tLit x) (tLits xs)
end
mutual
def LtV (σ : St) (H : Hp) : Lt → V → Prop
  | .non, v => v = .non
  | .bl b, v => v = .bl b
  | .int i, v => v = .int i
  | .str x, v => v = .str x
  | .var i, v => σ[i]? = some (some v)
  | .tup xs, v => ∃ a us, v = .ref a ∧ H a = some (.tup us) ∧ LtVs σ H xs us
  | .lst xs, v => ∃ a us, v = .ref a ∧ H a = some (.lst us) ∧ LtVs σ H xs us
  | .dic, v => ∃ a, v = .ref a ∧ H a = some (.dK [])
def LtVs (σ : St) (H : Hp) : List Lt → List V → Prop
  | [], us => us = []
  | x :: xs, us => ∃ u r, us = u :: r ∧ LtV σ H x u ∧ LtVs σ H xs r
end
mutual
def ltVar (σ : St) : Lt → Bool
  | .var i => match σ[i]? with | some (some _) => true | _ => false
  | .tup xs => decide (xs.length ≤ 1000) && ltVars σ xs
  | .lst xs => decide (xs.length ≤ 1000) && ltVars σ xs
  | _ => true
def ltVars (σ : St) : List Lt → Bool
  | [] => true
  | x :: xs => ltVar σ x && ltVars σ xs
end
mutual
theorem LtV.same {σ : St} {H H' : Hp} (s : Same H H') : ∀ {l : Lt} {v : V}, LtV σ H l v → LtV σ H' l v
  | .non, _, h => h
  | .bl _, _, h => h
  | .int _, _, h => h
  | .str _, _, h => h
  | .var _, _, h => h
  | .tup _, _, ⟨a, us, h1, h2, h3⟩ => ⟨a, us, h1, s _ _ h2, LtVs.same s h3⟩
  | .lst _, _, ⟨a, us, h1, h2, h3⟩ => ⟨a, us, h1, s _ _ h2, LtVs.same s h3⟩
  | .dic, _, ⟨a, h1, h2⟩ => ⟨a, h1, s _ _ h2⟩
theorem LtVs.same {σ : St} {H H' : Hp} (s : Same H H') : ∀ {l : List Lt} {us : List V}, LtVs σ H l us → LtVs σ H' l us
  | [], _, h => h
  | _ :: _, _, ⟨u, r, h1, h2, h3⟩ => ⟨u, r, h1, LtV.same s h2, LtVs.same s h3⟩
end
theorem LtVs.len {σ : St} {H : Hp} : ∀ {l : List Lt} {us : List V}, LtVs σ H l us → us.length = l.length
  | [], _, h => by cases (show _ = ([] : List V) from h); rfl
  | _ :: _, _, ⟨u, r, h1, _, h3⟩ => by subst h1; simp [LtVs.len h3]
theorem LtVs.get {σ : St} {H : Hp} : ∀ {l : List Lt} {us : List V} {i : Nat} {x : Lt}, LtVs σ H l us → l[i]? = some x → ∃ v, us[i]? = some v ∧ LtV σ H x v
  | [], _, _, _, _, e => by cases e
  | _ :: _, _, 0, _, ⟨u, r, h1, h2, _⟩, e => by subst h1; cases e; exact ⟨u, rfl, h2⟩
  | _ :: _, _, i + 1, _, ⟨u, r, h1, _, h3⟩, e => by
    subst h1
    obtain ⟨v, e1, e2⟩ := LtVs.get (i := i) h3 (by simpa using e)
    exact ⟨v, by simpa using e1, e2⟩
theorem sameNew {H : Hp} {p : Addr} (h : H p = none) (o : HO) : Same H (upd H p o) := fun b u z => by rw [upd_ne (ne_of_none z h)]; exact z
mutual
theorem lit_ok {σ : St} : ∀ (l : Lt) {H : Hp} {Q : VK}, ltVar σ l = true → (∀ v H', Same H H' → LtV σ H' l v → Q v H') → tLit l σ H Q
  | .non, H, Q, _, q => q _ _ (fun _ _ z => z) rfl
  | .bl _, H, Q, _, q => q _ _ (fun _ _ z => z) rfl
  | .int _, H, Q, _, q => q _ _ (fun _ _ z => z) rfl
  | .str _, H, Q, _, q => q _ _ (fun _ _ z => z) rfl
  | .var i, H, Q, h, q => by
    have h' : (match σ[i]? with | some (some _) => true | _ => false) = true := h
    cases e : σ[i]? with
    | none => rw [e] at h'; cases h'
    | some o =>
      cases o with
      | none => rw [e] at h'; cases h'
      | some v => exact ⟨v, e, q v H (fun _ _ z => z) e⟩
  | .tup xs, H, Q, h, q => by
    have h' : (decide (xs.length ≤ 1000) && ltVars σ xs) = true := h
    rw [Bool.and_eq_true] at h'
    refine lits_ok xs h'.2 fun us H1 s1 l1 => ⟨?_, fun p hp => ?_⟩
    · rw [l1.len]; exact Nat.le_trans (of_decide_eq_true h'.1) (by decide)
    · have s2 := sameNew hp (.tup us)
      exact q _ _ (fun b o z => s2 _ _ (s1 _ _ z)) ⟨p, us, rfl, upd_same, l1.same s2⟩
  | .lst xs, H, Q, h, q => by
    have h' : (decide (xs.length ≤ 1000) && ltVars σ xs) = true := h
    rw [Bool.and_eq_true] at h'
    refine lits_ok xs h'.2 fun us H1 s1 l1 => ⟨?_, fun p hp => ?_⟩
    · rw [l1.len]; exact Nat.le_trans (of_decide_eq_true h'.1) (by decide)
    · have s2 := sameNew hp (.lst us)
      exact q _ _ (fun b o z => s2 _ _ (s1 _ _ z)) ⟨p, us, rfl, upd_same, l1.same s2⟩
  | .dic, H, Q, _, q => fun p hp => q _ _ (sameNew hp _) ⟨p, rfl, upd_same⟩
theorem lits_ok {σ : St} : ∀ (l : List Lt) {H : Hp} {Q : List V → Hp → Prop}, ltVars σ l = true → (∀ us H', Same H H' → LtVs σ H' l us → Q us H') → tLits l σ H Q
  | [], H, Q, _, q => q [] H (fun _ _ z => z) rfl
  | x :: xs, H, Q, h, q => by
    have h' : (ltVar σ x && ltVars σ xs) = true := h
    rw [Bool.and_eq_true] at h'
    refine lit_ok x h'.1 fun v H1 s1 l1 => lits_ok xs h'.2 fun us H2 s2 l2 => ?_
    exact q _ _ (fun b o z => s2 _ _ (s1 _ _ z)) ⟨v, us, rfl, l1.same s2, l2⟩
end
section
variable {X : Cx}
theorem idxOf_at {N : List Str} {x : Str} {i : Nat} (h : N.idxOf? x = some i) : N[i]? = some x := by
  have := List.of_findIdx?_eq_some (p := fun y => y == x) (xs := N) h
  cases e : N[i]? with
  | none => rw [e] at this; cases this
  | some y =>
    rw [e] at this
    have : (y == x) = true := this
    rw [beq_iff_eq] at this
    rw [this]
theorem vis_of {sc : Scope} {x : Str} (h : visB sc x = true) : Vis sc x := by
  unfold visB at h
  unfold Vis
  cases e : sc.names.lookup x with
  | none => rw [e] at h; cases h
  | some k =>
    rw [e] at h
    cases k with
    | «local» => exact .inl rfl
    | cell => exact .inr (.inl rfl)
    | free => exact .inr (.inr rfl)
    | globalExplicit => cases h
    | globalImplicit => cases h
mutual
theorem pe_litN {N : List Str} {sc : Scope} (eN : X.N = N) (es : X.env.scope = sc) : ∀ (e : Expr) {l : Lt}, litE N sc e = some l → PE X e (tLit l)
  | .Constant .none _ _, l, h => by cases h; exact pe_non
  | .Constant (.bool b) _ _, l, h => by cases h; exact pe_bl
  | .Constant (.int i) _ _, l, h => by cases h; exact pe_int
  | .Constant (.str x) _ _, l, h => by cases h; exact pe_str
  | .UnaryOp .USub (.Constant (.int i) _ _) _, l, h => by
    cases h
    intro pins s σ H Q I q
    exact pe_un un_neg pe_int pins s σ H Q I ⟨i, rfl, q⟩
  | .Name x _, l, h => by
    unfold litE at h
    cases z : N.idxOf? x with
    | none => rw [z] at h; cases h
    | some i =>
      rw [z] at h
      dsimp only at h
      by_cases c : (visB sc x && !(x == ("__debug__" : Str)) && !(x == ("__classdict__" : Str))) = true
      · rw [if_pos c] at h
        cases h
        rw [Bool.and_eq_true, Bool.and_eq_true] at c
        exact pe_var (by rw [eN]; exact idxOf_at z) (by rw [es]; exact vis_of c.1.1) (by simpa using c.1.2) (by simpa using c.2)
      · rw [if_neg c] at h; cases h
  | .Tuple xs _ _, l, h => by
    unfold litE at h
    cases z : litEs N sc xs with
    | none => rw [z] at h; cases h
    | some ls => rw [z] at h; cases h; exact pe_tup (pa_lits eN es xs z)
  | .List xs _, l, h => by
    unfold litE at h
    cases z : litEs N sc xs with
    | none => rw [z] at h; cases h
    | some ls => rw [z] at h; cases h; exact pe_lst (pa_lits eN es xs z)
  | .Dict [] [] _, l, h => by cases h; exact pe_dnewK
theorem pa_lits {N : List Str} {sc : Scope} (eN : X.N = N) (es : X.env.scope = sc) : ∀ (xs : List Expr) {ls : List Lt}, litEs N sc xs = some ls → PA X xs (tLits ls)
  | [], ls, h => by cases h; exact pa_nil
  | e :: r, ls, h => by
    unfold litEs at h
    cases z1 : litE N sc e with
    | none => rw [z1] at h; cases h
    | some x =>
      cases z2 : litEs N sc r with
      | none => rw [z1, z2] at h; cases h
      | some ys =>
        rw [z1, z2] at h
        dsimp only at h
        by_cases c : plainArg e = true
        · rw [if_pos c] at h
          cases h
          exact paS (pe_litN eN es e z1) (pa_lits eN es r z2) c
        · rw [if_neg c] at h; cases h
end
/-- a written thing, told by ∃, so that no elaborator looks into it -/
theorem lit_ex {N : List Str} {sc : Scope} {l : Lt} {e : Expr} (h : litE N sc e = some l) (eN : X.N = N) (es : X.env.scope = sc) : ∃ te, PE X e te ∧ ∀ σ H Q, ltVar σ l = true → (∀ v H', Same H H' → LtV σ H' l v → Q v H') → te σ H Q :=
  ⟨_, pe_litN eN es e h, fun σ H Q hv q => lit_ok l hv q⟩
/-- statements that no elaborator looks into -/
structure Hold (X : Cx) (ss : List Stmt) (t : TS) : Prop where
  h : PSs X ss t
theorem pss_consH {st : Stmt} {rest : List Stmt} {t u : TS} (h1 : PS X st t) (h2 : Hold X rest u) : PSs X (st :: rest) (tSeq t u) := pss_cons h1 h2.h
theorem ps_ifH1 {c : Expr} {b e : List Stmt} {tc : TT} {t u : TS} {pos : Pos} (hc : PT X c tc) (hb : Hold X b t) (he : PSs X e u) : PS X (.If c b e pos) (tIfS tc t u) := ps_if hc hb.h he
theorem ps_ifH2 {c : Expr} {b e : List Stmt} {tc : TT} {t u : TS} {pos : Pos} (hc : PT X c tc) (hb : Hold X b t) (he : Hold X e u) : PS X (.If c b e pos) (tIfS tc t u) := ps_if hc hb.h he.h
/-- x = a written thing; told by ∃, so that no elaborator looks into it -/
theorem set_lit {N : List Str} {sc : Scope} {l : Lt} {e : Expr} {i : Nat} {x : Str} {p pos : Pos} {rest : List Stmt} {tr : TS} (h : litE N sc e = some l) (hr : Hold X rest tr) (eN : X.N = N) (es : X.env.scope = sc) (hN : X.N.Nodup) (hi : X.N[i]? = some x) (hx : Loc X.env.scope x) (hs : swapsWith e (some (.Name x p)) pos.line X.env = pure false) (hf : X.fn x = true ∨ X.env.scope.names.lookup x = some .local) :
    ∃ t, Hold X (.Assign [.Name x p] e pos :: rest) t ∧ ∀ D σ H, ltVar σ l = true → (∀ v H', Same H H' → LtV σ H' l v → tr D (σ.set i (some v)) H') → t D σ H :=
  ⟨_, ⟨pss_cons (ps_set hN hi hx (pe_litN eN es e h) hs hf) hr.h⟩, fun D σ H hv q => lit_ok l hv fun v H' s' lv => q v H' s' lv⟩
/-- x = [..][b] of a written list -/
theorem set_litx {N : List Str} {sc : Scope} {xs : List Lt} {e b : Expr} {i : Nat} {x : Str} {p pos q : Pos} {rest : List Stmt} {tb : TE} {tr : TS} (h : litE N sc e = some (.lst xs)) (hb : PE X b tb) (hr : Hold X rest tr) (eN : X.N = N) (es : X.env.scope = sc) (hN : X.N.Nodup) (hi : X.N[i]? = some x) (hx : Loc X.env.scope x) (hs : swapsWith (.Subscript e b q) (some (.Name x p)) pos.line X.env = pure false) (hf : X.fn x = true ∨ X.env.scope.names.lookup x = some .local) (hp : PlainIx b) :
    ∃ t, Hold X (.Assign [.Name x p] (.Subscript e b q) pos :: rest) t ∧ ∀ D σ H (j : Int), ltVar σ (.lst xs) = true → 0 ≤ j → j < (xs.length : Int) → (∀ H1 (Q' : VK), Q' (.int j) H1 → tb σ H1 Q') → (∀ u l H1, Same H H1 → l ∈ xs → LtV σ H1 l u → tr D (σ.set i (some u)) H1) → t D σ H := by
  refine ⟨_, ⟨pss_cons (ps_set hN hi hx (pe_ix ix_list (pe_litN eN es e h) hb hp) hs hf) hr.h⟩, fun D σ H j hv j0 j1 k fin => ?_⟩
  refine lit_ok _ hv fun v H1 s1 lv => ?_
  obtain ⟨a, us, rfl, ea, lu⟩ := lv
  refine k H1 _ ?_
  have hj : j.toNat < xs.length := by omega
  obtain ⟨u, h4, h5⟩ := lu.get (List.getElem?_eq_getElem hj)
  have ej : j = ((j.toNat : Nat) : Int) := by omega
  refine ⟨a, us, j, u, rfl, rfl, SqL.of ea, ?_, fin u _ H1 s1 (List.getElem_mem hj) h5⟩
  rw [ej]
  exact atI_nat h4
theorem ex_imp {X : Cx} {ss : List Stmt} {A R : TS → Prop} (h : ∃ t, Hold X ss t ∧ A t) (k : ∀ t, A t → R t) : ∃ t, Hold X ss t ∧ R t := by
  obtain ⟨t, h1, h2⟩ := h
  exact ⟨t, h1, k t h2⟩
end
end L2


set_option Elab.async false
set_option linter.all false
set_option maxRecDepth 100000
set_option maxHeartbeats 4000000
namespace L2
open PySem PySem.Spec PyProof.Rows
section
variable {X : Cx}
/-! ### two lists of the same things, or of unlike lengths -/
theorem call_lenK {K : PySem.W.Frag} (eK : X.K = K) : CallR X (.builtin "len") (fun xs H Q => ∃ x n, xs = [x] ∧ LenV K x H n ∧ Q (.int n) H) := by
  subst eK
  exact call_len
def noFlt : V → Bool
  | .flt _ => false
  | .byt _ => false
  | _ => true
def rSam (K : PySem.W.Frag) (neg : Bool) : R2 := fun x y H Q => ∃ a b xs ys, x = .ref a ∧ y = .ref b ∧ SqL K H a xs ∧ SqL K H b ys ∧ ((xs = ys ∧ (∀ v ∈ xs, noFlt v = true) ∧ Q (.bl (!neg)) H) ∨ (xs.length ≠ ys.length ∧ Q (.bl neg) H))
theorem eqAt_rel {A : Around} {s : Shared} {v : V} {u u' : Value} (h : noFlt v = true) (r : RelV v u) (r' : RelV v u') : PySem.SeqAt.EqAt A s u u' true := by
  cases v with
  | non => cases (show u = Value.none from r); cases (show u' = Value.none from r'); exact PySem.SeqAt.EqAt.same _
  | bl b => cases (show u = Value.bool b from r); cases (show u' = Value.bool b from r'); exact PySem.SeqAt.EqAt.same _
  | int i =>
    obtain ⟨t, rfl⟩ := (show ∃ t, u = Value.int i t from r)
    obtain ⟨t', rfl⟩ := (show ∃ t, u' = Value.int i t from r')
    have := PySem.SeqAt.EqAt.int_int (A := A) (s := s) i t i t'
    rwa [beq_self_eq_true] at this
  | str x =>
    obtain ⟨t, rfl⟩ := (show ∃ t, u = Value.str x t from r)
    obtain ⟨t', rfl⟩ := (show ∃ t, u' = Value.str x t from r')
    have := PySem.SeqAt.EqAt.str_str (A := A) (s := s) x t x t'
    rwa [beq_self_eq_true] at this
  | byt b => cases h
  | flt b => cases h
  | ref a => cases (show u = Value.ref a from r); cases (show u' = Value.ref a from r'); exact PySem.SeqAt.EqAt.same _
  | ty n => cases (show u = Value.type n from r); cases (show u' = Value.type n from r'); exact PySem.SeqAt.EqAt.same _
theorem sam_items {A : Around} {s : Shared} {xs : List V} {us ws : List Value} (h : ∀ v ∈ xs, noFlt v = true) (r : Vals xs us) (r' : Vals xs ws) : ∀ j (h1 : j < us.toArray.size) (h2 : j < ws.toArray.size), PySem.SeqAt.EqAt A s us.toArray[j] ws.toArray[j] true := by
  intro j h1 h2
  have l1 := r.length
  have h1' : j < us.length := by simpa using h1
  have hj : j < xs.length := by omega
  obtain ⟨u, e1, e2⟩ := r.get (List.getElem?_eq_getElem hj)
  obtain ⟨u', e3, e4⟩ := r'.get (List.getElem?_eq_getElem hj)
  have e5 : us.toArray[j] = u := by
    obtain ⟨_, z⟩ := List.getElem?_eq_some_iff.mp e1
    simpa using z
  have e6 : ws.toArray[j] = u' := by
    obtain ⟨_, z⟩ := List.getElem?_eq_some_iff.mp e3
    simpa using z
  rw [e5, e6]
  exact eqAt_rel (h _ (List.getElem_mem hj)) e2 e4
theorem all_true (n : Nat) : (List.range n).all (fun _ => true) = true := by
  rw [List.all_eq_true]
  exact fun _ _ => rfl
theorem op_samEq (hu : X.A.units + 64 < cLine) : OpR X (compareOp .Eq) (rSam X.K false) := by
  intro pins s σ H x y v u Q I rx ry h
  obtain ⟨a, b, xs, ys, rfl, rfl, ha, hb, q⟩ := h
  cases (show v = Value.ref a from rx)
  cases (show u = Value.ref b from ry)
  obtain ⟨us, ru, ⟨o, n, ho, hc, _, hd⟩, _⟩ := I.list ha
  obtain ⟨ws, rw_, ⟨o', n', ho', hc', _, hd'⟩, _⟩ := I.list hb
  have l1 : s.heap.IsList a us.toArray := ⟨o, ho, hc, n, hd⟩
  have l2 : s.heap.IsList b ws.toArray := ⟨o', ho', hc', n', hd'⟩
  have n1 := ru.length
  have n2 := rw_.length
  rcases q with ⟨rfl, hv, q⟩ | ⟨ne, q⟩
  · have z := PySem.SeqAt.RcAt.lists (A := X.A) (s := s) (e := fun _ => true) l1 l2 (by simp; omega) (by omega) (sam_items hv ru rw_)
    rw [all_true] at z
    exact z _ _ _ _ ⟨.bl true, H, I, rfl, q⟩
  · have z := PySem.SeqAt.RcAt.lists_lengths (A := X.A) (s := s) l1 l2 (by simp; omega) (by omega)
    exact z _ _ _ _ ⟨.bl false, H, I, rfl, q⟩
theorem op_samNe (hu : X.A.units + 64 < cLine) : OpR X (compareOp .NotEq) (rSam X.K true) := by
  intro pins s σ H x y v u Q I rx ry h
  obtain ⟨a, b, xs, ys, rfl, rfl, ha, hb, q⟩ := h
  cases (show v = Value.ref a from rx)
  cases (show u = Value.ref b from ry)
  obtain ⟨us, ru, ⟨o, n, ho, hc, _, hd⟩, _⟩ := I.list ha
  obtain ⟨ws, rw_, ⟨o', n', ho', hc', _, hd'⟩, _⟩ := I.list hb
  have l1 : s.heap.IsList a us.toArray := ⟨o, ho, hc, n, hd⟩
  have l2 : s.heap.IsList b ws.toArray := ⟨o', ho', hc', n', hd'⟩
  have n1 := ru.length
  have n2 := rw_.length
  rcases q with ⟨rfl, hv, q⟩ | ⟨ne, q⟩
  · have z := PySem.SeqAt.RcNeAt.lists (A := X.A) (s := s) (e := fun _ => true) l1 l2 (by simp; omega) (by omega) (sam_items hv ru rw_)
    rw [all_true] at z
    exact z _ _ _ _ ⟨.bl false, H, I, rfl, q⟩
  · have z := PySem.SeqAt.RcNeAt.lists_lengths (A := X.A) (s := s) l1 l2 (by simp; omega) (by omega)
    exact z _ _ _ _ ⟨.bl true, H, I, rfl, q⟩
end
end L2


set_option Elab.async false
set_option linter.all false
set_option maxRecDepth 100000
set_option maxHeartbeats 4000000
namespace L2
open PySem
/-- an own class of exceptions, above which others of one's own may stand, with an __init__ of its own -/
def XAt (h : Heap) (C : Addr) (bmB : List Value) (newId : String) (fI : Addr) : Prop :=
  ∃ nm qn N bs bm hd sn sub ab col dd k0 k1 k2 k3 k5 mN oI, h.get? C = some (excClassObj nm qn C N bs bm hd sn sub ab col dd k0 k1 k2 k3 k5 newId) ∧ h.Ns N mN ∧ mN "__init__" = some (.ref fI) ∧ OwnTail h bmB bm ∧ h.get? fI = some oI ∧ oI.cls = .type "function"
section
variable {prog : Program} {w : World} {A : Around} {E : Value → Shared → Prop} {h : Heap} {g : Array GenState} {d : Drawn} {t : Nat} {os : OsState}
variable {C fI : Addr} {bmB : List Value} {B newId initId : String}
/-- what the new exception and its tuple lie as -/
abbrev withTup (h : Heap) (us : List Value) : Heap := h.push { cls := .type "tuple", data := .seq us.toArray }
abbrev withExc (h : Heap) (C : Addr) (us : List Value) : Heap := (withTup h us).push { cls := .ref C, data := .fields #[.ref h.objs.size, .none, .none, .none, .bool false, .none] }
theorem withExc_keeps (us : List Value) {b : Addr} {o : Obj} (e : h.get? b = some o) : (withExc h C us).get? b = some o := Heap.get?_push_of_some _ (Heap.get?_push_of_some _ e)
theorem withExc_at (us : List Value) : (withExc h C us).get? (h.objs.size + 1) = some { cls := .ref C, data := .fields #[.ref h.objs.size, .none, .none, .none, .bool false, .none] } := by heap_get
theorem type_call_init (F : ExcBaseFacts B newId initId bmB) {us : List Value} {Q : Fin → Shared → Prop} (x : XAt h C bmB newId fI) (hz : us.length ≤ sizeLine)
    (hq : wpAny (model prog w) A (call (.ref fI) (.ref (h.objs.size + 1) :: us)) (fun r s' => r = .none ∧ Q (.done (.ret (.ref (h.objs.size + 1)))) s') E ⟨withExc h C us, g, d, t, os⟩) :
    wpAny (model prog w) A (Builtin.«type.__call__» ⟨.ref C :: us, []⟩) Q E ⟨h, g, d, t, os⟩ := by
  obtain ⟨nm, qn, N, bs, bm, hd, sn, sub, ab, col, dd, k0, k1, k2, k3, k5, mN, oI, hC, hn, hi, T, hfI, hfc⟩ := x
  have hself : (Value.ref C :: bm).contains (.ref C) = true := by simp
  have hC2 := withExc_keeps (C := C) us hC
  have hn2 : (withExc h C us).Ns N mN := hn.keeps fun b o e => withExc_keeps us e
  have T2 : OwnTail (withExc h C us) bmB bm := T.keeps fun b o e => withExc_keeps us e
  have he2 := withExc_at (h := h) (C := C) us
  repeat (first | with_reducible refine wpAny_loadPart_at hC ?_ | with_reducible refine wpAny_madeBy_exc hC ?_ | wp_step)
  refine codeAny_call_builtin_code (Code.quiet_builtin _ F.quiet) (wpAny_check_new_subT F T hC (codeAny_exc_new_subT F T hC ?_ hz))
  show wpAny _ _ _ _ _ _
  unfold isInstance
  repeat (first | with_reducible refine wpAny_loadPart_at he2 ?_ | (with_reducible refine wpAny_isSubtype_exc hC2 ?_; rw [hself]) | wp_step)
  show wpAny _ _ (typeLookup (.ref C) _) _ _ _
  refine wpAny_typeLookup_tail hC2 hn2 T2 F.mroIs F.init.lookup ?_
  rw [hi]
  refine wpAny_holding (wpAny_bind ?_)
  unfold bindSpecial
  refine wpAny_bind (wpAny_typeOf (T := "function") ⟨_, withExc_keeps us hfI, hfc⟩ ?_)
  rw [if_pos (by decide)]
  refine wpAny_pure (wpAny_bind (wpAny_mono hq (fun r s' z => ?_) fun _ _ z => z))
  obtain ⟨rfl, z⟩ := z
  wp_walk
  exact z
theorem call_init (F : ExcBaseFacts B newId initId bmB) {us : List Value} {Q : Value → Shared → Prop} (x : XAt h C bmB newId fI) (hz : us.length ≤ sizeLine)
    (hq : wpAny (model prog w) (A.under (.builtin "type.__call__" ⟨.ref C :: us, []⟩)) (call (.ref fI) (.ref (h.objs.size + 1) :: us)) (fun r s' => r = .none ∧ Q (.ref (h.objs.size + 1)) s') E ⟨withExc h C us, g, d, t, os⟩) :
    wpAny (model prog w) A (call (.ref C) us) Q E ⟨h, g, d, t, os⟩ := by
  obtain ⟨nm, qn, N, bs, bm, hd, sn, sub, ab, col, dd, k0, k1, k2, k3, k5, mN, oI, hC, r⟩ := id x
  have f1 := tc_lookup
  have f2 := tc_bind (.ref C)
  have hT : (⟨h, g, d, t, os⟩ : Shared).TypeIs (.ref C) "type" := ⟨_, hC, rfl⟩
  refine wpAny_call (codeAny_of_tree ?_)
  show wpAny _ _ (callAny (.ref C) _) _ _ _
  repeat (any_goals (first | assumption | with_reducible refine wpAny_loadPart_at hC ?_ | wp_step))
  exact ⟨rfl, codeAny_call_builtin_at (Code.quiet_builtin _ (by decide +kernel)) entry_typeCall (wpAny_check_type_call_sub hC (type_call_init F x hz hq))⟩
end
end L2


set_option Elab.async false
set_option linter.all false
set_option maxRecDepth 100000
set_option maxHeartbeats 4000000
namespace L2
open PySem
/-! ### an exception on its way, with its own dict: what is known of the object at e -/
def XTr (g base : Heap) (e : Addr) (cl : Value) (dc : Option Addr) (fl : Value) : Prop :=
  ∃ oe vs T oT ts, g.get? e = some oe ∧ (oe.cls = cl ∧ oe.dict = dc) ∧ oe.data = .fields vs ∧ vs[1]? = some (.ref T) ∧ base.get? T = none ∧ T ≠ e ∧ g.get? T = some oT ∧ oT.data = .fields ts ∧ ts[3]? = some fl
def XNote (base : Heap) (l : List Env) (e : Addr) (cl : Value) (dc : Option Addr) (fl : Value) (g g' : Heap) : Prop := base.StaysIn g' ∧ g'.FunFrames base l ∧ XTr g' base e cl dc fl ∧ g.UpToSlots g'
def XFly (base : Heap) (l : List Env) (e : Addr) (cl : Value) (dc : Option Addr) (fl : Value) (g : Heap) : Prop := base.StaysIn g ∧ base.get? e = none ∧ g.FunFrames base l ∧ XTr g base e cl dc fl
theorem no_record {g : Heap} {e b : Addr} {oe o : Obj} {vs : Array Value} (he : g.get? e = some oe) (hd : oe.data = .fields vs) (hb : g.get? b = some o) (n : ∀ ws, o.data ≠ .fields ws) : b ≠ e := fun z => by
  subst z
  rw [he] at hb
  cases hb
  exact n vs hd
theorem dict_mapFields (f : Array Value → Array Value) (o : Obj) : (Obj.mapFields f o).dict = o.dict := by
  obtain ⟨c, d, dt, sl⟩ := o
  cases dt <;> rfl
section
variable {M : Model} {A : Around} {E : Value → Shared → Prop} {s : Shared} {base : Heap} {env : Env} {outer l : List Env} {L e : Addr} {cl fl : Value} {dc : Option Addr} {Q : Unit → Shared → Prop}
/-- a new entry of the traceback is put at the exception's head -/
theorem entered {oe : Obj} {vs : Array Value} {hd0 : Value} {more : Bool} (hfr : A.frames = some (env :: outer)) (hl : s.heap.FunFrames base (env :: outer)) (hf : env.frame = some L)
    (he : s.heap.get? e = some oe) (kb : base.StaysIn s.heap) (en : base.get? e = none) (hd : oe.data = .fields vs) (z1 : 1 < vs.size) (k : ∀ g', XNote base (env :: outer) e oe.cls oe.dict (rawInt L) s.heap g' → Q () { s with heap := g' }) :
    wpAny M A (do let a ← frameOf env; let pl ← entryPlaceOf L more; let b ← EntryCells.newEntry hd0 a .none (rawInt L) .none pl; setField (.ref e) 1 b) Q E s := by
  have nf : e ∉ (env :: outer).filterMap (·.frame) := fun hm => by
    obtain ⟨_, o, ho, n⟩ := hl.mem hm
    exact no_record he hd ho n rfl
  refine wpAny_bind (wpAny_frameOf_fun hfr hl hf fun g1 sm => wpAny_bind (wpAny_entryPlaceOf fun pl hpl => ?_))
  unfold EntryCells.newEntry newFields
  refine wpAny_bind (wpAny_newObj_type ?_ (hpl.sizeOk5 _ _ _ _ _))
  have a1 : g1.get? e = some oe := (sm.2.1 e nf).trans he
  have b1 : base.StaysIn g1 := fun b o z => (sm.2.1 b fun hm => by rw [(hl.mem hm).1] at z; cases z).trans (kb b o z)
  have a2 := Heap.get?_push_of_some (h := g1) { cls := .type "traceback", dict := none, data := .fields ([hd0, .ref L, .none, rawInt L, .none] ++ (if pl.isEmpty then List.replicate 6 Value.none else pl)).toArray } a1
  refine wpAny_setField a2 hd z1 (k _ ?_)
  have ne : g1.objs.size ≠ e := Nat.ne_of_gt (Heap.lt_size a1)
  have d3 := Obj.data_mapFields hd (·.setIfInBounds 1 (Value.ref g1.objs.size))
  have a3 := Heap.get?_update_self (Obj.mapFields (·.setIfInBounds 1 (Value.ref g1.objs.size))) a2 (Obj.isFreed_of_fields d3)
  have t3 := (Heap.get?_update_other (g1.push { cls := .type "traceback", dict := none, data := .fields ([hd0, .ref L, .none, rawInt L, .none] ++ (if pl.isEmpty then List.replicate 6 Value.none else pl)).toArray })
    (Obj.mapFields (·.setIfInBounds 1 (Value.ref g1.objs.size))) (Ne.symm ne)).trans (Heap.get?_push_size g1 rfl)
  have stay : ∀ b o, b ≠ e → g1.get? b = some o → ((g1.push { cls := .type "traceback", dict := none, data := .fields ([hd0, .ref L, .none, rawInt L, .none] ++ (if pl.isEmpty then List.replicate 6 Value.none else pl)).toArray }).update e
      (Obj.mapFields (·.setIfInBounds 1 (Value.ref g1.objs.size)))).get? b = some o := fun b o z hb => by
    rw [Heap.get?_update_other _ _ (Ne.symm z)]
    exact Heap.get?_push_of_some _ hb
  refine ⟨fun b o z => stay b o (fun q => by rw [q, en] at z; cases z) (b1 b o z), hl.of_keeps fun b o hb n => ?_, ?_, fun b o hb n => ?_⟩
  · obtain ⟨sl, z⟩ := sm.2.2 b o hb
    exact ⟨_, stay b _ (no_record he hd hb n) z, rfl⟩
  · exact ⟨_, _, g1.objs.size, _, _, a3, ⟨Obj.cls_mapFields _ _, dict_mapFields _ _⟩, d3, by simp [z1], b1.fresh, ne, t3, rfl, by first | (simp; done) | (rcases hpl with rfl | ⟨_, _, _, _, _, _, _, rfl⟩ <;> simp)⟩
  · obtain ⟨sl, z⟩ := sm.2.2 b o hb
    exact ⟨sl, stay b _ (no_record he hd hb n) z⟩
/-- no frame holds the exception -/
theorem unheld (kb : base.StaysIn s.heap) (hl : s.heap.FunFrames base l) (ht : XTr s.heap base e cl dc fl) (k : ∀ g', XNote base l e cl dc .none s.heap g' → Q () { s with heap := g' }) : wpAny M A (setFlight (.ref e) none) Q E s := by
  obtain ⟨oe, vs, T, oT, ts, he, hc, hd, h1, nT, ne, hT, dT, h3⟩ := ht
  have z3 : 3 < ts.size := (Array.getElem?_eq_some_iff.mp h3).1
  have other : ∀ b, b ≠ T → (s.heap.update T (Obj.mapFields (·.setIfInBounds 3 ((none : Option Addr).elim Value.none fun f => rawInt f)))).get? b = s.heap.get? b := fun b z => Heap.get?_update_other _ _ (Ne.symm z)
  unfold setFlight
  refine wpAny_bind (wpAny_field he hd h1 ?_)
  rw [if_pos (show (Value.ref T != Value.none) = true by simp)]
  refine wpAny_setField hT dT z3 (k _ ⟨fun b o z => (other b fun q => by rw [q, nT] at z; cases z).trans (kb b o z), hl.of_keeps fun b o hb n => ⟨o, (other b (no_record hT dT hb n)).trans hb, rfl⟩, ?_, fun b o hb n => ⟨o.slots, (other b (no_record hT dT hb n)).trans hb⟩⟩)
  exact ⟨oe, vs, T, _, _, (other e (Ne.symm ne)).trans he, hc, hd, h1, nT, ne, Heap.get?_update_self _ hT (Obj.isFreed_of_fields (Obj.data_mapFields dT _)), Obj.data_mapFields dT _, by simp [z3]⟩
/-- the frame's entry, the first one -/
theorem noted_first {oe : Obj} {vs : Array Value} (hfr : A.frames = some (env :: outer)) (hl : s.heap.FunFrames base (env :: outer)) (hf : env.frame = some L) (he : s.heap.get? e = some oe) (kb : base.StaysIn s.heap) (en : base.get? e = none)
    (hd : oe.data = .fields vs) (h1 : vs[1]? = some .none) (k : ∀ g', XNote base (env :: outer) e oe.cls oe.dict (rawInt L) s.heap g' → Q () { s with heap := g' }) : wpAny M A (noteFrame (.ref e) env) Q E s := by
  unfold noteFrame
  simp only [hf]
  refine wpAny_bind (wpAny_field he hd h1 ?_)
  rw [if_neg (by decide)]
  exact entered hfr hl hf he kb en hd (Array.getElem?_eq_some_iff.mp h1).1 k
/-- .. a further one -/
theorem noted_next (hfr : A.frames = some (env :: outer)) (hl : s.heap.FunFrames base (env :: outer)) (hf : env.frame = some L) (ht : XTr s.heap base e cl dc .none) (kb : base.StaysIn s.heap) (en : base.get? e = none)
    (k : ∀ g', XNote base (env :: outer) e cl dc (rawInt L) s.heap g' → Q () { s with heap := g' }) : wpAny M A (noteFrame (.ref e) env) Q E s := by
  obtain ⟨oe, vs, T, oT, ts, he, ⟨rfl, rfl⟩, hd, h1, nT, ne, hT, dT, h3⟩ := ht
  unfold noteFrame
  simp only [hf]
  refine wpAny_bind (wpAny_field he hd h1 ?_)
  rw [if_pos (show (Value.ref T != Value.none) = true by simp)]
  refine wpAny_bind (wpAny_field hT dT h3 ?_)
  rw [if_neg (show ¬ ((Value.none == rawInt L) = true) by simp [rawInt])]
  refine wpAny_bind (wpAny_setField hT dT (Array.getElem?_eq_some_iff.mp h3).1 ?_)
  have other : ∀ b, b ≠ T → (s.heap.update T (Obj.mapFields (·.setIfInBounds 3 Value.none))).get? b = s.heap.get? b := fun b z => Heap.get?_update_other _ _ (Ne.symm z)
  refine entered hfr (hl.of_keeps fun b o hb n => ⟨o, (other b (no_record hT dT hb n)).trans hb, rfl⟩) hf ((other e (Ne.symm ne)).trans he) (fun b o z => (other b fun q => by rw [q, nT] at z; cases z).trans (kb b o z)) en hd (Array.getElem?_eq_some_iff.mp h1).1 fun g' x => k g' ?_
  exact ⟨x.1, x.2.1, x.2.2.1, fun b o hb n => x.2.2.2 b o ((other b (no_record hT dT hb n)).trans hb) n⟩
/-- the exception leaves the frame in which it was raised -/
theorem leaves_first {oe : Obj} {vs : Array Value} (hfr : A.frames = some (env :: outer)) (hl : s.heap.FunFrames base (env :: outer)) (hf : env.frame = some L) (he : s.heap.get? e = some oe) (kb : base.StaysIn s.heap) (en : base.get? e = none)
    (hd : oe.data = .fields vs) (h1 : vs[1]? = some .none) (k : ∀ g', XFly base outer e oe.cls oe.dict .none g' → s.heap.UpToSlots g' → Q () { s with heap := g' }) : wpAny M A (leaving env (.ref e)) Q E s := by
  unfold leaving
  refine wpAny_bind (noted_first hfr hl hf he kb en hd h1 fun g1 ⟨k1, k2, k3, k4⟩ => ?_)
  refine unheld (s := { s with heap := g1 }) k1 k2 k3 fun g2 ⟨j1, ⟨_, _, j2⟩, j3, j4⟩ => ?_
  exact k g2 ⟨j1, en, j2, j3⟩ (k4.trans j4)
/-- .. one through which it goes -/
theorem leaves_next (hfr : A.frames = some (env :: outer)) (hf : env.frame = some L) (x : XFly base (env :: outer) e cl dc .none s.heap) (k : ∀ g', XFly base outer e cl dc .none g' → s.heap.UpToSlots g' → Q () { s with heap := g' }) : wpAny M A (leaving env (.ref e)) Q E s := by
  obtain ⟨f1, f2, f3, f4⟩ := x
  unfold leaving
  refine wpAny_bind (noted_next hfr f3 hf f4 f1 f2 fun g1 ⟨k1, k2, k3, k4⟩ => ?_)
  refine unheld (s := { s with heap := g1 }) k1 k2 k3 fun g2 ⟨j1, ⟨_, _, j2⟩, j3, j4⟩ => ?_
  exact k g2 ⟨j1, f2, j2, j3⟩ (k4.trans j4)
/-- it is looked at by the frame that may catch it; it lands there -/
theorem looked (hfr : A.frames = some (env :: outer)) (hf : env.frame = some L) (x : XFly base (env :: outer) e cl dc .none s.heap) (k : ∀ g', XFly base (env :: outer) e cl dc (rawInt L) g' → s.heap.UpToSlots g' → Q () { s with heap := g' }) : wpAny M A (noteFrame (.ref e) env) Q E s := by
  obtain ⟨f1, f2, f3, f4⟩ := x
  exact noted_next hfr f3 hf f4 f1 f2 fun g1 ⟨k1, k2, k3, k4⟩ => k g1 ⟨k1, f2, k2, k3⟩ k4
theorem landed (x : XFly base l e cl dc fl s.heap) (k : ∀ g', XFly base l e cl dc .none g' → s.heap.UpToSlots g' → Q () { s with heap := g' }) : wpAny M A (setFlight (.ref e) none) Q E s := by
  obtain ⟨f1, f2, f3, f4⟩ := x
  exact unheld f1 f3 f4 fun g1 ⟨k1, k2, k3, k4⟩ => k g1 ⟨k1, f2, k2, k3⟩ k4
end
end L2


set_option Elab.async false
set_option linter.all false
set_option maxRecDepth 100000
set_option maxHeartbeats 4000000
namespace L2
open PySem PySem.Spec PySem.Calls PyProof.Rows PySem.W PySem.Builtin PySem.Builtin.ObjectAttr
/-- above the class stand own ones, then ValueError -/
def overV : List Value → Bool
  | [] => false
  | v :: r => (v :: r == bmV) || (match v with | .ref _ => overV r | _ => false)
theorem refuse_overV (self : Value) : ∀ {l : List Value}, overV l = true → refuseLoop self "__setattr__" l = pure ()
  | [], e => by cases e
  | v :: r, e => by
    rcases (Bool.or_eq_true _ _).mp e with z | z
    · rw [beq_iff_eq.mp z]
      exact PySem.F.store_ValueError.passes self
    · cases v with
      | ref c => rw [refuseLoop_ref]; exact refuse_overV self z
      | _ => cases z
/-- what the fragment says of such a class, for the fields of its exceptions -/
structure XFld (K : Frag) (C : Addr) : Prop where
  ex : ∃ cd, clsIn K C = some cd ∧ overV cd.mro = true ∧ cd.hasDict = true
  sa : findIn K (.ref C) "__setattr__" = some (some (.builtin "object.__setattr__"))
  ec : ExcCls K C
section
variable {prog : Program} {w : World} {A : Around} {s : Shared} {K : Frag} {x C : Addr} {ox : Obj} {od : Option Obj} {name : Str} {v : Value}
theorem x_osa {R : Result → Shared → Prop} {tk : Tok} (X : K.In s.heap) (c : XFld K C) (I : W.InstAt s.heap x ox C od) (ha : NoAttr K C name)
    (h : wpAny (model prog w) A.in1 (storeInOwnDict (.ref x) (.ref C) (.str name tk) name v false)
      (fun fin s' => match fin with | .done f => R (.ok f) s' | .again c' => c'.quiet = true ∧ codeAny (model prog w) A c' R s') (fun e s' => R (.error e) s') s) :
    codeAny (model prog w) A (.call (.builtin "object.__setattr__") ⟨[.ref x, .str name tk, v], []⟩) R s := by
  obtain ⟨cd, hc, ho, _⟩ := c.ex
  have SF := PySem.F.store_object
  have T := I.type (M := model prog w)
  have inst : Looks (model prog w) s.heap (isInstance (.ref x) (.type "object")) true := T.andThen (looks_mroIn X c.ec.hm)
  have mro : Looks (model prog w) s.heap (mroOf (.ref C)) cd.mro := (looks_clsIn X hc).andThen .now
  refine codeAny_call_builtin SF.slot.plain SF.entry (check_slot (M := model prog w) (s := s) (i := "object.__setattr__") (owner := "object") (n := "__setattr__") (self := .ref x) (rest := [.str name tk, v]) (kw := []) SF.kind SF.split inst (SF.args (.ref x) (.str name tk) v) ?_)
  rw [osa_eq, refuse_eq]
  refine wpAny_bind (wpAny_bind (T.here (wpAny_bind (mro.here ?_))))
  rw [refuse_overV _ ho]
  exact wpAny_pure (wpAny_bind (T.here (wpAny_bind ((looks_findIn X (show findIn K (.ref C) name = some none from ha)).here (wpAny_bind (wpAny_pure h))))))
/-- a field is put where there is a dict already -/
theorem x_put {E : Value → Shared → Prop} {dx : Addr} {mA : Str → Option Value} {ns : List Str} {Q : Unit → Shared → Prop} (X : K.In s.heap) (c : XFld K C) (hx : s.heap.get? x = some ox) (hcl : ox.cls = .ref C) (nc : notCls ox = true) (hd : ox.dict = some dx) (ne : dx ≠ x) (nsd : s.heap.Ns1 dx mA) (ha : NoAttr K C name)
    (hw : PySem.Within mA ns) (hsz : ns.length ≤ sizeLine) (h : ∀ h', h'.Ns1 dx (fun y => if y = name then some v else mA y) → Heap.SameBut dx s.heap h' → Q () { s with heap := h', toks := s.toks + 2 }) :
    wpAny (model prog w) A (setAttr (.ref x) name v) Q E s := by
  obtain ⟨ob, ho, _⟩ := lookIn_ns nsd
  have I : W.InstAt s.heap x ox C (some ob) := ⟨hx, hcl, nc, by rw [hd]; exact ho⟩
  refine set_plain X I c.sa (x_osa (s := { s with toks := s.toks + 1 }) X c I ha ?_)
  obtain ⟨cd, hc, _, hdd⟩ := c.ex
  obtain ⟨oc, odi, oda, osl⟩ := ox
  dsimp only at hcl hd
  subst hcl hd
  refine wpAny_bind (wpAny_pure (wpAny_bind (wpAny_bind (wpAny_loadPart hx (wpAny_bind (W.Looks.here (s := { s with toks := s.toks + 1 }) (looks_clsIn X hc) ?_))))))
  rw [hdd]
  refine wpAny_pure (a := some dx) (wpAny_bind (wpAny_pure (wpAny_bind ?_)))
  refine wpAny_nsSet1 (s := { s with toks := s.toks + 1 }) nsd fun h2 hn2 hs2 => ?_
  obtain ⟨oD, esD, epD, hoD, hdD, hcD⟩ := hn2.count (PySem.Within.cons name v hw)
  refine wpAny_bind (wpAny_lookBehind hoD (by rw [hdD]; exact pastItsLine_dict (Nat.le_trans hcD (by rw [List.length_cons]; omega))) ?_)
  exact wpAny_pure (h _ hn2 hs2)
/-- the first field: the dict is made -/
theorem x_put0 {E : Value → Shared → Prop} {Q : Unit → Shared → Prop} (X : K.In s.heap) (c : XFld K C) (hx : s.heap.get? x = some ox) (hcl : ox.cls = .ref C) (hdt : ∃ vs, ox.data = .fields vs) (hd : ox.dict = none) (ha : NoAttr K C name)
    (h : ∀ h', h'.get? x = some { ox with dict := some s.heap.objs.size } → h'.Ns1 s.heap.objs.size (fun y => if y = name then some v else none) → (∀ b o, b ≠ x → s.heap.get? b = some o → h'.get? b = some o) → Q () { s with heap := h', toks := s.toks + 2 }) :
    wpAny (model prog w) A (setAttr (.ref x) name v) Q E s := by
  obtain ⟨vs, hdt⟩ := hdt
  have I : W.InstAt s.heap x ox C none := ⟨hx, hcl, by unfold notCls; rw [hdt], by rw [hd]; exact True.intro⟩
  refine set_plain X I c.sa (x_osa (s := { s with toks := s.toks + 1 }) X c I ha ?_)
  obtain ⟨cd, hc, _, hdd⟩ := c.ex
  obtain ⟨oc, odi, oda, osl⟩ := ox
  dsimp only at hcl hd hdt
  subst hcl hd hdt
  have lt := Heap.lt_size hx
  have e1 : (s.heap.push { cls := .type "dict", data := .dict #[] }).get? x = some ⟨.ref C, none, .fields vs, osl⟩ := Heap.get?_push_of_some _ hx
  refine wpAny_bind (wpAny_pure (wpAny_bind (wpAny_bind (wpAny_loadPart hx (wpAny_bind (W.Looks.here (s := { s with toks := s.toks + 1 }) (looks_clsIn X hc) ?_))))))
  rw [hdd]
  have go : wpAny (model prog w) A.in1 (do let d ← alloc { cls := .type "dict", data := .dict #[] }; update x fun o => { o with dict := some d }; dictMade (.ref C) x d)
      (fun r s1 => ∃ h1, r = some s.heap.objs.size ∧ s1 = { s with heap := h1, toks := s.toks + 1 } ∧ h1.get? x = some ⟨.ref C, some s.heap.objs.size, .fields vs, osl⟩ ∧ h1.Ns s.heap.objs.size (fun _ => none) ∧ ∀ b o, b ≠ x → s.heap.get? b = some o → h1.get? b = some o) (fun _ _ => False) { s with toks := s.toks + 1 } := by
    refine wpAny_bind (wpAny_alloc' (wpAny_bind (wpAny_update' e1 (wpAny_pure ⟨_, rfl, rfl, ?_, ?_, ?_⟩))))
    · exact Heap.get?_update_self _ e1 rfl
    · exact ⟨_, #[], _, (Heap.get?_update_ne _ _ _ _ (Nat.ne_of_gt lt)).trans (Heap.get?_push_at rfl rfl), rfl, (fun e z => absurd z (by simp)), fun _ => rfl⟩
    · exact fun b o nb z => (Heap.get?_update_ne _ _ _ _ nb).trans (Heap.get?_push_of_some _ z)
  change wpAny (model prog w) A.in1 (do let d ← alloc { cls := .type "dict", data := .dict #[] }; update x fun o => { o with dict := some d }; dictMade (.ref C) x d) _ _ _
  refine wpAny_mono go (fun r s1 z => ?_) (fun _ _ z => z.elim)
  obtain ⟨h1, rfl, rfl, gx, gn, gk⟩ := z
  show wpAny _ _ (storeInDict s.heap.objs.size (.str name s.toks) name v) _ _ _
  unfold storeInDict newKeyGuard
  refine wpAny_bind (wpAny_pure (wpAny_bind (wpAny_nsSet1 (s := { s with heap := h1, toks := s.toks + 1 }) (Heap.Ns1.of_empty gn) fun h2 hn2 hs2 => ?_)))
  obtain ⟨oD, esD, epD, hoD, hdD, hcD⟩ := hn2.count (PySem.Within.cons name v PySem.Within.nil)
  refine wpAny_bind (wpAny_lookBehind hoD (by rw [hdD]; exact pastItsLine_dict (Nat.le_trans hcD (by rw [List.length_cons, List.length_nil, sizeLine_eq]; omega))) ?_)
  refine wpAny_pure (h _ ((hs2.2 x (Nat.ne_of_lt lt)).trans gx) hn2 fun b o nb z => (hs2.2 b (Nat.ne_of_lt (Heap.lt_size z))).trans (gk b o nb z))
end
end L2


set_option Elab.async false
set_option linter.all false
set_option maxRecDepth 100000
set_option maxHeartbeats 4000000
namespace L2
open PySem PySem.Spec PySem.Calls PyProof.Rows PySem.W
/-- an exception that was made and not yet raised: its class, its dict -/
def XNew (e C : Addr) (dc : Option Addr) (h : Heap) : Prop := ∃ t, h.get? e = some { cls := .ref C, dict := dc, data := .fields #[.ref t, .none, .none, .none, .bool false, .none] }
/-- the dict of an exception -/
def XDict (d : Addr) (fs : List (Str × V)) (h : Heap) : Prop := ∃ mA, h.Ns1 d mA ∧ (∀ f, RelO (fs.lookup f) (mA f)) ∧ PySem.Within mA (fs.map (·.1)) ∧ fs.length ≤ 100
/-- an exception that was caught -/
def XGot (e C : Addr) (dc : Option Addr) (h : Heap) : Prop := ∃ o vs, h.get? e = some o ∧ o.cls = .ref C ∧ o.dict = dc ∧ o.data = .fields vs
theorem XNew.stay {e C : Addr} {dc : Option Addr} {h1 h2 : Heap} (x : XNew e C dc h1) (k : ∀ o, h1.get? e = some o → h2.get? e = some o) : XNew e C dc h2 := let ⟨t, z⟩ := x; ⟨t, k _ z⟩
theorem XGot.stay {e C : Addr} {dc : Option Addr} {h1 h2 : Heap} (x : XGot e C dc h1) (k : ∀ o, h1.get? e = some o → h2.get? e = some o) : XGot e C dc h2 := let ⟨o, vs, z, r⟩ := x; ⟨o, vs, k _ z, r⟩
theorem XDict.stay {d : Addr} {fs : List (Str × V)} {h1 h2 : Heap} (x : XDict d fs h1) (k : ∀ o, h1.get? d = some o → h2.get? d = some o) : XDict d fs h2 := by
  obtain ⟨mA, ⟨od, es, ep, e, c⟩, r⟩ := x
  exact ⟨mA, ⟨od, es, ep, k _ e, c⟩, r⟩
theorem XDict.there {d : Addr} {fs : List (Str × V)} {h : Heap} (x : XDict d fs h) : ∃ o, h.get? d = some o := by
  obtain ⟨mA, ⟨od, es, ep, e, c⟩, r⟩ := x
  exact ⟨_, e⟩
section
variable {P : Program} {w : World} {H : Hp} {h : Heap} {e C d : Addr} {dc : Option Addr} {fs : List (Str × V)}
theorem xnew_ok (x : XNew e C dc h) : ObjOk P w H h e (.ext (XNew e C dc)) := ⟨x, let ⟨_, z⟩ := x; ⟨_, z⟩, fun _ _ a k => a.stay k⟩
theorem xdict_ok (x : XDict d fs h) : ObjOk P w H h d (.ext (XDict d fs)) := ⟨x, x.there, fun _ _ a k => a.stay k⟩
end
/-- the field put, as a map and as a list of pairs -/
theorem xdict_put {d : Addr} {fs : List (Str × V)} {h h' : Heap} {mA : Str → Option Value} {f : Str} {y : V} {u : Value} (r : ∀ g, RelO (fs.lookup g) (mA g)) (wi : PySem.Within mA (fs.map (·.1))) (z : fs.length < 100) (ry : RelV y u)
    (n : h'.Ns1 d (fun g => if g = f then some u else mA g)) : XDict d (putF f y fs) h' := by
  refine ⟨_, n, fun g => ?_, fun g hg => ?_, ?_⟩
  · show RelO ((putF f y fs).lookup g) (if g = f then some u else mA g)
    rw [lookup_putF]
    by_cases q : g = f
    · rw [if_pos q, if_pos q]; exact ry
    · rw [if_neg q, if_neg q]; exact r g
  · by_cases q : g = f
    · rw [q]; exact (keys_putF f y fs).1
    · exact (keys_putF f y fs).2 g (wi g fun z => hg (by show (if g = f then some u else mA g) = none; rw [if_neg q]; exact z))
  · have := length_putF f y fs
    omega
section
variable {X : Cx} {pins : List (Addr × Obj)} {σ : St} {H : Hp} {s : Shared} {a C d : Addr} {fs : List (Str × V)} {f : Str} {y : V} {u : Value} {A : Around} {E : Value → Shared → Prop} {Q : Unit → Shared → Prop}
theorem xset_ok (I : Inv X pins σ H s) (ea : H a = some (.ext (XNew a C (some d)))) (ed : H d = some (.ext (XDict d fs))) (ne : d ≠ a) (c : XFld X.K C) (n : NoAttr X.K C f) (hl : fs.length < 100) (ry : RelV y u)
    (h : ∀ s', Inv X pins σ (upd H d (.ext (XDict d (putF f y fs)))) s' → Q () s') : wpAny (model X.prog X.w) A (setAttr (.ref a) f u) Q E s := by
  obtain ⟨⟨t, gx⟩, _, _⟩ := (show ObjOk X.prog X.w H s.heap a (.ext (XNew a C (some d))) from I.hok a _ ea)
  obtain ⟨⟨mA, nsd, r, wi, _⟩, _, _⟩ := (show ObjOk X.prog X.w H s.heap d (.ext (XDict d fs)) from I.hok d _ ed)
  refine x_put I.kIn c gx rfl rfl rfl ne nsd n wi (by rw [List.length_map, sizeLine_eq]; omega) fun h' n' sb => h _ ?_
  have x' := xdict_put (d := d) (h := s.heap) r wi hl ry n'
  exact I.write (x := d) (e := d) (by rw [ed]; exact True.intro) (.inl rfl) (fun b q hb z => (sb.2 b hb).trans z) x'.there (xdict_ok x')
theorem xset0_ok (I : Inv X pins σ H s) (ea : H a = some (.ext (XNew a C none))) (c : XFld X.K C) (n : NoAttr X.K C f) (ry : RelV y u)
    (hL : ∀ b, s.heap.objs.size ≤ b → b ≠ X.env.locals ∧ (∀ x c, X.env.cells.lookup x = some c → c ≠ b) ∧ (∀ p ∈ X.pn ++ pins, p.1 ≠ b) ∧ X.s₀.heap.get? b = none)
    (h : ∀ s' b, H b = none → Inv X pins σ (upd (upd H a (.ext (XNew a C (some b)))) b (.ext (XDict b [(f, y)]))) s' → Q () s') : wpAny (model X.prog X.w) A (setAttr (.ref a) f u) Q E s := by
  obtain ⟨⟨t, gx⟩, _, _⟩ := (show ObjOk X.prog X.w H s.heap a (.ext (XNew a C none)) from I.hok a _ ea)
  refine x_put0 I.kIn c gx rfl ⟨_, rfl⟩ rfl n fun h' g' n' kp => ?_
  have fr : H s.heap.objs.size = none := I.hok.fresh (Nat.le_refl _)
  have ne : s.heap.objs.size ≠ a := fun z => by rw [z, ea] at fr; cases fr
  have x' : XDict s.heap.objs.size [(f, y)] h' := xdict_put (fs := []) (h := s.heap) (mA := fun _ => none) (fun _ => True.intro) (fun g z => absurd rfl z) (by decide) ry n'
  have I1 : Inv X pins σ (upd H a (.ext (XNew a C (some s.heap.objs.size)))) { s with heap := h', toks := s.toks + 2 } :=
    I.write (x := a) (e := a) (by rw [ea]; exact True.intro) (.inl rfl) (fun b q hb z => kp b q hb z) ⟨_, g'⟩ (xnew_ok ⟨t, g'⟩)
  obtain ⟨l1, l2, l3, l4⟩ := hL _ (Nat.le_refl _)
  exact h _ s.heap.objs.size fr (I1.track (by rw [upd_ne ne]; exact fr) l4 l1 l2 l3 x' x'.there fun _ _ z k => z.stay k)
end
/-- what is known of addresses above the heap -/
theorem Inv.above {X : Cx} {pins : List (Addr × Obj)} {σ : St} {H : Hp} {s : Shared} (I : Inv X pins σ H s) : ∀ b, s.heap.objs.size ≤ b → b ≠ X.env.locals ∧ (∀ x c, X.env.cells.lookup x = some c → c ≠ b) ∧ (∀ p ∈ X.pn ++ pins, p.1 ≠ b) ∧ X.s₀.heap.get? b = none := fun b hb => by
  have no : ∀ o, s.heap.get? b = some o → False := fun o z => absurd (Heap.lt_size z) (Nat.not_lt.mpr hb)
  refine ⟨fun z => ?_, fun x c k q => ?_, fun p hp q => ?_, ?_⟩
  · obtain ⟨mm, ⟨o, _, _, g, _⟩, _⟩ := I.loc
    rw [← z] at g
    exact no _ g
  · obtain ⟨v, o, g, _⟩ := I.cell x c k
    rw [q] at g
    exact no _ g
  · obtain ⟨g, _⟩ := I.pin p hp
    rw [q] at g
    exact no _ g
  · exact Heap.get?_none_of_le (Nat.le_trans I.sz hb)
/-! ### self.f = value, in the __init__ of an exception -/
def sFldX (K : Frag) (ta tv : TE) (f : Str) : TS := fun D σ H => tv σ H fun y H1 => ta σ H1 fun x H2 => ∃ a C, x = .ref a ∧ XFld K C ∧ NoAttr K C f ∧
  ((H2 a = some (.ext (XNew a C none)) ∧ ∀ d, H2 d = none → D.nx σ (upd (upd H2 a (.ext (XNew a C (some d)))) d (.ext (XDict d [(f, y)])))) ∨
   ∃ d fs, H2 a = some (.ext (XNew a C (some d))) ∧ H2 d = some (.ext (XDict d fs)) ∧ d ≠ a ∧ fs.length < 100 ∧ D.nx σ (upd H2 d (.ext (XDict d (putF f y fs)))))
theorem ps_fldX {X : Cx} {o value : Expr} {f : Str} {pos pos' : Pos} {ta tv : TE} (ha : PE X o ta) (hv : PE X value tv) (hs : swapsWith value (some (.Attribute o f pos')) pos.line X.env = pure false) : PS X (.Assign [.Attribute o f pos'] value pos) (sFldX X.K ta tv f) := by
  intro pins s σ H D I h
  refine plainObj_wpAny_Assign_Attribute (thn (hv pins s σ H _ I h) fun u s1 ⟨y, H1, I1, ry, q⟩ => thn (ha pins s1 σ H1 _ I1 q) fun ov s2 ⟨x, H2, I2, rx, a, C, ex, c, n, q2⟩ => ?_) hs
  subst ex
  cases (show ov = Value.ref a from rx)
  rcases q2 with ⟨ea, q2⟩ | ⟨d, fs, ea, ed, ne, l, q2⟩
  · exact xset0_ok I2 ea c n ry I2.above fun s3 b hb I3 => ⟨σ, _, I3, q2 b hb⟩
  · exact xset_ok I2 ea ed ne c n l ry fun s3 I3 => ⟨σ, _, I3, q2⟩
end L2


set_option Elab.async false
set_option linter.all false
set_option maxRecDepth 100000
set_option maxHeartbeats 4000000
namespace L2
open PySem PySem.Spec PySem.Calls PyProof.Rows PySem.W
/-! ### what the fragment says of a class of exceptions with an __init__ of its own -/
def excInI (K : Frag) (C : Addr) (bmB : List Value) (newId : String) (fI : Addr) : Bool := match K.lookup C with
  | some ⟨.type "type", _, .cls cl, sl⟩ => (match cl.mro, sl.toList with
    | .ref C1 :: bm, [_, _, _, _, some (.builtin i), _] => (C1 == C && i == newId && !cl.hasDel && tailIn K bmB bm) && (nsOkIn K cl.ns && nsIn K cl.ns "__init__" == some (some (.ref fI)) && isFn K (.ref fI))
    | _, _ => false)
  | _ => false
theorem ns_some_of {K : Frag} {h : Heap} {N : Addr} {m : Str → Option Value} {n : Str} {v : Value} (X : K.In h) (G : h.Ns N m) (q : nsIn K N n = some (some v)) : m n = some v := by
  obtain ⟨o, es, ep, ho, hd, _, hf⟩ := G
  unfold nsIn at q
  split at q
  · rename_i z
    have e := X _ _ z
    rw [ho] at e
    cases e
    cases hd
    split at q
    · rename_i en he
      cases q
      rw [← hf]
      unfold nsFind findBy
      rw [← Array.find?_toList, he]
      rfl
    · split at q <;> cases q
  · cases q
theorem xat_of {K : Frag} {h : Heap} {C fI : Addr} {bmB : List Value} {newId : String} (X : K.In h) (q : excInI K C bmB newId fI = true) : XAt h C bmB newId fI := by
  unfold excInI at q
  split at q
  · rename_i d0 c0 sl0 lk
    split at q
    · rename_i C1 bm1 j0 j1 j2 j3 n1 j5 em es
      simp only [Bool.not_eq_true', beq_iff_eq, Bool.and_eq_true] at q
      obtain ⟨⟨⟨⟨e1, e2⟩, nodel⟩, tl⟩, ⟨ok, ni⟩, fn⟩ := q
      subst e1 e2
      obtain ⟨nm1, bs1, mro1, ns1, qn1, hd1, sn1, sub1, ab1, col1, del1⟩ := c0
      dsimp only at em nodel ok ni
      subst em nodel
      have esl : sl0 = #[j0, j1, j2, j3, some (.builtin n1), j5] := by
        obtain ⟨l0⟩ := sl0
        simp only at es
        rw [es]
      subst esl
      have G : h.Ns ns1 (h.nsMap ns1) := .of_isNs (isNs_of_in X ok)
      obtain ⟨ob, ho, hc⟩ := Option.map_eq_some_iff.mp (show typeIn K (.ref fI) = some (.type "function") from beq_iff_eq.mp fn)
      exact ⟨_, _, _, _, _, _, _, _, _, _, _, _, _, _, _, _, _, ob, X _ _ lk, G, ns_some_of X G ni, tail_of_in X tl, X _ _ ho, hc⟩
    · cases q
  · cases q
/-! ### C(..) of such a class -/
section
variable {X : Cx} {k : Nat} {f C : Addr} {fd : FuncData} {ps : List Str} {sp : Sp} {x : Str} {p pos : Pos} {e : Expr} {es : List Expr} {t : TA}
theorem run_makeX0 {pins : List (Addr × Obj)} {σ : St} {H : Hp} {s : Shared} {R : Hp → Prop} {us : List Value} {vs : List V} (F : FnOk X.prog X.w X.K X.mg X.base CX0 k f fd ps sp) (xi : excInI X.K C bmV "ValueError.__new__" f = true) (hr : Room (k + 1) X.A) (hb : Binds X.K fd ps [])
    (I : Inv X pins σ H s) (r : Vals vs us) (hz : vs.length ≤ 1000) (q : sp (.ref (s.heap.objs.size + 1) :: vs) (upd H (s.heap.objs.size + 1) (.ext (XNew (s.heap.objs.size + 1) C none))) (fun v H2 => v = .non ∧ R H2) E0) : wpAny (model X.prog X.w) X.A (call (.ref C) us) (fun u s' => u = .ref (s.heap.objs.size + 1) ∧ ∃ H', Inv X pins σ H' s' ∧ R H') X.xe s := by
  have lz : us.length ≤ sizeLine := by rw [← r.length, sizeLine_eq]; omega
  have I1 : Inv X pins σ (upd H (s.heap.objs.size + 1) (.ext (XNew (s.heap.objs.size + 1) C none))) { s with heap := withExc s.heap C us, toks := s.toks } :=
    I.laid (fun b o z => withExc_keeps us z) (Nat.le_succ _) (xnew_ok ⟨_, withExc_at us⟩)
  have r1 : Vals (V.ref (s.heap.objs.size + 1) :: vs) (Value.ref (s.heap.objs.size + 1) :: us) := .cons rfl r
  have hl : (Value.ref (s.heap.objs.size + 1) :: us).length = ps.length := by rw [← r1.length]; exact F.len _ _ _ _ q
  have bnd := hb { s with heap := withExc s.heap C us, toks := s.toks } (Value.ref (s.heap.objs.size + 1) :: us) I1.kIn (by rw [List.append_nil]; exact hl)
  rw [List.append_nil] at bnd
  obtain ⟨hh, g, d, tk, os⟩ := s
  refine call_init PySem.F.excBase_ValueError (xat_of I.kIn xi) lz ?_
  refine wpAny_call (codeAny_mono (F.run _ X.stack _ _ ⟨_, []⟩ _ _ _ E0 (hr.make C us []) (I1.env0.make C us []) bnd r1 q) fun res s1 hq => ?_)
  cases res with
  | error ex => exact hq.elim
  | ok fl =>
    cases fl with
    | ret u =>
      obtain ⟨v, H2, I2, rv, ev, q2⟩ := I1.after hq
      subst ev
      exact ⟨rv, rfl, H2, I2, q2⟩
    | next => exact False.elim hq
    | brk => exact False.elim hq
    | cont => exact False.elim hq
end
/-! ### raise of an exception that was made -/
theorem x_raise {prog : Program} {w : World} {A : Around} {E : Value → Shared → Prop} {s : Shared} {env : Env} {ex : Expr} {pos : Pos} {Q : Flow → Shared → Prop} {C : Addr} {bmB : List Value} {newId : String} (hbase : bmB.contains (.type "BaseException") = true) (hh : A.handled = none)
    (h : wpAny (model prog w) A (eval ex env) (fun v s₁ => ∃ e dc, v = .ref e ∧ (∃ fI, XAt s₁.heap C bmB newId fI) ∧ XNew e C dc s₁.heap ∧ E (.ref e) s₁) E s) : wpAny (model prog w) A (exec (.Raise (some ex) none pos) env) Q E s := by
  rw [arm_exec_Raise]
  refine wpAny_bind (wpAny_standAt ?_)
  show wpAny _ _ (raiseStmt env (some (do let v ← eval ex env; standAt pos; pure v)) none) _ _ _
  unfold raiseStmt
  refine wpAny_bind (wpAny_bind (wpAny_mono h (fun v s1 z => wpAny_bind (wpAny_standAt (wpAny_pure ?_))) fun _ _ z => z))
  obtain ⟨e, dc, rfl, ⟨fI, nm, qn, N, bs, bm, hd, sn, sub, ab, col, dd, k0, k1, k2, k3, k5, mN, oI, gC, _, _, T, _, _⟩, ⟨t, ge⟩, hE⟩ := z
  have hcB : (Value.ref C :: bm).contains (.type "BaseException") = true := by rw [List.contains_cons, T.hasType hbase, Bool.or_true]
  obtain ⟨hp, g, d, tk, os⟩ := s1
  repeat (first | with_reducible refine wpAny_loadPart_at ge ?_ | with_reducible refine wpAny_loadPart_at gC ?_ | (with_reducible refine wpAny_isSubtype_exc gC ?_; rw [hcB]) | wp_step)
  exact wpAny_raiseNew_none hh hE
end L2


set_option Elab.async false
set_option linter.all false
set_option maxRecDepth 100000
set_option maxHeartbeats 4000000
namespace L2
open PySem PySem.Spec PySem.Calls PyProof.Rows PySem.W
/-- a is tracked no more -/
def del (a : Addr) (H : Hp) : Hp := fun b => if b = a then none else H b
theorem del_same {a : Addr} {H : Hp} : del a H a = none := if_pos rfl
theorem del_ne {a b : Addr} {H : Hp} (n : b ≠ a) : del a H b = H b := if_neg n
/-! ### how an exception lies behind a call: ea the object, C its class, dc its dict; whatever is tracked, or stood ahead of the call, stands in B, which stays -/
def FliesD (P : Program) (w : World) (outer : List Env) (H : Hp) (s : Shared) (ea : Addr) (C : Value) (dc : Option Addr) (H' : Hp) (s' : Shared) : Prop := ∃ (B : Heap),
  s'.os = s.os ∧ AllBare s'.gens ∧ Un (frs outer) [] H H' s.heap s'.heap ∧ HOk P w H' s'.heap ∧ XFly B outer ea C dc .none s'.heap ∧ H' ea = none ∧ s.heap.get? ea = none ∧
  ∀ b o, s'.heap.get? b = some o → b ∉ frs outer → ((∃ u, H' b = some u) ∨ ∃ o', s.heap.get? b = some o') → B.get? b = some o
def CXd (P : Program) (w : World) : CXT := fun outer H s E e s' => ∃ (ea : Addr) (C : Value) (dc : Option Addr) (H' : Hp), e = .ref ea ∧ FliesD P w outer H s ea C dc H' s' ∧ E C dc H'
section
variable {P : Program} {w : World} {K : PySem.W.Frag} {mg : Str → Option Value} {base : Heap} {N : List Str} {qual : Str} {scope : Scope} {f : Addr} {cd : Value} {A : Around} {outer : List Env} {s : Shared} {H : Hp} {E : XK}
/-- the one that was made here leaves the def -/
theorem leaves_made {pins : List (Addr × Obj)} {σ : St} {H1 : Hp} {s₂ : Shared} {ea C : Addr} {dc : Option Addr} (I : Inv (cxOf (CXd P w) P w K mg base N qual scope f cd A outer s H E) pins σ H1 s₂)
    (hx : H1 ea = some (.ext (XNew ea C dc))) (new : s.heap.get? ea = none) (q : E (.ref C) dc (del ea H1)) : (cxOf (CXd P w) P w K mg base N qual scope f cd A outer s H E).xe (.ref ea) s₂ := by
  have FR : ∀ b, b ∈ frs (envOfC qual scope s.heap.objs.size f cd :: outer) → b = s.heap.objs.size ∨ b ∈ frs outer := fun b z => List.mem_cons.mp (I.stkSub b z)
  have hin : ∀ en ∈ (envOfC qual scope s.heap.objs.size f cd :: outer), ∀ b, en.frame = some b → b ∈ ea :: frs (envOfC qual scope s.heap.objs.size f cd :: outer) := fun en he b hb => List.mem_cons_of_mem _ (List.mem_filterMap.mpr ⟨en, he, hb⟩)
  obtain ⟨⟨t, ge⟩, _, _⟩ := (show ObjOk P w H1 s₂.heap ea (.ext (XNew ea C dc)) from I.hok ea _ hx)
  show wpAny (model P w) (A.deeper (envOfC qual scope s.heap.objs.size f cd)) (leaving (envOfC qual scope s.heap.objs.size f cd) (.ref ea)) _ _ _
  refine leaves_first (base := PySem.W.hideAll s₂.heap (ea :: frs (envOfC qual scope s.heap.objs.size f cd :: outer))) I.ok.frames (PySem.W.funFrames_hide I.stack hin) rfl ge (fun b o z => PySem.W.of_hideAll _ z) (PySem.W.hideAll_none _ List.mem_cons_self) rfl rfl fun h'' fl up => ?_
  have trk : ∀ b u, H1 b = some u → b ∉ frs (envOfC qual scope s.heap.objs.size f cd :: outer) := fun b u e z => by
    have := I.stkFree b z
    rw [e] at this; cases this
  have keepB : ∀ b o, s₂.heap.get? b = some o → b ≠ ea → b ∉ frs (envOfC qual scope s.heap.objs.size f cd :: outer) → h''.get? b = some o := fun b o e z n =>
    fl.1 b o (PySem.W.hideAll_get _ e fun k => (List.mem_cons.mp k).elim z n)
  have neS : ∀ b o, s.heap.get? b = some o → b ≠ ea := fun b o e z => by rw [z, new] at e; cases e
  have notF : ∀ b o, s.heap.get? b = some o → b ∉ frs outer → b ∉ frs (envOfC qual scope s.heap.objs.size f cd :: outer) := fun b o e n z =>
    (FR b z).elim (fun z => absurd (Nat.lt_of_lt_of_le (Heap.lt_size e) I.ok.above) (by rw [z]; exact Nat.lt_irrefl _)) n
  have hthere : ∀ b o, s.heap.get? b = some o → ∃ o', s₂.heap.get? b = some o' := fun b o e => I.base.there b o e (fun z => nomatch z)
  have slotK : ∀ b o, s.heap.get? b = some o → b ∈ frs outer → ∃ sl, h''.get? b = some { o with slots := sl } := fun b o e hb => by
    obtain ⟨sl, e1⟩ := I.base.slot b o e (I.ok.frf b hb) hb (fun z => nomatch z)
    obtain ⟨_, o', e2, nf⟩ := I.ok.funs.mem hb
    have e3 : some o' = some o := e2.symm.trans e
    cases e3
    obtain ⟨sl', e4⟩ := up b _ e1 nf
    exact ⟨sl', e4⟩
  refine ⟨ea, .ref C, dc, del ea H1, rfl, ⟨_, I.os, I.bare, ⟨?_, ?_, ?_, ?_, ?_, ?_, ?_⟩, ?_, fl, del_same, new, ?_⟩, q⟩
  · exact fun b o e n hb z => keepB b o (I.base.keep b o e n hb z) (neS b o e) (notF b o e hb)
  · exact fun b o e n hb z => slotK b o e hb
  · exact fun b o e n z => by rw [del_ne (neS b o e)]; exact I.base.free b o e n z
  · intro b o e z
    by_cases hb : b ∈ frs outer
    · obtain ⟨sl, e1⟩ := slotK b o e hb
      exact ⟨_, e1⟩
    · obtain ⟨o', e1⟩ := hthere b o e
      exact ⟨o', keepB b o' e1 (neS b o e) (notF b o e hb)⟩
  · intro b xs e
    have z := I.base.tups b xs e
    rw [del_ne fun k => by rw [k, hx] at z; cases z]
    exact z
  · intro b o u e
    have z := I.base.frzs b o u e
    rw [del_ne fun k => by rw [k, hx] at z; cases z]
    exact z
  · intro b ps e
    obtain ⟨m, z⟩ := I.base.tbls b ps e
    exact ⟨m, by rw [del_ne fun k => by rw [k, hx] at z; cases z]; exact z⟩
  · intro b u e
    have nb : b ≠ ea := fun z => by rw [z, del_same] at e; cases e
    rw [del_ne nb] at e
    refine (I.hok b u e).stay (fun c v hc e' => ?_) (fun c z => ?_) fun c xs z => ?_
    · have tc : ∃ v', H1 c = some v' ∧ c ≠ ea := hc.elim (fun z => ⟨u, by rw [z]; exact e, by rw [z]; exact nb⟩) fun z => ⟨_, z, fun k => by rw [k, hx] at z; cases z⟩
      obtain ⟨v', z1, z2⟩ := tc
      exact keepB c v e' z2 (trk c v' z1)
    · rw [del_ne fun k => by rw [k, hx] at z; cases z]
      exact z
    · rw [del_ne fun k => by rw [k, hx] at z; cases z]
      exact z
  · intro b o e n hb
    have key : ∃ o2, s₂.heap.get? b = some o2 ∧ b ≠ ea ∧ b ∉ frs (envOfC qual scope s.heap.objs.size f cd :: outer) := by
      rcases hb with ⟨u, hu⟩ | ⟨o', ho⟩
      · have nb : b ≠ ea := fun z => by rw [z, del_same] at hu; cases hu
        rw [del_ne nb] at hu
        obtain ⟨ob, e2⟩ := (I.hok b u hu).there
        exact ⟨ob, e2, nb, trk b u hu⟩
      · obtain ⟨o2, e2⟩ := hthere b o' ho
        exact ⟨o2, e2, neS b o' ho, notF b o' ho n⟩
    obtain ⟨o2, e2, n1, n2⟩ := key
    have e3 := keepB b o2 e2 n1 n2
    rw [e] at e3
    cases e3
    exact PySem.W.hideAll_get _ e2 fun k => (List.mem_cons.mp k).elim n1 n2
/-! ### raise C(..) -/
end
end L2


set_option Elab.async false
set_option linter.all false
set_option maxRecDepth 100000
set_option maxHeartbeats 4000000
namespace L2
open PySem PySem.Spec PySem.Calls PyProof.Rows PySem.W PySem.Builtin.Getset_descriptor
theorem XFly.got {base g : Heap} {l : List Env} {e C : Addr} {fl : Value} {dc : Option Addr} (x : XFly base l e (.ref C) dc fl g) : XGot e C dc g := by
  obtain ⟨_, _, _, oe, vs, _, _, _, a, b, c, _⟩ := x
  exact ⟨oe, vs, a, b.1, b.2, c⟩
theorem XGot.of {e C : Addr} {dc : Option Addr} {h : Heap} (x : XGot e C dc h) : OfCls e C h := let ⟨o, _, a, b, _⟩ := x; ⟨o, a, b⟩
/-! ### a def that may raise an exception with fields -/
structure DefD (P : Program) (w : World) (K : Frag) (mg : Str → Option Value) (base : Heap) (n : Nat) (x : Str) (ps : List Str) (sp : Sp) : Prop where
  ex : ∃ (f : Addr) (fd : FuncData), FnOk P w K mg base (CXd P w) n f fd ps sp ∧ Binds K fd ps [] ∧ keepIn K (.ref f) = true ∧ mg x = some (.ref f)
theorem defd_of {P : Program} {w : World} {K : Frag} {mg : Str → Option Value} {base : Heap} {x : Str} {st : Stmt} {N ps : List Str} {k : Nat} {sp : Sp} (T : TopDef K mg x st) (S : FnScope N ps (defScope st))
    (bd : ∀ (kV doc pm : Value) (an : Option Addr) (cdv ct : Value) (us : List Value), us.length = ps.length → bindArgs (fnOf x x (defArgs st) (defBody st) (defScope st) .none kV doc pm an cdv ct) ⟨us, []⟩ = pure (ps.zip us))
    (len : ∀ vs H Q E, sp vs H Q E → vs.length = ps.length)
    (body : ∀ (f : Addr) (cdv : Value) (A : Around) (outer : List Env) (s : Shared) (H : Hp) (vs : List V) (Q : VK) (E : XK), Room k (A.deeper (envOfC x (defScope st) s.heap.objs.size f cdv)) → sp vs H Q E →
      ∃ t, PSs (cxOf (CXd P w) P w K mg base N x (defScope st) f cdv A outer s H E) (defBody st) t ∧ t { nx := fun _ H' => Q .non H', rt := Q } (start N vs) H) :
    DefD P w K mg base (k + 1) x ps sp := by
  obtain ⟨f, fd, F, m⟩ := T.ex
  obtain ⟨oc, od, kV, doc, pm, an, cdv, ct, osl, rfl, lk, hcd⟩ := id F.ex
  exact ⟨f, _, fn_of lk hcd S len fun A outer s H vs Q E hr h => body f cdv A outer s H vs Q E hr h, F.binds bd, F.kp, m⟩
section
variable {P : Program} {w : World} {K : PySem.W.Frag} {mg : Str → Option Value} {base : Heap} {N : List Str} {qual : Str} {scope : Scope} {f : Addr} {cd : Value} {A : Around} {outer : List Env} {s : Shared} {H : Hp} {E : XK}
/-- a callee's exception goes on through this def -/
theorem pass_on : Passes (CXd P w) (cxOf (CXd P w) P w K mg base N qual scope f cd A outer s H E) E := by
  intro pins σ H1 s1 e s' I hq
  obtain ⟨ea, C, dc, H2, rfl, ⟨B, ho, hgn, un, hok, fl, h0, h1, cov⟩, q⟩ := hq
  have hthere : ∀ b o, s.heap.get? b = some o → ∃ o', s1.heap.get? b = some o' := fun b o z => I.base.there b o z (fun z => nomatch z)
  show wpAny (model P w) (A.deeper (envOfC qual scope s.heap.objs.size f cd)) (leaving (envOfC qual scope s.heap.objs.size f cd) (.ref ea)) _ _ _
  refine leaves_next I.ok.frames rfl fl fun g fl2 up => ?_
  have I2 : Inv (cxOf (CXd P w) P w K mg base N qual scope f cd A outer s H E) pins σ H2 { s' with heap := g, toks := s'.toks } := I.caught (C := C) (ea := ea) (t := ea) ho hgn un hok cov fl2.1 up
  have new : s.heap.get? ea = none := by
    cases z : s.heap.get? ea with
    | none => rfl
    | some o => obtain ⟨o', e'⟩ := hthere ea o z; rw [h1] at e'; cases e'
  refine ⟨ea, C, dc, H2, rfl, ⟨B, I2.os, I2.bare, I2.base, I2.hok, fl2, h0, new, fun b o z n hb => ?_⟩, q⟩
  have nf : b ∉ frs (envOfC qual scope s.heap.objs.size f cd :: outer) := fun k => by
    rcases hb with ⟨u, hu⟩ | ⟨o', ho'⟩
    · have := I2.stkFree b k
      rw [hu] at this; cases this
    · exact (List.mem_cons.mp (I.stkSub b k)).elim (fun y => absurd (Nat.lt_of_lt_of_le (Heap.lt_size ho') I.ok.above) (by rw [y]; exact Nat.lt_irrefl _)) n
  have key : (∃ o1, s'.heap.get? b = some o1) ∧ ((∃ u, H2 b = some u) ∨ ∃ o', s1.heap.get? b = some o') := by
    rcases hb with ⟨u, hu⟩ | ⟨o', ho'⟩
    · exact ⟨(hok b u hu).there, .inl ⟨u, hu⟩⟩
    · obtain ⟨o2, e2⟩ := hthere b o' ho'
      exact ⟨un.there b o2 e2 (fun z => nomatch z), .inr ⟨o2, e2⟩⟩
  obtain ⟨⟨o1, e1⟩, k2⟩ := key
  have e2 := cov b o1 e1 nf k2
  have e3 := fl2.1 b o1 e2
  have e4 : some o = some o1 := z.symm.trans e3
  cases e4
  exact e2
theorem pe_defP {n : Nat} {x : Str} {ps : List Str} {sp : Sp} {e : Expr} {es : List Expr} {t : TA} {p pos : Pos} (D : DefD P w K mg base n x ps sp) (hr : Room n (cxOf (CXd P w) P w K mg base N qual scope f cd A outer s H E).A) (hg : Gl (cxOf (CXd P w) P w K mg base N qual scope f cd A outer s H E) x) (ha : PA (cxOf (CXd P w) P w K mg base N qual scope f cd A outer s H E) (e :: es) t)
    (hdb : (x == ("__debug__" : Str)) = false := by decide) (he : starEach (e :: es) (envOfC qual scope s.heap.objs.size f cd) = (false, eval e (envOfC qual scope s.heap.objs.size f cd)) :: starEach es (envOfC qual scope s.heap.objs.size f cd) := by rfl) (hpl : (backTo pos (starEach es (envOfC qual scope s.heap.objs.size f cd))).any (·.1) = false := by rfl) :
    PE (cxOf (CXd P w) P w K mg base N qual scope f cd A outer s H E) (.Call (.Name x p) (e :: es) [] pos) (tCall sp [] E t) := by
  obtain ⟨g, fd, F, b, kp, m⟩ := D.ex
  exact pe_call F hr hg m kp b .nil pass_on ha hdb he hpl
end
/-! ### e.f of an exception that was caught -/
theorem x_get {prog : Program} {w : World} {A : Around} {E : Value → Shared → Prop} {s : Shared} {K : Frag} {x C dx : Addr} {mA : Str → Option Value} {name : Str} {v : Value} {expr : Bool} {Q : Value → Shared → Prop} (X : K.In s.heap) (c : XFld K C) (g : XGot x C (some dx) s.heap) (n : s.heap.Ns1 dx mA) (ha : NoAttr K C name) (hv : mA name = some v) (hh : handedIn v = true) (h : Q v { s with toks := s.toks + 1 }) :
    wpAny (model prog w) A (getAttr (.ref x) name expr) Q E s := by
  obtain ⟨ox, vs, hx, hcl, hdx, hdt⟩ := g
  obtain ⟨od, ho, hl⟩ := lookIn_ns n
  have I : W.InstAt s.heap x ox C (some od) := ⟨hx, hcl, by unfold notCls; rw [hdt], by rw [hdx]; exact ho⟩
  obtain ⟨cd, hc, _, hdd⟩ := c.ex
  have hf : findObj K C (some od) name = some (.value v) := findObj_own (by unfold hasDictIn; rw [hc]; exact hdd) (show findIn K (.ref C) name = some none from ha) rfl (by rw [hl, hv])
  obtain ⟨hh', g, d, t, os⟩ := s
  have L0 := I.type (M := model prog w)
  have L1 := looks_findIn (M := model prog w) X c.ec.ga
  have L2 := looks_findIn (M := model prog w) X c.ec.gt
  have LB := looks_mroIn (M := model prog w) X c.ec.hb
  have L3 := looks_find (M := model prog w) X I hf
  unfold getAttr getAttrBy
  refine wpAny_bind (wpAny_mkText (wpAny_holding (wpAny_bind (L0.at (wpAny_bind (L1.at ?_))))))
  show wpAny _ _ (getAttrByItsOwn (.ref x) _ (.ref C) (.builtin "BaseException.__getattribute__") _ _) _ _ _
  unfold getAttrByItsOwn
  show wpAny _ _ (typeLookup (.ref C) "__getattr__" >>= _) _ _ _
  refine wpAny_bind (L2.at ?_)
  refine wpAny_bind (wpAny_attempt (wpAny_holding ?_))
  have FB := (F.attrBase_ValueError).ga
  have kd : builtinKind "BaseException.__getattribute__" = some .slot := by decide +kernel
  have spl : splitId "BaseException.__getattribute__" = some ("BaseException", "__getattribute__") := by decide +kernel
  have ar := F.args_bexc_ga (.ref x) (.str name t)
  rw [show callGetattribute (.ref x) (.str name t) (.builtin "BaseException.__getattribute__") expr = boundAndCalled (.builtin "BaseException.__getattribute__") (.ref x) (.str name t) by unfold callGetattribute; cases expr <;> rfl]
  unfold boundAndCalled
  refine wpAny_bind (wpAny_of_eq (FB.bind (.ref x)) ?_)
  show wpAny _ _ (call (.builtin "BaseException.__getattribute__") [.ref x, _]) _ _ _
  refine wpAny_call (codeAny_call_builtin FB.plain F.entry_bexc_ga ?_)
  simp only [checkBuiltinCall, kd, spl]
  unfold isInstance
  refine wpAny_bind (wpAny_bind (L0.at (LB.at ?_)))
  rw [if_neg (by decide)]
  refine wpAny_of_eq ar ?_
  unfold Builtin.«object.__getattribute__»
  refine wpAny_bind (wpAny_pure (wpAny_bind (wpAny_pure (wpAny_bind (L0.at (wpAny_bind (L3.at ?_)))))))
  refine wpAny_pure ?_
  exact handed_on hh h
section
variable {X : Cx}
def tFldG (K : Frag) (ta : TE) (f : Str) : TE := fun σ H Q => ta σ H fun x H1 => ∃ a C d fs v, x = .ref a ∧ H1 a = some (.ext (XGot a C (some d))) ∧ H1 d = some (.ext (XDict d fs)) ∧ XFld K C ∧ NoAttr K C f ∧ fs.lookup f = some v ∧ Q v H1
theorem pe_fldGK {K : Frag} {e : Expr} {f : Str} {pos : Pos} {ta : TE} (eK : X.K = K) (he : PE X e ta) (hb : attributeBase e f X.env (eval e X.env) = eval e X.env) : PE X (.Attribute e f pos) (tFldG K ta f) := by
  subst eK
  intro pins s σ H Q I h
  refine attr_of hb (thn (he pins s σ H _ I h) fun u s1 ⟨x, H1, I1, rx, a, C, d, fs, v, ex, ea, ed, c, n, l, q⟩ => ?_)
  subst ex
  cases (show u = Value.ref a from rx)
  obtain ⟨mA, nsd, r, _, _⟩ := (show ObjOk X.prog X.w H1 s1.heap d (.ext (XDict d fs)) from I1.hok d _ ed).1
  obtain ⟨u, hu, ru⟩ := RelO.some_of (v := v) (o := mA f) (by rw [← l]; exact r f)
  exact x_get I1.kIn c (show ObjOk X.prog X.w H1 s1.heap a (.ext (XGot a C (some d))) from I1.hok a _ ea).1 nsd n hu (handed_of ru) ⟨v, H1, I1.tok _, ru, q⟩
/-! ### isinstance(such an exception, c) -/
theorem call_isiGK {K : Frag} (eK : X.K = K) : CallR X (.builtin "isinstance") (fun xs H Q => ∃ (ea : Addr) (c : V) (cv : Value) (C : Addr) (dc : Option Addr) (k : Bool), xs = [.ref ea, c] ∧ (∀ u, RelV c u → u = cv) ∧ H ea = some (.ext (XGot ea C dc)) ∧ ExcCls K C ∧ kitOne K (.ref C) cv = some k ∧ Q (.bl k) H) := by
  subst eK
  intro pins s σ H xs us Q I r h
  obtain ⟨ea, c, cv, C, dc, k, rfl, hc, he, ec, kt, q⟩ := h
  obtain ⟨u, w', rfl, r1, r2⟩ := vals2 r
  have e := hc _ r2
  subst e
  cases (show u = Value.ref ea from r1)
  obtain ⟨p, _, _⟩ := (show ObjOk X.prog X.w H s.heap ea (.ext (XGot ea C dc)) from I.hok ea _ he)
  exact kia_one (kitx_exc ec) I.kIn p.of kt (fun z => nomatch z) fun tk => ⟨.bl k, H, I.tok tk, rfl, q⟩
theorem call_isiG : CallR X (.builtin "isinstance") (fun xs H Q => ∃ (ea : Addr) (c : V) (cv : Value) (C : Addr) (dc : Option Addr) (k : Bool), xs = [.ref ea, c] ∧ (∀ u, RelV c u → u = cv) ∧ H ea = some (.ext (XGot ea C dc)) ∧ ExcCls X.K C ∧ kitOne X.K (.ref C) cv = some k ∧ Q (.bl k) H) := call_isiGK rfl
end
/-! ### try: z = f(..) except Y as n: suite -/
end L2


set_option Elab.async false
set_option linter.all false
set_option maxRecDepth 100000
set_option maxHeartbeats 4000000
namespace L2
open PySem PySem.Spec PySem.Calls PyProof.Rows PySem.W
/-! ### a function of the text, by its address -/
structure FunE (K : Frag) (x qual : Str) (st : Stmt) (f : Addr) : Prop where
  ex : ∃ fd : FuncData, Fun K x qual st f fd
theorem funE_mk {K : Frag} {x qual : Str} {st : Stmt} {f : Addr} {oc kV doc pm cdv ct : Value} {od an : Option Addr} {osl : Array (Option Value)} (l : K.lookup f = some ⟨oc, od, .func (fnOf x qual (defArgs st) (defBody st) (defScope st) .none kV doc pm an cdv ct), osl⟩)
    (c : codeIn K cdv qual = true) (k : keepIn K (.ref f) = true) : FunE K x qual st f := ⟨⟨_, fun_mk l c k⟩⟩
/-- the class's own facts in one -/
def xfldIn (K : Frag) (C : Addr) : Bool := (clsIn K C).any fun cd => overV cd.mro && cd.hasDict
theorem xfld_mk {K : Frag} {C : Addr} (a : xfldIn K C = true) (s : findIn K (.ref C) "__setattr__" = some (some (.builtin "object.__setattr__"))) (e : ExcCls K C) : XFld K C := by
  refine ⟨?_, s, e⟩
  unfold xfldIn at a
  cases h : clsIn K C with
  | none => rw [h] at a; cases a
  | some cd =>
    rw [h] at a
    have z : (overV cd.mro && cd.hasDict) = true := a
    exact ⟨cd, rfl, (Bool.and_eq_true_iff.mp z).1, (Bool.and_eq_true_iff.mp z).2⟩
/-! ### an exception with the fields word and at, or at alone -/
/-- what an __init__ that puts fields leaves: the exception, its dict with the fields -/
def Put (a C d : Addr) (fs : List (Str × V)) (H H' : Hp) : Prop := H d = none ∧ d ≠ a ∧ H' a = some (.ext (XNew a C (some d))) ∧ H' d = some (.ext (XDict d fs)) ∧ ∀ b, b ≠ a → b ≠ d → H' b = H b
theorem Put.del {a C d : Addr} {fs : List (Str × V)} {H H' : Hp} (n : H a = none) (p : Put a C d fs (upd H a (.ext (XNew a C none))) H') : del a H' = upd H d (.ext (XDict d fs)) ∧ H d = none := by
  obtain ⟨h1, h2, h3, h4, h5⟩ := p
  rw [upd_ne h2] at h1
  refine ⟨funext fun b => ?_, h1⟩
  by_cases z : b = a
  · subst z
    rw [del_same, upd_ne (Ne.symm h2)]
    exact n.symm
  · rw [del_ne z]
    by_cases y : b = d
    · subst y
      rw [upd_same]
      exact h4
    · rw [upd_ne y, h5 b z y, upd_ne z]
def spInit1 (C : Addr) (f : Str) : Sp := fun vs H Q _ => ∃ a y, vs = [.ref a, y] ∧ H a = some (.ext (XNew a C none)) ∧ ∀ d H', Put a C d [(f, y)] H H' → Q .non H'
section
variable {P : Program} {w : World} {K : PySem.W.Frag} {mg : Str → Option Value} {base : Heap} {N : List Str} {qual : Str} {scope : Scope} {f : Addr} {cd : Value} {A : Around} {outer : List Env} {s : Shared} {H : Hp} {E : XK}
end
end L2


set_option Elab.async false
set_option linter.all false
set_option maxRecDepth 100000
set_option maxHeartbeats 4000000
namespace L2
open PySem PySem.Spec PySem.Calls PyProof.Rows PySem.W PySem.Builtin.Getset_descriptor
theorem ar0 {p : List Value → Prop} (h : p []) (us : List Value) (e : us.length = 0) : p us := by
  rw [List.eq_nil_of_length_eq_zero e]
  exact h
theorem arS {p : List Value → Prop} {n : Nat} (h : ∀ a us, us.length = n → p (a :: us)) (us : List Value) (e : us.length = n + 1) : p us := by
  cases us with
  | nil => exact absurd e.symm (Nat.succ_ne_zero n)
  | cons a t => exact h a t (Nat.succ.inj e)
theorem ar1 {p : List Value → Prop} (h : ∀ a, p [a]) : ∀ us : List Value, us.length = 1 → p us := arS fun a => ar0 (h a)
theorem ar2 {p : List Value → Prop} (h : ∀ a b, p [a, b]) : ∀ us : List Value, us.length = 2 → p us := arS fun a => ar1 (h a)
/-- a class of exceptions with one field, by its name in the text -/
structure XC1 (P : Program) (w : World) (K : Frag) (mg : Str → Option Value) (base : Heap) (x : Str) (C : Addr) (f : Str) : Prop where
  m : mg x = some (.ref C)
  kc : keepIn K (.ref C) = true
  ex : ∃ (fI : Addr) (fd : FuncData) (ps : List Str), FnOk P w K mg base CX0 1 fI fd ps (spInit1 C f) ∧ Binds K fd ps [] ∧ excInI K C bmV "ValueError.__new__" fI = true
  fl : XFld K C
  n1 : NoAttr K C f
def tRaise1 (C : Addr) (f : Str) (E : XK) (ta : TA) : TS := fun _ σ H => ta σ H fun vs H1 => ∃ y, vs = [y] ∧ ∀ d, H1 d = none → E (.ref C) (some d) (upd H1 d (.ext (XDict d [(f, y)])))
section
variable {P : Program} {w : World} {K : PySem.W.Frag} {mg : Str → Option Value} {base : Heap} {N : List Str} {qual : Str} {scope : Scope} {f : Addr} {cd : Value} {A : Around} {outer : List Env} {s : Shared} {H : Hp} {E : XK}
theorem ps_raise1 {C : Addr} {x f1 : Str} {e₀ : Expr} {es : List Expr} {ta : TA} {np cpos pos : Pos} (c : XC1 P w K mg base x C f1)
    (hr : Room 2 (cxOf (CXd P w) P w K mg base N qual scope f cd A outer s H E).A) (hg : Gl (cxOf (CXd P w) P w K mg base N qual scope f cd A outer s H E) x) (ha : PA (cxOf (CXd P w) P w K mg base N qual scope f cd A outer s H E) (e₀ :: es) ta)
    (hdb : (x == ("__debug__" : Str)) = false := by decide) (he : starEach (e₀ :: es) (envOfC qual scope s.heap.objs.size f cd) = (false, eval e₀ (envOfC qual scope s.heap.objs.size f cd)) :: starEach es (envOfC qual scope s.heap.objs.size f cd) := by rfl)
    (hpl : (backTo cpos (starEach es (envOfC qual scope s.heap.objs.size f cd))).any (·.1) = false := by rfl) :
    PS (cxOf (CXd P w) P w K mg base N qual scope f cd A outer s H E) (.Raise (some (.Call (.Name x np) (e₀ :: es) [] cpos)) none pos) (tRaise1 C f1 E ta) := by
  obtain ⟨fI, fd, ps, F, b, xi⟩ := c.ex
  intro pins s₁ σ H1 D I h
  refine x_raise (C := C) (bmB := bmV) (newId := "ValueError.__new__") (by decide) (I.ok.hd rfl) ?_
  refine wpAny_Call_Name_kw (ld_glob I hg c.m ?_ hdb)
  refine callWith_K (h₀ := base) I.ok.mod.kin c.kc (thn (ha cpos pins s₁ σ H1 _ I h) fun us s2 zz => ?_) he hpl
  obtain ⟨vs, H2, I2, r, y, ev, q⟩ := zz
  refine ⟨I2.kIn, ?_⟩
  subst ev
  have fr : H2 (s2.heap.objs.size + 1) = none := I2.hok.fresh (Nat.le_succ _)
  refine wpAny_mono (run_makeX0 (R := fun H3 => ∃ dc, H3 (s2.heap.objs.size + 1) = some (.ext (XNew (s2.heap.objs.size + 1) C dc)) ∧ E (.ref C) dc (del (s2.heap.objs.size + 1) H3)) F xi hr b I2 r (by show 1 ≤ 1000; decide) ⟨_, y, rfl, upd_same, fun d H3 p => ⟨rfl, some d, p.2.2.1, ?_⟩⟩) (fun v s3 t => ?_) fun _ _ t => t
  · obtain ⟨e1, e2⟩ := p.del fr
    rw [e1]
    exact q d e2
  · obtain ⟨rfl, H3, I3, dc, hx, hE⟩ := t
    have nw : s.heap.get? (s2.heap.objs.size + 1) = none := Heap.get?_none_of_le (Nat.le_trans I2.sz (Nat.le_succ _))
    exact ⟨_, dc, rfl, ⟨fI, xat_of I3.kIn xi⟩, (show ObjOk P w H3 s3.heap _ (.ext (XNew _ C dc)) from I3.hok _ _ hx).1, leaves_made I3 hx nw hE⟩
end
/-! ### try: f(..) except Y as n: suite -/
def tTryH (K : Frag) (j : Nat) (Dc : Addr) (sp : Sp) (ta : TA) (ts : TS) : TS := fun D σ H => ta σ H fun vs H1 => sp vs H1 (fun _ H2 => D.nx σ H2) fun C dc H2 => ∃ Cn, C = .ref Cn ∧ mroIn K Cn (.ref Dc) = some true ∧
  ∀ ea, H2 ea = none → ts { nx := fun σ' H3 => D.nx (σ'.set j none) H3, rt := D.rt, bk := fun σ' H3 => D.bk (σ'.set j none) H3, ct := fun σ' H3 => D.ct (σ'.set j none) H3 } (σ.set j (some (.ref ea))) (upd H2 ea (.ext (XGot ea Cn dc)))
end L2


set_option Elab.async false
set_option linter.all false
set_option maxRecDepth 100000
set_option maxHeartbeats 4000000
namespace L2
open PySem PySem.Spec PySem.Calls PyProof.Rows PySem.W PySem.Builtin.Getset_descriptor
/-! ### an exception without fields is one whose dict is not asked for -/
/-! ### try: (if c: f(..) else: g(..)) except Y as n: suite -/
def TryOk (X : Cx) (pins : List (Addr × Obj)) (D : Ends) (hd : ExceptHandler) (b : List Stmt) (s : Shared) : Prop :=
  wpAny (model X.prog X.w) X.A (execs b X.env) (fun f s₁ => match f with | .next => wpAny (model X.prog X.w) X.A (execs [] X.env) (SP X pins D) X.xe s₁ | f => SP X pins D f s₁)
    (fun e s₁ => wpAny (model X.prog X.w) X.A (noteFrame e X.env) (fun _ s₂ => wpAny (model X.prog X.w) X.A (setFlight e none) (fun _ s₃ => wpAny (model X.prog X.w) X.A (handleBy e X.env [hd]) (SP X pins D) X.xe s₃) X.xe s₂) X.xe s₁) s
theorem try_ok {X : Cx} {m j : Nat} {x y n : Str} {ps : List Str} {sp : Sp} {e : Expr} {es : List Expr} {ta : TA} {ts : TS} {p pos pos' np hpos : Pos} {b₀ : Stmt} {suite : List Stmt} {Dc : Addr} {pins : List (Addr × Obj)} {σ : St} {H : Hp} {D : Ends} {s : Shared}
    (hxe : X.xe = fun _ _ => False) (hstk : X.stack = X.env :: X.outer) (hfr : X.env.frame = some X.env.locals) (hex : X.ex = [])
    (Df : DefD X.prog X.w X.K X.mg X.base m x ps sp) (hr : Room m X.A) (hg : Gl X x) (ha : PA X (e :: es) ta) (hgy : Gl X y) (hmy : X.mg y = some (.ref Dc)) (cc : CatchCls X.K Dc)
    (hN : X.N.Nodup) (hj : X.N[j]? = some n) (hl : X.env.scope.names.lookup n = some .local) (hs : ∀ ea, PSs (X.mark ea) (b₀ :: suite) ts)
    (hdb : (x == ("__debug__" : Str)) = false) (hdy : (y == ("__debug__" : Str)) = false) (he : starEach (e :: es) X.env = (false, eval e X.env) :: starEach es X.env)
    (hpl : (backTo pos (starEach es X.env)).any (·.1) = false) (hsw : swapsWith (.Call (.Name x p) (e :: es) [] pos) none pos'.line X.env = pure false)
    (I : Inv X pins σ H s) (h : tTryH X.K j Dc sp ta ts D σ H) : TryOk X pins D (.ExceptHandler (some (.Name y np)) (some n) (b₀ :: suite) hpos) [.Expr (.Call (.Name x p) (e :: es) [] pos) pos'] s := by
  unfold TryOk
  obtain ⟨f, fd, F, b, kp, mf⟩ := Df.ex
  refine wpAny_execs_cons (wpAny_Expr_any ?_ I.quiet hsw)
  refine wpAny_Call_Name_kw (ld_glob I hg mf ?_ hdb)
  refine callWith_K (h₀ := X.base) I.ok.mod.kin kp (wpAny_mono (ha pos pins s σ H _ I h) (fun us s1 z => ?_) (fun _ _ z => by rw [hxe] at z; exact z.elim)) he hpl
  obtain ⟨vs, H1, I1, r, q⟩ := z
  refine ⟨I1.kIn, ?_⟩
  have hlen : us.length = ps.length := by rw [← r.length]; exact F.len _ _ _ _ q
  have bnd : BindsTo s1 fd ⟨us, []⟩ (ps.zip us) := by
    have z := b s1 us I1.kIn (by rw [List.append_nil]; exact hlen)
    rw [List.append_nil] at z
    exact z
  refine wpAny_call (codeAny_mono (F.run X.A X.stack s1 H1 ⟨us, []⟩ us vs _ _ hr I1.env0 bnd r q) fun res s' hq => ?_)
  cases res with
  | ok fl =>
    cases fl with
    | ret u =>
      obtain ⟨v, H2, I2, rv, q2⟩ := I1.after hq
      exact wpAny_execs_nil (wpAny_execs_nil ⟨σ, H2, I2, q2⟩)
    | next => exact False.elim hq
    | brk => exact False.elim hq
    | cont => exact False.elim hq
  | error ex =>
    obtain ⟨ea, C, dc, H2, rfl, ⟨B, ho, hgn, un, hok, fl, h0, h1, cov⟩, Cn, rfl, hm, q3⟩ := hq
    have hfrm : X.A.frames = some (X.env :: X.outer) := by rw [← hstk]; exact I.ok.frames
    rw [hstk] at fl
    refine looked (L := X.env.locals) hfrm hfr fl fun h4 held up4 => ?_
    refine landed (s := { s' with heap := h4 }) held fun h5 fl5 up5' => ?_
    have up5 := up4.trans up5'
    have I5 : Inv X pins σ H2 { s' with heap := h5 } := I1.caught (C := .ref Cn) (ea := ea) (t := ea) (tk := s'.toks) ho hgn un hok cov fl5.1 up5
    refine wpAny_handleBy_cons (codeAny_handlers_test (ld_glob (X := X.mark ea) (I5.mark ea) hgy hmy ?_ hdy)) (by intro z; cases z)
    refine exc_matches (K := X.K) I5.kIn fl5.got.of cc hm ?_
    show codeAny _ _ (.handlers (.ref ea) [.ExceptHandler none (some n) (b₀ :: suite) hpos] X.env) _ _
    refine codeAny_handlers_suite_as ?_
    refine landed (s := { s' with heap := h5 }) fl5 fun h6 fl6 up6 => ?_
    have I6 : Inv X pins σ H2 { s' with heap := h6 } := I1.caught (C := .ref Cn) (ea := ea) (t := ea) (tk := s'.toks) ho hgn un hok cov fl6.1 (up5.trans up6)
    have new : X.s₀.heap.get? ea = none := by
      cases z : X.s₀.heap.get? ea with
      | none => rfl
      | some o => obtain ⟨o', e'⟩ := I1.base.there ea o z (by rw [hex]; simp); rw [h1] at e'; cases e'
    have nl : ea ≠ X.env.locals := fun z => by
      obtain ⟨mm, ⟨o, _, _, g, _⟩, _⟩ := I1.loc
      rw [← z, h1] at g; cases g
    have nc : ∀ z c, X.env.cells.lookup z = some c → c ≠ ea := fun z c k q => by
      obtain ⟨v, o, g, _⟩ := I1.cell z c k
      rw [q, h1] at g; cases g
    have np' : ∀ z ∈ X.pn ++ pins, z.1 ≠ ea := fun z hz q => by
      obtain ⟨g, _⟩ := I1.pin z hz
      rw [q, h1] at g; cases g
    have I7 := I6.track (a := ea) (φ := XGot ea Cn dc) h0 new nl nc np' fl6.got (let ⟨o, _, z, _⟩ := fl6.got; ⟨o, z⟩) fun _ _ z k => z.stay k
    refine store_ok (X := X.mark ea) (I7.mark ea) hN hj (.inl hl) (v := .ref ea) rfl (fun s7 I8 => ?_) (.inr hl)
    refine wpAny_mono (hs ea pins s7 _ _ _ I8 (q3 ea h0)) (fun fl8 s8 q8 => ?_) (fun ee ss z => by
      have z' : X.xe ee ss := z
      rw [hxe] at z'
      exact z'.elim)
    have hcls : (X.env.scope.kind == .class || (X.env.scope.kind == .module && X.env.locals != X.env.globals)) = false := by rw [I.ok.kind]; rfl
    cases fl8 with
    | next =>
      obtain ⟨σ8, H8, J, n8⟩ := q8
      have J' := J.unmark I.ok
      obtain ⟨mm, hn, _⟩ := id J'.loc
      exact wpAny_nameGoes_keeps hl hn hcls fun h9 v9 hn9 hs9 => ⟨_, H8, J'.unname hN hj hn hn9 hs9, n8⟩
    | brk =>
      obtain ⟨σ8, H8, J, n8⟩ := q8
      have J' := J.unmark I.ok
      obtain ⟨mm, hn, _⟩ := id J'.loc
      exact wpAny_nameGoes_keeps hl hn hcls fun h9 v9 hn9 hs9 => ⟨_, H8, J'.unname hN hj hn hn9 hs9, n8⟩
    | cont =>
      obtain ⟨σ8, H8, J, n8⟩ := q8
      have J' := J.unmark I.ok
      obtain ⟨mm, hn, _⟩ := id J'.loc
      exact wpAny_nameGoes_keeps hl hn hcls fun h9 v9 hn9 hs9 => ⟨_, H8, J'.unname hN hj hn hn9 hs9, n8⟩
    | ret u =>
      obtain ⟨v, σ8, H8, J, rv, n8⟩ := q8
      have J' := J.unmark I.ok
      obtain ⟨mm, hn, _⟩ := id J'.loc
      exact wpAny_nameGoes_keeps hl hn hcls fun h9 v9 hn9 hs9 => ⟨v, _, H8, J'.unname hN hj hn hn9 hs9, rv, n8⟩
def tTryIf (tc : TT) (t u : TS) : TS := fun D σ H => tc σ H fun b H1 => if b = true then t D σ H1 else u D σ H1
end L2


set_option Elab.async false
set_option linter.all false
set_option maxRecDepth 100000
set_option maxHeartbeats 4000000
namespace L2
open PySem PySem.Spec PySem.Calls PyProof.Rows PySem.W PySem.Builtin.Getset_descriptor
/-! ### try: (a nest of ifs, each end a call) except Y as n: suite -/
def PTry (X : Cx) (hd : ExceptHandler) (b : List Stmt) (t : TS) : Prop := ∀ pins s σ H D, Inv X pins σ H s → t D σ H → TryOk X pins D hd b s
theorem ptry_call {X : Cx} {m j : Nat} {x y n : Str} {ps : List Str} {sp : Sp} {e : Expr} {es : List Expr} {ta : TA} {ts : TS} {p pos pos' np hpos : Pos} {b₀ : Stmt} {suite : List Stmt} {Dc : Addr}
    (hxe : X.xe = fun _ _ => False) (hstk : X.stack = X.env :: X.outer) (hfr : X.env.frame = some X.env.locals) (hex : X.ex = [])
    (Df : DefD X.prog X.w X.K X.mg X.base m x ps sp) (hr : Room m X.A) (hg : Gl X x) (ha : PA X (e :: es) ta) (hgy : Gl X y) (hmy : X.mg y = some (.ref Dc)) (cc : CatchCls X.K Dc)
    (hN : X.N.Nodup) (hj : X.N[j]? = some n) (hl : X.env.scope.names.lookup n = some .local) (hs : ∀ ea, PSs (X.mark ea) (b₀ :: suite) ts)
    (hdb : (x == ("__debug__" : Str)) = false := by decide) (hdy : (y == ("__debug__" : Str)) = false := by decide) (he : starEach (e :: es) X.env = (false, eval e X.env) :: starEach es X.env := by rfl)
    (hpl : (backTo pos (starEach es X.env)).any (·.1) = false := by rfl) (hsw : swapsWith (.Call (.Name x p) (e :: es) [] pos) none pos'.line X.env = pure false := by rfl) :
    PTry X (.ExceptHandler (some (.Name y np)) (some n) (b₀ :: suite) hpos) [.Expr (.Call (.Name x p) (e :: es) [] pos) pos'] (tTryH X.K j Dc sp ta ts) :=
  fun pins s σ H D I h => try_ok (np := np) (hpos := hpos) hxe hstk hfr hex Df hr hg ha hgy hmy cc hN hj hl hs hdb hdy he hpl hsw I h
theorem ptry_if {X : Cx} {hd : ExceptHandler} {c : Expr} {tc : TT} {t u : TS} {b b' : List Stmt} {ipos : Pos} (hxe : X.xe = fun _ _ => False) (hc : PT X c tc) (h1 : PTry X hd b t) (h2 : PTry X hd b' u) :
    PTry X hd [.If c b b' ipos] (tTryIf tc t u) := by
  intro pins s σ H D I h
  unfold TryOk
  refine wpAny_execs_cons (wpAny_If (wpAny_mono (hc pins s σ H _ I h) (fun d s1 z => ?_) (fun _ _ z => by rw [hxe] at z; exact z.elim)))
  obtain ⟨H1, I1, q1⟩ := z
  cases d with
  | true =>
    refine wpAny_mono (h1 pins s1 σ H1 D I1 q1) (fun fl s2 z => ?_) (fun _ _ z => z)
    cases fl with
    | next => exact wpAny_execs_nil z
    | brk => exact z
    | cont => exact z
    | ret u => exact z
  | false =>
    refine wpAny_mono (h2 pins s1 σ H1 D I1 q1) (fun fl s2 z => ?_) (fun _ _ z => z)
    cases fl with
    | next => exact wpAny_execs_nil z
    | brk => exact z
    | cont => exact z
    | ret u => exact z
theorem ps_tryB {X : Cx} {hd : ExceptHandler} {b : List Stmt} {t : TS} {tpos : Pos} (h : PTry X hd b t) : PS X (.Try b [hd] [] [] tpos) t :=
  fun pins s σ H D I q => wpAny_Try_except (h pins s σ H D I q)
end L2


set_option Elab.async false
set_option linter.all false
set_option maxRecDepth 100000
set_option maxHeartbeats 4000000
namespace L2
open PySem PySem.Spec PySem.Calls PyProof.Rows PySem.W PySem.Builtin.Getset_descriptor
/-! ### try: f(..) except Y as n: suite except Y2 as n: suite2 -/
end L2


set_option Elab.async false
set_option linter.all false
set_option maxRecDepth 100000
set_option maxHeartbeats 4000000
namespace Mine
open PySem L2
def top (i : Nat) : Stmt := PySem.Challenge.pw_leansay_k13_rows_amiss.main.body.getD i (.Pass ⟨0, 0, 0, 0⟩)
abbrev s_NoRows_init : Stmt := inClass (top 3) 0
abbrev n_NoRows_init : List Str := ["self", "at"]
theorem sc_NoRows_init : FnScope n_NoRows_init ["self", "at"] (defScope s_NoRows_init) := ⟨rfl, rfl, rfl, by decide +kernel, rfl, by decide +kernel, by decide +kernel⟩
abbrev s_is_whole : Stmt := top 9
abbrev n_is_whole : List Str := ["thing"]
theorem sc_is_whole : FnScope n_is_whole ["thing"] (defScope s_is_whole) := ⟨rfl, rfl, rfl, by decide +kernel, rfl, by decide +kernel, by decide +kernel⟩
abbrev s_how_many_it_takes : Stmt := top 25
abbrev n_how_many_it_takes : List Str := ["word"]
theorem sc_how_many_it_takes : FnScope n_how_many_it_takes ["word"] (defScope s_how_many_it_takes) := ⟨rfl, rfl, rfl, by decide +kernel, rfl, by decide +kernel, by decide +kernel⟩
abbrev s_is_place_ahead : Stmt := top 30
abbrev n_is_place_ahead : List Str := ["thing", "place"]
theorem sc_is_place_ahead : FnScope n_is_place_ahead ["thing", "place"] (defScope s_is_place_ahead) := ⟨rfl, rfl, rfl, by decide +kernel, rfl, by decide +kernel, by decide +kernel⟩
abbrev s_is_row : Stmt := top 31
abbrev n_is_row : List Str := ["thing", "place"]
theorem sc_is_row : FnScope n_is_row ["thing", "place"] (defScope s_is_row) := ⟨rfl, rfl, rfl, by decide +kernel, rfl, by decide +kernel, by decide +kernel⟩
abbrev s_rows_fault : Stmt := top 32
abbrev n_rows_fault : List Str := ["things", "place", "thing"]
theorem sc_rows_fault : FnScope n_rows_fault ["things"] (defScope s_rows_fault) := ⟨rfl, rfl, rfl, by decide +kernel, rfl, by decide +kernel, by decide +kernel⟩
abbrev s_must_be_rows : Stmt := top 33
abbrev n_must_be_rows : List Str := ["things", "at"]
theorem sc_must_be_rows : FnScope n_must_be_rows ["things"] (defScope s_must_be_rows) := ⟨rfl, rfl, rfl, by decide +kernel, rfl, by decide +kernel, by decide +kernel⟩
abbrev s_worth_of_rows : Stmt := top 35
abbrev n_worth_of_rows : List Str := ["rows", "point", "worths", "row"]
theorem sc_worth_of_rows : FnScope n_worth_of_rows ["rows", "point"] (defScope s_worth_of_rows) := ⟨rfl, rfl, rfl, by decide +kernel, rfl, by decide +kernel, by decide +kernel⟩
abbrev s_line_of_rows : Stmt := top 60
abbrev n_line_of_rows : List Str := ["rows"]
theorem sc_line_of_rows : FnScope n_line_of_rows ["rows"] (defScope s_line_of_rows) := ⟨rfl, rfl, rfl, by decide +kernel, rfl, by decide +kernel, by decide +kernel⟩
abbrev s_rules_on : Stmt := top 76
abbrev n_rules_on : List Str := ["rows", "hull"]
theorem sc_rules_on : FnScope n_rules_on ["rows", "hull"] (defScope s_rules_on) := ⟨rfl, rfl, rfl, by decide +kernel, rfl, by decide +kernel, by decide +kernel⟩
abbrev s_l_cell : Stmt := top 78
abbrev s_l_whole : Stmt := top 79
abbrev n_l_whole : List Str := ["_law_found"]
theorem sc_l_whole : FnScope n_l_whole ["_law_found"] (defScope s_l_whole) := ⟨rfl, rfl, rfl, by decide +kernel, rfl, by decide +kernel, by decide +kernel⟩
abbrev s_l_rows : Stmt := top 80
abbrev s_l_row : Stmt := top 81
abbrev n_l_row : List Str := ["_law_thing", "_law_at", "_law_words"]
theorem sc_l_row : FnScope n_l_row ["_law_thing", "_law_at"] (defScope s_l_row) := ⟨rfl, rfl, rfl, by decide +kernel, rfl, by decide +kernel, by decide +kernel⟩
abbrev s_l_fault : Stmt := top 82
abbrev n_l_fault : List Str := ["_law_things", "_law_at"]
theorem sc_l_fault : FnScope n_l_fault ["_law_things"] (defScope s_l_fault) := ⟨rfl, rfl, rfl, by decide +kernel, rfl, by decide +kernel, by decide +kernel⟩
abbrev s_l_spoilt : Stmt := top 83
abbrev n_l_spoilt : List Str := ["_law_rows_here", "_law_cell_here", "_law_more", "_law_at", "_law_row_here", "_law_way", "_law_some", "_law_number"]
theorem sc_l_spoilt : FnScope n_l_spoilt ["_law_rows_here", "_law_cell_here", "_law_more"] (defScope s_l_spoilt) := ⟨rfl, rfl, rfl, by decide +kernel, rfl, by decide +kernel, by decide +kernel⟩
abbrev s_l_refused : Stmt := top 84
abbrev n_l_refused : List Str := ["_law_things", "_law_way", "_law_heard", "e"]
theorem sc_l_refused : FnScope n_l_refused ["_law_things", "_law_way"] (defScope s_l_refused) := ⟨rfl, rfl, rfl, by decide +kernel, rfl, by decide +kernel, by decide +kernel⟩
abbrev s_law : Stmt := top 85
abbrev n_law : List Str := ["_law_script", "_law_cell_here", "_law_things", "_law_k", "_law_handed", "_law_due", "_law_found"]
theorem sc_law : FnScope n_law ["_law_script"] (defScope s_law) := ⟨rfl, rfl, rfl, by decide +kernel, rfl, by decide +kernel, by decide +kernel⟩
end Mine

namespace Mine
open PySem L2
/-! ### t[1:] of a tuple -/
theorem cut1 (x : V) (us : List V) : cutV (x :: us) (some 1) none = us := by
  unfold cutV
  rw [show _root_.HT.sIx (x :: us).length 0 (some 1) = 1 from by
    rw [show (some (1 : Int)) = some ((1 : Nat) : Int) from rfl, _root_.HT.sIx_nat, List.length_cons]; omega, _root_.HT.sIx_none]
  show List.take ((x :: us).length - 1) us = us
  rw [List.length_cons, Nat.add_sub_cancel, List.take_length]
theorem sl1 {K : PySem.W.Frag} {H : Hp} {a : Addr} {x : V} {us : List V} {Q : VK} (e : H a = some (.tup (x :: us))) (h : ∀ p, H p = none → Q (.ref p) (upd H p (.tup us))) : rSlA K (.ref a) (some 1) none H Q := by
  refine ⟨a, _, rfl, SqT.of e, fun z => ?_, fun _ p => ?_⟩
  · have hix0 : _root_.HT.sIx (x :: us).length 0 (some 1) = 1 := by
      rw [show (some (1 : Int)) = some ((1 : Nat) : Int) from rfl, _root_.HT.sIx_nat, List.length_cons]; omega
    exact absurd (hix0.symm.trans z) (by decide)
  · intro hp'
    rw [cut1]
    exact h _ hp'
end Mine

namespace Mine
open PySem L2
theorem TyOf.same {K : PySem.W.Frag} {H H' : Hp} {v : V} {T : Value} (h : TyOf K H v T) (s : Same H H') : TyOf K H' v T := by
  cases h with
  | non => exact .non
  | bl x => exact .bl x
  | int i => exact .int i
  | str x => exact .str x
  | flt x => exact .flt x
  | lst e => exact .lst (s _ _ e)
  | frz e => exact .frz (s _ _ e)
  | tup e => exact .tup (s _ _ e)
  | dK e => exact .dK (s _ _ e)
  | dT e => exact .dT (s _ _ e)
  | ins e a b c d f => exact .ins (s _ _ e) a b c d f
/-- what stands in a tuple -/
inductive E13 where
  | int (i : Int) | str (x : Str) | bl (b : Bool) | non | tup
def EV (H : Hp) (v : V) : E13 → Prop
  | .int i => v = .int i
  | .str x => v = .str x
  | .bl b => v = .bl b
  | .non => v = .non
  | .tup => ∃ a xs, v = .ref a ∧ H a = some (.tup xs)
theorem EV.same {H H' : Hp} (s : Same H H') (v : V) (e : E13) (h : EV H v e) : EV H' v e := by
  cases e with
  | tup => obtain ⟨a, xs, h1, h2⟩ := h; exact ⟨a, xs, h1, s _ _ h2⟩
  | _ => exact h
def E13.ahead (k : Nat) : E13 → Bool
  | .int i => decide (0 ≤ i) && decide (i < (k : Int))
  | _ => false
def howV (w : Str) : V := match PyProof.Rows.KTD.datumAt w TK with | some n => .int n | none => .non
/-- a thing where a row is due: a tuple of such, or no tuple -/
abbrev Tg := Option (List E13)
def TgV (K : PySem.W.Frag) (H : Hp) (v : V) (o : Tg) : Prop := noFlt v = true ∧ match o with
  | none => ∃ T, TyOf K H v T ∧ PySem.W.kitOne K T (.type "tuple") = some false
  | some es => es.length ≤ 20 ∧ ∃ a xs, v = .ref a ∧ H a = some (.tup xs) ∧ All2 (EV H) xs es
theorem TgV.same {K : PySem.W.Frag} {H H' : Hp} (s : Same H H') (v : V) (o : Tg) (h : TgV K H v o) : TgV K H' v o := by
  cases o with
  | none => obtain ⟨n, T, h1, h2⟩ := h; exact ⟨n, T, TyOf.same h1 s, h2⟩
  | some es => obtain ⟨n, l, a, xs, h1, h2, h3⟩ := h; exact ⟨n, l, a, xs, h1, s _ _ h2, h3.imp (EV.same s)⟩
def rowOk (k : Nat) : Tg → Bool
  | some (.str w :: es) => decide (howV w = .int (es.length : Int)) && es.all (E13.ahead k)
  | _ => false
def tgOk (k : Nat) (o : Tg) : Bool := decide (k < 400) && rowOk k o
def fltFrom : Nat → List Tg → Option Nat
  | _, [] => none
  | k, o :: r => if tgOk k o then fltFrom (k + 1) r else some k
def flt13 (os : List Tg) : Option Nat := match os with | [] => some 0 | _ => fltFrom 0 os
def optV : Option Nat → V
  | none => .non
  | some k => .int (k : Int)
theorem howV_scal (w : Str) (i : Int) : scal (howV w) (V.int i) = true := by unfold howV; cases PyProof.Rows.KTD.datumAt w TK <;> rfl
theorem at0 {x : V} {us : List V} : atI (x :: us) 0 = some x := atI_nat (j := 0) rfl
structure Kit13 (K : PySem.W.Frag) : Prop where
  ni : PySem.W.kitOne K (.type "NoneType") (.type "int") = some false
  si : PySem.W.kitOne K (.type "str") (.type "int") = some false
  ti : PySem.W.kitOne K (.type "tuple") (.type "int") = some false
  bi : PySem.W.kitOne K (.type "bool") (.type "int") = some true
  ib : PySem.W.kitOne K (.type "int") (.type "bool") = some false
  ns : PySem.W.kitOne K (.type "NoneType") (.type "str") = some false
  is : PySem.W.kitOne K (.type "int") (.type "str") = some false
  bs : PySem.W.kitOne K (.type "bool") (.type "str") = some false
  ts : PySem.W.kitOne K (.type "tuple") (.type "str") = some false
  nt : PySem.W.kitOne K (.type "NoneType") (.type "tuple") = some false
  it : PySem.W.kitOne K (.type "int") (.type "tuple") = some false
  st : PySem.W.kitOne K (.type "str") (.type "tuple") = some false
  bt : PySem.W.kitOne K (.type "bool") (.type "tuple") = some false
  lt : PySem.W.kitOne K (.type "list") (.type "tuple") = some false
  dt : PySem.W.kitOne K (.type "dict") (.type "tuple") = some false
theorem EV.ty {K : PySem.W.Frag} {H : Hp} {v : V} {e : E13} (h : EV H v e) : ∃ T, TyOf K H v T ∧ T = (match e with | .int _ => .type "int" | .str _ => .type "str" | .bl _ => .type "bool" | .non => .type "NoneType" | .tup => .type "tuple") := by
  cases e with
  | int i => cases (show v = _ from h); exact ⟨_, .int i, rfl⟩
  | str x => cases (show v = _ from h); exact ⟨_, .str x, rfl⟩
  | bl b => cases (show v = _ from h); exact ⟨_, .bl b, rfl⟩
  | non => cases (show v = _ from h); exact ⟨_, .non, rfl⟩
  | tup => obtain ⟨a, xs, rfl, h2⟩ := h; exact ⟨_, .tup h2, rfl⟩
def E13.isInt : E13 → Bool
  | .int _ => true
  | _ => false
def E13.isStr : E13 → Bool
  | .str _ => true
  | _ => false
theorem EV.str {K : PySem.W.Frag} {H : Hp} {v : V} {e : E13} (kk : Kit13 K) (h : EV H v e) : ∃ T, TyOf K H v T ∧ PySem.W.kitOne K T (.type "str") = some e.isStr := by
  obtain ⟨T, t, rfl⟩ := EV.ty (K := K) h
  refine ⟨_, t, ?_⟩
  cases e with
  | int i => exact kk.is
  | str x => exact kit_same
  | bl b => exact kk.bs
  | non => exact kk.ns
  | tup => exact kk.ts
def spWhole13 : Sp := fun vs H Q _ => ∃ (x : V) (e : E13), vs = [x] ∧ EV H x e ∧ Q (.bl e.isInt) H
def spAhead13 : Sp := fun vs H Q _ => ∃ (x : V) (e : E13) (p : Nat), vs = [x, .int (p : Int)] ∧ EV H x e ∧ Q (.bl (e.ahead p)) H
def spHowV : Sp := fun vs H Q _ => ∃ x : Str, vs = [.str x] ∧ Q (howV x) H
def spIsRow13 (K : PySem.W.Frag) : Sp := fun vs H Q _ => ∃ (x : V) (k : Nat) (o : Tg), vs = [x, .int (k : Int)] ∧ TgV K H x o ∧ ∀ H', Same H H' → Q (.bl (tgOk k o)) H'
def spFault13 (K : PySem.W.Frag) : Sp := fun vs H Q _ => ∃ (l : Addr) (us : List V) (os : List Tg), vs = [.ref l] ∧ H l = some (.lst us) ∧ All2 (TgV K H) us os ∧ os.length ≤ 1000 ∧ ∀ H', Same H H' → Q (optV (flt13 os)) H'
def spMust13 (K : PySem.W.Frag) (C : Addr) : Sp := fun vs H Q E => ∃ (l : Addr) (us : List V) (os : List Tg) (k : Nat), vs = [.ref l] ∧ H l = some (.lst us) ∧ All2 (TgV K H) us os ∧ os.length ≤ 1000 ∧ flt13 os = some k ∧
  ∀ d H1, Same H H1 → H1 d = none → E (.ref C) (some d) (upd H1 d (.ext (XDict d [("at", .int (k : Int))])))
abbrev irN : List Str := ["thing", "place"]
def irArg (s : Stmt) : Expr := match s with
  | .Return (some (.Call _ [e] _ _)) _ => e
  | _ => .Constant .none 0 ⟨0, 0, 0, 0⟩
theorem all_ahead (es : List E13) (k : Nat) : (es.map (E13.ahead k)).all id = es.all (E13.ahead k) := by rw [List.all_map]; rfl
section
variable {P : Program} {w : World} {K : PySem.W.Frag} {mg : Str → Option Value} {base : Heap}
theorem ok_isWhole (T : TopDef K mg "is_whole" s_is_whole) (Z_isinstance : mg "isinstance" = none) (Z_int : mg "int" = none) (Z_bool : mg "bool" = none) (kk : Kit13 K) : Def P w K mg base 1 "is_whole" ["thing"] spWhole13 := by
  refine def_of T sc_is_whole (fun _ _ _ _ _ _ us hl => match us, hl with | [_], _ => rfl) (fun vs H Q E h => ?_) (fun f cdv A outer s H vs Q E hr h => ?_)
  · obtain ⟨x, e, rfl, _⟩ := h
    rfl
  obtain ⟨x, e, rfl, ev, q⟩ := h
  have nd := sc_is_whole.nd
  obtain ⟨T, t, rfl⟩ := EV.ty (K := K) ev
  refine ⟨_, (pss_one (ps_ret (pe_and (pe_callB call_isi rfl Z_isinstance (by decide +kernel) (pa_cons (pv 0) (pa_cons (pe_bltn (v := V.ty "int") rfl Z_int (by decide +kernel) rfl) pa_nil))) (pe_one (pe_not (pe_callB call_isi rfl Z_isinstance (by decide +kernel) (pa_cons (pv 0) (pa_cons (pe_bltn (v := V.ty "bool") rfl Z_bool (by decide +kernel) rfl) pa_nil)))))))), ?_⟩
  cases e with
  | int i => exact ⟨_, rfl, _, _, _, _, true, rfl, (fun _ h => h), t, kit_same, _, rfl, iteT ⟨_, rfl, _, _, _, _, false, rfl, (fun _ h => h), t, kk.ib, _, rfl, q⟩⟩
  | bl b => exact ⟨_, rfl, _, _, _, _, true, rfl, (fun _ h => h), t, kk.bi, _, rfl, iteT ⟨_, rfl, _, _, _, _, true, rfl, (fun _ h => h), t, kit_same, _, rfl, q⟩⟩
  | str x => exact ⟨_, rfl, _, _, _, _, false, rfl, (fun _ h => h), t, kk.si, _, rfl, iteF q⟩
  | non => exact ⟨_, rfl, _, _, _, _, false, rfl, (fun _ h => h), t, kk.ni, _, rfl, iteF q⟩
  | tup => exact ⟨_, rfl, _, _, _, _, false, rfl, (fun _ h => h), t, kk.ti, _, rfl, iteF q⟩
theorem ok_how (T : TopDef K mg "how_many_it_takes" s_how_many_it_takes) (P_TAKEN : TopDict K mg "TAKEN" TK) : Def P w K mg base 1 "how_many_it_takes" ["word"] spHowV := by
  refine def_of T sc_how_many_it_takes (fun _ _ _ _ _ _ us hl => match us, hl with | [_], _ => rfl) (fun vs H Q E h => ?_) (fun f cdv A outer s H vs Q E hr h => ?_)
  · obtain ⟨r, rfl, _⟩ := h
    rfl
  obtain ⟨x, rfl, q⟩ := h
  have nd := sc_how_many_it_takes.nd
  exact ⟨_, (pss_one (ps_ret (pe_tget P_TAKEN rfl (pv 0) ⟨rfl, rfl, rfl, rfl⟩))), _, rfl, _, rfl, q⟩
theorem ok_ahead (T : TopDef K mg "is_place_ahead" s_is_place_ahead) (D_is_whole : Def P w K mg base 1 "is_whole" ["thing"] spWhole13) : Def P w K mg base 2 "is_place_ahead" ["thing", "place"] spAhead13 := by
  refine def_of T sc_is_place_ahead (fun _ _ _ _ _ _ us hl => match us, hl with | [_, _], _ => rfl) (fun vs H Q E h => ?_) (fun f cdv A outer s H vs Q E hr h => ?_)
  · obtain ⟨x, e, p, rfl, _⟩ := h
    rfl
  obtain ⟨x, e, p, rfl, ev, q⟩ := h
  have nd := sc_is_place_ahead.nd
  refine ⟨_, (pss_one (ps_ret (pe_and (pe_def D_is_whole (hr.mono (by decide)) rfl (pa_cons (pv 0) pa_nil)) (pe_one (pe_chain op_le op_lt pe_int (pv 0) (pv 1)))))), ?_⟩
  refine ⟨_, rfl, x, e, rfl, ev, _, rfl, ?_⟩
  cases e with
  | int i =>
    cases (show x = _ from ev)
    refine iteT ⟨_, rfl, _, _, rfl, rfl, _, rfl, ?_⟩
    have q' : Q (.bl (decide (0 ≤ i) && decide (i < (p : Int)))) H := q
    refine ite2 (fun c => ?_) (fun c => ?_)
    · rw [c, Bool.true_and] at q'
      exact ⟨_, rfl, _, _, rfl, rfl, q'⟩
    · rw [Bool.not_eq_true] at c
      rw [c, Bool.false_and] at q'
      exact q'
  | _ => exact iteF q
theorem ok_isRow (T : TopDef K mg "is_row" s_is_row) (Z_isinstance : mg "isinstance" = none) (Z_tuple : mg "tuple" = none) (Z_len : mg "len" = none) (Z_str : mg "str" = none) (Z_all : mg "all" = none) {tm : Tok} (M_MOST_ROWS : mg "MOST_ROWS" = some (.int 400 tm)) (kk : Kit13 K)
    (D_how_many_it_takes : Def P w K mg base 1 "how_many_it_takes" ["word"] spHowV) (D_is_place_ahead : Def P w K mg base 2 "is_place_ahead" ["thing", "place"] spAhead13) : Def P w K mg base 3 "is_row" ["thing", "place"] (spIsRow13 K) := by
  refine def_of T sc_is_row (fun _ _ _ _ _ _ us hl => match us, hl with | [_, _], _ => rfl) (fun vs H Q E h => ?_) (fun f cdv A outer s H vs Q E hr h => ?_)
  · obtain ⟨x, k, g, rfl, _⟩ := h
    rfl
  obtain ⟨x, k, o, rfl, ⟨_, gv⟩, q⟩ := h
  have nd := sc_is_row.nd
  have cm : ∃ te, PE (cxOf CX0 P w K mg base irN "is_row" (defScope s_is_row) f cdv A outer s H E).nox (irArg ((defBody s_is_row).getD 2 (.Pass ⟨0, 0, 0, 0⟩))) te ∧ ∀ (a : Addr) (y : V) (ys : List V) (es : List E13) (Q' : VK), H a = some (.tup (y :: ys)) → All2 (EV H) ys es → es.length ≤ 20 → (∀ D H4, Same H H4 → H4 D = some (.lst (es.map fun e => .bl (e.ahead k))) → Q' (.ref D) H4) → te [some (.ref a), some (.int (k : Int))] H Q' := by
    refine ⟨_, (pe_compF rfl (pi_tup (pe_slice sl_tupA (pv 0) (po_some pe_int) po_none)) rfl (by decide +kernel) (by decide +kernel) rfl (show ∀ p ∈ Scope.names _, p.2 = NameKind.free → List.lookup p.1 (defScope s_is_row).names = some .cell ∨ List.lookup p.1 (defScope s_is_row).names = some .free by decide +kernel) (fa_cons (j := 1) rfl (Or.inl rfl) (by decide +kernel) (Or.inl rfl) fa_nil) (show (["index", "place"] : List Str).Nodup by decide +kernel) (fun _ _ _ _ => pif_nil) (fun _ _ _ _ => (pe_def D_is_place_ahead (hr.mono (by decide)) rfl (pa_cons (pv 0) (pa_cons (pv 1) pa_nil))))), ?_⟩
    intro a y ys es Q' e al le fin
    have gl := al.len
    refine comp_from ?_
    refine ⟨_, rfl, _, rfl, ?_⟩
    dsimp only [tNoPart]
    refine sl1 (K := K) e fun p1 hp1 => ?_
    refine ⟨p1, rfl, ⟨_, SqT.of upd_same⟩, ?_⟩
    have sp := same_new hp1 (.tup ys)
    refine comp_mapT (K := K) (ts := es) (R := fun H' v e => EV H' v e) (xs := ys) (fun e : E13 => .bl (e.ahead k)) (fun _ _ v t s h => EV.same s v t h) (fun l H' => l = p1 ∧ H' = upd H p1 (.tup ys)) (fun R h => h p1 _ ⟨rfl, rfl⟩) (fun l H' h => by obtain ⟨rfl, rfl⟩ := h; exact ⟨upd_same, Same.refl _⟩) (by omega)
      (al.imp (EV.same sp)) (fun v e H' N hi hv hN => ?_) (fun D H4 s4 hD eD => fin D H4 (sp.trans s4) eD)
    exact ⟨_, rfl, _, rfl, v, e, k, rfl, hv, hN _ (Same.refl _)⟩
  obtain ⟨tC, htC, hqC⟩ := cm
  refine ⟨_, (pss_cons (ps_if (PW.pt (pw_or (pt_cmpR op_ge (pv 1) (pe_glob (v := V.int 400) rfl M_MOST_ROWS ⟨_, rfl⟩) (nomark _)) (pw_or (pt_not (pt_val (pe_callB call_isi rfl Z_isinstance (by decide +kernel) (pa_cons (pv 0) (pa_cons (pe_bltn (v := V.ty "tuple") rfl Z_tuple (by decide +kernel) rfl) pa_nil))))) (pw_or1 (pt_cmpR op_eq (pe_callB call_len rfl Z_len (by decide +kernel) (pa_cons (pv 0) pa_nil)) pe_int (nomark _)))))) (pss_one (ps_ret pe_bl)) pss_nil)
    (pss_cons (ps_if (PW.pt (pw_or (pt_not (pt_val (pe_callB call_isi rfl Z_isinstance (by decide +kernel) (pa_cons (pe_ix ix_tup (pv 0) pe_int (fun _ _ => rfl)) (pa_cons (pe_bltn (v := V.ty "str") rfl Z_str (by decide +kernel) rfl) pa_nil))))) (pw_or1 (pt_cmpR op_ne (pe_def D_how_many_it_takes (hr.mono (by decide)) rfl (pa_cons (pe_ix ix_tup (pv 0) pe_int (fun _ _ => rfl)) pa_nil)) (pe_op op_sub (pe_callB call_len rfl Z_len (by decide +kernel) (pa_cons (pv 0) pa_nil)) pe_int) (nomark _))))) (pss_one (ps_ret pe_bl)) pss_nil)
    (pss_one (ps_ret (pe_callB (call_all rfl) rfl Z_all (by decide +kernel) (pa_cons htC pa_nil)))))), ?_⟩
  refine ⟨_, rfl, _, _, rfl, rfl, _, rfl, ?_⟩
  by_cases hk : k < 400
  · rw [decide_eq_false (show ¬ (400 : Int) ≤ (k : Int) by omega)]
    have q0 : ∀ H', Same H H' → Q (.bl (rowOk k o)) H' := fun H' s' => by have := q H' s'; rwa [tgOk, decide_eq_true hk, Bool.true_and] at this
    refine iteF ?_
    cases o with
    | none =>
      obtain ⟨T, ty, k1⟩ := gv
      exact ⟨_, rfl, _, _, _, _, false, rfl, (fun _ h => h), ty, k1, _, rfl, iteT (q0 _ (Same.refl _))⟩
    | some es =>
      obtain ⟨le, a, xs, rfl, e, al⟩ := gv
      refine ⟨_, rfl, _, _, _, _, true, rfl, (fun _ h => h), TyOf.tup e, kit_same, _, rfl, iteF ?_⟩
      refine ⟨_, rfl, _, _, rfl, .inr ⟨_, SqT.of e, rfl⟩, rfl, _, rfl, ?_⟩
      cases al with
      | nil => exact iteT (q0 _ (Same.refl _))
      | @cons y e0 ys es ev al =>
        rw [decide_eq_false (show ¬ V.int (((y :: ys).length : Nat) : Int) = V.int 0 from fun z => by have := V.int.inj z; rw [List.length_cons] at this; omega)]
        refine iteF ?_
        obtain ⟨T, t, kt⟩ := EV.str kk ev
        refine ⟨_, rfl, _, _, _, _, rfl, rfl, SqT.of e, at0, _, _, _, _, _, rfl, (fun _ h => h), t, kt, _, rfl, ?_⟩
        cases e0 with
        | str u =>
          cases (show y = _ from ev)
          refine iteF ?_
          refine ⟨_, rfl, _, _, _, _, rfl, rfl, SqT.of e, at0, u, rfl, _, rfl, _, _, rfl, .inr ⟨_, SqT.of e, rfl⟩, _, _, rfl, rfl, howV_scal _ _, _, rfl, ?_⟩
          have el : ((((V.str u :: ys).length : Nat) : Int) - 1) = (es.length : Int) := by rw [List.length_cons, al.len]; omega
          by_cases hw : howV u = .int (es.length : Int)
          · refine iteNS (hw.trans (congrArg V.int el.symm)) ?_
            refine hqC a _ ys es _ e al (by simp at le; omega) fun D H4 s4 eD => ?_
            refine ⟨D, es.map (E13.ahead k), rfl, SqL.of (by rw [List.map_map]; exact eD), ?_⟩
            rw [all_ahead]
            have := q0 _ s4
            rwa [rowOk, decide_eq_true hw, Bool.true_and] at this
          · rw [decide_eq_false (show ¬ howV u = V.int ((((V.str u :: ys).length : Nat) : Int) - 1) from fun z => hw (z.trans (congrArg V.int el)))]
            have := q0 _ (Same.refl _)
            rw [rowOk, decide_eq_false hw, Bool.false_and] at this
            exact iteT this
        | int i => exact iteT (q0 _ (Same.refl _))
        | bl b => exact iteT (q0 _ (Same.refl _))
        | non => exact iteT (q0 _ (Same.refl _))
        | tup => exact iteT (q0 _ (Same.refl _))
  · rw [decide_eq_true (show (400 : Int) ≤ (k : Int) by omega)]
    have := q _ (Same.refl _)
    rw [tgOk, decide_eq_false hk, Bool.false_and] at this
    exact iteT this
theorem drop_at13 {α : Type} {xs : List α} {i : Nat} {x : α} (h : xs[i]? = some x) : xs.drop i = x :: xs.drop (i + 1) := by
  obtain ⟨hi, e⟩ := List.getElem?_eq_some_iff.mp h
  rw [List.drop_eq_getElem_cons hi, e]
theorem ok_fault13 (T : TopDef K mg "rows_fault" s_rows_fault) (Z_enumerate : mg "enumerate" = none) (Z_len : mg "len" = none) (D_is_row : Def P w K mg base 3 "is_row" ["thing", "place"] (spIsRow13 K)) : Def P w K mg base 4 "rows_fault" ["things"] (spFault13 K) := by
  refine def_of T sc_rows_fault (fun _ _ _ _ _ _ us hl => match us, hl with | [_], _ => rfl) (fun vs H Q E h => ?_) (fun f cdv A outer s H vs Q E hr h => ?_)
  · obtain ⟨l, us, os, rfl, _⟩ := h
    rfl
  obtain ⟨l, us, os, rfl, el, al, few, q⟩ := h
  have nd := sc_rows_fault.nd
  have lu := al.len
  refine ⟨_, (pss_cons (ps_for PassesOwn.never rfl (pi_enum rfl Z_enumerate (pv 0)) (pg_tup rfl (pgs_cons (pg_name (i := 1) nd rfl (Or.inl rfl)) (pgs_cons (pg_name (i := 2) nd rfl (Or.inl rfl)) pgs_nil))) (pss_one (ps_if (pt_not (pt_val (pe_def D_is_row (hr.mono (by decide)) rfl (pa_cons (pv 2) (pa_cons (pv 1) pa_nil))))) (pss_one (ps_ret (pv 1))) pss_nil)))
    (pss_one (ps_ret (pe_ifExp (pt_cmpR op_eq (pe_callB call_len rfl Z_len (by decide +kernel) (pa_cons (pv 0) pa_nil)) pe_int (nomark _)) pe_int pe_non)))), ?_⟩
  refine ⟨_, rfl, l, rfl, ⟨us, SqL.of el⟩, ?_⟩
  refine for_enum (xs := us) (fun i σ H' => Same H H' ∧ fltFrom 0 os = fltFrom i (os.drop i) ∧ ∃ o1 o2, σ = [some (.ref l), o1, o2]) ⟨fun _ _ z => z, rfl, _, _, rfl⟩ (fun i σ H' _ z => SqL.of (z.1 _ _ el)) (fun i v T' σ H' hv z hT => ?_) (fun σ H' z => ?_)
  · obtain ⟨sm, ho, o1, o2, rfl⟩ := z
    have uT := same_new hT (.tup [.int i, v])
    have s2 := sm.trans uT
    obtain ⟨g, hg, gv⟩ := al.get i v hv
    refine ⟨T', _, rfl, SqT.of upd_same, rfl, _, _, rfl, _, _, rfl, rfl, ?_⟩
    refine ⟨_, rfl, _, rfl, v, i, g, rfl, TgV.same s2 _ _ gv, fun H3 s3 => ?_⟩
    rw [drop_at13 hg, fltFrom] at ho
    cases hb : tgOk i g with
    | true =>
      rw [hb, if_pos rfl] at ho
      exact ⟨_, rfl, iteF ⟨s2.trans s3, ho, _, _, rfl⟩⟩
    | false =>
      rw [hb, if_neg Bool.false_ne_true] at ho
      refine ⟨_, rfl, iteT ⟨_, rfl, ?_⟩⟩
      have := q _ (s2.trans s3)
      have ef : flt13 os = some i := by
        cases os with
        | nil => cases hg
        | cons _ _ => exact ho
      rwa [ef] at this
  · obtain ⟨sm, ho, o1, o2, rfl⟩ := z
    refine ⟨_, rfl, _, _, rfl, .inl ⟨_, SqL.of (sm _ _ el), rfl⟩, rfl, _, rfl, ?_⟩
    have := q _ sm
    cases os with
    | nil =>
      rw [decide_eq_true (show V.int ((us.length : Nat) : Int) = V.int 0 from congrArg V.int (by rw [lu]; rfl))]
      exact iteT this
    | cons o r =>
      rw [decide_eq_false (show ¬ V.int ((us.length : Nat) : Int) = V.int 0 from fun z => by
        have := V.int.inj z
        rw [lu, List.length_cons] at this
        omega)]
      rw [lu, List.drop_length] at ho
      have ef : flt13 (o :: r) = none := ho
      rw [ef] at this
      exact iteF this
theorem ok_must13 {C : Addr} (T : TopDef K mg "must_be_rows" s_must_be_rows) (X_NoRows : XC1 P w K mg base "NoRows" C "at") (D_rows_fault : Def P w K mg base 4 "rows_fault" ["things"] (spFault13 K)) : DefD P w K mg base 5 "must_be_rows" ["things"] (spMust13 K C) := by
  refine defd_of T sc_must_be_rows (fun _ _ _ _ _ _ => ar1 fun _ => rfl) (fun vs H Q E h => ?_) (fun f cdv A outer s H vs Q E hr h => ?_)
  · obtain ⟨l, us, os, k, rfl, _⟩ := h
    rfl
  obtain ⟨l, us, os, k, rfl, el, al, few, ef, q⟩ := h
  have nd := sc_must_be_rows.nd
  refine ⟨_, (pss_cons (ps_set (i := 1) nd rfl (Or.inl rfl) (pe_def D_rows_fault (hr.mono (by omega)) rfl (pa_cons (pv 0) pa_nil)))
    (pss_one (ps_if (pt_cmpR op_notN (pv 1) pe_non (nomark _)) (pss_one (ps_raise1 X_NoRows (hr.mono (by decide)) rfl (pa_cons (pv 1) pa_nil))) pss_nil))), ?_⟩
  refine ⟨_, rfl, l, us, os, rfl, el, al, few, fun H' s' => ?_⟩
  rw [ef]
  exact ⟨_, rfl, rfl, _, rfl, iteT ⟨_, rfl, _, rfl, fun d hd => q d _ s' hd⟩⟩
end
end Mine





set_option Elab.async false
set_option linter.all false
set_option maxRecDepth 100000
set_option maxHeartbeats 4000000
namespace Mine
open PySem L2
theorem datum_none {w : Str} : ∀ {D : List (Str × Int)}, w ∉ D.map Prod.fst → PyProof.Rows.KTD.datumAt w D = none
  | [], _ => rfl
  | (x, d) :: D, h => by
    unfold PyProof.Rows.KTD.datumAt
    rw [if_neg (fun z => h (by rw [of_decide_eq_true z]; exact List.mem_cons_self))]
    exact datum_none fun z => h (List.mem_cons_of_mem _ z)
theorem how_none {w : Str} (h : w ∉ TK.map Prod.fst) : howV w = .non := by unfold howV; rw [datum_none h]
theorem inV_strs {w : Str} : ∀ {L : List Str}, inV (.str w) (L.map V.str) = true → w ∈ L
  | [], h => by cases h
  | x :: r, h => by
    have h' : ((x == w) || inV (.str w) (r.map V.str)) = true := h
    rw [Bool.or_eq_true] at h'
    rcases h' with z | z
    · rw [beq_iff_eq] at z; rw [z]; exact List.mem_cons_self
    · exact List.mem_cons_of_mem _ (inV_strs z)
theorem words_ok {n : Nat} {L : List Str} (h1 : ∀ x ∈ TK.map Prod.fst, decide (howV x = .int (n : Int)) = inV (.str x) (L.map V.str)) (h2 : ∀ x ∈ L, x ∈ TK.map Prod.fst) (w : Str) : inV (.str w) (L.map V.str) = decide (howV w = .int (n : Int)) := by
  by_cases hm : w ∈ TK.map Prod.fst
  · exact (h1 w hm).symm
  · rw [how_none hm, decide_eq_false (fun z => nomatch z)]
    cases e : inV (.str w) (L.map V.str) with
    | false => rfl
    | true => exact absurd (h2 w (inV_strs e)) hm
abbrev W0 : List Str := ["never", "always", "p", "q"]
abbrev W1 : List Str := ["not"]
abbrev W2 : List Str := ["more", "less", "greater", "lesser", "leads"]
theorem in_W0 (w : Str) : inV (.str w) (W0.map V.str) = decide (howV w = .int ((0 : Nat) : Int)) := words_ok (by decide +kernel) (by decide +kernel) w
theorem in_W1 (w : Str) : inV (.str w) (W1.map V.str) = decide (howV w = .int ((1 : Nat) : Int)) := words_ok (by decide +kernel) (by decide +kernel) w
theorem in_W2 (w : Str) : inV (.str w) (W2.map V.str) = decide (howV w = .int ((2 : Nat) : Int)) := words_ok (by decide +kernel) (by decide +kernel) w
def smallV : V → Bool
  | .int i => decide (i ≤ 2)
  | _ => true
theorem how_small (w : Str) : smallV (howV w) = true := by
  by_cases hm : w ∈ TK.map Prod.fst
  · exact (show ∀ x ∈ TK.map Prod.fst, smallV (howV x) = true by decide +kernel) w hm
  · rw [how_none hm]; rfl
theorem how_big {w : Str} {n : Nat} (h : 3 ≤ n) : decide (howV w = .int (n : Int)) = false := decide_eq_false fun z => by
  have := how_small w
  rw [z] at this
  have := of_decide_eq_true this
  omega
theorem strs_of {σ : St} {H : Hp} : ∀ {L : List Str} {us : List V}, LtVs σ H (L.map Lt.str) us → us = L.map V.str
  | [], _, h => h
  | x :: r, _, ⟨u, t, h1, h2, h3⟩ => by
    subst h1
    cases (show u = V.str x from h2)
    rw [strs_of h3]
    rfl
theorem flat_strs (L : List Str) : (L.map V.str).all flatV = true := by
  rw [List.all_eq_true]
  intro v hv
  obtain ⟨x, _, rfl⟩ := List.mem_map.mp hv
  rfl
def tup13 (s : Stmt) : Expr := match s with
  | .If (.BoolOp _ [_, .Compare _ _ [e] _, _] _) _ _ _ => e
  | _ => .Constant .none 0 ⟨0, 0, 0, 0⟩
def spLWhole : Sp := fun vs H Q _ => ∃ (x : V) (e : E13), vs = [x] ∧ EV H x e ∧ Q (.bl e.isInt) H
def spLRow (K : PySem.W.Frag) : Sp := fun vs H Q _ => ∃ (x : V) (k : Nat) (o : Tg), vs = [x, .int (k : Int)] ∧ TgV K H x o ∧ ∀ H', Same H H' → Q (.bl (rowOk k o)) H'
def spLFault (K : PySem.W.Frag) : Sp := fun vs H Q _ => ∃ (l : Addr) (us : List V) (os : List Tg), vs = [.ref l] ∧ H l = some (.lst us) ∧ All2 (TgV K H) us os ∧ os.length ≤ 1000 ∧ ∀ H', Same H H' → Q (optV (flt13 os)) H'
theorem len_in {n : Nat} (h : 1 ≤ n) (h' : n ≤ 3) : inV (.int (n : Int)) [V.int 1, V.int 2, V.int 3] = true := by
  have : n = 1 ∨ n = 2 ∨ n = 3 := by omega
  rcases this with rfl | rfl | rfl <;> rfl
theorem len_out {n : Nat} (h : 3 < n) : inV (.int (n : Int)) [V.int 1, V.int 2, V.int 3] = false := by
  unfold inV
  simp only [List.any_cons, List.any_nil, eqV, Bool.or_false]
  rw [Bool.or_eq_false_iff, Bool.or_eq_false_iff]
  refine ⟨beq_eq_false_iff_ne.mpr ?_, beq_eq_false_iff_ne.mpr ?_, beq_eq_false_iff_ne.mpr ?_⟩ <;> omega
section
variable {P : Program} {w : World} {K : PySem.W.Frag} {mg : Str → Option Value} {base : Heap}
theorem ok_lwhole (T : TopDef K mg "_law_whole" s_l_whole) (Z_isinstance : mg "isinstance" = none) (Z_int : mg "int" = none) (Z_bool : mg "bool" = none) (kk : Kit13 K) : Def P w K mg base 1 "_law_whole" ["_law_found"] spLWhole := by
  refine def_of T sc_l_whole (fun _ _ _ _ _ _ us hl => match us, hl with | [_], _ => rfl) (fun vs H Q E h => ?_) (fun f cdv A outer s H vs Q E hr h => ?_)
  · obtain ⟨x, e, rfl, _⟩ := h
    rfl
  obtain ⟨x, e, rfl, ev, q⟩ := h
  have nd := sc_l_whole.nd
  obtain ⟨T, t, rfl⟩ := EV.ty (K := K) ev
  refine ⟨_, (pss_one (ps_ret (pe_and (pe_callB call_isi rfl Z_isinstance (by decide +kernel) (pa_cons (pv 0) (pa_cons (pe_bltn (v := V.ty "int") rfl Z_int (by decide +kernel) rfl) pa_nil))) (pe_one (pe_not (pe_callB call_isi rfl Z_isinstance (by decide +kernel) (pa_cons (pv 0) (pa_cons (pe_bltn (v := V.ty "bool") rfl Z_bool (by decide +kernel) rfl) pa_nil)))))))), ?_⟩
  cases e with
  | int i => exact ⟨_, rfl, _, _, _, _, true, rfl, (fun _ h => h), t, kit_same, _, rfl, iteT ⟨_, rfl, _, _, _, _, false, rfl, (fun _ h => h), t, kk.ib, _, rfl, q⟩⟩
  | bl b => exact ⟨_, rfl, _, _, _, _, true, rfl, (fun _ h => h), t, kk.bi, _, rfl, iteT ⟨_, rfl, _, _, _, _, true, rfl, (fun _ h => h), t, kit_same, _, rfl, q⟩⟩
  | str x => exact ⟨_, rfl, _, _, _, _, false, rfl, (fun _ h => h), t, kk.si, _, rfl, iteF q⟩
  | non => exact ⟨_, rfl, _, _, _, _, false, rfl, (fun _ h => h), t, kk.ni, _, rfl, iteF q⟩
  | tup => exact ⟨_, rfl, _, _, _, _, false, rfl, (fun _ h => h), t, kk.ti, _, rfl, iteF q⟩
theorem ok_lrow (T : TopDef K mg "_law_row" s_l_row) (Z_isinstance : mg "isinstance" = none) (Z_tuple : mg "tuple" = none) (Z_len : mg "len" = none) (Z_str : mg "str" = none) (Z_all : mg "all" = none) (kk : Kit13 K)
    (D_law_whole : Def P w K mg base 1 "_law_whole" ["_law_found"] spLWhole) : Def P w K mg base 2 "_law_row" ["_law_thing", "_law_at"] (spLRow K) := by
  refine def_of T sc_l_row (fun _ _ _ _ _ _ us hl => match us, hl with | [_, _], _ => rfl) (fun vs H Q E h => ?_) (fun f cdv A outer s H vs Q E hr h => ?_)
  · obtain ⟨x, k, g, rfl, _⟩ := h
    rfl
  obtain ⟨x, k, o, rfl, ⟨_, gv⟩, q⟩ := h
  have nd := sc_l_row.nd
  have cm : ∃ te, PE (cxOf CX0 P w K mg base n_l_row "_law_row" (defScope s_l_row) f cdv A outer s H E).nox (irArg ((defBody s_l_row).getD 3 (.Pass ⟨0, 0, 0, 0⟩))) te ∧ ∀ (a : Addr) (y : V) (ys : List V) (es : List E13) (o2 : Option V) (H0 : Hp) (Q' : VK), H0 a = some (.tup (y :: ys)) → All2 (EV H0) ys es → es.length ≤ 20 → (∀ D H4, Same H0 H4 → H4 D = some (.lst (es.map fun e => .bl (e.ahead k))) → Q' (.ref D) H4) → te [some (.ref a), some (.int (k : Int)), o2] H0 Q' := by
    refine ⟨_, (pe_compF rfl (pi_tup (pe_slice sl_tupA (pv 0) (po_some pe_int) po_none)) rfl (by decide +kernel) (by decide +kernel) rfl (show ∀ p ∈ Scope.names _, p.2 = NameKind.free → List.lookup p.1 (defScope s_l_row).names = some .cell ∨ List.lookup p.1 (defScope s_l_row).names = some .free by decide +kernel) (fa_cons (j := 1) rfl (Or.inl rfl) (by decide +kernel) (Or.inl rfl) fa_nil) (show (["_law_number", "_law_at"] : List Str).Nodup by decide +kernel) (fun _ _ _ _ => pif_nil) (fun _ _ _ _ => (pe_and (pe_def D_law_whole (hr.mono (by omega)) rfl (pa_cons (pv 0) pa_nil)) (pe_one (pe_chain op_le op_lt pe_int (pv 0) (pv 1)))))), ?_⟩
    intro a y ys es o2 H0 Q' e al le fin
    have gl := al.len
    refine comp_from ?_
    refine ⟨_, rfl, _, rfl, ?_⟩
    dsimp only [tNoPart]
    refine sl1 (K := K) e fun p1 hp1 => ?_
    refine ⟨p1, rfl, ⟨_, SqT.of upd_same⟩, ?_⟩
    have sp := same_new hp1 (.tup ys)
    refine comp_mapT (K := K) (ts := es) (R := fun H' v e => EV H' v e) (xs := ys) (fun e : E13 => .bl (e.ahead k)) (fun _ _ v t s h => EV.same s v t h) (fun l H' => l = p1 ∧ H' = upd H0 p1 (.tup ys)) (fun R h => h p1 _ ⟨rfl, rfl⟩) (fun l H' h => by obtain ⟨rfl, rfl⟩ := h; exact ⟨upd_same, Same.refl _⟩) (by omega)
      (al.imp (EV.same sp)) (fun v e H' N hi hv hN => ?_) (fun D H4 s4 hD eD => fin D H4 (sp.trans s4) eD)
    refine ⟨_, rfl, v, e, rfl, hv, _, rfl, ?_⟩
    cases e with
    | int i =>
      cases (show v = _ from hv)
      refine iteT ⟨_, rfl, _, _, rfl, rfl, _, rfl, ?_⟩
      have q' : N (.bl (decide (0 ≤ i) && decide (i < (k : Int)))) H' := hN _ (Same.refl _)
      refine ite2 (fun c => ?_) (fun c => ?_)
      · rw [c, Bool.true_and] at q'
        exact ⟨_, rfl, _, _, rfl, rfl, q'⟩
      · rw [Bool.not_eq_true] at c
        rw [c, Bool.false_and] at q'
        exact q'
    | _ => exact iteF (hN _ (Same.refl _))
  obtain ⟨tC, htC, hqC⟩ := cm
  have tl : ∃ t, Hold (cxOf CX0 P w K mg base n_l_row "_law_row" (defScope s_l_row) f cdv A outer s H E).nox ((defBody s_l_row).drop 2) t ∧ ∀ (a b b0 b1 b2 : Addr) (u : Str) (ys : List V) (es : List E13) (H4 : Hp), Same H H4 → H4 a = some (.tup (V.str u :: ys)) → All2 (EV H4) ys es → es.length ≤ 2 → H4 b = some (.lst [V.ref b0, V.ref b1, V.ref b2]) → H4 b0 = some (.lst (W0.map V.str)) → H4 b1 = some (.lst (W1.map V.str)) → H4 b2 = some (.lst (W2.map V.str)) →
      (∀ H', Same H H' → Q (.bl (rowOk k (some (.str u :: es)))) H') → t { nx := fun _ H' => Q .non H', rt := Q } [some (.ref a), some (.int (k : Int)), some (.ref b)] H4 := by
    refine ⟨_, ⟨(pss_cons (ps_if (pt_cmpR op_notIn_seq (pe_ix ix_tup (pv 0) pe_int (fun _ _ => rfl)) (pe_ix ix_list (pv 2) (pe_op op_sub (pe_callB call_len rfl Z_len (by decide +kernel) (pa_cons (pv 0) pa_nil)) pe_int) (fun _ _ => rfl)) rfl) (pss_one (ps_ret pe_bl)) pss_nil)
    (pss_one (ps_ret (pe_callB (call_all rfl) rfl Z_all (by decide +kernel) (pa_cons htC pa_nil)))))⟩, ?_⟩
    intro a b b0 b1 b2 u ys es H4 sH e4 al4 le' eb eb0 eb1 eb2 q
    obtain ⟨b', L, hat, eb', hin⟩ : ∃ (b' : Addr) (L : List Str), atI [V.ref b0, V.ref b1, V.ref b2] ((((V.str u :: ys).length : Nat) : Int) - 1) = some (.ref b') ∧ H4 b' = some (.lst (L.map V.str)) ∧ inV (.str u) (L.map V.str) = decide (howV u = .int (es.length : Int)) := by
      have hl : (((V.str u :: ys).length : Nat) : Int) - 1 = (es.length : Int) := by rw [List.length_cons, al4.len]; omega
      rw [hl]
      have : es.length = 0 ∨ es.length = 1 ∨ es.length = 2 := by omega
      rcases this with z | z | z <;> rw [z]
      · exact ⟨b0, W0, rfl, eb0, in_W0 u⟩
      · exact ⟨b1, W1, rfl, eb1, in_W1 u⟩
      · exact ⟨b2, W2, rfl, eb2, in_W2 u⟩
    refine ⟨_, rfl, _, _, _, _, rfl, rfl, SqT.of e4, at0, _, rfl, _, rfl, _, _, rfl, .inr ⟨_, SqT.of e4, rfl⟩, _, _, rfl, rfl, _, _, _, _, rfl, rfl, SqL.of eb, hat, b', _, rfl, .inl (SqL.of eb'), rfl, flat_strs _, _, rfl, ?_⟩
    show if (!inV (.str u) (L.map V.str)) = true then _ else _
    rw [hin]
    by_cases hw : howV u = .int (es.length : Int)
    · rw [decide_eq_true hw]
      refine iteF ?_
      refine hqC a _ ys es _ _ _ e4 al4 (by omega) fun D H5 s5 eD => ?_
      refine ⟨D, es.map (E13.ahead k), rfl, SqL.of (by rw [List.map_map]; exact eD), ?_⟩
      rw [all_ahead]
      have := q _ (sH.trans s5)
      rwa [rowOk, decide_eq_true hw, Bool.true_and] at this
    · rw [decide_eq_false hw]
      have := q _ sH
      rw [rowOk, decide_eq_false hw, Bool.false_and] at this
      exact iteT this
  obtain ⟨tT, htT, hqT⟩ := tl
  have xW : ∃ t, Hold (cxOf CX0 P w K mg base n_l_row "_law_row" (defScope s_l_row) f cdv A outer s H E).nox ((defBody s_l_row).drop 1) t ∧ ∀ D σ H, ltVar σ (.lst [(.lst [(.str "never"), (.str "always"), (.str "p"), (.str "q")]), (.lst [(.str "not")]), (.lst [(.str "more"), (.str "less"), (.str "greater"), (.str "lesser"), (.str "leads")])]) = true → (∀ v H', Same H H' → LtV σ H' (.lst [(.lst [(.str "never"), (.str "always"), (.str "p"), (.str "q")]), (.lst [(.str "not")]), (.lst [(.str "more"), (.str "less"), (.str "greater"), (.str "lesser"), (.str "leads")])]) v → tT D (σ.set 2 (some v)) H') → t D σ H := by
    refine set_lit (N := n_l_row) (sc := defScope s_l_row) ?_ htT ?_ ?_ nd ?_ ?_ ?_ ?_
    · kernel_rfl
    · rfl
    · rfl
    · rfl
    · exact Or.inl rfl
    · rfl
    · exact Or.inr rfl
  obtain ⟨tW, htW, hqW⟩ := xW
  have x3 : ∃ te, PE (cxOf CX0 P w K mg base n_l_row "_law_row" (defScope s_l_row) f cdv A outer s H E).nox (tup13 ((defBody s_l_row).getD 0 (.Pass ⟨0, 0, 0, 0⟩))) te ∧ ∀ σ H Q, ltVar σ (.tup [.int 1, .int 2, .int 3]) = true → (∀ v H', Same H H' → LtV σ H' (.tup [.int 1, .int 2, .int 3]) v → Q v H') → te σ H Q := by
    refine lit_ex (N := n_l_row) (sc := defScope s_l_row) ?_ ?_ ?_
    · kernel_rfl
    · rfl
    · rfl
  obtain ⟨t3, ht3, hq3⟩ := x3
  refine ⟨_, pss_consH (ps_if (PW.pt (pw_or (pt_not (pt_val (pe_callB call_isi rfl Z_isinstance (by decide +kernel) (pa_cons (pv 0) (pa_cons (pe_bltn (v := V.ty "tuple") rfl Z_tuple (by decide +kernel) rfl) pa_nil))))) (pw_or (pt_cmpR op_notIn_seq (pe_callB call_len rfl Z_len (by decide +kernel) (pa_cons (pv 0) pa_nil)) (by assumption) rfl) (pw_or1 (pt_not (pt_val (pe_callB call_isi rfl Z_isinstance (by decide +kernel) (pa_cons (pe_ix ix_tup (pv 0) pe_int (fun _ _ => rfl)) (pa_cons (pe_bltn (v := V.ty "str") rfl Z_str (by decide +kernel) rfl) pa_nil))))))))) (pss_one (ps_ret pe_bl)) pss_nil) htW, ?_⟩
  cases o with
  | none =>
    obtain ⟨T, ty, k1⟩ := gv
    exact ⟨_, rfl, _, _, _, _, false, rfl, (fun _ h => h), ty, k1, _, rfl, iteT (q _ (Same.refl _))⟩
  | some es =>
    obtain ⟨le, a, xs, rfl, e, al⟩ := gv
    refine ⟨_, rfl, _, _, _, _, true, rfl, (fun _ h => h), TyOf.tup e, kit_same, _, rfl, iteF ?_⟩
    refine ⟨_, rfl, _, _, rfl, .inr ⟨_, SqT.of e, rfl⟩, ?_⟩
    refine hq3 _ _ _ rfl fun v3 H3 s3 l3 => ?_
    obtain ⟨p3, _, rfl, ep3, _, _, rfl, rfl, _, _, rfl, rfl, _, _, rfl, rfl, rfl⟩ := l3
    refine ⟨p3, _, rfl, .inr (SqT.of ep3), rfl, rfl, _, rfl, ?_⟩
    have el := al.len
    show if (!inV (V.int ((xs.length : Nat) : Int)) [V.int 1, V.int 2, V.int 3]) = true then _ else _
    rw [el]
    by_cases h3 : 3 < es.length
    · rw [len_out h3]
      have := q _ s3
      have er : rowOk k (some es) = false := by
        cases es with
        | nil => rfl
        | cons e0 r =>
          cases e0 with
          | str u =>
            show (decide (howV u = .int (r.length : Int)) && _) = false
            rw [how_big (by simp at h3; omega), Bool.false_and]
          | _ => rfl
      rw [er] at this
      exact iteT this
    cases al with
    | nil => exact iteT (q _ s3)
    | @cons y e0 ys es ev al =>
      rw [len_in (by rw [List.length_cons]; omega) (by omega)]
      refine iteF ?_
      have e' := s3 _ _ e
      have al' := al.imp (EV.same s3)
      have ev' := EV.same s3 _ _ ev
      obtain ⟨T, t, kt⟩ := EV.str kk ev'
      refine ⟨_, rfl, _, _, _, _, rfl, rfl, SqT.of e', at0, _, _, _, _, _, rfl, (fun _ h => h), t, kt, _, rfl, ?_⟩
      cases e0 with
      | str u =>
        cases (show y = _ from ev)
        refine iteF ?_
        refine hqW _ _ _ rfl fun v4 H4 s4 l4 => ?_
        obtain ⟨b, us, rfl, eb, u0, _, rfl, ⟨b0, w0, rfl, eb0, l0⟩, u1, _, rfl, ⟨b1, w1, rfl, eb1, l1⟩, u2, _, rfl, ⟨b2, w2, rfl, eb2, l2⟩, rfl⟩ := l4
        have z0 := strs_of (L := W0) l0
        have z1 := strs_of (L := W1) l1
        have z2 := strs_of (L := W2) l2
        subst z0 z1 z2
        exact hqT a b b0 b1 b2 u ys es H4 (s3.trans s4) (s4 _ _ e') (al'.imp (EV.same s4)) (by rw [List.length_cons] at h3; omega) eb eb0 eb1 eb2 q
      | int i => exact iteT (q _ s3)
      | bl b => exact iteT (q _ s3)
      | non => exact iteT (q _ s3)
      | tup => exact iteT (q _ s3)
theorem ok_lfault (T : TopDef K mg "_law_fault" s_l_fault) (Z_range : mg "range" = none) (Z_len : mg "len" = none) (D_law_row : Def P w K mg base 2 "_law_row" ["_law_thing", "_law_at"] (spLRow K)) : Def P w K mg base 3 "_law_fault" ["_law_things"] (spLFault K) := by
  refine def_of T sc_l_fault (fun _ _ _ _ _ _ us hl => match us, hl with | [_], _ => rfl) (fun vs H Q E h => ?_) (fun f cdv A outer s H vs Q E hr h => ?_)
  · obtain ⟨l, us, os, rfl, _⟩ := h
    rfl
  obtain ⟨l, us, os, rfl, el, al, few, q⟩ := h
  have nd := sc_l_fault.nd
  have hu := hr.units
  have lu := al.len
  refine ⟨_, (pss_cons (ps_if (pt_cmpR (op_samEq hu) (pv 0) (pe_lst pa_nil) (nomark _)) (pss_one (ps_ret pe_int)) pss_nil)
    (pss_cons (ps_for PassesOwn.never rfl (pi_range1 rfl Z_range (pa_cons (pe_callB call_len rfl Z_len (by decide +kernel) (pa_cons (pv 0) pa_nil)) pa_nil)) (pg_name (i := 1) nd rfl (Or.inl rfl)) (pss_one (ps_if (PW.pt (pw_or (pt_cmpR op_gt (pv 1) pe_int (nomark _)) (pw_or1 (pt_not (pt_val (pe_def D_law_row (hr.mono (by omega)) rfl (pa_cons (pe_ix ix_list (pv 0) (pv 1) (fun _ _ => rfl)) (pa_cons (pv 1) pa_nil)))))))) (pss_one (ps_ret (pv 1))) pss_nil)))
    (pss_one (ps_ret pe_non)))), ?_⟩
  refine ⟨_, rfl, (by show 0 ≤ sizeLine; decide), fun p0 hp0 => ?_⟩
  have s0 := same_new hp0 (.lst [])
  refine ⟨l, p0, us, [], rfl, rfl, SqL.of (s0 _ _ el), SqL.of upd_same, ?_⟩
  cases al with
  | nil => exact .inl ⟨rfl, (fun v hv => nomatch hv), _, rfl, iteT (q _ s0)⟩
  | @cons y o ys os tv al =>
  refine .inr ⟨by simp, _, rfl, iteF ?_⟩
  have al := All2.cons tv al
  refine ⟨_, rfl, _, _, rfl, .inl ⟨_, SqL.of (s0 _ _ el), rfl⟩, _, rfl, by omega, by rw [lu]; have : (o :: os).length ≤ 1000 := few; omega, ?_⟩
  refine for_range (fun i σ H' => Same H H' ∧ fltFrom 0 (o :: os) = fltFrom i ((o :: os).drop i) ∧ ∃ o1, σ = [some (.ref l), o1]) ⟨s0, rfl, _, rfl⟩ (fun i σ H' hi z => ?_) (fun σ H' z => ?_)
  · obtain ⟨sm, ho, o1, rfl⟩ := z
    have hi' : i < (y :: ys).length := by omega
    obtain ⟨g, hg, gv⟩ := al.get i _ (List.getElem?_eq_getElem hi')
    have e1 := sm _ _ el
    have ho : fltFrom 0 (o :: os) = if tgOk i g then fltFrom (i + 1) ((o :: os).drop (i + 1)) else some i := by rw [ho, drop_at13 hg]; rfl
    refine ⟨_, rfl, _, _, rfl, rfl, _, rfl, ?_⟩
    have hz : (0 + (i : Int)) = (i : Int) := by omega
    refine ite2 (fun c => iteT ?_) (fun c => ?_)
    · have c' : (399 : Int) < 0 + (i : Int) := of_decide_eq_true c
      have ef : tgOk i g = false := by unfold tgOk; rw [decide_eq_false (by omega), Bool.false_and]
      rw [ef, if_neg Bool.false_ne_true] at ho
      refine ⟨_, rfl, ?_⟩
      have := q _ sm
      rw [show flt13 (o :: os) = some i from ho] at this
      rw [hz]
      exact this
    · have c' : ¬ (399 : Int) < 0 + (i : Int) := fun z => c (decide_eq_true z)
      rw [hz]
      refine ⟨_, rfl, _, rfl, _, _, _, _, rfl, rfl, SqL.of e1, atI_nat (List.getElem?_eq_getElem hi'), _, rfl, _, i, g, rfl, TgV.same sm _ _ gv, fun H3 s3 => ?_⟩
      have ef : tgOk i g = rowOk i g := by unfold tgOk; rw [decide_eq_true (by omega), Bool.true_and]
      rw [ef] at ho
      refine ⟨_, rfl, ?_⟩
      cases hb : rowOk i g with
      | true =>
        rw [hb, if_pos rfl] at ho
        exact iteF ⟨sm.trans s3, ho, _, rfl⟩
      | false =>
        rw [hb, if_neg Bool.false_ne_true] at ho
        refine iteT ⟨_, rfl, ?_⟩
        have := q _ (sm.trans s3)
        rwa [show flt13 (o :: os) = some i from ho] at this
  · obtain ⟨sm, ho, o1, rfl⟩ := z
    have := q _ sm
    have e0 : ((y :: ys).length : Int).toNat = (o :: os).length := by omega
    rw [e0, List.drop_length] at ho
    rwa [show flt13 (o :: os) = none from ho] at this
end
end Mine





set_option Elab.async false
set_option linter.all false
set_option maxRecDepth 100000
set_option maxHeartbeats 4000000
namespace Mine
open PySem L2
/-- what is written in a list of things -/
def itemB : Lt → Bool
  | .lst _ => false
  | .dic => false
  | .var i => i == 7
  | _ => true
def tgLit : Lt → Bool
  | .var _ => false
  | .tup xs => decide (xs.length ≤ 4) && xs.all itemB
  | _ => true
def capT (n : Nat) : Tg → Prop
  | none => True
  | some es => es.length ≤ n
theorem item_ev {σ : St} {H : Hp} (hv : ∀ v, σ[7]? = some (some v) → ∃ e, EV H v e) {l : Lt} {v : V} (h : LtV σ H l v) (b : itemB l = true) : ∃ e, EV H v e := by
  cases l with
  | non => exact ⟨.non, h⟩
  | bl x => exact ⟨.bl x, h⟩
  | int i => exact ⟨.int i, h⟩
  | str x => exact ⟨.str x, h⟩
  | var i =>
    have e : i = 7 := by simpa [itemB] using b
    subst e
    exact hv v h
  | tup xs => obtain ⟨a, us, h1, h2, _⟩ := h; exact ⟨.tup, a, us, h1, h2⟩
  | lst xs => cases b
  | dic => cases b
theorem items_ev {σ : St} {H : Hp} (hv : ∀ v, σ[7]? = some (some v) → ∃ e, EV H v e) : ∀ {ls : List Lt} {us : List V}, LtVs σ H ls us → ls.all itemB = true → ∃ es, All2 (EV H) us es ∧ es.length = ls.length
  | [], _, h, _ => by cases (show _ = ([] : List V) from h); exact ⟨[], .nil, rfl⟩
  | l :: ls, _, ⟨u, r, h1, h2, h3⟩, b => by
    subst h1
    rw [List.all_cons, Bool.and_eq_true] at b
    obtain ⟨e, he⟩ := item_ev hv h2 b.1
    obtain ⟨es, hes, hl⟩ := items_ev hv h3 b.2
    exact ⟨e :: es, .cons he hes, by simp [hl]⟩
theorem lit_tg {K : PySem.W.Frag} {σ : St} {H : Hp} (kk : Kit13 K) (hv : ∀ v, σ[7]? = some (some v) → ∃ e, EV H v e) {l : Lt} {v : V} (h : LtV σ H l v) (b : tgLit l = true) : ∃ o, TgV K H v o ∧ capT 4 o := by
  cases l with
  | non => cases (show v = _ from h); exact ⟨none, ⟨rfl, _, .non, kk.nt⟩, trivial⟩
  | bl x => cases (show v = _ from h); exact ⟨none, ⟨rfl, _, .bl x, kk.bt⟩, trivial⟩
  | int i => cases (show v = _ from h); exact ⟨none, ⟨rfl, _, .int i, kk.it⟩, trivial⟩
  | str x => cases (show v = _ from h); exact ⟨none, ⟨rfl, _, .str x, kk.st⟩, trivial⟩
  | var i => cases b
  | lst xs => obtain ⟨a, us, rfl, h2, _⟩ := h; exact ⟨none, ⟨rfl, _, .lst h2, kk.lt⟩, trivial⟩
  | dic => obtain ⟨a, rfl, h2⟩ := h; exact ⟨none, ⟨rfl, _, .dK h2, kk.dt⟩, trivial⟩
  | tup xs =>
    obtain ⟨a, us, rfl, h2, h3⟩ := h
    have b' : (decide (xs.length ≤ 4) && xs.all itemB) = true := b
    rw [Bool.and_eq_true] at b'
    obtain ⟨es, hes, hl⟩ := items_ev hv h3 b'.2
    have : xs.length ≤ 4 := of_decide_eq_true b'.1
    exact ⟨some es, ⟨rfl, by omega, a, us, rfl, h2, hes⟩, show es.length ≤ 4 by omega⟩
/-- one of the written things -/
theorem lit_pick {K : PySem.W.Frag} {σ : St} {H : Hp} {xs : List Lt} {v : V} {j : Int} (h : LtV σ H (.lst xs) v) (j0 : 0 ≤ j) (j1 : j < (xs.length : Int)) : ∃ a us u l, v = .ref a ∧ H a = some (.lst us) ∧ atI us j = some u ∧ l ∈ xs ∧ LtV σ H l u := by
  obtain ⟨a, us, rfl, h2, h3⟩ := h
  have hj : j.toNat < xs.length := by omega
  obtain ⟨u, h4, h5⟩ := h3.get (List.getElem?_eq_getElem hj)
  exact ⟨a, us, u, _, rfl, h2, at_of j0 h4, List.getElem_mem hj, h5⟩
theorem take_all {α β : Type} {R : α → β → Prop} : ∀ (k : Nat) {as : List α} {bs : List β}, All2 R as bs → All2 R (as.take k) (bs.take k) ∧ All2 R (as.drop k) (bs.drop k)
  | 0, _, _, h => ⟨.nil, h⟩
  | k + 1, _, _, .nil => ⟨.nil, .nil⟩
  | k + 1, _, _, .cons r t => ⟨.cons r (take_all k t).1, (take_all k t).2⟩
theorem cut_hi (us : List V) (k : Nat) : cutV us none (some (k : Int)) = us.take k := by
  unfold cutV
  rw [_root_.HT.sIx_none, _root_.HT.sIx_nat]
  simp
theorem cut_lo (us : List V) (k : Nat) : cutV us (some (k : Int)) none = us.drop k := by
  unfold cutV
  rw [_root_.HT.sIx_none, _root_.HT.sIx_nat]
  rcases Nat.le_total k us.length with z | z
  · rw [Nat.min_eq_left z, ← List.length_drop, List.take_length]
  · rw [Nat.min_eq_right z, List.drop_eq_nil_of_le (Nat.le_refl _), List.drop_eq_nil_of_le z, List.take_nil]
theorem cut_last (us : List V) : cutV us none (some (-1)) = us.take (us.length - 1) := by
  unfold cutV
  rw [_root_.HT.sIx_none]
  have e : _root_.HT.sIx us.length us.length (some (-1)) = us.length - 1 := by
    show (if (-1 : Int) < 0 then ((-1 : Int) + (us.length : Int)).toNat else min (-1 : Int).toNat us.length) = _
    rw [if_pos (by decide)]
    omega
  rw [e, List.drop_zero, Nat.sub_zero]
theorem noPart {σ : St} {H : Hp} {Q : Option Int → Hp → Prop} (h : Q none H) : tNoPart σ H Q := h
def spSpoilt (K : PySem.W.Frag) : Sp := fun vs H Q _ => ∃ (l : Addr) (us : List V) (os : List Tg) (cell more : Int) (n : Nat), vs = [.ref l, .int cell, .int more] ∧ H l = some (.lst us) ∧ All2 (TgV K H) us os ∧ us ≠ [] ∧ os.length ≤ 1000 ∧ 4 ≤ n ∧ n ≤ 15 ∧ (∀ o ∈ os, capT n o) ∧
  ∀ l' us' os' H', Same H H' → H' l' = some (.lst us') → All2 (TgV K H') us' os' → us'.length = us.length → (∀ o ∈ os', capT (n + 1) o) → Q (.ref l') H'
theorem capT.mono {n m : Nat} (h : n ≤ m) {o : Tg} (c : capT n o) : capT m o := by
  cases o with
  | none => trivial
  | some es => exact Nat.le_trans c h
section
open PySem PyProof.Rows PySem.SeqAt PySem.MeetsSeq PySem.MeetsSeq2 PySem.MeetsSeq3
variable {X : Cx}
/-- t + u, u not empty -/
def rCatU (K : PySem.W.Frag) : R2 := fun x y H Q => ∃ a b xs ys, x = .ref a ∧ y = .ref b ∧ SqT K H a xs ∧ SqT K H b ys ∧ ys ≠ [] ∧ xs.length + ys.length ≤ sizeLine ∧
  (xs = [] → Q (.ref b) H) ∧ (xs ≠ [] → ∀ p, H p = none → Q (.ref p) (upd H p (.tup (xs ++ ys))))
theorem op_catU : OpR X (binaryOp .Add) (rCatU X.K) := by
  intro pins s σ H x y v u Q I rx ry h
  obtain ⟨a, b, xs, ys, rfl, rfl, ha, hb, hy, hz, q1, q2⟩ := h
  by_cases hx : xs = []
  · cases rx
    cases ry
    obtain ⟨its, r1, p1, _⟩ := I.tuple ha
    obtain ⟨its2, r2, p2, _⟩ := I.tuple hb
    obtain ⟨⟨cls, dd, data, sl⟩, ho, hc, n, hd⟩ := id p1
    obtain ⟨⟨cls2, dd2, data2, sl2⟩, ho2, hc2, n2, hd2⟩ := id p2
    simp only at hc hd hc2 hd2
    subst hc hd hc2 hd2
    have e : its = [] := r1.nil_iff.mpr hx
    exact concat_meets ⟨_, ho, rfl⟩ ⟨_, ho2, rfl⟩ noFill_tuple_add seq_tuple_add PySem.F.slot_tuple_add PySem.F.entry_tuple_add (PySem.F.args_tuple_add_2 _ _)
      (tuple_addW0 a b its.toArray its2.toArray n n2 dd dd2 sl sl2 (by simp [e])) ⟨ho, ho2, ⟨.ref b, H, I, rfl, q1 hx⟩⟩
  · exact op_catT pins s σ H _ _ v u Q I rx ry ⟨a, b, xs, ys, rfl, rfl, ha, hb, hx, hz, fun z => absurd z hy, fun _ => q2 hx⟩
end
end Mine




set_option Elab.async false
set_option linter.all false
set_option maxRecDepth 100000
set_option maxHeartbeats 4000000
namespace Mine
open PySem L2
def ifB (s : Stmt) : List Stmt := match s with
  | .If _ b _ _ => b
  | _ => []
def ifE (s : Stmt) : List Stmt := match s with
  | .If _ _ b _ => b
  | _ => []
def elifs : Nat → Stmt → Stmt
  | 0, s => s
  | n + 1, s => elifs n ((ifE s).getD 0 (.Pass ⟨0, 0, 0, 0⟩))
section
variable {P : Program} {w : World} {K : PySem.W.Frag} {mg : Str → Option Value} {base : Heap}
theorem ok_spoilt (T : TopDef K mg "_law_spoilt" s_l_spoilt) (Z_isinstance : mg "isinstance" = none) (Z_tuple : mg "tuple" = none) (Z_len : mg "len" = none) (kk : Kit13 K) : Def P w K mg base 1 "_law_spoilt" ["_law_rows_here", "_law_cell_here", "_law_more"] (spSpoilt K) := by
  refine def_of T sc_l_spoilt (fun _ _ _ _ _ _ us hl => match us, hl with | [_, _, _], _ => rfl) (fun vs H Q E h => ?_) (fun f cdv A outer s H vs Q E hr h => ?_)
  · obtain ⟨l, us, os, cell, more, n, rfl, _⟩ := h
    rfl
  obtain ⟨l, us, os, cell, more, n, rfl, el, al, ne, few, n4, n15, cap, q⟩ := h
  have nd := sc_l_spoilt.nd
  have lu := al.len
  have lp : 0 < us.length := List.length_pos_iff.mpr ne
  have la : ∃ t, Hold (cxOf CX0 P w K mg base n_l_spoilt "_law_spoilt" (defScope s_l_spoilt) f cdv A outer s H E).nox ((defBody s_l_spoilt).drop 5) t ∧ ∀ (k : Nat) (v : V) (o : Tg) (o5 o6 o7 : Option V) (H1 : Hp), k < us.length → Same H H1 → TgV K H1 v o → capT (n + 1) o →
      t { nx := fun _ H' => Q .non H', rt := Q } [some (.ref l), some (.int cell), some (.int more), some (.int (k : Int)), some v, o5, o6, o7] H1 := by
    refine ⟨_, ⟨(pss_one (ps_ret (pe_op op_cat (pe_op op_cat (pe_slice sl_list (pv 0) po_none (po_some (pv 3))) (pe_lst (pa_cons (pv 4) pa_nil))) (pe_slice sl_list (pv 0) (po_some (pe_op op_add (pv 3) pe_int)) po_none))))⟩, ?_⟩
    intro k v o o5 o6 o7 H1 hk s1 tv cp
    have e1 := s1 _ _ el
    refine ⟨_, rfl, ?_⟩
    refine noPart ?_
    refine ⟨_, rfl, _, rfl, l, us, rfl, SqL.of e1, fun p1 hp1 => ?_⟩
    have s2 := s1.trans (same_new hp1 (.lst (cutV us none (some (k : Int)))))
    refine ⟨_, rfl, (by show 1 ≤ sizeLine; decide), fun p2 hp2 => ?_⟩
    have u2 := same_new hp2 (.lst [v])
    have g1 : upd (upd H1 p1 (.lst (cutV us none (some (k : Int))))) p2 (.lst [v]) p1 = some (.lst (cutV us none (some (k : Int)))) := u2 _ _ upd_same
    have big : ∀ m : Nat, m ≤ 3000 → m ≤ sizeLine := fun m h => Nat.le_trans h (by decide)
    refine ⟨p1, p2, _, _, rfl, rfl, g1, upd_same, ?_, fun p3 hp3 => ?_⟩
    · refine big _ ?_
      have := cutV_length us none (some (k : Int))
      rw [List.length_singleton]
      omega
    have s3 := (s2.trans u2).trans (same_new hp3 (.lst (cutV us none (some (k : Int)) ++ [v])))
    have g3 : upd (upd (upd H1 p1 (.lst (cutV us none (some (k : Int))))) p2 (.lst [v])) p3 (.lst (cutV us none (some (k : Int)) ++ [v])) p3 = some (.lst (cutV us none (some (k : Int)) ++ [v])) := upd_same
    have t3 : Same H1 (upd (upd (upd H1 p1 (.lst (cutV us none (some (k : Int))))) p2 (.lst [v])) p3 (.lst (cutV us none (some (k : Int)) ++ [v]))) := ((same_new hp1 _).trans u2).trans (same_new hp3 _)
    generalize upd (upd (upd H1 p1 (.lst (cutV us none (some (k : Int))))) p2 (.lst [v])) p3 (.lst (cutV us none (some (k : Int)) ++ [v])) = H3 at s3 g3 t3 ⊢
    refine ⟨_, rfl, _, rfl, _, _, rfl, rfl, _, rfl, ?_⟩
    refine noPart ?_
    refine ⟨l, us, rfl, SqL.of (s3 _ _ el), fun p4 hp4 => ?_⟩
    have u4 := same_new hp4 (.lst (cutV us (some ((k : Int) + 1)) none))
    refine ⟨p3, p4, _, _, rfl, rfl, u4 _ _ g3, upd_same, ?_, fun p5 hp5 => ?_⟩
    · refine big _ ?_
      have := cutV_length us none (some (k : Int))
      have := cutV_length us (some ((k : Int) + 1)) none
      rw [List.length_append, List.length_singleton]
      omega
    have s5 := (s3.trans u4).trans (same_new hp5 (.lst (cutV us none (some (k : Int)) ++ [v] ++ cutV us (some ((k : Int) + 1)) none)))
    have t5 := (t3.trans u4).trans (same_new hp5 (.lst (cutV us none (some (k : Int)) ++ [v] ++ cutV us (some ((k : Int) + 1)) none)))
    have ek : (k : Int) + 1 = ((k + 1 : Nat) : Int) := by omega
    rw [cut_hi, ek, cut_lo] at s5 t5 ⊢
    refine q _ _ (os.take k ++ [o] ++ os.drop (k + 1)) _ s5 upd_same ?_ ?_ ?_
    · have al5 := al.imp (TgV.same s5)
      exact ((take_all k al5).1.app (.cons (TgV.same t5 _ _ tv) .nil)).app (take_all (k + 1) al5).2
    · simp
      omega
    · intro x hx
      rcases List.mem_append.mp hx with hx | hx
      · rcases List.mem_append.mp hx with hx | hx
        · exact (cap x (List.mem_of_mem_take hx)).mono (by omega)
        · rw [List.mem_singleton.mp hx]; exact cp
      · exact (cap x (List.mem_of_mem_drop hx)).mono (by omega)
  obtain ⟨tL, htL, hqL⟩ := la
  have mi : ∃ t, Hold (cxOf CX0 P w K mg base n_l_spoilt "_law_spoilt" (defScope s_l_spoilt) f cdv A outer s H E).nox ((defBody s_l_spoilt).drop 3) t ∧ ∀ (k : Nat) (a : Addr) (xs : List V) (es : List E13) (H1 : Hp), k < us.length → Same H H1 → H1 a = some (.tup xs) → All2 (EV H1) xs es → es.length ≤ n →
      t { nx := fun _ H' => Q .non H', rt := Q } [some (.ref l), some (.int cell), some (.int more), some (.int (k : Int)), some (.ref a), none, none, none] H1 := by
    have m0 : ∀ (x m : Int), 0 < m → 0 ≤ x % m ∧ x % m < m := fun x m h => ⟨Int.emod_nonneg _ (by omega), Int.emod_lt_of_pos _ h⟩
    have x0 : ∃ t, Hold (cxOf CX0 P w K mg base n_l_spoilt "_law_spoilt" (defScope s_l_spoilt) f cdv A outer s H E).nox (ifB (elifs 0 ((defBody s_l_spoilt).getD 4 (.Pass ⟨0, 0, 0, 0⟩)))) t ∧ ∀ (D : Ends) (k : Nat) (o4 o5 o6 o7 : Option V) (H1 : Hp), ltVar [some (.ref l), some (.int cell), some (.int more), some (.int (k : Int)), o4, o5, o6, o7] (.lst [.non, (.int 7), (.str "p"), (.lst []), (.lst [(.str "never")]), .dic, (.bl true)]) = true → (∀ u lt H2, Same H1 H2 → lt ∈ [.non, (.int 7), (.str "p"), (.lst []), (.lst [(.str "never")]), .dic, (.bl true)] → LtV [some (.ref l), some (.int cell), some (.int more), some (.int (k : Int)), o4, o5, o6, o7] H2 lt u → D.nx [some (.ref l), some (.int cell), some (.int more), some (.int (k : Int)), some u, o5, o6, o7] H2) → t D [some (.ref l), some (.int cell), some (.int more), some (.int (k : Int)), o4, o5, o6, o7] H1 := by
      refine ex_imp (set_litx (i := 4) (X := (cxOf CX0 P w K mg base n_l_spoilt "_law_spoilt" (defScope s_l_spoilt) f cdv A outer s H E).nox) (N := n_l_spoilt) (sc := defScope s_l_spoilt) (xs := [.non, (.int 7), (.str "p"), (.lst []), (.lst [(.str "never")]), .dic, (.bl true)]) ?h (pe_op op_mod (pe_op op_fdiv (pv 1) pe_int) pe_int) ⟨pss_nil⟩ ?a ?b nd ?c ?d ?e ?f ?g) ?r
      case r => exact fun t r D k o4 o5 o6 o7 H1 hv q => r D [some (.ref l), some (.int cell), some (.int more), some (.int (k : Int)), o4, o5, o6, o7] H1 (cell / 4096 % 7) hv (m0 _ 7 (by decide)).1 (m0 _ 7 (by decide)).2 (fun H2 Q' z => ⟨_, rfl, _, _, rfl, rfl, ⟨by decide, by decide⟩, _, _, rfl, rfl, (show (0 : Int) < 7 by decide), z⟩) q
      case h => kernel_rfl
      case a => rfl
      case b => rfl
      case c => rfl
      case d => exact Or.inl rfl
      case e => rfl
      case f => exact Or.inr rfl
      case g => exact fun _ _ => rfl
    obtain ⟨t0, ht0, hq0⟩ := x0
    have x1b : ∃ t, Hold (cxOf CX0 P w K mg base n_l_spoilt "_law_spoilt" (defScope s_l_spoilt) f cdv A outer s H E).nox ((ifB (elifs 1 ((defBody s_l_spoilt).getD 4 (.Pass ⟨0, 0, 0, 0⟩)))).drop 1) t ∧ ∀ (D : Ends) (k : Nat) (o4 o5 o7 : Option V) (v : V) (us' : List V) (a' : Addr) (u : V) (H1 : Hp), v = .ref a' → H1 a' = some (.lst us') → atI us' (cell / 4096 % 9) = some u → D.nx [some (.ref l), some (.int cell), some (.int more), some (.int (k : Int)), some u, o5, some v, o7] H1 → t D [some (.ref l), some (.int cell), some (.int more), some (.int (k : Int)), o4, o5, some v, o7] H1 := by
      refine ⟨_, ⟨(pss_one (ps_set (i := 4) nd rfl (Or.inl rfl) (pe_ix ix_list (pv 6) (pe_op op_mod (pe_op op_fdiv (pv 1) pe_int) pe_int) (fun _ _ => rfl))))⟩, ?_⟩
      intro D k o4 o5 o7 v us' a' u H1 rfl e2 at2 z
      exact ⟨_, rfl, _, rfl, _, _, rfl, rfl, ⟨by decide, by decide⟩, _, _, rfl, rfl, (show (0 : Int) < 9 by decide), _, _, _, _, rfl, rfl, SqL.of e2, at2, z⟩
    obtain ⟨t1b, ht1b, hq1b⟩ := x1b
    have x1 : ∃ t, Hold (cxOf CX0 P w K mg base n_l_spoilt "_law_spoilt" (defScope s_l_spoilt) f cdv A outer s H E).nox (ifB (elifs 1 ((defBody s_l_spoilt).getD 4 (.Pass ⟨0, 0, 0, 0⟩)))) t ∧ ∀ (D : Ends) (k : Nat) (o4 o5 o6 o7 : Option V) (H1 : Hp), (∀ v H2, Same H1 H2 → LtV [some (.ref l), some (.int cell), some (.int more), some (.int (k : Int)), o4, o5, o6, o7] H2 (.lst [(.tup []), (.tup [(.int 3)]), (.tup [.non]), (.tup [(.tup [(.str "p")])]), (.tup [(.str "xor"), (.int 0), (.int 0)]), (.tup [(.str "Not"), (.int 0)]), (.tup [(.str "r")]), (.tup [(.str ""), (.int 0)]), (.tup [(.str "fold"), (.int 0), (.int 0)])]) v → t1b D [some (.ref l), some (.int cell), some (.int more), some (.int (k : Int)), o4, o5, some v, o7] H2) → t D [some (.ref l), some (.int cell), some (.int more), some (.int (k : Int)), o4, o5, o6, o7] H1 := by
      refine ex_imp (set_lit (i := 6) (X := (cxOf CX0 P w K mg base n_l_spoilt "_law_spoilt" (defScope s_l_spoilt) f cdv A outer s H E).nox) (N := n_l_spoilt) (sc := defScope s_l_spoilt) (l := (.lst [(.tup []), (.tup [(.int 3)]), (.tup [.non]), (.tup [(.tup [(.str "p")])]), (.tup [(.str "xor"), (.int 0), (.int 0)]), (.tup [(.str "Not"), (.int 0)]), (.tup [(.str "r")]), (.tup [(.str ""), (.int 0)]), (.tup [(.str "fold"), (.int 0), (.int 0)])])) (tr := t1b) ?h ht1b ?a ?b nd ?c ?d ?e ?f) ?r
      case r => exact fun t r D k o4 o5 o6 o7 H1 q => r D [some (.ref l), some (.int cell), some (.int more), some (.int (k : Int)), o4, o5, o6, o7] H1 rfl q
      case h => kernel_rfl
      case a => rfl
      case b => rfl
      case c => rfl
      case d => exact Or.inl rfl
      case e => rfl
      case f => exact Or.inr rfl
    obtain ⟨t1, ht1, hq1⟩ := x1
    have x4b : ∃ t, Hold (cxOf CX0 P w K mg base n_l_spoilt "_law_spoilt" (defScope s_l_spoilt) f cdv A outer s H E).nox ((ifB (elifs 4 ((defBody s_l_spoilt).getD 4 (.Pass ⟨0, 0, 0, 0⟩)))).drop 1) t ∧ ∀ (D : Ends) (k : Nat) (o4 o5 o6 o7 : Option V) (H1 : Hp), ltVar [some (.ref l), some (.int cell), some (.int more), some (.int (k : Int)), o4, o5, o6, o7] (.lst [(.tup [(.str "not"), (.var 7)]), (.tup [(.str "more"), (.var 7), (.int 0)]), (.tup [(.str "lesser"), (.int 0), (.var 7)])]) = true → (∀ u lt H2, Same H1 H2 → lt ∈ [(.tup [(.str "not"), (.var 7)]), (.tup [(.str "more"), (.var 7), (.int 0)]), (.tup [(.str "lesser"), (.int 0), (.var 7)])] → LtV [some (.ref l), some (.int cell), some (.int more), some (.int (k : Int)), o4, o5, o6, o7] H2 lt u → D.nx [some (.ref l), some (.int cell), some (.int more), some (.int (k : Int)), some u, o5, o6, o7] H2) → t D [some (.ref l), some (.int cell), some (.int more), some (.int (k : Int)), o4, o5, o6, o7] H1 := by
      refine ex_imp (set_litx (i := 4) (X := (cxOf CX0 P w K mg base n_l_spoilt "_law_spoilt" (defScope s_l_spoilt) f cdv A outer s H E).nox) (N := n_l_spoilt) (sc := defScope s_l_spoilt) (xs := [(.tup [(.str "not"), (.var 7)]), (.tup [(.str "more"), (.var 7), (.int 0)]), (.tup [(.str "lesser"), (.int 0), (.var 7)])]) ?h (pe_op op_mod (pe_op op_fdiv (pv 1) pe_int) pe_int) ⟨pss_nil⟩ ?a ?b nd ?c ?d ?e ?f ?g) ?r
      case r => exact fun t r D k o4 o5 o6 o7 H1 hv q => r D [some (.ref l), some (.int cell), some (.int more), some (.int (k : Int)), o4, o5, o6, o7] H1 (cell / 65536 % 3) hv (m0 _ 3 (by decide)).1 (m0 _ 3 (by decide)).2 (fun H2 Q' z => ⟨_, rfl, _, _, rfl, rfl, ⟨by decide, by decide⟩, _, _, rfl, rfl, (show (0 : Int) < 3 by decide), z⟩) q
      case h => kernel_rfl
      case a => rfl
      case b => rfl
      case c => rfl
      case d => exact Or.inl rfl
      case e => rfl
      case f => exact Or.inr rfl
      case g => exact fun _ _ => rfl
    obtain ⟨t4b, ht4b, hq4b⟩ := x4b
    have x5b : ∃ t, Hold (cxOf CX0 P w K mg base n_l_spoilt "_law_spoilt" (defScope s_l_spoilt) f cdv A outer s H E).nox ((ifB (elifs 5 ((defBody s_l_spoilt).getD 4 (.Pass ⟨0, 0, 0, 0⟩)))).drop 1) t ∧ ∀ (D : Ends) (k : Nat) (o4 o5 o6 o7 : Option V) (H1 : Hp), ltVar [some (.ref l), some (.int cell), some (.int more), some (.int (k : Int)), o4, o5, o6, o7] (.lst [(.tup [(.str "not"), (.var 7)]), (.tup [(.str "leads"), (.int 0), (.var 7)]), (.tup [(.str "greater"), (.var 7), (.int 0)])]) = true → (∀ u lt H2, Same H1 H2 → lt ∈ [(.tup [(.str "not"), (.var 7)]), (.tup [(.str "leads"), (.int 0), (.var 7)]), (.tup [(.str "greater"), (.var 7), (.int 0)])] → LtV [some (.ref l), some (.int cell), some (.int more), some (.int (k : Int)), o4, o5, o6, o7] H2 lt u → D.nx [some (.ref l), some (.int cell), some (.int more), some (.int (k : Int)), some u, o5, o6, o7] H2) → t D [some (.ref l), some (.int cell), some (.int more), some (.int (k : Int)), o4, o5, o6, o7] H1 := by
      refine ex_imp (set_litx (i := 4) (X := (cxOf CX0 P w K mg base n_l_spoilt "_law_spoilt" (defScope s_l_spoilt) f cdv A outer s H E).nox) (N := n_l_spoilt) (sc := defScope s_l_spoilt) (xs := [(.tup [(.str "not"), (.var 7)]), (.tup [(.str "leads"), (.int 0), (.var 7)]), (.tup [(.str "greater"), (.var 7), (.int 0)])]) ?h (pe_op op_mod (pe_op op_fdiv (pv 1) pe_int) pe_int) ⟨pss_nil⟩ ?a ?b nd ?c ?d ?e ?f ?g) ?r
      case r => exact fun t r D k o4 o5 o6 o7 H1 hv q => r D [some (.ref l), some (.int cell), some (.int more), some (.int (k : Int)), o4, o5, o6, o7] H1 (cell / 65536 % 3) hv (m0 _ 3 (by decide)).1 (m0 _ 3 (by decide)).2 (fun H2 Q' z => ⟨_, rfl, _, _, rfl, rfl, ⟨by decide, by decide⟩, _, _, rfl, rfl, (show (0 : Int) < 3 by decide), z⟩) q
      case h => kernel_rfl
      case a => rfl
      case b => rfl
      case c => rfl
      case d => exact Or.inl rfl
      case e => rfl
      case f => exact Or.inr rfl
      case g => exact fun _ _ => rfl
    obtain ⟨t5b, ht5b, hq5b⟩ := x5b
    have x5 : ∃ t, Hold (cxOf CX0 P w K mg base n_l_spoilt "_law_spoilt" (defScope s_l_spoilt) f cdv A outer s H E).nox (ifB (elifs 5 ((defBody s_l_spoilt).getD 4 (.Pass ⟨0, 0, 0, 0⟩)))) t ∧ ∀ (D : Ends) (k : Nat) (o4 o5 o6 o7 : Option V) (H1 : Hp), ltVar [some (.ref l), some (.int cell), some (.int more), some (.int (k : Int)), o4, o5, o6, o7] (.lst [(.bl true), (.bl false), (.str "0"), .non, (.tup [(.int 0)]), (.tup [(.str "p")])]) = true → (∀ u lt H2, Same H1 H2 → lt ∈ [(.bl true), (.bl false), (.str "0"), .non, (.tup [(.int 0)]), (.tup [(.str "p")])] → LtV [some (.ref l), some (.int cell), some (.int more), some (.int (k : Int)), o4, o5, o6, o7] H2 lt u → t5b D [some (.ref l), some (.int cell), some (.int more), some (.int (k : Int)), o4, o5, o6, some u] H2) → t D [some (.ref l), some (.int cell), some (.int more), some (.int (k : Int)), o4, o5, o6, o7] H1 := by
      refine ex_imp (set_litx (i := 7) (X := (cxOf CX0 P w K mg base n_l_spoilt "_law_spoilt" (defScope s_l_spoilt) f cdv A outer s H E).nox) (N := n_l_spoilt) (sc := defScope s_l_spoilt) (xs := [(.bl true), (.bl false), (.str "0"), .non, (.tup [(.int 0)]), (.tup [(.str "p")])]) (tr := t5b) ?h (pe_op op_mod (pe_op op_fdiv (pv 1) pe_int) pe_int) ht5b ?a ?b nd ?c ?d ?e ?f ?g) ?r
      case r => exact fun t r D k o4 o5 o6 o7 H1 hv q => r D [some (.ref l), some (.int cell), some (.int more), some (.int (k : Int)), o4, o5, o6, o7] H1 (cell / 4096 % 6) hv (m0 _ 6 (by decide)).1 (m0 _ 6 (by decide)).2 (fun H2 Q' z => ⟨_, rfl, _, _, rfl, rfl, ⟨by decide, by decide⟩, _, _, rfl, rfl, (show (0 : Int) < 6 by decide), z⟩) q
      case h => kernel_rfl
      case a => rfl
      case b => rfl
      case c => rfl
      case d => exact Or.inl rfl
      case e => rfl
      case f => exact Or.inr rfl
      case g => exact fun _ _ => rfl
    obtain ⟨t5, ht5, hq5⟩ := x5
    have x6 : ∃ t, Hold (cxOf CX0 P w K mg base n_l_spoilt "_law_spoilt" (defScope s_l_spoilt) f cdv A outer s H E).nox (ifE (elifs 5 ((defBody s_l_spoilt).getD 4 (.Pass ⟨0, 0, 0, 0⟩)))) t ∧ ∀ (D : Ends) (k : Nat) (o4 o5 o6 o7 : Option V) (H1 : Hp), ltVar [some (.ref l), some (.int cell), some (.int more), some (.int (k : Int)), o4, o5, o6, o7] (.lst [(.tup [(.str "more"), (.int 0)]), (.tup [(.str "not"), (.int 0), (.int 0)]), (.tup [(.str "never"), (.int 0)]), (.tup [(.str "p"), (.int 0)]), (.tup [(.str "less"), (.int 0), (.int 0), (.int 0)]), (.tup [(.str "not")])]) = true → (∀ u lt H2, Same H1 H2 → lt ∈ [(.tup [(.str "more"), (.int 0)]), (.tup [(.str "not"), (.int 0), (.int 0)]), (.tup [(.str "never"), (.int 0)]), (.tup [(.str "p"), (.int 0)]), (.tup [(.str "less"), (.int 0), (.int 0), (.int 0)]), (.tup [(.str "not")])] → LtV [some (.ref l), some (.int cell), some (.int more), some (.int (k : Int)), o4, o5, o6, o7] H2 lt u → D.nx [some (.ref l), some (.int cell), some (.int more), some (.int (k : Int)), some u, o5, o6, o7] H2) → t D [some (.ref l), some (.int cell), some (.int more), some (.int (k : Int)), o4, o5, o6, o7] H1 := by
      refine ex_imp (set_litx (i := 4) (X := (cxOf CX0 P w K mg base n_l_spoilt "_law_spoilt" (defScope s_l_spoilt) f cdv A outer s H E).nox) (N := n_l_spoilt) (sc := defScope s_l_spoilt) (xs := [(.tup [(.str "more"), (.int 0)]), (.tup [(.str "not"), (.int 0), (.int 0)]), (.tup [(.str "never"), (.int 0)]), (.tup [(.str "p"), (.int 0)]), (.tup [(.str "less"), (.int 0), (.int 0), (.int 0)]), (.tup [(.str "not")])]) ?h (pe_op op_mod (pe_op op_fdiv (pv 1) pe_int) pe_int) ⟨pss_nil⟩ ?a ?b nd ?c ?d ?e ?f ?g) ?r
      case r => exact fun t r D k o4 o5 o6 o7 H1 hv q => r D [some (.ref l), some (.int cell), some (.int more), some (.int (k : Int)), o4, o5, o6, o7] H1 (cell / 4096 % 6) hv (m0 _ 6 (by decide)).1 (m0 _ 6 (by decide)).2 (fun H2 Q' z => ⟨_, rfl, _, _, rfl, rfl, ⟨by decide, by decide⟩, _, _, rfl, rfl, (show (0 : Int) < 6 by decide), z⟩) q
      case h => kernel_rfl
      case a => rfl
      case b => rfl
      case c => rfl
      case d => exact Or.inl rfl
      case e => rfl
      case f => exact Or.inr rfl
      case g => exact fun _ _ => rfl
    obtain ⟨t6, ht6, hq6⟩ := x6
    refine ⟨_, ⟨pss_cons (ps_set (i := 5) nd rfl (Or.inl rfl) (pe_op op_mod (pe_op op_fdiv (pv 1) pe_int) pe_int)) (pss_consH (ps_ifH1 (pt_cmpR op_eq (pv 5) pe_int (nomark _)) ht0 (pss_one (ps_ifH1 (pt_cmpR op_eq (pv 5) pe_int (nomark _)) ht1 (pss_one (ps_if (pt_cmpR op_eq (pv 5) pe_int (nomark _)) (pss_one (ps_set (i := 4) nd rfl (Or.inl rfl) (pe_op op_catU (pe_callTy call_tupleT rfl Z_tuple (by decide +kernel) (pa_cons (pv 4) pa_nil)) (pe_tup (pa_cons (pe_ix ix_list (pe_lst (pa_cons pe_int (pa_cons pe_int (pa_cons pe_str pa_nil)))) (pe_op op_mod (pe_op op_fdiv (pv 1) pe_int) pe_int) (fun _ _ => rfl)) pa_nil))))) (pss_one (ps_if (pt_cmpR op_eq (pv 5) pe_int (nomark _)) (pss_one (ps_set (i := 4) nd rfl (Or.inl rfl) (pe_slice sl_tupA (pe_callTy call_tupleT rfl Z_tuple (by decide +kernel) (pa_cons (pv 4) pa_nil)) po_none (po_some (pe_un un_neg pe_int))))) (pss_one (ps_if (pt_cmpR op_lt (pv 5) pe_int (nomark _)) (pss_consH (ps_set (i := 7) nd rfl (Or.inl rfl) (pe_ix ix_list (pe_lst (pa_cons (pv 3) (pa_cons (pe_op op_add (pv 3) pe_int) (pa_cons (pe_un un_neg pe_int) (pa_cons pe_int (pa_cons (pe_un un_neg (pv 2)) (pa_cons (pe_op op_pow pe_int pe_int) pa_nil))))))) (pe_op op_mod (pe_op op_fdiv (pv 1) pe_int) pe_int) (fun _ _ => rfl))) ht4b) (pss_one (ps_ifH2 (pt_cmpR op_eq (pv 5) pe_int (nomark _)) ht5 ht6))))))))))) htL)⟩, ?_⟩
    intro k a xs es H1 hk s1 ea ale le
    have ll := ale.len
    refine ⟨_, rfl, _, _, rfl, rfl, ⟨by decide, by decide⟩, _, _, rfl, rfl, (show (0 : Int) < 8 by decide), ?_⟩
    -- one of the written things
    have pick : ∀ (ls : List Lt) (σ : St) (v : V) (j : Int) (H2 : Hp) (o5 o6 o7 : Option V), Same H1 H2 → LtV σ H2 (.lst ls) v → ls.all tgLit = true → 0 ≤ j → j < (ls.length : Int) → (∀ v, σ[7]? = some (some v) → ∃ e, EV H2 v e) →
        ∃ a us u, v = .ref a ∧ H2 a = some (.lst us) ∧ atI us j = some u ∧ tL { nx := fun _ H' => Q .non H', rt := Q } [some (.ref l), some (.int cell), some (.int more), some (.int (k : Int)), some u, o5, o6, o7] H2 := by
      intro ls σ v j H2 o5 o6 o7 s2 lv all j0 j1 hv
      obtain ⟨a, us', u, lt, rfl, e2, at2, ml, lu⟩ := lit_pick (K := K) lv j0 j1
      obtain ⟨o, tv, cp⟩ := lit_tg kk hv lu (List.all_eq_true.mp all lt ml)
      exact ⟨a, us', u, rfl, e2, at2, hqL k u o o5 o6 o7 H2 hk (s1.trans s2) tv (cp.mono (by omega))⟩
    have pick2 : ∀ (ls : List Lt) (σ : St) (u : V) (lt : Lt) (H2 : Hp) (o5 o6 o7 : Option V), Same H1 H2 → lt ∈ ls → ls.all tgLit = true → LtV σ H2 lt u → (∀ v, σ[7]? = some (some v) → ∃ e, EV H2 v e) →
        tL { nx := fun _ H' => Q .non H', rt := Q } [some (.ref l), some (.int cell), some (.int more), some (.int (k : Int)), some u, o5, o6, o7] H2 := by
      intro ls σ u lt H2 o5 o6 o7 s2 ml all lu hv
      obtain ⟨o, tv, cp⟩ := lit_tg kk hv lu (List.all_eq_true.mp all lt ml)
      exact hqL k u o o5 o6 o7 H2 hk (s1.trans s2) tv (cp.mono (by omega))
    have no7 : ∀ (H2 : Hp) (o4 o5 o6 : Option V) v, ([some (.ref l), some (.int cell), some (.int more), some (.int (k : Int)), o4, o5, o6, none] : St)[7]? = some (some v) → ∃ e, EV H2 v e := fun _ _ _ _ v h => nomatch h
    refine ⟨_, rfl, rfl, _, rfl, ?_⟩
    refine ite2 (fun _ => ?_) (fun _ => ?_)
    · exact hq0 _ k _ _ _ _ _ rfl fun u lt H2 s2 ml lu => pick2 _ _ u lt H2 _ _ _ s2 ml rfl lu (no7 _ _ _ _)
    refine ⟨_, rfl, rfl, _, rfl, ?_⟩
    refine ite2 (fun _ => ?_) (fun _ => ?_)
    · refine hq1 _ k _ _ _ _ _ fun v2 H2 s2 l2 => ?_
      obtain ⟨a2, us2, u2, e0, e2, at2, z⟩ := pick _ _ _ (cell / 4096 % 9) _ (some (.int (cell / 512 % 8))) (some v2) none s2 l2 rfl (m0 _ 9 (by decide)).1 (m0 _ 9 (by decide)).2 (no7 _ _ _ _)
      exact hq1b _ k _ _ _ v2 us2 a2 u2 H2 e0 e2 at2 z
    refine ⟨_, rfl, rfl, _, rfl, ?_⟩
    refine ite2 (fun _ => ?_) (fun _ => ?_)
    · refine ⟨_, rfl, a, xs, rfl, SqT.of ea, (by show 3 ≤ sizeLine; decide), fun p1 hp1 => ?_⟩
      have u1 := same_new hp1 (.lst [V.int 0, .int 1, .str "p"])
      obtain ⟨u, hu, eu⟩ : ∃ u, atI [V.int 0, .int 1, .str "p"] (cell / 4096 % 3) = some u ∧ ∃ e, ∀ H', EV H' u e := by
        have h := m0 (cell / 4096) 3 (by decide)
        generalize cell / 4096 % 3 = j at h
        have c : j = 0 ∨ j = 1 ∨ j = 2 := by omega
        rcases c with rfl | rfl | rfl
        · exact ⟨_, rfl, .int 0, fun _ => rfl⟩
        · exact ⟨_, rfl, .int 1, fun _ => rfl⟩
        · exact ⟨_, rfl, .str "p", fun _ => rfl⟩
      obtain ⟨e, eu⟩ := eu
      refine ⟨_, rfl, _, _, rfl, rfl, ⟨by decide, by decide⟩, _, _, rfl, rfl, (show (0 : Int) < 3 by decide), _, _, _, _, rfl, rfl, SqL.of upd_same, hu, (by show 1 ≤ sizeLine; decide), fun p2 hp2 => ?_⟩
      have u2 := u1.trans (same_new hp2 (.tup [u]))
      have g2 : upd (upd H1 p1 (.lst [V.int 0, .int 1, .str "p"])) p2 (.tup [u]) p2 = some (.tup [u]) := upd_same
      generalize upd (upd H1 p1 (.lst [V.int 0, .int 1, .str "p"])) p2 (.tup [u]) = H2 at u2 g2 ⊢
      refine ⟨a, p2, xs, [u], rfl, rfl, SqT.of (u2 _ _ ea), SqT.of g2, (by simp), Nat.le_trans (show xs.length + 1 ≤ 100 by omega) (by decide), fun _ => ?_, fun _ p3 hp3 => ?_⟩
      · exact hqL k _ (some [e]) _ _ _ _ hk (s1.trans u2) ⟨rfl, by simp, p2, _, rfl, g2, .cons (eu _) .nil⟩ (show 1 ≤ n + 1 by omega)
      · have u3 := u2.trans (same_new hp3 (.tup (xs ++ [u])))
        exact hqL k _ (some (es ++ [e])) _ _ _ _ hk (s1.trans u3) ⟨rfl, by simp; omega, p3, _, rfl, upd_same, (ale.imp (EV.same u3)).app (.cons (eu _) .nil)⟩ (show (es ++ [e]).length ≤ n + 1 by simp; omega)
    refine ⟨_, rfl, rfl, _, rfl, ?_⟩
    refine ite2 (fun _ => ?_) (fun _ => ?_)
    · refine ⟨_, rfl, a, xs, rfl, SqT.of ea, ?_⟩
      refine noPart ?_
      refine ⟨_, rfl, _, rfl, a, xs, rfl, SqT.of ea, fun _ _ => ?_, fun _ p1 hp1 => ?_⟩
      · exact hqL k _ (some es) _ _ _ _ hk s1 ⟨rfl, by omega, a, _, rfl, ea, ale⟩ (show es.length ≤ n + 1 by omega)
      · have u1 := same_new hp1 (.tup (cutV xs none (some (-1))))
        rw [cut_last] at u1 ⊢
        exact hqL k _ (some (es.take (xs.length - 1))) _ _ _ _ hk (s1.trans u1) ⟨rfl, by simp; omega, p1, _, rfl, upd_same, (take_all _ (ale.imp (EV.same u1))).1⟩ (show (es.take (xs.length - 1)).length ≤ n + 1 by simp; omega)
    refine ⟨_, rfl, _, _, rfl, rfl, _, rfl, ?_⟩
    refine ite2 (fun _ => ?_) (fun _ => ?_)
    · refine ⟨_, rfl, _, rfl, _, _, rfl, rfl, _, rfl, _, rfl, _, rfl, _, _, rfl, rfl, ⟨by decide, by decide, by decide⟩, (by show 6 ≤ sizeLine; decide), fun p1 hp1 => ?_⟩
      have u1 := same_new hp1 (.lst [V.int (k : Int), .int ((k : Int) + 1), .int (-1), .int 400, .int (-more), .int (10 ^ (19 : Int).toNat)])
      obtain ⟨i, hi⟩ : ∃ i : Int, atI [V.int (k : Int), .int ((k : Int) + 1), .int (-1), .int 400, .int (-more), .int (10 ^ (19 : Int).toNat)] (cell / 4096 % 6) = some (.int i) := by
        have h := m0 (cell / 4096) 6 (by decide)
        generalize cell / 4096 % 6 = j at h
        have c : j = 0 ∨ j = 1 ∨ j = 2 ∨ j = 3 ∨ j = 4 ∨ j = 5 := by omega
        rcases c with rfl | rfl | rfl | rfl | rfl | rfl <;> exact ⟨_, rfl⟩
      refine ⟨_, rfl, _, _, rfl, rfl, ⟨by decide, by decide⟩, _, _, rfl, rfl, (show (0 : Int) < 6 by decide), _, _, _, _, rfl, rfl, SqL.of upd_same, hi, ?_⟩
      exact hq4b _ k _ _ _ _ _ rfl fun u lt H2 s2 ml lu => pick2 _ _ u lt H2 _ _ _ (u1.trans s2) ml rfl lu (fun v h => by cases h; exact ⟨.int i, rfl⟩)
    refine ⟨_, rfl, rfl, _, rfl, ?_⟩
    refine ite2 (fun _ => ?_) (fun _ => ?_)
    · refine hq5 _ k _ _ _ _ _ rfl fun u2 lt2 H2 s2 ml lu => ?_
      obtain ⟨e, ev⟩ := item_ev (no7 _ _ _ _) lu ((show ∀ x ∈ [Lt.bl true, .bl false, .str "0", .non, .tup [.int 0], .tup [.str "p"]], itemB x = true by intro x hx; simp only [List.mem_cons, List.mem_nil_iff, or_false] at hx; rcases hx with rfl | rfl | rfl | rfl | rfl | rfl <;> rfl) lt2 ml)
      exact hq5b _ k _ _ _ _ _ rfl fun u lt H3 s3 ml3 lu3 => pick2 _ _ u lt H3 _ _ _ (s2.trans s3) ml3 rfl lu3 (fun v h => by cases h; exact ⟨e, EV.same s3 _ _ ev⟩)
    · exact hq6 _ k _ _ _ _ _ rfl fun u lt H2 s2 ml lu => pick2 _ _ u lt H2 _ _ _ s2 ml rfl lu (no7 _ _ _ _)
  obtain ⟨tM, htM, hqM⟩ := mi
  refine ⟨_, pss_cons (ps_set (i := 3) nd rfl (Or.inl rfl) (pe_op op_modN (pv 1) (pe_callB call_len rfl Z_len (by decide +kernel) (pa_cons (pv 0) pa_nil)))) (pss_cons (ps_set (i := 4) nd rfl (Or.inl rfl) (pe_ix ix_list (pv 0) (pv 3) (fun _ _ => rfl))) (pss_consH (ps_if (pt_not (pt_val (pe_callB call_isi rfl Z_isinstance (by decide +kernel) (pa_cons (pv 4) (pa_cons (pe_bltn (v := V.ty "tuple") rfl Z_tuple (by decide +kernel) rfl) pa_nil))))) (pss_one (ps_set (i := 4) nd rfl (Or.inl rfl) (pe_tup (pa_cons pe_str pa_nil)))) pss_nil) htM)), ?_⟩
  have z0 : (0 : Int) < (us.length : Nat) := by omega
  have e0 := Int.fmod_nonneg_of_pos cell z0
  have e1 := Int.fmod_lt_of_pos cell z0
  obtain ⟨k, hk⟩ : ∃ k : Nat, cell.fmod (us.length : Nat) = (k : Int) := ⟨(cell.fmod (us.length : Nat)).toNat, by omega⟩
  have hk' : k < us.length := by omega
  obtain ⟨o, ho, tv⟩ := al.get k _ (List.getElem?_eq_getElem hk')
  have co := cap o (List.mem_of_getElem? ho)
  refine ⟨_, rfl, _, rfl, _, _, rfl, .inl ⟨_, SqL.of el, rfl⟩, _, _, rfl, rfl, (by omega), ?_⟩
  dsimp only
  rw [hk]
  refine ⟨_, rfl, _, rfl, _, _, _, _, rfl, rfl, SqL.of el, atI_nat (List.getElem?_eq_getElem hk'), ?_⟩
  cases o with
  | none =>
    obtain ⟨_, T, ty, kt⟩ := tv
    refine ⟨_, rfl, _, _, _, _, false, rfl, (fun _ h => h), ty, kt, _, rfl, iteT ⟨(by show 1 ≤ sizeLine; decide), fun p hp => ?_⟩⟩
    have sp := same_new hp (.tup [V.str "p"])
    exact hqM k p [V.str "p"] [.str "p"] _ hk' sp upd_same (.cons rfl .nil) (by simp; omega)
  | some es =>
    obtain ⟨_, le, a, xs, ea, eh, ale⟩ := tv
    rw [ea]
    exact ⟨_, rfl, _, _, _, _, true, rfl, (fun _ h => h), TyOf.tup eh, kit_same, _, rfl, iteF (hqM k a xs es _ hk' (Same.refl _) eh ale co)⟩
end
end Mine




set_option Elab.async false
set_option linter.all false
set_option maxRecDepth 100000
set_option maxHeartbeats 4000000
namespace Mine
open PySem L2
theorem pss_dead {X : Cx} {ss : List Stmt} : PSs X ss tDead := by
  unfold PSs
  exact fun _ _ _ _ _ _ h => h.elim
def sq13 (s : Stmt) : Expr := match s with
  | .Try [.If _ _ [.If _ _ [.If _ [.Expr (.Call _ [_, e] _ _) _] _ _] _] _] _ _ _ _ => e
  | _ => .Constant .none 0 ⟨0, 0, 0, 0⟩
structure Exc13 (P : Program) (w : World) (K : PySem.W.Frag) (mg : Str → Option Value) (base : Heap) (CS CR CP CE CL : Addr) : Prop where
  ms : mg "SayError" = some (.ref CS)
  mr : mg "NoRows" = some (.ref CR)
  mp : mg "NoPoint" = some (.ref CP)
  me : mg "NoLetter" = some (.ref CE)
  ml : mg "NoLine" = some (.ref CL)
  cs : CatchCls K CS
  er : ExcCls K CR
  rs : PySem.W.mroIn K CR (.ref CS) = some true
  k1 : PySem.W.kitOne K (.ref CR) (.ref CR) = some true
  k2 : PySem.W.kitOne K (.ref CR) (.type "ValueError") = some true
  k3 : PySem.W.kitOne K (.ref CR) (.ref CP) = some false
  k4 : PySem.W.kitOne K (.ref CR) (.ref CE) = some false
  k5 : PySem.W.kitOne K (.ref CR) (.ref CL) = some false
  xr : XC1 P w K mg base "NoRows" CR "at"
def spRaise2 (K : PySem.W.Frag) (C : Addr) : Sp := fun vs H Q E => ∃ (l : Addr) (us : List V) (os : List Tg) (k : Nat) (y : V), vs = [.ref l, y] ∧ H l = some (.lst us) ∧ All2 (TgV K H) us os ∧ os.length ≤ 1000 ∧ flt13 os = some k ∧
  ∀ d H1, Same H H1 → H1 d = none → E (.ref C) (some d) (upd H1 d (.ext (XDict d [("at", .int (k : Int))])))
def spRef13 (K : PySem.W.Frag) : Sp := fun vs H Q _ => ∃ (l : Addr) (us : List V) (os : List Tg) (k : Nat) (way : Int), vs = [.ref l, .int way] ∧ H l = some (.lst us) ∧ All2 (TgV K H) us os ∧ os.length ≤ 1000 ∧ flt13 os = some k ∧ ∀ H', Same H H' → Q (.int (k : Int)) H'
section
variable {P : Program} {w : World} {K : PySem.W.Frag} {mg : Str → Option Value} {base : Heap}
theorem ok_worthR {C : Addr} (T : TopDef K mg "worth_of_rows" s_worth_of_rows) (D_must_be_rows : DefD P w K mg base 5 "must_be_rows" ["things"] (spMust13 K C)) : DefD P w K mg base 6 "worth_of_rows" ["rows", "point"] (spRaise2 K C) := by
  refine defd_of T sc_worth_of_rows (fun _ _ _ _ _ _ => ar2 fun _ _ => rfl) (fun vs H Q E h => ?_) (fun f cdv A outer s H vs Q E hr h => ?_)
  · obtain ⟨l, us, os, k, y, rfl, _⟩ := h
    rfl
  obtain ⟨l, us, os, k, y, rfl, el, al, few, ef, q⟩ := h
  exact ⟨_, pss_cons (ps_expr (pe_defP D_must_be_rows (hr.mono (by decide)) rfl (pa_cons (pv 0) pa_nil))) pss_dead, _, rfl, l, us, os, k, rfl, el, al, few, ef, q⟩
theorem ok_rulesOn {C : Addr} (T : TopDef K mg "rules_on" s_rules_on) (D_must_be_rows : DefD P w K mg base 5 "must_be_rows" ["things"] (spMust13 K C)) : DefD P w K mg base 6 "rules_on" ["rows", "hull"] (spRaise2 K C) := by
  refine defd_of T sc_rules_on (fun _ _ _ _ _ _ => ar2 fun _ _ => rfl) (fun vs H Q E h => ?_) (fun f cdv A outer s H vs Q E hr h => ?_)
  · obtain ⟨l, us, os, k, y, rfl, _⟩ := h
    rfl
  obtain ⟨l, us, os, k, y, rfl, el, al, few, ef, q⟩ := h
  exact ⟨_, pss_cons (ps_expr (pe_defP D_must_be_rows (hr.mono (by decide)) rfl (pa_cons (pv 0) pa_nil))) pss_dead, _, rfl, l, us, os, k, rfl, el, al, few, ef, q⟩
theorem ok_lineR {C : Addr} (T : TopDef K mg "line_of_rows" s_line_of_rows) (D_must_be_rows : DefD P w K mg base 5 "must_be_rows" ["things"] (spMust13 K C)) : DefD P w K mg base 6 "line_of_rows" ["rows"] (spMust13 K C) := by
  refine defd_of T sc_line_of_rows (fun _ _ _ _ _ _ => ar1 fun _ => rfl) (fun vs H Q E h => ?_) (fun f cdv A outer s H vs Q E hr h => ?_)
  · obtain ⟨l, us, os, k, rfl, _⟩ := h
    rfl
  obtain ⟨l, us, os, k, rfl, el, al, few, ef, q⟩ := h
  exact ⟨_, pss_cons (ps_expr (pe_defP D_must_be_rows (hr.mono (by decide)) rfl (pa_cons (pv 0) pa_nil))) pss_dead, _, rfl, l, us, os, k, rfl, el, al, few, ef, q⟩
theorem ok_refused13 {C_SayError C_NoRows C_NoPoint C_NoLetter C_NoLine : Addr} (T : TopDef K mg "_law_refused" s_l_refused) (Z_isinstance : mg "isinstance" = none) (Z_ValueError : mg "ValueError" = none) (X : Exc13 P w K mg base C_SayError C_NoRows C_NoPoint C_NoLetter C_NoLine)
    (D_worth_of_rows : DefD P w K mg base 6 "worth_of_rows" ["rows", "point"] (spRaise2 K C_NoRows)) (D_rules_on : DefD P w K mg base 6 "rules_on" ["rows", "hull"] (spRaise2 K C_NoRows)) (D_line_of_rows : DefD P w K mg base 6 "line_of_rows" ["rows"] (spMust13 K C_NoRows)) (D_law_whole : Def P w K mg base 1 "_law_whole" ["_law_found"] spLWhole) :
    Def P w K mg base 7 "_law_refused" ["_law_things", "_law_way"] (spRef13 K) := by
  have M_SayError := X.ms
  have M_NoRows := X.mr
  have M_NoPoint := X.mp
  have M_NoLetter := X.me
  have M_NoLine := X.ml
  have CC_SayError := X.cs
  refine def_of T sc_l_refused (fun _ _ _ _ _ _ us hl => match us, hl with | [_, _], _ => rfl) (fun vs H Q E h => ?_) (fun f cdv A outer s H vs Q E hr h => ?_)
  · obtain ⟨l, us, os, k, way, rfl, _⟩ := h
    rfl
  obtain ⟨l, us, os, k, way, rfl, el, al, few, ef, q⟩ := h
  have nd := sc_l_refused.nd
  have tl : ∃ t, Hold (cxOf CX0 P w K mg base n_l_refused "_law_refused" (defScope s_l_refused) f cdv A outer s H E).nox ((defBody s_l_refused).drop 2) t ∧ ∀ (ea d : Addr) (o3 : Option V) (H1 : Hp), Same H H1 → H1 ea = some (.ext (XGot ea C_NoRows (some d))) → H1 d = some (.ext (XDict d [("at", .int (k : Int))])) →
      t { nx := fun _ H' => Q .non H', rt := Q } [some (.ref l), some (.int way), some (.ref ea), o3] H1 := by
    refine ⟨_, ⟨(pss_cons (ps_if (PW.pt (pw_or (pt_not (pt_val (pe_callB call_isiG rfl Z_isinstance (by decide +kernel) (pa_cons (pv 2) (pa_cons (pe_glob (v := V.ref C_NoRows) rfl M_NoRows rfl) pa_nil))))) (pw_or (pt_not (pt_val (pe_callB call_isiG rfl Z_isinstance (by decide +kernel) (pa_cons (pv 2) (pa_cons (pe_bltn (v := V.ty "ValueError") rfl Z_ValueError (by decide +kernel) rfl) pa_nil))))) (pw_or1 (pt_not (pt_val (pe_def D_law_whole (hr.mono (by omega)) rfl (pa_cons (pe_fldGK (K := K) rfl (pv 2) rfl) pa_nil)))))))) (pss_one (ps_ret pe_non)) pss_nil)
    (pss_cons (ps_if (PW.pt (pw_or (pt_val (pe_callB call_isiG rfl Z_isinstance (by decide +kernel) (pa_cons (pv 2) (pa_cons (pe_glob (v := V.ref C_NoPoint) rfl M_NoPoint rfl) pa_nil)))) (pw_or (pt_val (pe_callB call_isiG rfl Z_isinstance (by decide +kernel) (pa_cons (pv 2) (pa_cons (pe_glob (v := V.ref C_NoLetter) rfl M_NoLetter rfl) pa_nil)))) (pw_or1 (pt_val (pe_callB call_isiG rfl Z_isinstance (by decide +kernel) (pa_cons (pv 2) (pa_cons (pe_glob (v := V.ref C_NoLine) rfl M_NoLine rfl) pa_nil)))))))) (pss_one (ps_ret pe_non)) pss_nil)
    (pss_one (ps_ret (pe_fldGK (K := K) rfl (pv 2) rfl)))))⟩, ?_⟩
    intro ea d o3 H1 s1 he hd
    refine ⟨_, rfl, ea, _, _, C_NoRows, _, true, rfl, (fun _ h => h), he, X.er, X.k1, _, rfl, iteF ?_⟩
    refine ⟨_, rfl, ea, _, _, C_NoRows, _, true, rfl, (fun _ h => h), he, X.er, X.k2, _, rfl, iteF ?_⟩
    refine ⟨_, rfl, ea, C_NoRows, d, _, _, rfl, he, hd, X.xr.fl, X.xr.n1, rfl, _, .int (k : Int), rfl, rfl, _, rfl, iteF ?_⟩
    refine ⟨_, rfl, ea, _, _, C_NoRows, _, false, rfl, (fun _ h => h), he, X.er, X.k3, _, rfl, iteF ?_⟩
    refine ⟨_, rfl, ea, _, _, C_NoRows, _, false, rfl, (fun _ h => h), he, X.er, X.k4, _, rfl, iteF ?_⟩
    refine ⟨_, rfl, ea, _, _, C_NoRows, _, false, rfl, (fun _ h => h), he, X.er, X.k5, _, rfl, iteF ?_⟩
    exact ⟨_, rfl, ea, C_NoRows, d, _, _, rfl, he, hd, X.xr.fl, X.xr.n1, rfl, q _ s1⟩
  obtain ⟨tL, htL, hqL⟩ := tl
  have xs : ∃ te, PE (cxOf CX0 P w K mg base n_l_refused "_law_refused" (defScope s_l_refused) f cdv A outer s H E).nox (sq13 ((defBody s_l_refused).getD 1 (.Pass ⟨0, 0, 0, 0⟩))) te ∧ ∀ σ H Q, ltVar σ (.lst [(.tup [(.int 1), (.int 0), (.int 0)]), (.tup [(.int 1), (.int 1), (.int 0)]), (.tup [(.int 1), (.int 1), (.int 1)]), (.tup [(.int 1), (.int 0), (.int 1)])]) = true → (∀ v H', Same H H' → LtV σ H' (.lst [(.tup [(.int 1), (.int 0), (.int 0)]), (.tup [(.int 1), (.int 1), (.int 0)]), (.tup [(.int 1), (.int 1), (.int 1)]), (.tup [(.int 1), (.int 0), (.int 1)])]) v → Q v H') → te σ H Q := by
    refine lit_ex (N := n_l_refused) (sc := defScope s_l_refused) ?_ ?_ ?_
    · kernel_rfl
    · rfl
    · rfl
  obtain ⟨tS, htS, hqS⟩ := xs
  refine ⟨_, pss_cons (ps_set (i := 2) nd rfl (Or.inl rfl) pe_non) (pss_consH (ps_tryB (ptry_if rfl (pt_cmpR op_eq (pv 1) pe_int (nomark _)) (ptry_call (j := 3) rfl rfl rfl rfl D_worth_of_rows (hr.mono (by decide)) rfl (pa_cons (pv 0) (pa_cons (pe_tup (pa_cons pe_int (pa_cons pe_int (pa_cons pe_int pa_nil)))) pa_nil)) rfl M_SayError CC_SayError nd rfl rfl (fun _ => (pss_one (ps_set (i := 2) nd rfl (Or.inl rfl) (pv 3))))) (ptry_if rfl (pt_cmpR op_eq (pv 1) pe_int (nomark _)) (ptry_call (j := 3) rfl rfl rfl rfl D_worth_of_rows (hr.mono (by decide)) rfl (pa_cons (pv 0) (pa_cons (pe_tup (pa_cons pe_int (pa_cons pe_int (pa_cons pe_int pa_nil)))) pa_nil)) rfl M_SayError CC_SayError nd rfl rfl (fun _ => (pss_one (ps_set (i := 2) nd rfl (Or.inl rfl) (pv 3))))) (ptry_if rfl (pt_cmpR op_eq (pv 1) pe_int (nomark _)) (ptry_call (j := 3) rfl rfl rfl rfl D_rules_on (hr.mono (by decide)) rfl (pa_cons (pv 0) (pa_cons (by assumption) pa_nil)) rfl M_SayError CC_SayError nd rfl rfl (fun _ => (pss_one (ps_set (i := 2) nd rfl (Or.inl rfl) (pv 3))))) (ptry_call (j := 3) rfl rfl rfl rfl D_line_of_rows (hr.mono (by decide)) rfl (pa_cons (pv 0) pa_nil) rfl M_SayError CC_SayError nd rfl rfl (fun _ => (pss_one (ps_set (i := 2) nd rfl (Or.inl rfl) (pv 3))))))))) htL), ?_⟩
  have fin : ∀ (d : Addr) (H0 H1 : Hp), Same H H0 → Same H0 H1 → H1 d = none → ∃ Cn, (Value.ref C_NoRows) = .ref Cn ∧ PySem.W.mroIn K Cn (.ref C_SayError) = some true ∧ ∀ ea, upd H1 d (.ext (XDict d [("at", .int (k : Int))])) ea = none →
      tL { nx := fun _ H' => Q .non H', rt := Q } [some (.ref l), some (.int way), some (.ref ea), none] (upd (upd H1 d (.ext (XDict d [("at", .int (k : Int))]))) ea (.ext (XGot ea Cn (some d)))) := by
    intro d H0 H1 s0 s1 hd
    refine ⟨C_NoRows, rfl, X.rs, fun ea hea => ?_⟩
    have u1 := same_new hd (.ext (XDict d [("at", .int (k : Int))]))
    have u2 := same_new hea (.ext (XGot ea C_NoRows (some d)))
    exact hqL ea d none _ ((s0.trans s1).trans (u1.trans u2)) upd_same (u2 _ _ upd_same)
  have suite : ∀ (d : Addr) (H0 H1 : Hp) (σ1 : St), Same H H0 → Same H0 H1 → H1 d = none → True := fun _ _ _ _ _ _ _ => trivial
  refine ⟨_, rfl, rfl, _, rfl, ?_⟩
  refine ite2 (fun _ => ?_) (fun _ => ?_)
  · refine ⟨_, rfl, (by show 3 ≤ sizeLine; decide), fun p hp => ?_⟩
    have sp := same_new hp (.tup [V.int 3, .int 1, .int 2])
    refine ⟨l, us, os, k, _, rfl, sp _ _ el, al.imp (TgV.same sp), few, ef, fun d H1 s1 hd => ?_⟩
    obtain ⟨Cn, e1, e2, e3⟩ := fin d _ H1 sp s1 hd
    exact ⟨Cn, e1, e2, fun ea hea => ⟨_, rfl, e3 ea hea⟩⟩
  refine ⟨_, rfl, rfl, _, rfl, ?_⟩
  refine ite2 (fun _ => ?_) (fun _ => ?_)
  · refine ⟨_, rfl, (by show 3 ≤ sizeLine; decide), fun p hp => ?_⟩
    have sp := same_new hp (.tup [V.int 0, .int 0, .int 0])
    refine ⟨l, us, os, k, _, rfl, sp _ _ el, al.imp (TgV.same sp), few, ef, fun d H1 s1 hd => ?_⟩
    obtain ⟨Cn, e1, e2, e3⟩ := fin d _ H1 sp s1 hd
    exact ⟨Cn, e1, e2, fun ea hea => ⟨_, rfl, e3 ea hea⟩⟩
  refine ⟨_, rfl, rfl, _, rfl, ?_⟩
  refine ite2 (fun _ => ?_) (fun _ => ?_)
  · refine ⟨_, rfl, ?_⟩
    refine hqS _ _ _ rfl fun v2 H2 s2 l2 => ?_
    refine ⟨l, us, os, k, _, rfl, s2 _ _ el, al.imp (TgV.same s2), few, ef, fun d H1 s1 hd => ?_⟩
    obtain ⟨Cn, e1, e2, e3⟩ := fin d _ H1 s2 s1 hd
    exact ⟨Cn, e1, e2, fun ea hea => ⟨_, rfl, e3 ea hea⟩⟩
  · refine ⟨_, rfl, l, us, os, k, rfl, el, al, few, ef, fun d H1 s1 hd => ?_⟩
    obtain ⟨Cn, e1, e2, e3⟩ := fin d _ H1 (Same.refl _) s1 hd
    exact ⟨Cn, e1, e2, fun ea hea => ⟨_, rfl, e3 ea hea⟩⟩
end
end Mine




set_option Elab.async false
set_option linter.all false
set_option maxRecDepth 100000
set_option maxHeartbeats 4000000
namespace L2
open PySem PySem.Spec PyProof.Rows
end L2
namespace Mine
open PySem L2
/-! ### a comprehension over range, without a test -/
theorem comp_range {wi : TI} {te : TE} {js : List Nat} {σ : St} {H0 : Hp} {Q : VK} {lo : Int} {n : Nat} (Src : Hp → Prop) (hwi : ∀ R : It → Hp → Prop, (∀ H, Src H → R (Itr lo n) H) → wi σ H0 R) (hx : n ≤ 1000)
    (Pv : Addr → Nat → List V → Hp → Prop) (h0 : ∀ H D, Src H → H D = none → Pv D 0 [] (upd H D (.lst [])))
    (hs : ∀ D i ys H', i < n → H' D = some (.lst ys) → Pv D i ys H' → ∀ N : VK, (∀ y H'', H'' D = some (.lst ys) → Pv D (i + 1) (ys ++ [y]) (upd H'' D (.lst (ys ++ [y]))) → N y H'') → te (some (.int (lo + i)) :: cVals js σ) H' N)
    (hd : ∀ D ys H', H' D = some (.lst ys) → Pv D n ys H' → Q (.ref D) H') : tComp wi tNoIf te js σ H0 Q := by
  refine hwi _ fun H src => ?_
  intro D hD
  refine ⟨fun i m H' => m = n - i ∧ i ≤ n ∧ ∃ ys, ys.length = i ∧ H' D = some (.lst ys) ∧ Pv D i ys H', ⟨n, rfl, Nat.zero_le _, [], rfl, upd_same, h0 H D src hD⟩, ?_⟩
  rintro i m H2 ⟨rfl, hi, ys, hy, eD, p⟩
  by_cases hlt : i < n
  · refine .inr ⟨hlt, fun v H3 y => ?_⟩
    obtain ⟨eh, ev⟩ := y
    subst eh ev
    refine tNoIf_go ?_
    refine hs D i ys _ hlt eD p _ fun y H5 z2 z3 => ?_
    exact ⟨ys, z2, Nat.lt_of_le_of_lt (show ys.length ≤ 1000 by omega) (by decide), n - (i + 1), by omega, rfl, hlt, ys ++ [y], by rw [List.length_append, hy]; rfl, upd_same, z3⟩
  · have ei : i = n := by omega
    subst ei
    exact .inl ⟨Nat.le_refl _, hd D ys H2 eD p⟩
theorem All2.mem {α : Type} {R R' : V → α → Prop} {us : List V} {ts : List α} (h : All2 R us ts) (k : ∀ v ∈ us, ∀ t, R v t → R' v t) : All2 R' us ts := by
  induction h with
  | nil => exact .nil
  | cons r _ ih => exact .cons (k _ List.mem_cons_self _ r) (ih fun v hv => k v (List.mem_cons_of_mem _ hv))
/-- one that makes something new of each number, all that stood stays -/
theorem comp_rangeM {wi : TI} {te : TE} {js : List Nat} {σ : St} {H : Hp} {Q : VK} {lo : Int} {n : Nat} (R : Hp → V → Nat → Prop) (hR : ∀ D H H' v i, SB (.ref D) H H' → v ≠ .ref D → R H v i → R H' v i) (Src : Hp → Prop) (hwi : ∀ R : It → Hp → Prop, (∀ H, Src H → R (Itr lo n) H) → wi σ H R) (hsrc : ∀ H', Src H' → Same H H') (hx : n ≤ 1000)
    (hs : ∀ i H' (N : VK), i < n → Same H H' → (∀ v H'', Same H' H'' → (∀ a, v = .ref a → H' a = none) → R H'' v i → N v H'') → te (some (.int (lo + i)) :: cVals js σ) H' N)
    (hd : ∀ D ys H', Same H H' → H D = none → H' D = some (.lst ys) → All2 (R H') ys (List.range n) → Q (.ref D) H') : tComp wi tNoIf te js σ H Q := by
  refine comp_range Src hwi hx (fun D i ys H' => H D = none ∧ Same H H' ∧ (∀ v ∈ ys, v ≠ .ref D) ∧ All2 (R H') ys (List.range i)) (fun H' D src hD => ⟨(hsrc H' src).free hD, (hsrc H' src).trans (same_new hD _), (fun _ z => nomatch z), .nil⟩) (fun D i ys H' hi eD h N hN => ?_) (fun D ys H' eD h => hd D ys H' h.2.1 h.1 eD h.2.2.2)
  obtain ⟨hD, sm, nD, al⟩ := h
  refine hs i H' N hi sm fun v H'' s2 fr r => ?_
  have eD2 := s2 _ _ eD
  have nv : v ≠ .ref D := fun z => by have := fr D z; rw [eD] at this; cases this
  have sb1 : SB (.ref D) H' (upd H'' D (.lst (ys ++ [v]))) := (SB.of s2).trans (sb_upd _ _)
  refine hN v H'' eD2 ⟨hD, same_mut (sm.trans s2) hD _, fun u hu => ?_, ?_⟩
  · rcases List.mem_append.mp hu with hu | hu
    · exact nD u hu
    · rw [List.mem_singleton.mp hu]; exact nv
  · rw [List.range_succ]
    exact (al.mem fun u hu t ru => hR D _ _ _ _ sb1 (nD u hu) ru).app (.cons (hR D _ _ _ _ (sb_upd _ _) nv r) .nil)
end Mine


set_option Elab.async false
set_option linter.all false
set_option maxRecDepth 100000
set_option maxHeartbeats 4000000
open PySem L2 Mine
local macro_rules | `(tactic| walk_at "mul") => `(tactic| first | exact mulS (by assumption) (by assumption) | exact mulS (by first | assumption | exact sm_of (by omega) | exact sm_of (by decide) | exact sm_mod (by decide) (by decide)) (by first | assumption | exact sm_of (by omega) | exact sm_of (by decide) | exact sm_mod (by decide) (by decide)))
local macro_rules | `(tactic| walk_at "rd1") => `(tactic| first
  | refine ⟨_, rfl, ?_⟩
  | refine ⟨_, _, rfl, rfl, ?_⟩
  | (refine' ⟨_, _, _, _, rfl, rfl, ?sq, ?ia, ?k⟩; (case' sq => first | assumption | exact Scr.l (by assumption)); (case' ia => first | rfl | assumption))
  | refine ⟨rfl, ?_⟩
  | (refine ⟨?m, ?_⟩; (case' m => walk_at "mul"))
  | (refine ⟨?m, ?_⟩; (case' m => exact div_ok (by first | assumption | omega) (by assumption)))
  | (refine ⟨?m, ?_⟩; (case' m => show (0 : Int) < _; decide))
  | (refine ⟨?m, ?_⟩; (case' m => exact ⟨by decide, by decide⟩))
  | (refine ⟨?m, ?_⟩; (case' m => exact ⟨by decide, by decide, by decide⟩)))
local macro_rules | `(tactic| walk_at "rd") => `(tactic| repeat walk_at "rd1")

namespace Mine
open PySem L2
abbrev GrV (H : Hp) (v : V) (g : Gr) : Prop := RwV H v g.rw
end Mine

namespace Mine
open PySem L2
def spCell (K : PySem.W.Frag) : Sp := fun vs H Q _ => ∃ (a : Addr) (ns : List Int) (k : Int), vs = [.ref a, .int k] ∧ Scr K H a ns ∧ 0 ≤ k ∧ k ≤ 100 ∧ ∀ v : Int, bits v ≤ 1048577 → Q (.int v) H
theorem bits_half {u : Int} (h : bits u ≤ 1048576) : bits (u / 2) ≤ 1048577 := by
  refine Nat.le_trans ?_ (show 1048576 ≤ 1048577 by decide)
  rw [bits, intBits_le_iff] at h ⊢
  have := Int.mul_ediv_add_emod u 2
  have := Int.emod_nonneg u (show (2 : Int) ≠ 0 by decide)
  have := Int.emod_lt_of_pos u (show (0 : Int) < 2 by decide)
  omega
theorem bits_small {u : Int} (h0 : 0 ≤ u) (h : u < 2147483629) : bits u ≤ 1048577 := Nat.le_trans (intBits_le_64 (by omega) (by omega)) (by decide)
abbrev n_cell : List Str := ["_law_script", "_law_k", "_law_cell_here", "_law_first", "_law_second"]
section
variable {P : Program} {w : World} {K : PySem.W.Frag} {mg : Str → Option Value} {base : Heap}
theorem sc_cell : FnScope n_cell ["_law_script", "_law_k"] (defScope s_l_cell) := ⟨rfl, rfl, rfl, by decide +kernel, rfl, by decide +kernel, by decide +kernel⟩
theorem ok_cell (T : TopDef K mg "_law_cell" s_l_cell) (Z_len : mg "len" = none) : Def P w K mg base 1 "_law_cell" ["_law_script", "_law_k"] (spCell K) := by
  refine def_of T sc_cell (fun _ _ _ _ _ _ us hl => match us, hl with | [_, _], _ => rfl) (fun vs H Q E h => ?_) (fun f cdv A outer s H vs Q E hr h => ?_)
  · obtain ⟨a, ns, k, rfl, _⟩ := h
    rfl
  obtain ⟨a, ns, k, rfl, S, h0, h1, q⟩ := h
  have nd := sc_cell.nd
  have hl : (ns.map V.int).length = ns.length := List.length_map _
  have sk : Sm k := sm_of (by omega)
  have t3 : ∃ t, PSs (cxOf CX0 P w K mg base n_cell "_law_cell" (defScope s_l_cell) f cdv A outer s H E).nox ((defBody s_l_cell).drop 3) t ∧
      ∀ v : Int, 0 ≤ v → v < 10 ^ 18 → t { nx := fun _ H' => Q .non H', rt := Q } [some (.ref a), some (.int k), some (.int v), none, none] H := by
    refine ⟨_, (pss_cons (ps_set (i := 3) nd rfl (Or.inl rfl) (pe_op op_mod (pe_op op_mulK (pe_op op_add (pe_op op_add (pe_op op_add (pv 2) (pe_op op_mulK (pe_op op_mulK pe_int (pv 1)) (pv 1))) (pe_op op_mulK pe_int (pv 1))) pe_int) pe_int) pe_int))
    (pss_cons (ps_set (i := 4) nd rfl (Or.inl rfl) (pe_op op_mod (pe_op op_add (pe_op op_mulK (pv 3) (pv 3)) (pv 1)) pe_int))
    (pss_one (ps_ret (pe_op op_mod (pe_op op_add (pe_op op_mulK (pv 4) pe_int) (pv 3)) pe_int))))), fun v v0 v1 => ?_⟩
    have sv : Sm v := sm_of (by omega)
    have kk : 0 ≤ 7 * k * k ∧ 7 * k * k ≤ 700 * 100 := ⟨Int.mul_nonneg (by omega) h0, Int.mul_le_mul (by omega) h1 h0 (by omega)⟩
    have s7 : Sm (7 * k) := sm_of (by omega)
    have s1 : Sm (v + 7 * k * k + 13 * k + 5) := sm_of (by omega)
    walk_at "rd"
    exact q _ (bits_small (Int.emod_nonneg _ (by decide)) (Int.emod_lt_of_pos _ (by decide)))
  obtain ⟨t3, ht3, hq3⟩ := t3
  refine ⟨_, pss_cons (ps_if (PW.pt (pw_and (pt_cmpR op_gt (pe_callB call_len rfl Z_len (by decide +kernel) (pa_cons (pv 0) pa_nil)) pe_int (nomark _)) (pw_and1 (pt_cmpR op_eq (pe_op op_mod (pe_ix ix_list (pv 0) pe_int (fun _ _ => rfl)) pe_int) pe_int (nomark _))))) (pss_cons (ps_if (pt_cmpR op_eq (pv 1) pe_int (nomark _)) (pss_one (ps_ret (pe_op op_fdiv (pe_ix ix_list (pv 0) pe_int (fun _ _ => rfl)) pe_int))) pss_nil)
    (pss_cons (ps_if (pt_cmpR op_lt (pv 1) (pe_callB call_len rfl Z_len (by decide +kernel) (pa_cons (pv 0) pa_nil)) (nomark _)) (pss_one (ps_ret (pe_ix ix_list (pv 0) (pv 1) (fun _ _ => rfl)))) pss_nil)
    (pss_one (ps_ret pe_int)))) pss_nil) (pss_cons (ps_set (i := 2) nd rfl (Or.inl rfl) pe_int) (pss_cons (ps_if (pt_cmpR op_gt (pe_callB call_len rfl Z_len (by decide +kernel) (pa_cons (pv 0) pa_nil)) pe_int (nomark _)) (pss_one (ps_set (i := 2) nd rfl (Or.inl rfl) (pe_op op_mod (pe_ix ix_list (pv 0) (pe_op op_modN (pv 1) (pe_callB call_len rfl Z_len (by decide +kernel) (pa_cons (pv 0) pa_nil))) (fun _ _ => rfl)) (pe_op op_pow pe_int pe_int)))) pss_nil) ht3)), ?_⟩
  refine ⟨_, rfl, _, _, rfl, .inl ⟨_, S.l, rfl⟩, _, _, rfl, rfl, _, rfl, ?_⟩
  refine ite2 (fun c => ?_) (fun c => iteF ?_)
  · have c' : (0 : Int) < ((ns.map V.int).length : Nat) := of_decide_eq_true c
    rw [hl] at c'
    obtain ⟨u, hu, mu⟩ := at_script (ns := ns) (Int.le_refl 0) c'
    refine ⟨_, rfl, _, _, _, _, rfl, rfl, S.l, hu, _, _, rfl, rfl, (show (0 : Int) < _ by decide), rfl, _, rfl, ?_⟩
    refine ite2 (fun c2 => ?_) (fun c2 => ?_)
    · refine ⟨_, rfl, rfl, _, rfl, ?_⟩
      refine ite2 (fun c3 => ?_) (fun c3 => ?_)
      · exact ⟨_, rfl, _, _, _, _, rfl, rfl, S.l, hu, _, _, rfl, rfl, ⟨by decide, by decide⟩, q _ (bits_half (S.bit _ mu))⟩
      · refine ⟨_, rfl, _, rfl, _, _, rfl, .inl ⟨_, S.l, rfl⟩, _, _, rfl, rfl, _, rfl, ?_⟩
        refine ite2 (fun c4 => ?_) (fun c4 => ?_)
        · have c5 : k < (((ns.map V.int).length : Nat) : Int) := of_decide_eq_true c4
          rw [hl] at c5
          obtain ⟨u2, hu2, m2⟩ := at_script (ns := ns) h0 c5
          exact ⟨_, rfl, _, rfl, _, _, _, _, rfl, rfl, S.l, hu2, q _ (Nat.le_trans (S.bit _ m2) (by decide))⟩
        · exact q _ (by decide)
    · refine ⟨_, rfl, _, _, rfl, .inl ⟨_, S.l, rfl⟩, _, _, rfl, rfl, _, rfl, ?_⟩
      refine ite2 (fun _ => ?_) (fun z => absurd c z)
      have z0 : (0 : Int) < ((ns.map V.int).length : Nat) := of_decide_eq_true c
      have e0 := Int.fmod_nonneg_of_pos k z0
      have e1 := Int.fmod_lt_of_pos k z0
      obtain ⟨u2, hu2, _⟩ := at_script (ns := ns) e0 (by rw [← hl]; exact e1)
      refine ⟨_, rfl, _, rfl, _, rfl, _, _, rfl, .inl ⟨_, S.l, rfl⟩, _, _, rfl, rfl, (by omega), _, _, _, _, rfl, rfl, S.l, hu2, _, _, rfl, rfl, ⟨by decide, by decide, by decide⟩, _, _, rfl, rfl, (show (0 : Int) < _ by decide), ?_⟩
      exact hq3 _ (Int.emod_nonneg _ (by decide)) (Int.emod_lt_of_pos _ (by decide))
  · refine ⟨_, rfl, _, _, rfl, .inl ⟨_, S.l, rfl⟩, _, _, rfl, rfl, _, rfl, ?_⟩
    refine ite2 (fun z => absurd z c) (fun _ => ?_)
    exact hq3 0 (by decide) (by decide)
end
end Mine

namespace Mine
open PySem L2
def spRowsL (K : PySem.W.Frag) : Sp := fun vs H Q _ => ∃ (a lv : Addr) (ns : List Int) (at_ many : Int) (ls : List Gr), vs = [.ref a, .int at_, .int many, .ref lv] ∧ Scr K H a ns ∧ 0 ≤ at_ ∧ at_ ≤ 20 ∧ 1 ≤ many ∧ many ≤ 56 ∧ H lv = some (.lst (ls.map fun t => .str t.word)) ∧ ls ≠ [] ∧ ls.length ≤ 10 ∧ (∀ t ∈ ls, t.nums = []) ∧
  ∀ (l : Addr) (us : List V) (gs : List Gr) (H' : Hp), Same H H' → H l = none → H' l = some (.lst us) → All2 (GrV H') us gs → GrsOk gs → (gs.length : Int) = many → Q (.ref l) H'
theorem GrV.to {H H' : Hp} (e : Kp H H') (v : V) (g : Gr) (h : GrV H v g) : GrV H' v g := RwV.to e v _ h
theorem GrV.mk {H : Hp} {a : Addr} (g : Gr) (e : H a = some (.tup (.str g.word :: g.nums.map fun i : Nat => .int (i : Int)))) : GrV H (.ref a) g := ⟨a, rfl, by unfold Gr.rw; rw [rowK_kV]; exact e⟩
theorem GrsOk.snoc {gs : List Gr} {g : Gr} (h : GrsOk gs) (hg : GrOk gs.length g) : GrsOk (gs ++ [g]) := fun k x hx => by
  by_cases hk : k < gs.length
  · rw [List.getElem?_append_left hk] at hx
    exact h k x hx
  · rw [List.getElem?_append_right (by omega)] at hx
    have e0 : k - gs.length = 0 := by
      have := (List.getElem?_eq_some_iff.mp hx).1
      simp at this
      omega
    rw [e0] at hx
    cases hx
    have : k = gs.length := by omega
    rw [this]
    exact hg
def forBody (s : Stmt) : List Stmt := match s with
  | .For _ _ b _ _ => b
  | _ => []
theorem mx_ne (k : Int) : (if k > 1 then k else 1) ≠ 0 := by split <;> omega
theorem mx_bd (v k : Int) (h : 1 ≤ k) : 0 ≤ v.fmod (if k > 1 then k else 1) ∧ v.fmod (if k > 1 then k else 1) < k := by
  have e : (if k > 1 then k else 1) = k := by split <;> omega
  rw [e]
  exact ⟨Int.fmod_nonneg_of_pos _ (by omega), Int.fmod_lt_of_pos _ (by omega)⟩
abbrev rowsLN : List Str := ["_law_script", "_law_at", "_law_many", "_law_leaves", "_law_rows_here", "_law_k", "_law_cell_here", "_law_one", "_law_other"]
section
variable {P : Program} {w : World} {K : PySem.W.Frag} {mg : Str → Option Value} {base : Heap} {c : CCs}
theorem sc_rowsL : FnScope rowsLN ["_law_script", "_law_at", "_law_many", "_law_leaves"] (defScope s_l_rows) := ⟨rfl, rfl, rfl, by decide +kernel, rfl, by decide +kernel, by decide +kernel⟩
theorem ok_rowsL (T : TopDef K mg "_law_rows" s_l_rows) (Z_len : mg "len" = none) (Z_range : mg "range" = none) (Z_max : mg "max" = none) (Z_min : mg "min" = none) (D_law_cell : Def P w K mg base 1 "_law_cell" ["_law_script", "_law_k"] (spCell K)) : Def P w K mg base 2 "_law_rows" ["_law_script", "_law_at", "_law_many", "_law_leaves"] (spRowsL K) := by
  refine def_of T sc_rowsL (fun _ _ _ _ _ _ us hl => match us, hl with | [_, _, _, _], _ => rfl) (fun vs H Q E h => ?_) (fun f cdv A outer s H vs Q E hr h => ?_)
  · obtain ⟨a, lv, ns, at_, many, ls, rfl, _⟩ := h
    rfl
  obtain ⟨a, lv, ns, at_, many, ls, rfl, S, a0, a1, m0, m1, elv, lne, ll, lk, q⟩ := h
  have nd := sc_rowsL.nd
  have lpos : 0 < ls.length := List.length_pos_iff.mpr lne
  have rest : ∃ tR, PSs (cxOf CX0 P w K mg base rowsLN "_law_rows" (defScope s_l_rows) f cdv A outer s H E).nox ((forBody ((defBody s_l_rows).getD 1 (.Pass ⟨0, 0, 0, 0⟩))).drop 3) tR ∧ ∀ (D : Ends) (st : Addr) (i : Nat) (v one : Int) (o8 : Option V) (us : List V) (gs : List Gr) (H2 : Hp), H st = none → Same H H2 → H2 st = some (.lst us) → All2 (GrV H2) us gs → GrsOk gs → gs.length = i → i < 56 → (1 ≤ i → 0 ≤ one ∧ one < i) →
      (∀ o8' us' gs' H3, Same H H3 → H3 st = some (.lst us') → All2 (GrV H3) us' gs' → GrsOk gs' → gs'.length = i + 1 → D.nx [some (.ref a), some (.int at_), some (.int many), some (.ref lv), some (.ref st), some (.int (0 + (i : Int))), some (.int v), some (.int one), o8'] H3) →
      tR D [some (.ref a), some (.int at_), some (.int many), some (.ref lv), some (.ref st), some (.int (0 + (i : Int))), some (.int v), some (.int one), o8] H2 := by
    refine ⟨_, (pss_cons (ps_set (i := 8) nd rfl (Or.inl rfl) (pe_op op_modN (pe_op op_fdiv (pv 6) pe_int) (pe_callB (call_max2 rfl) rfl Z_max (by decide +kernel) (pa_cons pe_int (pa_cons (pv 5) pa_nil)))))
    (pss_one (ps_if (PW.pt (pw_or (pt_cmpR op_lt (pe_op op_mod (pv 6) pe_int) pe_int (nomark _)) (pw_or1 (pt_cmpR op_eq (pv 5) pe_int (nomark _))))) (pss_one (ps_expr (pe_bm PySem.F.plainAttrs_list PySem.F.slot_list_append PySem.F.type_list_append mt_append (pv 4) (pa_cons (pe_tup (pa_cons (pe_ix ix_list (pv 3) (pe_op op_modN (pe_op op_fdiv (pv 6) pe_int) (pe_callB call_len rfl Z_len (by decide +kernel) (pa_cons (pv 3) pa_nil))) (fun _ _ => rfl)) pa_nil)) pa_nil)))) (pss_one (ps_if (pt_cmpR op_lt (pe_op op_mod (pv 6) pe_int) pe_int (nomark _)) (pss_one (ps_expr (pe_bm PySem.F.plainAttrs_list PySem.F.slot_list_append PySem.F.type_list_append mt_append (pv 4) (pa_cons (pe_tup (pa_cons pe_str (pa_cons (pv 7) pa_nil))) pa_nil)))) (pss_one (ps_expr (pe_bm PySem.F.plainAttrs_list PySem.F.slot_list_append PySem.F.type_list_append mt_append (pv 4) (pa_cons (pe_tup (pa_cons (pe_ix ix_list (pe_lst (pa_cons pe_str (pa_cons pe_str (pa_cons pe_str (pa_cons pe_str (pa_cons pe_str pa_nil)))))) (pe_op op_mod (pe_op op_fdiv (pv 6) pe_int) pe_int) (fun _ _ => rfl)) (pa_cons (pv 7) (pa_cons (pv 8) pa_nil)))) pa_nil))))))))), ?_⟩
    intro D st i v one o8 us gs H2 h0 sm e al ok gl hi ho fin
    have ul := al.len
    refine ⟨_, rfl, _, _, rfl, rfl, ⟨by decide, by decide⟩, _, rfl, _, _, rfl, _, _, rfl, rfl, mx_ne _, ?_⟩
    obtain ⟨ot, hot⟩ : ∃ ot : Int, ot = (v / 64).fmod (if 0 + (i : Int) > 1 then 0 + (i : Int) else 1) := ⟨_, rfl⟩
    have hob : 1 ≤ i → 0 ≤ ot ∧ ot < i := fun h => by
      have := mx_bd (v / 64) (0 + (i : Int)) (by omega)
      rw [← hot] at this
      omega
    dsimp only
    rw [← hot]
    have push : ∀ (p : Addr) (g : Gr) (H3 : Hp), Same H H3 → H3 st = some (.lst us) → All2 (GrV H3) us gs → GrV H3 (.ref p) g → GrOk i g → D.nx [some (.ref a), some (.int at_), some (.int many), some (.ref lv), some (.ref st), some (.int (0 + (i : Int))), some (.int v), some (.int one), some (.int ot)] (upd H3 st (.lst (us ++ [.ref p]))) := fun p g H3 s3 e3 al3 gv go => by
      have km : Kp H3 (upd H3 st (.lst (us ++ [.ref p]))) := kp_mut e3 rfl
      exact fin _ (us ++ [.ref p]) (gs ++ [g]) _ (same_mut s3 h0 _) upd_same ((al3.imp (GrV.to km)).app (.cons (GrV.to km _ _ gv) .nil)) (ok.snoc (by rw [gl]; exact go)) (by simp [gl])
    have big : us.length < sizeLine := by rw [ul]; exact Nat.lt_of_lt_of_le (show gs.length < 56 by omega) (by decide)
    have hll : ((ls.map fun t => V.str t.word).length : Int) = (ls.length : Int) := by rw [List.length_map]
    have z0 : (0 : Int) < ((ls.map fun t => V.str t.word).length : Nat) := by rw [hll]; omega
    have e0 := Int.fmod_nonneg_of_pos (v / 16) z0
    have e1 := Int.fmod_lt_of_pos (v / 16) z0
    obtain ⟨lf, hlf, mlf⟩ : ∃ lf, atI (ls.map fun t => V.str t.word) ((v / 16).fmod ((ls.map fun t => V.str t.word).length : Nat)) = some (.str lf.word) ∧ lf ∈ ls := by
      generalize (v / 16).fmod ((ls.map fun t => V.str t.word).length : Nat) = j at e0 e1
      have hj : j.toNat < ls.length := by omega
      exact ⟨ls[j.toNat], at_of e0 (by rw [List.getElem?_map, List.getElem?_eq_getElem hj]; rfl), List.getElem_mem hj⟩
    have leaf : GrOk i lf := fun x hx => by rw [lk lf mlf] at hx; cases hx
    have tupl : ∀ p, H2 p = none → GrV (upd H2 p (.tup [.str lf.word])) (.ref p) lf := fun p hp => GrV.mk lf (by rw [upd_same, lk lf mlf]; rfl)
    refine ⟨_, rfl, _, _, rfl, rfl, (show (0 : Int) < 16 by decide), _, _, rfl, rfl, _, rfl, ?_⟩
    refine ite2 (fun g1 => iteT ?_) (fun g1 => ?_)
    · refine ⟨_, rfl, .inl ⟨rfl, _, SqL.of e⟩, _, rfl, _, rfl, _, _, rfl, rfl, ⟨by decide, by decide⟩, _, rfl, _, _, rfl, .inl ⟨_, SqL.of (sm _ _ elv), rfl⟩, _, _, rfl, rfl, (by omega), _, _, _, _, rfl, rfl, SqL.of (sm _ _ elv), hlf, (by show 1 ≤ sizeLine; decide), fun p hp => ?_⟩
      have sp := same_new hp (.tup [.str lf.word])
      exact ⟨st, _, _, rfl, rfl, sp _ _ e, big, push p lf _ (sm.trans sp) (sp _ _ e) (al.imp (GrV.to (Kp.of sp))) (tupl p hp) leaf⟩
    refine ⟨_, rfl, rfl, _, rfl, ?_⟩
    refine ite2 (fun g2 => ?_) (fun g2 => ?_)
    · refine ⟨_, rfl, .inl ⟨rfl, _, SqL.of e⟩, _, rfl, _, rfl, _, _, rfl, rfl, ⟨by decide, by decide⟩, _, rfl, _, _, rfl, .inl ⟨_, SqL.of (sm _ _ elv), rfl⟩, _, _, rfl, rfl, (by omega), _, _, _, _, rfl, rfl, SqL.of (sm _ _ elv), hlf, (by show 1 ≤ sizeLine; decide), fun p hp => ?_⟩
      have sp := same_new hp (.tup [.str lf.word])
      exact ⟨st, _, _, rfl, rfl, sp _ _ e, big, push p lf _ (sm.trans sp) (sp _ _ e) (al.imp (GrV.to (Kp.of sp))) (tupl p hp) leaf⟩
    have i1 : 1 ≤ i := by
      rcases Nat.eq_zero_or_pos i with z | z
      · subst z; exact absurd (decide_eq_true rfl) g2
      · exact z
    obtain ⟨o1, o2⟩ := ho i1
    obtain ⟨t1, t2⟩ := hob i1
    have en : one = ((one.toNat : Nat) : Int) := by omega
    have et : ot = ((ot.toNat : Nat) : Int) := by omega
    refine ⟨_, rfl, _, _, rfl, rfl, (show (0 : Int) < 16 by decide), _, _, rfl, rfl, _, rfl, ?_⟩
    refine ite2 (fun g3 => ?_) (fun g3 => ?_)
    · refine ⟨_, rfl, .inl ⟨rfl, _, SqL.of e⟩, _, rfl, (by show 2 ≤ sizeLine; decide), fun p hp => ?_⟩
      have sp := same_new hp (.tup [.str "not", .int one])
      refine ⟨st, _, _, rfl, rfl, sp _ _ e, big, push p (.no one.toNat) _ (sm.trans sp) (sp _ _ e) (al.imp (GrV.to (Kp.of sp))) (GrV.mk (.no one.toNat) ?_) (fun x hx => ?_)⟩
      · rw [upd_same]
        show some (HO.tup [V.str "not", .int one]) = some (HO.tup [V.str "not", .int ((one.toNat : Nat) : Int)])
        rw [← en]
      · have : x = one.toNat := by simpa [Gr.nums] using hx
        omega
    · refine ⟨_, rfl, .inl ⟨rfl, _, SqL.of e⟩, (by show 5 ≤ sizeLine; decide), fun l5 h5 => ?_⟩
      have s5 := same_new h5 (.lst [V.str "more", .str "less", .str "greater", .str "lesser", .str "leads"])
      obtain ⟨u, hu5⟩ : ∃ u : W5, atI [V.str "more", .str "less", .str "greater", .str "lesser", .str "leads"] (v / 1024 % 5) = some (.str u.str) := word_at _ (Int.emod_nonneg _ (by decide)) (Int.emod_lt_of_pos _ (by decide))
      refine ⟨_, rfl, _, _, rfl, rfl, ⟨by decide, by decide⟩, _, _, rfl, rfl, (show (0 : Int) < 5 by decide), _, _, _, _, rfl, rfl, SqL.of upd_same, hu5, _, rfl, _, rfl, (by show 3 ≤ sizeLine; decide), fun p hp => ?_⟩
      have sp := s5.trans (same_new hp (.tup [.str u.str, .int one, .int ot]))
      refine ⟨st, _, _, rfl, rfl, sp _ _ e, big, push p (.fold u one.toNat ot.toNat) _ (sm.trans sp) (sp _ _ e) (al.imp (GrV.to (Kp.of sp))) (GrV.mk (.fold u one.toNat ot.toNat) ?_) (fun x hx => ?_)⟩
      · rw [upd_same]
        show some (HO.tup [V.str u.str, .int one, .int ot]) = some (HO.tup [V.str u.str, .int ((one.toNat : Nat) : Int), .int ((ot.toNat : Nat) : Int)])
        rw [← en, ← et]
      · have : x = one.toNat ∨ x = ot.toNat := by simpa [Gr.nums] using hx
        omega
  obtain ⟨tR, htR, hqR⟩ := rest
  refine ⟨_, pss_cons (ps_set (i := 4) nd rfl (Or.inl rfl) (pe_lst pa_nil)) (pss_cons (ps_for PassesOwn.never rfl (pi_range1 rfl Z_range (pa_cons (pv 2) pa_nil)) (pg_name (i := 5) nd rfl (Or.inl rfl)) (pss_cons (ps_set (i := 6) nd rfl (Or.inl rfl) (pe_def D_law_cell (hr.mono (by omega)) rfl (pa_cons (pv 0) (pa_cons (pe_op op_add (pv 1) (pv 5)) pa_nil)))) (pss_cons (ps_set (i := 7) nd rfl (Or.inl rfl) (pe_op op_sub (pe_op op_sub (pv 5) pe_int) (pe_op op_modN (pe_op op_fdiv (pv 6) pe_int) (pe_callB (call_max2 rfl) rfl Z_max (by decide +kernel) (pa_cons pe_int (pa_cons (pe_callB (call_min2 rfl) rfl Z_min (by decide +kernel) (pa_cons (pv 5) (pa_cons pe_int pa_nil))) pa_nil)))))) (pss_cons (ps_if (pt_cmpR op_eq (pe_op op_mod (pe_op op_fdiv (pv 6) pe_int) pe_int) pe_int (nomark _)) (pss_one (ps_set (i := 7) nd rfl (Or.inl rfl) (pe_op op_modN (pe_op op_fdiv (pv 6) pe_int) (pe_callB (call_max2 rfl) rfl Z_max (by decide +kernel) (pa_cons pe_int (pa_cons (pv 5) pa_nil)))))) pss_nil) htR)))) (pss_one (ps_ret (pv 4)))), ?_⟩
  refine ⟨(by show 0 ≤ sizeLine; decide), fun st h0 => ?_⟩
  refine ⟨_, rfl, _, rfl, by omega, by omega, ?_⟩
  refine for_range (fun i σ H2 => ∃ (o5 o6 o7 o8 : Option V) (us : List V) (gs : List Gr), σ = [some (.ref a), some (.int at_), some (.int many), some (.ref lv), some (.ref st), o5, o6, o7, o8] ∧ Same H H2 ∧ H2 st = some (.lst us) ∧ All2 (GrV H2) us gs ∧ GrsOk gs ∧ gs.length = i)
    ⟨_, _, _, _, [], [], rfl, same_new h0 _, upd_same, .nil, (fun k g h => nomatch h), rfl⟩ (fun i σ H2 hi h => ?_) (fun σ H2 h => ?_)
  · obtain ⟨o5, o6, o7, o8, us, gs, rfl, sm, e, al, ok, gl⟩ := h
    have S2 := S.to sm
    refine ⟨_, rfl, _, rfl, _, rfl, _, _, rfl, rfl, a, ns, _, rfl, S2, (by omega), (by omega), fun v hv => ?_⟩
    refine ⟨_, rfl, _, _, rfl, rfl, _, rfl, _, _, rfl, rfl, ⟨by decide, by decide⟩, _, rfl, _, _, rfl, _, _, rfl, _, _, rfl, rfl, mx_ne _, _, _, rfl, rfl, ?_⟩
    obtain ⟨o, ho⟩ : ∃ o : Int, o = 0 + (i : Int) - 1 - (v / 16).fmod (if (if 3 < 0 + (i : Int) then 3 else 0 + (i : Int)) > 1 then if 3 < 0 + (i : Int) then 3 else 0 + (i : Int) else 1) := ⟨_, rfl⟩
    have hob : 1 ≤ i → 0 ≤ o ∧ o < i := fun h => by
      have := mx_bd (v / 16) (if 3 < 0 + (i : Int) then 3 else 0 + (i : Int)) (by split <;> omega)
      have h3 : (if 3 < 0 + (i : Int) then (3 : Int) else 0 + (i : Int)) ≤ i := by split <;> omega
      omega
    dsimp only
    rw [← ho]
    refine ⟨_, rfl, _, _, rfl, rfl, ⟨by decide, by decide⟩, _, _, rfl, rfl, (show (0 : Int) < 4 by decide), rfl, _, rfl, ?_⟩
    refine ite2 (fun g => ?_) (fun g => ?_)
    · refine ⟨_, rfl, _, _, rfl, rfl, ⟨by decide, by decide⟩, _, rfl, _, _, rfl, _, _, rfl, rfl, mx_ne _, ?_⟩
      refine hqR _ st i v _ _ us gs H2 h0 sm e al ok gl (by omega) (fun h => ?_) fun o8' us' gs' H3 s3 e3 al3 ok3 gl3 => ⟨_, _, _, _, us', gs', rfl, s3, e3, al3, ok3, gl3⟩
      have := mx_bd (v / 32768) (0 + (i : Int)) (by omega)
      omega
    · exact hqR _ st i v o _ us gs H2 h0 sm e al ok gl (by omega) hob fun o8' us' gs' H3 s3 e3 al3 ok3 gl3 => ⟨_, _, _, _, us', gs', rfl, s3, e3, al3, ok3, gl3⟩
  · obtain ⟨o5, o6, o7, o8, us, gs, rfl, sm, e, al, ok, gl⟩ := h
    exact ⟨_, rfl, q st us gs H2 sm h0 e al ok (by omega)⟩

end
end Mine




set_option Elab.async false
set_option linter.all false
set_option maxRecDepth 100000
set_option maxHeartbeats 4000000
namespace Mine
open PySem L2
theorem gr_tg {K : PySem.W.Frag} {H : Hp} {v : V} {g : Gr} (h : GrV H v g) : TgV K H v (some (.str g.word :: g.nums.map fun i : Nat => .int (i : Int))) := by
  obtain ⟨a, rfl, e⟩ := h
  unfold Gr.rw at e
  rw [rowK_kV] at e
  have l := g.len
  refine ⟨rfl, by simp; omega, a, _, rfl, e, .cons rfl ?_⟩
  generalize g.nums = is
  induction is with
  | nil => exact .nil
  | cons i r ih => exact .cons rfl ih
theorem gr_cap {g : Gr} : capT 4 (some (.str g.word :: g.nums.map fun i : Nat => E13.int (i : Int))) := by
  have l := g.len
  show _ ≤ 4
  simp
  omega
def right13 (s : Stmt) : Expr := match s with
  | .If _ [.Assign _ (.BinOp _ _ e _) _] _ _ => e
  | .Return (some (.BoolOp _ [.Call _ [e] _ _, _] _)) _ => e
  | _ => .Constant .none 0 ⟨0, 0, 0, 0⟩
theorem noflts {K : PySem.W.Frag} {H : Hp} {us : List V} {os : List Tg} (al : All2 (TgV K H) us os) : ∀ v ∈ us, noFlt v = true := by
  induction al with
  | nil => intro v hv; cases hv
  | cons r _ ih =>
    intro v hv
    rcases List.mem_cons.mp hv with rfl | hv
    · exact r.1
    · exact ih v hv
section
variable {P : Program} {w : World} {K : PySem.W.Frag} {mg : Str → Option Value} {base : Heap}
theorem ok_law {f : Addr} {fd : FuncData} (F : Fun K "law" "law" s_law f fd) (Z_len : mg "len" = none) (Z_list : mg "list" = none) (Z_range : mg "range" = none) (Z_all : mg "all" = none) (D_law_cell : Def P w K mg base 1 "_law_cell" ["_law_script", "_law_k"] (spCell K)) (D_law_rows : Def P w K mg base 2 "_law_rows" ["_law_script", "_law_at", "_law_many", "_law_leaves"] (spRowsL K))
    (D_law_spoilt : Def P w K mg base 1 "_law_spoilt" ["_law_rows_here", "_law_cell_here", "_law_more"] (spSpoilt K)) (D_law_fault : Def P w K mg base 3 "_law_fault" ["_law_things"] (spLFault K)) (D_rows_fault : Def P w K mg base 4 "rows_fault" ["things"] (spFault13 K)) (D_law_whole : Def P w K mg base 1 "_law_whole" ["_law_found"] spLWhole)
    (D_law_refused : Def P w K mg base 7 "_law_refused" ["_law_things", "_law_way"] (spRef13 K)) : FnOk P w K mg base CX0 10 f fd ["_law_script"] (spLaw K) := by
  refine F.ok sc_law (fun vs H Q E h => ?_) (fun cdv A outer s H vs Q E hr h => ?_)
  · obtain ⟨a, ns, rfl, _⟩ := h
    rfl
  obtain ⟨a, ns, rfl, S, q⟩ := h
  have nd := sc_law.nd
  have hu := hr.units
  -- all ways of asking
  have cB : ∃ te, PE (cxOf CX0 P w K mg base n_law "law" (defScope s_law) f cdv A outer s H E).nox (right13 ((defBody s_law).getD 11 (.Pass ⟨0, 0, 0, 0⟩))) te ∧ ∀ (o1 o2 o3 o6 : Option V) (lh : Addr) (us : List V) (os : List Tg) (k : Nat) (H1 : Hp) (Q' : VK), H1 lh = some (.lst us) → All2 (TgV K H1) us os → os.length ≤ 1000 → flt13 os = some k → (∀ (D : Addr) (bs : List Bool) (H4 : Hp), Same H1 H4 → H4 D = some (.lst (bs.map V.bl)) → bs.all id = true → Q' (.ref D) H4) →
      te [some (.ref a), o1, o2, o3, some (.ref lh), some (.int (k : Int)), o6] H1 Q' := by
    refine ⟨_, (pe_compF rfl (pi_range1 rfl Z_range (pa_cons pe_int pa_nil)) rfl (by decide +kernel) (by decide +kernel) rfl (show ∀ p ∈ Scope.names _, p.2 = NameKind.free → List.lookup p.1 (defScope s_law).names = some .cell ∨ List.lookup p.1 (defScope s_law).names = some .free by decide +kernel) (fa_cons (j := 4) rfl (Or.inl rfl) (by decide +kernel) (Or.inl rfl) (fa_cons (j := 5) rfl (Or.inl rfl) (by decide +kernel) (Or.inl rfl) fa_nil)) (show (["_law_way", "_law_handed", "_law_due"] : List Str).Nodup by decide +kernel) (fun _ _ _ _ => pif_nil) (fun _ _ _ _ => (pe_cmpR op_eq (pe_def D_law_refused (hr.mono (by omega)) rfl (pa_cons (pv 1) (pa_cons (pv 0) pa_nil))) (pv 2) (nomark _)))), ?_⟩
    intro o1 o2 o3 o6 lh us os k H1 Q' el al few ef fin
    refine comp_rangeM (lo := 0) (n := 4) (fun _ v _ => v = .bl true) (fun _ _ _ _ _ _ _ h => h) (fun H' => H' = H1) (fun R h => ⟨4, rfl, by decide, by decide, h _ rfl⟩) (fun H' h => by rw [h]; exact Same.refl _) (by decide) (fun i H' N hi s' hN => ?_) (fun D ys H' s' hD eD al' => ?_)
    · refine ⟨_, rfl, _, rfl, lh, us, os, k, _, rfl, s' _ _ el, al.imp (TgV.same s'), few, ef, fun H2 s2 => ⟨_, rfl, rfl, ?_⟩⟩
      refine hN _ _ s2 (fun a z => nomatch z) ?_
      rw [decide_eq_true rfl]
    · have : ys = ([true, true, true, true] : List Bool).map V.bl := by
        cases al' with
        | cons r1 al' => cases al' with
          | cons r2 al' => cases al' with
            | cons r3 al' => cases al' with
              | cons r4 al' => cases al'; rw [r1, r2, r3, r4]; rfl
      subst this
      exact fin D _ _ s' eD rfl
  obtain ⟨tB, htB, hqB⟩ := cB
  -- the answers
  have tl : ∃ t, PSs (cxOf CX0 P w K mg base n_law "law" (defScope s_law) f cdv A outer s H E).nox ((defBody s_law).drop 5) t ∧ ∀ (o1 o3 : Option V) (lt : Addr) (us : List V) (os : List Tg) (H1 : Hp), H1 lt = some (.lst us) → All2 (TgV K H1) us os → os.length ≤ 1000 →
      t { nx := fun _ H' => Q .non H', rt := Q } [some (.ref a), o1, some (.ref lt), o3, none, none, none] H1 := by
    refine ⟨_, (pss_cons (ps_set (i := 4) nd rfl (Or.inr rfl) (pe_callTy call_list_of rfl Z_list (by decide +kernel) (pa_cons (pv 2) pa_nil)))
    (pss_cons (ps_set (i := 5) nd rfl (Or.inr rfl) (pe_def D_law_fault (hr.mono (by omega)) rfl (pa_cons (pv 2) pa_nil)))
    (pss_cons (ps_set (i := 6) nd rfl (Or.inl rfl) (pe_def D_rows_fault (hr.mono (by omega)) rfl (pa_cons (pv 4) pa_nil)))
    (pss_cons (ps_if (PW.pt (pw_or (pt_cmpR (op_samNe hu) (pv 4) (pv 2) (nomark _)) (pw_or1 (PW.pt (pw_and (pt_cmpR op_isN (pv 5) pe_non (nomark _)) (pw_and1 (pt_cmpR op_notN (pv 6) pe_non (nomark _)))))))) (pss_one (ps_ret pe_bl)) pss_nil)
    (pss_cons (ps_if (pt_cmpR op_isN (pv 5) pe_non (nomark _)) (pss_one (ps_ret pe_bl)) pss_nil)
    (pss_cons (ps_if (PW.pt (pw_or (pt_not (pt_val (pe_def D_law_whole (hr.mono (by omega)) rfl (pa_cons (pv 6) pa_nil)))) (pw_or1 (pt_cmpR op_ne (pv 6) (pv 5) (nomark _))))) (pss_one (ps_ret pe_bl)) pss_nil)
    (pss_one (ps_ret (pe_and (pe_callB (call_all rfl) rfl Z_all (by decide +kernel) (pa_cons htB pa_nil)) (pe_one (pe_cmpR (op_samEq hu) (pv 4) (pv 2) (nomark _)))))))))))), ?_⟩
    intro o1 o3 lt us os H1 el al few
    refine ⟨_, rfl, lt, us, rfl, .inl (SqL.of el), fun lh hlh => ?_⟩
    have s2 := same_new hlh (.lst us)
    have eh : upd H1 lh (.lst us) lh = some (.lst us) := upd_same
    have el2 := s2 _ _ el
    have al2 := al.imp (TgV.same s2)
    generalize upd H1 lh (.lst us) = H2 at s2 eh el2 al2 ⊢
    refine ⟨_, rfl, lt, us, os, rfl, el2, al2, few, fun H3 s3 => ?_⟩
    refine ⟨_, rfl, lh, us, os, rfl, s3 _ _ eh, al2.imp (TgV.same s3), few, fun H4 s4 => ?_⟩
    have s24 := s3.trans s4
    have nf := noflts al
    refine ⟨_, rfl, _, rfl, lh, lt, us, us, rfl, rfl, SqL.of (s24 _ _ eh), SqL.of (s24 _ _ el2), .inl ⟨rfl, nf, _, rfl, iteF ?_⟩⟩
    cases hf : flt13 os with
    | none =>
      refine ⟨_, rfl, rfl, _, rfl, iteT ⟨_, rfl, rfl, _, rfl, iteF ?_⟩⟩
      exact ⟨_, rfl, rfl, _, rfl, iteT (q _)⟩
    | some k =>
      refine ⟨_, rfl, rfl, _, rfl, iteF ?_⟩
      refine ⟨_, rfl, rfl, _, rfl, iteF ?_⟩
      refine ⟨_, rfl, _, .int (k : Int), rfl, rfl, _, rfl, iteF ⟨_, rfl, _, rfl, rfl, _, rfl, iteNS rfl ?_⟩⟩
      refine hqB _ _ _ _ lh us os k H4 _ (s24 _ _ eh) (al2.imp (TgV.same s24)) few hf fun D bs H5 s5 eD hb => ?_
      refine ⟨D, bs, rfl, SqL.of eD, _, rfl, ?_⟩
      rw [hb]
      refine iteT ⟨_, rfl, _, rfl, lh, lt, us, us, rfl, rfl, SqL.of (s5 _ _ (s24 _ _ eh)), SqL.of (s5 _ _ (s24 _ _ el2)), .inl ⟨rfl, nf, q _⟩⟩
  obtain ⟨tL, htL, hqL⟩ := tl
  -- what is spoilt
  have tm : ∃ t, PSs (cxOf CX0 P w K mg base n_law "law" (defScope s_law) f cdv A outer s H E).nox ((defBody s_law).drop 3) t ∧ ∀ (cell : Int) (lt : Addr) (us : List V) (os : List Tg) (H1 : Hp), Same H H1 → H1 lt = some (.lst us) → All2 (TgV K H1) us os → us ≠ [] → os.length ≤ 1000 → (∀ o ∈ os, capT 4 o) →
      t { nx := fun _ H' => Q .non H', rt := Q } [some (.ref a), some (.int cell), some (.ref lt), none, none, none, none] H1 := by
    refine ⟨_, pss_cons (ps_for PassesOwn.never rfl (pi_range1 rfl Z_range (pa_cons (pe_op op_mod (pe_def D_law_cell (hr.mono (by omega)) rfl (pa_cons (pv 0) (pa_cons pe_int pa_nil))) pe_int) pa_nil)) (pg_name (i := 3) nd rfl (Or.inl rfl)) (pss_one (ps_set (i := 2) nd rfl (Or.inr rfl) (pe_def D_law_spoilt (hr.mono (by omega)) rfl (pa_cons (pv 2) (pa_cons (pe_def D_law_cell (hr.mono (by omega)) rfl (pa_cons (pv 0) (pa_cons (pe_op op_add pe_int (pv 3)) pa_nil))) (pa_cons (pe_op op_add pe_int (pe_op op_mod (pv 1) pe_int)) pa_nil))))))) (pss_cons (ps_if (pt_cmpR op_eq (pe_op op_mod (pe_op op_fdiv (pv 1) pe_int) pe_int) pe_int (nomark _)) (pss_one (ps_set (i := 2) nd rfl (Or.inr rfl) (pe_lst pa_nil))) pss_nil) htL), ?_⟩
    intro cell lt us os H1 s1 el al ne few cap
    refine ⟨_, rfl, a, ns, _, rfl, S.to s1, by decide, by decide, fun c1 _ => ?_⟩
    have hm := Int.emod_lt_of_pos c1 (show (0 : Int) < 3 by decide)
    have hm0 := Int.emod_nonneg c1 (show (3 : Int) ≠ 0 by decide)
    refine ⟨_, _, rfl, rfl, (show (0 : Int) < 3 by decide), _, rfl, by omega, by omega, ?_⟩
    refine for_range (fun i σ H2 => ∃ (o3 : Option V) (lt' : Addr) (us' : List V) (os' : List Tg), σ = [some (.ref a), some (.int cell), some (.ref lt'), o3, none, none, none] ∧ Same H H2 ∧ H2 lt' = some (.lst us') ∧ All2 (TgV K H2) us' os' ∧ us'.length = us.length ∧ ∀ o ∈ os', capT (4 + i) o)
      ⟨_, lt, us, os, rfl, s1, el, al, rfl, cap⟩ (fun i σ H2 hi h => ?_) (fun σ H2 h => ?_)
    · obtain ⟨o3, lt', us', os', rfl, s2, el', al', ul, cap'⟩ := h
      have hl := al'.len
      have hl0 := al.len
      have hi' : i < 3 := by omega
      refine ⟨_, rfl, _, rfl, _, rfl, _, _, rfl, rfl, a, ns, _, rfl, S.to s2, by omega, by omega, fun c2 _ => ?_⟩
      refine ⟨_, rfl, _, _, rfl, rfl, (show (0 : Int) < 7 by decide), _, _, rfl, rfl, lt', us', os', _, _, 4 + i, rfl, el', al', (fun z => ne (List.length_eq_zero_iff.mp (by rw [← ul, z]; rfl))), by omega, by omega, by omega, cap', fun l3 us3 os3 H3 s3 el3 al3 ul3 cap3 => ?_⟩
      exact ⟨_, l3, us3, os3, rfl, s2.trans s3, el3, al3, by omega, cap3⟩
    · obtain ⟨o3, lt', us', os', rfl, s2, el', al', ul, cap'⟩ := h
      have hl := al'.len
      have hl0 := al.len
      refine ⟨_, rfl, _, _, rfl, rfl, ⟨by decide, by decide⟩, _, _, rfl, rfl, (show (0 : Int) < 32 by decide), rfl, _, rfl, ?_⟩
      refine ite2 (fun _ => ⟨(by show 0 ≤ sizeLine; decide), fun p hp => ?_⟩) (fun _ => ?_)
      · exact hqL _ _ p [] [] _ upd_same .nil (by decide)
      · exact hqL _ _ lt' us' os' _ el' al' (by omega)
  obtain ⟨tM, htM, hqM⟩ := tm
  -- more of them
  have cA : ∃ te, PE (cxOf CX0 P w K mg base n_law "law" (defScope s_law) f cdv A outer s H E).nox (right13 ((defBody s_law).getD 2 (.Pass ⟨0, 0, 0, 0⟩))) te ∧ ∀ (cell : Int) (lt : Addr) (us : List V) (H1 : Hp) (Q' : VK), H1 lt = some (.lst us) → us.length ≤ 100 → (∀ (D : Addr) (ys : List V) (os : List Tg) (H4 : Hp), Same H1 H4 → H4 D = some (.lst ys) → All2 (TgV K H4) ys os → os.length ≤ 500 → (∀ o ∈ os, capT 4 o) → Q' (.ref D) H4) →
      te [some (.ref a), some (.int cell), some (.ref lt), none, none, none, none] H1 Q' := by
    refine ⟨_, (pe_compF rfl (pi_range1 rfl Z_range (pa_cons (pe_op op_sub (pe_op op_add pe_int (pe_op op_mod (pe_op op_fdiv (pv 1) pe_int) pe_int)) (pe_callB call_len rfl Z_len (by decide +kernel) (pa_cons (pv 2) pa_nil))) pa_nil)) rfl (by decide +kernel) (by decide +kernel) rfl (show ∀ p ∈ Scope.names _, p.2 = NameKind.free → List.lookup p.1 (defScope s_law).names = some .cell ∨ List.lookup p.1 (defScope s_law).names = some .free by decide +kernel) (fa_cons (j := 2) rfl (Or.inl rfl) (by decide +kernel) (Or.inl rfl) fa_nil) (show (["_law_k", "_law_things"] : List Str).Nodup by decide +kernel) (fun _ _ _ _ => pif_nil) (fun _ _ _ _ => (pe_tup (pa_cons pe_str (pa_cons (pe_op op_sub (pe_callB (call_lenK (K := K) rfl) rfl Z_len (by decide +kernel) (pa_cons (pv 1) pa_nil)) pe_int) pa_nil))))), ?_⟩
    intro cell lt us H1 Q' el few fin
    have hm := Int.emod_lt_of_pos (cell / 512) (show (0 : Int) < 3 by decide)
    have hm0 := Int.emod_nonneg (cell / 512) (show (3 : Int) ≠ 0 by decide)
    refine comp_rangeM (lo := 0) (n := (399 + cell / 512 % 3 - (us.length : Int)).toNat) (fun H' v _ => ∃ p, v = .ref p ∧ H' p = some (.tup [.str "not", .int ((us.length : Int) - 1)])) (fun D H H' v i sb nv h => ?_) (fun H' => H' = H1) (fun R h => ?_) (fun H' h => by rw [h]; exact Same.refl _) (by omega) (fun i H' N hi s' hN => ?_) (fun D ys H' s' hD eD al' => ?_)
    · obtain ⟨p, rfl, e⟩ := h
      exact ⟨p, rfl, sb p _ e nv⟩
    · exact ⟨_, rfl, _, _, rfl, rfl, ⟨by decide, by decide⟩, _, _, rfl, rfl, (show (0 : Int) < 3 by decide), _, _, rfl, rfl, _, rfl, _, _, rfl, .inl ⟨_, SqL.of el, rfl⟩, _, _, rfl, rfl, _, rfl, by omega, by omega, h _ rfl⟩
    · refine ⟨_, rfl, _, _, rfl, .inl ⟨_, SqL.of (s' _ _ el), rfl⟩, _, _, rfl, rfl, (by show 2 ≤ sizeLine; decide), fun p hp => ?_⟩
      exact hN _ _ (same_new hp _) (fun a z => by cases z; exact hp) ⟨p, rfl, upd_same⟩
    · have al2 : ∀ (n : List Nat) (ys : List V), All2 (fun v (_ : Nat) => ∃ p, v = .ref p ∧ H' p = some (.tup [.str "not", .int ((us.length : Int) - 1)])) ys n → All2 (TgV K H') ys (n.map fun _ => some [E13.str "not", .int ((us.length : Int) - 1)]) := by
        intro n ys al
        induction al with
        | nil => exact .nil
        | cons r _ ih =>
          obtain ⟨p, rfl, e⟩ := r
          exact .cons ⟨rfl, by simp, p, _, rfl, e, .cons rfl (.cons rfl .nil)⟩ ih
      refine fin D ys _ H' s' eD (al2 _ _ al') (by simp; omega) fun o ho => ?_
      obtain ⟨_, _, rfl⟩ := List.mem_map.mp ho
      show 2 ≤ 4
      decide
  obtain ⟨tA, htA, hqA⟩ := cA
  refine ⟨_, pss_cons (ps_set (i := 1) nd rfl (Or.inl rfl) (pe_def D_law_cell (hr.mono (by omega)) rfl (pa_cons (pv 0) (pa_cons pe_int pa_nil)))) (pss_cons (ps_set (i := 2) nd rfl (Or.inr rfl) (pe_def D_law_rows (hr.mono (by omega)) rfl (pa_cons (pv 0) (pa_cons pe_int (pa_cons (pe_op op_add pe_int (pe_op op_mod (pv 1) pe_int)) (pa_cons (pe_lst (pa_cons pe_str (pa_cons pe_str (pa_cons pe_str (pa_cons pe_str pa_nil))))) pa_nil)))))) (pss_cons (ps_if (pt_cmpR op_eq (pe_op op_mod (pe_op op_fdiv (pv 1) pe_int) pe_int) pe_int (nomark _)) (pss_one (ps_set (i := 2) nd rfl (Or.inr rfl) (pe_op op_cat (pv 2) htA))) pss_nil) htM)), ?_⟩
  refine ⟨_, rfl, a, ns, _, rfl, S, by decide, by decide, fun cell _ => ?_⟩
  have hm := Int.emod_lt_of_pos cell (show (0 : Int) < 40 by decide)
  have hm0 := Int.emod_nonneg cell (show (40 : Int) ≠ 0 by decide)
  refine ⟨_, rfl, _, rfl, _, _, rfl, rfl, (show (0 : Int) < 40 by decide), _, _, rfl, rfl, (by show 4 ≤ sizeLine; decide), fun lv hlv => ?_⟩
  have sv := same_new hlv (.lst [V.str "p", .str "q", .str "never", .str "always"])
  refine ⟨a, lv, ns, 4, _, [Gr.p, .q, .ne, .al], rfl, S.to sv, by decide, by decide, by omega, by omega, upd_same, (by simp), by decide, (fun t ht => by simp only [List.mem_cons, List.mem_nil_iff, or_false] at ht; rcases ht with rfl | rfl | rfl | rfl <;> rfl), fun l us gs H2 s2 hl e2 al2 ok gl => ?_⟩
  have lu := al2.len
  have alt : All2 (TgV K H2) us (gs.map fun g => some (.str g.word :: g.nums.map fun i : Nat => .int (i : Int))) := by
    clear lu ok gl e2
    induction al2 with
    | nil => exact .nil
    | cons r _ ih => exact .cons (gr_tg r) ih
  have capg : ∀ o ∈ (gs.map fun g => some (E13.str g.word :: g.nums.map fun i : Nat => .int (i : Int))), capT 4 o := fun o ho => by
    obtain ⟨g, _, rfl⟩ := List.mem_map.mp ho
    exact gr_cap
  have une : us ≠ [] := fun z => by rw [z] at lu; simp at lu; omega
  refine ⟨_, rfl, _, _, rfl, rfl, ⟨by decide, by decide⟩, _, _, rfl, rfl, (show (0 : Int) < 8 by decide), rfl, _, rfl, ?_⟩
  refine ite2 (fun _ => ?_) (fun _ => ?_)
  · refine ⟨_, rfl, ?_⟩
    refine hqA cell l us H2 _ e2 (by omega) fun D ys os H4 s4 eD al4 le4 cp4 => ?_
    have hl4 := al4.len
    refine ⟨l, D, us, ys, rfl, rfl, s4 _ _ e2, eD, Nat.le_trans (show us.length + ys.length ≤ 1000 by omega) (by decide), fun p hp => ?_⟩
    have s5 := same_new hp (.lst (us ++ ys))
    refine hqM cell p (us ++ ys) ((gs.map fun g => some (.str g.word :: g.nums.map fun i : Nat => .int (i : Int))) ++ os) _ ((sv.trans s2).trans (s4.trans s5)) upd_same ((alt.imp (TgV.same (s4.trans s5))).app (al4.imp (TgV.same s5))) (fun z => une (List.append_eq_nil_iff.mp z).1) (by simp; omega) fun o ho => ?_
    rcases List.mem_append.mp ho with ho | ho
    · exact capg o ho
    · exact cp4 o ho
  · exact hqM cell l us _ _ (sv.trans s2) e2 alt une (by simp; omega) capg
end
end Mine





set_option Elab.async false
set_option linter.all false
set_option maxRecDepth 100000
set_option maxHeartbeats 4000000
namespace Mine
open PySem L2
section
variable {P : Program} {w : World} {K : PySem.W.Frag} {mg : Str → Option Value} {base : Heap}
theorem ok_init {fI C : Addr} {fd : FuncData} (F : Fun K "__init__" "NoRows.__init__" s_NoRows_init fI fd) (c : XFld K C) (n1 : NoAttr K C "at") : FnOk P w K mg base CX0 1 fI fd ["self", "at"] (L2.spInit1 C "at") := by
  refine F.ok sc_NoRows_init (fun vs H Q E h => ?_) (fun cdv Ar outer s H vs Q E hr h => ?_)
  · obtain ⟨a, y, rfl, _⟩ := h
    rfl
  obtain ⟨a, y, rfl, ea, q⟩ := h
  have nd := sc_NoRows_init.nd
  refine ⟨_, (pss_one (ps_fldX (pv 0) (pv 1) rfl)), ?_⟩
  refine ⟨_, rfl, _, rfl, a, C, rfl, c, n1, .inl ⟨ea, fun d hd => ?_⟩⟩
  have ne : d ≠ a := fun z => by rw [z, ea] at hd; cases hd
  refine q d _ ⟨hd, ne, ?_, upd_same, fun b h1 h2 => ?_⟩
  · rw [upd_ne (Ne.symm ne), upd_same]
  · rw [upd_ne h2, upd_ne h1]
end
end Mine




set_option Elab.async false
set_option linter.all false
set_option maxRecDepth 100000
set_option maxHeartbeats 4000000
theorem PySem.W.Fast.tw9330746270173071456 : True := .intro
theorem PySem.W.Fast.tw16592080047146834048 : True := .intro
theorem PySem.W.Fast.tw10329780067836326016 : True := .intro
theorem PySem.W.Fast.tw11885083613387257984 : True := .intro
theorem PySem.W.Fast.tw13006390382380952736 : True := .intro
theorem PySem.W.Fast.tw1437895693670734080 : True := .intro
theorem PySem.W.Fast.tw12405104511290115456 : True := .intro
theorem PySem.W.Fast.tw16880787451019386496 : True := .intro
theorem PySem.W.Fast.tw8025972702066198208 : True := .intro
theorem PySem.W.Fast.tw358689351185632064 : True := .intro
theorem PySem.W.Fast.tw11930213957304998752 : True := .intro
theorem PySem.W.Fast.tw14975317649776916352 : True := .intro
theorem PySem.W.Fast.tw9381285997479818112 : True := .intro
theorem PySem.W.Fast.tw9734483581475052448 : True := .intro
theorem PySem.W.Fast.tw8606306655430932448 : True := .intro
theorem PySem.W.Fast.tw8143306401101876289 : True := .intro
theorem PySem.W.Fast.tw2860574350746734721 : True := .intro
theorem PySem.W.Fast.tw2621257260165690497 : True := .intro
theorem PySem.W.Fast.tw177018097885830337 : True := .intro
theorem PySem.W.Fast.tw987149893528524065 : True := .intro
theorem PySem.W.Fast.tw16608660793959973185 : True := .intro
theorem PySem.W.Fast.tw13027392476438264161 : True := .intro
theorem PySem.W.Fast.tw2076992580943674753 : True := .intro
theorem PySem.W.Fast.tw12561677742799880705 : True := .intro
theorem PySem.W.Fast.tw15588054009803970145 : True := .intro
theorem PySem.W.Fast.tw11861158575251202753 : True := .intro
theorem PySem.W.Fast.tw5427170850702708513 : True := .intro
theorem PySem.W.Fast.tw18137089416910397217 : True := .intro
theorem PySem.W.Fast.tw8533532340820906913 : True := .intro
theorem PySem.W.Fast.tw6875693995529219041 : True := .intro
theorem PySem.W.Fast.tw11163139790050504706 : True := .intro
theorem PySem.W.Fast.tw12805913693797038082 : True := .intro
theorem PySem.W.Fast.tw1896177836193157154 : True := .intro
theorem PySem.W.Fast.tw12498309101833143330 : True := .intro
theorem PySem.W.Fast.tw16967527621272469634 : True := .intro
theorem PySem.W.Fast.tw5926299385591347394 : True := .intro
theorem PySem.W.Fast.tw5883995045953105090 : True := .intro
theorem PySem.W.Fast.tw168281324891892962 : True := .intro
theorem PySem.W.Fast.tw3797109155302171938 : True := .intro
theorem PySem.W.Fast.tw16179166298298906946 : True := .intro
theorem PySem.W.Fast.tw18244577570543782274 : True := .intro
theorem PySem.W.Fast.tw9870387537868675490 : True := .intro
theorem PySem.W.Fast.tw7127377847867527586 : True := .intro
theorem PySem.W.Fast.tw2065978664559615426 : True := .intro
theorem PySem.W.Fast.tw11332106803689034210 : True := .intro
theorem PySem.W.Fast.tw12406728900202771970 : True := .intro
theorem PySem.W.Fast.tw15761075492707940866 : True := .intro
theorem PySem.W.Fast.tw4957102969974465058 : True := .intro
theorem PySem.W.Fast.tw10151348056303982178 : True := .intro
theorem PySem.W.Fast.tw2992778037130131042 : True := .intro
theorem PySem.W.Fast.tw4682782587772527266 : True := .intro
theorem PySem.W.Fast.tw16876057992039502530 : True := .intro
theorem PySem.W.Fast.tw9725078233541451490 : True := .intro
theorem PySem.W.Fast.tw3907639129977404162 : True := .intro
theorem PySem.W.Fast.tw18297396654905381634 : True := .intro
theorem PySem.W.Fast.tw6249858532031226658 : True := .intro
theorem PySem.W.Fast.tw6134637214297949026 : True := .intro
theorem PySem.W.Fast.tw15958916441039248226 : True := .intro
theorem PySem.W.Fast.tw9318535699182311330 : True := .intro
theorem PySem.W.Fast.tw12510976238541652003 : True := .intro
theorem PySem.W.Fast.tw2996370796376670243 : True := .intro
theorem PySem.W.Fast.tw502808897192222787 : True := .intro
theorem PySem.W.Fast.tw13565199319754078275 : True := .intro
theorem PySem.W.Fast.tw15253689557675135171 : True := .intro
theorem PySem.W.Fast.tw16972078864313169123 : True := .intro
theorem PySem.W.Fast.tw17904440758851779811 : True := .intro
theorem PySem.W.Fast.tw10460237764977367299 : True := .intro
theorem PySem.W.Fast.tw10502248330247545091 : True := .intro
theorem PySem.W.Fast.tw11426500477161802083 : True := .intro
theorem PySem.W.Fast.tw191541900993153379 : True := .intro
theorem PySem.W.Fast.tw161514749586019811 : True := .intro
theorem PySem.W.Fast.tw6381013847736927715 : True := .intro
theorem PySem.W.Fast.tw2984733217962394179 : True := .intro
theorem PySem.W.Fast.tw12834833384980420195 : True := .intro
theorem PySem.W.Fast.tw15732899774588425827 : True := .intro
theorem PySem.W.Fast.tw2917292415052992131 : True := .intro
theorem PySem.W.Fast.tw13838940192687040163 : True := .intro
theorem PySem.W.Fast.tw12587002713007206083 : True := .intro
theorem PySem.W.Fast.tw17795341140560043715 : True := .intro
theorem PySem.W.Fast.tw6970809640891709155 : True := .intro
theorem PySem.W.Fast.tw972308987774908163 : True := .intro
theorem PySem.W.Fast.tw13091806989116580643 : True := .intro
theorem PySem.W.Fast.tw740412514906602275 : True := .intro
theorem PySem.W.Fast.tw5417620086848593763 : True := .intro
theorem PySem.W.Fast.tw1744565962655014883 : True := .intro
theorem PySem.W.Fast.tw1900715576402078788 : True := .intro
theorem PySem.W.Fast.tw5049498740755861636 : True := .intro
theorem PySem.W.Fast.tw8279924115058941060 : True := .intro
theorem PySem.W.Fast.tw15141655172299097284 : True := .intro
theorem PySem.W.Fast.tw17836541518476684484 : True := .intro
theorem PySem.W.Fast.tw9816193131330257092 : True := .intro
theorem PySem.W.Fast.tw8311544238734773476 : True := .intro
theorem PySem.W.Fast.tw17166432478310552836 : True := .intro
theorem PySem.W.Fast.tw7367601467479674148 : True := .intro
theorem PySem.W.Fast.tw1763058573891079524 : True := .intro
theorem PySem.W.Fast.tw10733647202304520580 : True := .intro
theorem PySem.W.Fast.tw9883909976006969764 : True := .intro
theorem PySem.W.Fast.tw15583307455475051044 : True := .intro
theorem PySem.W.Fast.tw3766901295623349828 : True := .intro
theorem PySem.W.Fast.tw11527351880372329092 : True := .intro
theorem PySem.W.Fast.tw12695974064951580292 : True := .intro
theorem PySem.W.Fast.tw701832335563850404 : True := .intro
theorem PySem.W.Fast.tw15230298575651837636 : True := .intro
theorem PySem.W.Fast.tw5874693630161202020 : True := .intro
theorem PySem.W.Fast.tw4718877290263960420 : True := .intro
theorem PySem.W.Fast.tw15539908496889644932 : True := .intro
theorem PySem.W.Fast.tw6178250422748630980 : True := .intro
theorem PySem.W.Fast.tw6618464401291116484 : True := .intro
theorem PySem.W.Fast.tw12841506265080284132 : True := .intro
theorem PySem.W.Fast.tw11961964635808778245 : True := .intro
theorem PySem.W.Fast.tw8290588513205024805 : True := .intro
theorem PySem.W.Fast.tw5602553648228501573 : True := .intro
theorem PySem.W.Fast.tw7552850119932143685 : True := .intro
theorem PySem.W.Fast.tw9524562809478985829 : True := .intro
theorem PySem.W.Fast.tw13942917329702610021 : True := .intro
theorem PySem.W.Fast.tw3707008916476168325 : True := .intro
theorem PySem.W.Fast.tw2162569964296822149 : True := .intro
theorem PySem.W.Fast.tw624534428733311397 : True := .intro
theorem PySem.W.Fast.tw934826591018241445 : True := .intro
theorem PySem.W.Fast.tw12075080183256646117 : True := .intro
theorem PySem.W.Fast.tw6930254753336121829 : True := .intro
theorem PySem.W.Fast.tw8960681862239322661 : True := .intro
theorem PySem.W.Fast.tw14349252108222412325 : True := .intro
theorem PySem.W.Fast.tw17823196119359651397 : True := .intro
theorem PySem.W.Fast.tw7469524245850752613 : True := .intro
theorem PySem.W.Fast.tw515812094401406597 : True := .intro
theorem PySem.W.Fast.tw16885070802092102405 : True := .intro
theorem PySem.W.Fast.tw13742112999610427173 : True := .intro
theorem PySem.W.Fast.tw18377823646364282661 : True := .intro
theorem PySem.W.Fast.tw5287684969651512133 : True := .intro
theorem PySem.W.Fast.tw6205380599813570437 : True := .intro
theorem PySem.W.Fast.tw12167547441990522789 : True := .intro
theorem PySem.W.Fast.tw1912953626898654117 : True := .intro
theorem PySem.W.Fast.tw6468138754682656741 : True := .intro
theorem PySem.W.Fast.tw7752352961783054309 : True := .intro
theorem PySem.W.Fast.tw11040535412346307590 : True := .intro
theorem PySem.W.Fast.tw8201271340708358182 : True := .intro
theorem PySem.W.Fast.tw16808253595155465286 : True := .intro
theorem PySem.W.Fast.tw12192016042388195430 : True := .intro
theorem PySem.W.Fast.tw13664842084693272678 : True := .intro
theorem PySem.W.Fast.tw12206604595594644710 : True := .intro
theorem PySem.W.Fast.tw16600964864457795814 : True := .intro
theorem PySem.W.Fast.tw9514531665386726662 : True := .intro
theorem PySem.W.Fast.tw1414768593861807430 : True := .intro
theorem PySem.W.Fast.tw7746373438613154182 : True := .intro
theorem PySem.W.Fast.tw3713211209616579974 : True := .intro
theorem PySem.W.Fast.tw1139611316795559334 : True := .intro
theorem PySem.W.Fast.tw14859598973933751750 : True := .intro
theorem PySem.W.Fast.tw13184417415664152006 : True := .intro
theorem PySem.W.Fast.tw8005771135190040006 : True := .intro
theorem PySem.W.Fast.tw11549414750883355142 : True := .intro
theorem PySem.W.Fast.tw15325188149192012294 : True := .intro
theorem PySem.W.Fast.tw3389124397458444838 : True := .intro
theorem PySem.W.Fast.tw14776165923044426310 : True := .intro
theorem PySem.W.Fast.tw3519218125645403718 : True := .intro
theorem PySem.W.Fast.tw953202141239889510 : True := .intro
theorem PySem.W.Fast.tw3730242851643176710 : True := .intro
theorem PySem.W.Fast.tw4103891902874498854 : True := .intro
theorem PySem.W.Fast.tw7259695320030722854 : True := .intro
theorem PySem.W.Fast.tw13014862584091495206 : True := .intro
theorem PySem.W.Fast.tw16828617428451969830 : True := .intro
theorem PySem.W.Fast.tw4302297704366205734 : True := .intro
theorem PySem.W.Fast.tw4458073039267747686 : True := .intro
theorem PySem.W.Fast.tw1118430208378307462 : True := .intro
theorem PySem.W.Fast.tw6174656351555408774 : True := .intro
theorem PySem.W.Fast.tw17298792626153263014 : True := .intro
theorem PySem.W.Fast.tw18139017316562707366 : True := .intro
theorem PySem.W.Fast.tw15251334164087677862 : True := .intro
theorem PySem.W.Fast.tw14298478022690081734 : True := .intro
theorem PySem.W.Fast.tw14934383179211251654 : True := .intro
theorem PySem.W.Fast.tw3488650096754507783 : True := .intro
theorem PySem.W.Fast.tw7165671838629719047 : True := .intro
theorem PySem.W.Fast.tw5825922707869183047 : True := .intro
theorem PySem.W.Fast.tw5907269464924180551 : True := .intro
theorem PySem.W.Fast.tw6538063711894168647 : True := .intro
theorem PySem.W.Fast.tw4525136093921060999 : True := .intro
theorem PySem.W.Fast.tw7668513233017730183 : True := .intro
theorem PySem.W.Fast.tw14424443017765604519 : True := .intro
theorem PySem.W.Fast.tw15927033898791391399 : True := .intro
theorem PySem.W.Fast.tw2681699216926493895 : True := .intro
theorem PySem.W.Fast.tw11972584171453046983 : True := .intro
theorem PySem.W.Fast.tw10357385365826408743 : True := .intro
theorem PySem.W.Fast.tw17845189807862247719 : True := .intro
theorem PySem.W.Fast.tw9832080931607953799 : True := .intro
theorem PySem.W.Fast.tw6007335449326458279 : True := .intro
theorem PySem.W.Fast.tw6164957058051831335 : True := .intro
theorem PySem.W.Fast.tw9368722532842241639 : True := .intro
theorem PySem.W.Fast.tw5084848411859741319 : True := .intro
theorem PySem.W.Fast.tw15929581840571514503 : True := .intro
theorem PySem.W.Fast.tw3066048639807727303 : True := .intro
theorem PySem.W.Fast.tw160954498262017767 : True := .intro
theorem PySem.W.Fast.tw2731740220233070375 : True := .intro
theorem PySem.W.Fast.tw10201850138622280487 : True := .intro
theorem PySem.W.Fast.tw14942256261420797735 : True := .intro
theorem PySem.W.Fast.tw218970360931193799 : True := .intro
theorem PySem.W.Fast.tw3079731848191938535 : True := .intro
theorem PySem.W.Fast.tw13062134055320805480 : True := .intro
theorem PySem.W.Fast.tw1792206676249928840 : True := .intro
theorem PySem.W.Fast.tw1991538213350972584 : True := .intro
theorem PySem.W.Fast.tw16064157639235526824 : True := .intro
theorem PySem.W.Fast.tw17755921253197116648 : True := .intro
theorem PySem.W.Fast.tw5372095495729315048 : True := .intro
theorem PySem.W.Fast.tw3211209534287357192 : True := .intro
theorem PySem.W.Fast.tw7448573714035519848 : True := .intro
theorem PySem.W.Fast.tw11247806436168614248 : True := .intro
theorem PySem.W.Fast.tw17374701876830358920 : True := .intro
theorem PySem.W.Fast.tw11762053572185347464 : True := .intro
theorem PySem.W.Fast.tw11867412366806660520 : True := .intro
theorem PySem.W.Fast.tw17742643001943901704 : True := .intro
theorem PySem.W.Fast.tw2985506478463424040 : True := .intro
theorem PySem.W.Fast.tw15449970964318384680 : True := .intro
theorem PySem.W.Fast.tw4676296850832854600 : True := .intro
theorem PySem.W.Fast.tw9134322434399467144 : True := .intro
theorem PySem.W.Fast.tw18305353490543334088 : True := .intro
theorem PySem.W.Fast.tw11876959061057304296 : True := .intro
theorem PySem.W.Fast.tw14102636722303358728 : True := .intro
theorem PySem.W.Fast.tw10790751517989843816 : True := .intro
theorem PySem.W.Fast.tw13026607179732251528 : True := .intro
theorem PySem.W.Fast.tw3647647499365938056 : True := .intro
theorem PySem.W.Fast.tw7687423789673303976 : True := .intro
theorem PySem.W.Fast.tw17827566270290258888 : True := .intro
theorem PySem.W.Fast.tw16467534242104894601 : True := .intro
theorem PySem.W.Fast.tw12904242940060501225 : True := .intro
theorem PySem.W.Fast.tw14795174884303340809 : True := .intro
theorem PySem.W.Fast.tw6936870694308228521 : True := .intro
theorem PySem.W.Fast.tw16445763296275494313 : True := .intro
theorem PySem.W.Fast.tw14921116850251353673 : True := .intro
theorem PySem.W.Fast.tw6236293746801474121 : True := .intro
theorem PySem.W.Fast.tw16913001252576213609 : True := .intro
theorem PySem.W.Fast.tw4052618005369286249 : True := .intro
theorem PySem.W.Fast.tw13507409371469119081 : True := .intro
theorem PySem.W.Fast.tw1969042800011706025 : True := .intro
theorem PySem.W.Fast.tw6174023298625085129 : True := .intro
theorem PySem.W.Fast.tw14614198447955293897 : True := .intro
theorem PySem.W.Fast.tw324931920517511913 : True := .intro
theorem PySem.W.Fast.tw5869417455911369481 : True := .intro
theorem PySem.W.Fast.tw9685964053700237129 : True := .intro
theorem PySem.W.Fast.tw13077245970087609193 : True := .intro
theorem PySem.W.Fast.tw9303643357004005225 : True := .intro
theorem PySem.W.Fast.tw12418001803825061801 : True := .intro
theorem PySem.W.Fast.tw959455544313074633 : True := .intro
theorem PySem.W.Fast.tw2186287423208962025 : True := .intro
theorem PySem.W.Fast.tw7239406262857730090 : True := .intro
theorem PySem.W.Fast.tw12569447220276637866 : True := .intro
theorem PySem.W.Fast.tw150785291489120586 : True := .intro
theorem PySem.W.Fast.tw17885190139860473162 : True := .intro
theorem PySem.W.Fast.tw6430850099911412074 : True := .intro
theorem PySem.W.Fast.tw4195992736657082794 : True := .intro
theorem PySem.W.Fast.tw18152029617656021450 : True := .intro
theorem PySem.W.Fast.tw12147970524228455978 : True := .intro
theorem PySem.W.Fast.tw8465852879609720362 : True := .intro
theorem PySem.W.Fast.tw18235968186614966890 : True := .intro
theorem PySem.W.Fast.tw10855824918428788362 : True := .intro
theorem PySem.W.Fast.tw15907347280511277770 : True := .intro
theorem PySem.W.Fast.tw15693528040556012234 : True := .intro
theorem PySem.W.Fast.tw1069625891781813994 : True := .intro
theorem PySem.W.Fast.tw2075374272357150474 : True := .intro
theorem PySem.W.Fast.tw3532580596596056906 : True := .intro
theorem PySem.W.Fast.tw17904832328032065386 : True := .intro
theorem PySem.W.Fast.tw14013537778338930634 : True := .intro
theorem PySem.W.Fast.tw8294820139006404586 : True := .intro
theorem PySem.W.Fast.tw18014376397643161611 : True := .intro
theorem PySem.W.Fast.tw8178768131295799339 : True := .intro
theorem PySem.W.Fast.tw3076565581809543211 : True := .intro
theorem PySem.W.Fast.tw10512143689614458955 : True := .intro
theorem PySem.W.Fast.tw14050099044242092107 : True := .intro
theorem PySem.W.Fast.tw17755519917437906027 : True := .intro
theorem PySem.W.Fast.tw17778390945273266315 : True := .intro
theorem PySem.W.Fast.tw12374313893629851787 : True := .intro
theorem PySem.W.Fast.tw15979070820180002027 : True := .intro
theorem PySem.W.Fast.tw12390207795858660587 : True := .intro
theorem PySem.W.Fast.tw9302730479436966187 : True := .intro
theorem PySem.W.Fast.tw5426029104921475371 : True := .intro
theorem PySem.W.Fast.tw5150033823325947211 : True := .intro
theorem PySem.W.Fast.tw13487317261202745739 : True := .intro
theorem PySem.W.Fast.tw831457770318469547 : True := .intro
theorem PySem.W.Fast.tw2784905829611027883 : True := .intro
theorem PySem.W.Fast.tw3734407034079156651 : True := .intro
theorem PySem.W.Fast.tw4043102461048309227 : True := .intro
theorem PySem.W.Fast.tw8255192126713041419 : True := .intro
theorem PySem.W.Fast.tw17886471133887777323 : True := .intro
theorem PySem.W.Fast.tw848384561597861451 : True := .intro
theorem PySem.W.Fast.tw12650834322995580747 : True := .intro
theorem PySem.W.Fast.tw2758890858598047563 : True := .intro
theorem PySem.W.Fast.tw8329532324038255499 : True := .intro
theorem PySem.W.Fast.tw9329367925885214667 : True := .intro
theorem PySem.W.Fast.tw15057218849721729068 : True := .intro
theorem PySem.W.Fast.tw1277514597183942732 : True := .intro
theorem PySem.W.Fast.tw11468750142782628940 : True := .intro
theorem PySem.W.Fast.tw1065487848443591756 : True := .intro
theorem PySem.W.Fast.tw9307456819295953004 : True := .intro
theorem PySem.W.Fast.tw6899064471703374956 : True := .intro
theorem PySem.W.Fast.tw4979873929558449292 : True := .intro
theorem PySem.W.Fast.tw14501964356010913996 : True := .intro
theorem PySem.W.Fast.tw17216625378250341612 : True := .intro
theorem PySem.W.Fast.tw17892064088447969516 : True := .intro
theorem PySem.W.Fast.tw17279058490285487340 : True := .intro
theorem PySem.W.Fast.tw4657502427178584332 : True := .intro
theorem PySem.W.Fast.tw12110033832467861804 : True := .intro
theorem PySem.W.Fast.tw3512562378494109996 : True := .intro
theorem PySem.W.Fast.tw10415830259574411660 : True := .intro
theorem PySem.W.Fast.tw14278099585906516428 : True := .intro
theorem PySem.W.Fast.tw2016630506076188108 : True := .intro
theorem PySem.W.Fast.tw3447282280127835628 : True := .intro
theorem PySem.W.Fast.tw15473841129744971276 : True := .intro
theorem PySem.W.Fast.tw6814009958087451148 : True := .intro
theorem PySem.W.Fast.tw8586531589822871308 : True := .intro
theorem PySem.W.Fast.tw5523973516437846796 : True := .intro
theorem PySem.W.Fast.tw17966698439561827116 : True := .intro
theorem PySem.W.Fast.tw3796580152522216268 : True := .intro
theorem PySem.W.Fast.tw5953844941176627052 : True := .intro
theorem PySem.W.Fast.tw8180850960840044492 : True := .intro
theorem PySem.W.Fast.tw17985501314877179852 : True := .intro
theorem PySem.W.Fast.tw9179202663297554445 : True := .intro
theorem PySem.W.Fast.tw18375982984777858061 : True := .intro
theorem PySem.W.Fast.tw9046045561956779053 : True := .intro
theorem PySem.W.Fast.tw2540150336374151245 : True := .intro
theorem PySem.W.Fast.tw4724063627743180877 : True := .intro
theorem PySem.W.Fast.tw596691489488031885 : True := .intro
theorem PySem.W.Fast.tw17089189731223626957 : True := .intro
theorem PySem.W.Fast.tw5394686853191305453 : True := .intro
theorem PySem.W.Fast.tw3182167803953074541 : True := .intro
theorem PySem.W.Fast.tw6631074129605391725 : True := .intro
theorem PySem.W.Fast.tw13435665930596253069 : True := .intro
theorem PySem.W.Fast.tw4405537792807503309 : True := .intro
theorem PySem.W.Fast.tw11083031872515340813 : True := .intro
theorem PySem.W.Fast.tw10269384567526092301 : True := .intro
theorem PySem.W.Fast.tw6977223729792543277 : True := .intro
theorem PySem.W.Fast.tw7067885713272404525 : True := .intro
theorem PySem.W.Fast.tw17507238798580653645 : True := .intro
theorem PySem.W.Fast.tw15426152995337113165 : True := .intro
theorem PySem.W.Fast.tw8910175909953515117 : True := .intro
theorem PySem.W.Fast.tw17547768466080888461 : True := .intro
theorem PySem.W.Fast.tw11499968330665213645 : True := .intro
theorem PySem.W.Fast.tw3990791307516204749 : True := .intro
theorem PySem.W.Fast.tw17637573538909616845 : True := .intro
theorem PySem.W.Fast.tw3584605461234726637 : True := .intro
theorem PySem.W.Fast.tw14836022853724735245 : True := .intro
theorem PySem.W.Fast.tw2197680682538871565 : True := .intro
theorem PySem.W.Fast.tw8714405718715291437 : True := .intro
theorem PySem.W.Fast.tw12625551313871498061 : True := .intro
theorem PySem.W.Fast.tw4421960937669898189 : True := .intro
theorem PySem.W.Fast.tw6713263997013807085 : True := .intro
theorem PySem.W.Fast.tw11879890356017025038 : True := .intro
theorem PySem.W.Fast.tw2979539086107608110 : True := .intro
theorem PySem.W.Fast.tw5688271105371766894 : True := .intro
theorem PySem.W.Fast.tw6165056729761266798 : True := .intro
theorem PySem.W.Fast.tw8263468673565373646 : True := .intro
theorem PySem.W.Fast.tw14292763680129607950 : True := .intro
theorem PySem.W.Fast.tw9673444822591625518 : True := .intro
theorem PySem.W.Fast.tw8724078556566326638 : True := .intro
theorem PySem.W.Fast.tw13102831741506471278 : True := .intro
theorem PySem.W.Fast.tw5972639776475094478 : True := .intro
theorem PySem.W.Fast.tw5431755729360923086 : True := .intro
theorem PySem.W.Fast.tw7921892306076642862 : True := .intro
theorem PySem.W.Fast.tw14292594562125466318 : True := .intro
theorem PySem.W.Fast.tw5220876439413069518 : True := .intro
theorem PySem.W.Fast.tw12571083792093952782 : True := .intro
theorem PySem.W.Fast.tw14058190970684553998 : True := .intro
theorem PySem.W.Fast.tw7230043663469795086 : True := .intro
theorem PySem.W.Fast.tw3897959794339504078 : True := .intro
theorem PySem.W.Fast.tw6461788187621225454 : True := .intro
theorem PySem.W.Fast.tw18387637873521212431 : True := .intro
theorem PySem.W.Fast.tw6675119001117957167 : True := .intro
theorem PySem.W.Fast.tw12869413507231781967 : True := .intro
theorem PySem.W.Fast.tw15466770975772943439 : True := .intro
theorem PySem.W.Fast.tw14839363045248678991 : True := .intro
theorem PySem.W.Fast.tw1502889244794622127 : True := .intro
theorem PySem.W.Fast.tw11359950327953287375 : True := .intro
theorem PySem.W.Fast.tw13218107009239937231 : True := .intro
theorem PySem.W.Fast.tw1803497293690822895 : True := .intro
theorem PySem.W.Fast.tw296389743556877551 : True := .intro
theorem PySem.W.Fast.tw18144437109337859439 : True := .intro
theorem PySem.W.Fast.tw739569127800424847 : True := .intro
theorem PySem.W.Fast.tw3877326161461092783 : True := .intro
theorem PySem.W.Fast.tw3474441601069907407 : True := .intro
theorem PySem.W.Fast.tw11800412264489652719 : True := .intro
theorem PySem.W.Fast.tw3616163862537638383 : True := .intro
theorem PySem.W.Fast.tw18133519783073771023 : True := .intro
theorem PySem.W.Fast.tw14840794238757924463 : True := .intro
theorem PySem.W.Fast.tw12914690495466330767 : True := .intro
theorem PySem.W.Fast.tw6533831156954966703 : True := .intro
theorem PySem.W.Fast.tw2731688446913066767 : True := .intro
theorem PySem.W.Fast.tw15270093955898718991 : True := .intro
theorem PySem.W.Fast.tw3199118413394067215 : True := .intro
theorem PySem.W.Fast.tw10129003113958956815 : True := .intro
theorem PySem.W.Fast.tw994489523794050831 : True := .intro
theorem PySem.W.Fast.tw7479510945031154479 : True := .intro
theorem PySem.W.Fast.tw2983991621812795343 : True := .intro
theorem PySem.W.Fast.tw5790310875076874288 : True := .intro
theorem PySem.W.Fast.tw15204041079671489616 : True := .intro
theorem PySem.W.Fast.tw630038681076993136 : True := .intro
theorem PySem.W.Fast.tw3945812362698572944 : True := .intro
theorem PySem.W.Fast.tw17906550586230380720 : True := .intro
theorem PySem.W.Fast.tw2930999637871465680 : True := .intro
theorem PySem.W.Fast.tw1389850509963566288 : True := .intro
theorem PySem.W.Fast.tw16035737753824184528 : True := .intro
theorem PySem.W.Fast.tw13296360207514688752 : True := .intro
theorem PySem.W.Fast.tw4410363544118756624 : True := .intro
theorem PySem.W.Fast.tw2945410782426109200 : True := .intro
theorem PySem.W.Fast.tw15042035116518767888 : True := .intro
theorem PySem.W.Fast.tw16409816697462495568 : True := .intro
theorem PySem.W.Fast.tw9872720851325266288 : True := .intro
theorem PySem.W.Fast.tw12076875348393123184 : True := .intro
theorem PySem.W.Fast.tw17152078595780024720 : True := .intro
theorem PySem.W.Fast.tw3892770167763932784 : True := .intro
theorem PySem.W.Fast.tw17995485531362602736 : True := .intro
theorem PySem.W.Fast.tw8044858269759010608 : True := .intro
theorem PySem.W.Fast.tw14699462514803540784 : True := .intro
theorem PySem.W.Fast.tw4659938126113890128 : True := .intro
theorem PySem.W.Fast.tw13219701861689347952 : True := .intro
theorem PySem.W.Fast.tw2870159460299553744 : True := .intro
theorem PySem.W.Fast.tw15620478022333163472 : True := .intro
theorem PySem.W.Fast.tw6969380100590065648 : True := .intro
theorem PySem.W.Fast.tw4018234706754210833 : True := .intro
theorem PySem.W.Fast.tw11143339299344232529 : True := .intro
theorem PySem.W.Fast.tw9620895022976724113 : True := .intro
theorem PySem.W.Fast.tw4447436173724949681 : True := .intro
theorem PySem.W.Fast.tw11179047115771810993 : True := .intro
theorem PySem.W.Fast.tw12805657656706339025 : True := .intro
theorem PySem.W.Fast.tw8322204075713665297 : True := .intro
theorem PySem.W.Fast.tw13356930169243241777 : True := .intro
theorem PySem.W.Fast.tw6219132345372134705 : True := .intro
theorem PySem.W.Fast.tw16910777414941025617 : True := .intro
theorem PySem.W.Fast.tw202793784732517745 : True := .intro
theorem PySem.W.Fast.tw17869522916775728689 : True := .intro
theorem PySem.W.Fast.tw1727986928928081457 : True := .intro
theorem PySem.W.Fast.tw13792511887093708369 : True := .intro
theorem PySem.W.Fast.tw5055966413366140529 : True := .intro
theorem PySem.W.Fast.tw3705367729074390641 : True := .intro
theorem PySem.W.Fast.tw18163218902536801969 : True := .intro
theorem PySem.W.Fast.tw7420451370172635825 : True := .intro
theorem PySem.W.Fast.tw10434197254933660401 : True := .intro
theorem PySem.W.Fast.tw11072232076124940017 : True := .intro
theorem PySem.W.Fast.tw10026726955127767793 : True := .intro
theorem PySem.W.Fast.tw16271870774219709201 : True := .intro
theorem PySem.W.Fast.tw11216030932744090385 : True := .intro
theorem PySem.W.Fast.tw3981603622916952017 : True := .intro
theorem PySem.W.Fast.tw1734281936981527537 : True := .intro
theorem PySem.W.Fast.tw7583826082777266194 : True := .intro
theorem PySem.W.Fast.tw11800039556467087410 : True := .intro
theorem PySem.W.Fast.tw18383568641905522802 : True := .intro
theorem PySem.W.Fast.tw6850197523497124018 : True := .intro
theorem PySem.W.Fast.tw16597094794028635314 : True := .intro
theorem PySem.W.Fast.tw17582124256714151090 : True := .intro
theorem PySem.W.Fast.tw9401067881547265202 : True := .intro
theorem PySem.W.Fast.tw1214877632613939378 : True := .intro
theorem PySem.W.Fast.tw6295980652115748050 : True := .intro
theorem PySem.W.Fast.tw6525170539297587410 : True := .intro
theorem PySem.W.Fast.tw8897571985987772722 : True := .intro
theorem PySem.W.Fast.tw11819301548796910930 : True := .intro
theorem PySem.W.Fast.tw1074415255739799890 : True := .intro
theorem PySem.W.Fast.tw11085849710931612018 : True := .intro
theorem PySem.W.Fast.tw12040266170311474610 : True := .intro
theorem PySem.W.Fast.tw14371031893238328786 : True := .intro
theorem PySem.W.Fast.tw15309400263518081554 : True := .intro
theorem PySem.W.Fast.tw1945639279298163218 : True := .intro
theorem PySem.W.Fast.tw238290924799436466 : True := .intro
theorem PySem.W.Fast.tw7388790182095885074 : True := .intro
theorem PySem.W.Fast.tw15636130217748179794 : True := .intro
theorem PySem.W.Fast.tw10986061718844382066 : True := .intro
theorem PySem.W.Fast.tw10789648075145013106 : True := .intro
theorem PySem.W.Fast.tw14740211631824646034 : True := .intro
theorem PySem.W.Fast.tw259080466061127602 : True := .intro
theorem PySem.W.Fast.tw15537913955885580210 : True := .intro
theorem PySem.W.Fast.tw5197654576107509714 : True := .intro
theorem PySem.W.Fast.tw12729277990892533746 : True := .intro
theorem PySem.W.Fast.tw10394264948338362387 : True := .intro
theorem PySem.W.Fast.tw13892859082661489683 : True := .intro
theorem PySem.W.Fast.tw15268453720902448179 : True := .intro
theorem PySem.W.Fast.tw10755548001827769555 : True := .intro
theorem PySem.W.Fast.tw1779998175453441267 : True := .intro
theorem PySem.W.Fast.tw16256677386702554419 : True := .intro
theorem PySem.W.Fast.tw9203057728921680179 : True := .intro
theorem PySem.W.Fast.tw8908467821197375859 : True := .intro
theorem PySem.W.Fast.tw12592477705451617651 : True := .intro
theorem PySem.W.Fast.tw15345640013503098259 : True := .intro
theorem PySem.W.Fast.tw11196497248011499955 : True := .intro
theorem PySem.W.Fast.tw3624182874233264627 : True := .intro
theorem PySem.W.Fast.tw69031291150256659 : True := .intro
theorem PySem.W.Fast.tw13134786666763732563 : True := .intro
theorem PySem.W.Fast.tw3384239095584290387 : True := .intro
theorem PySem.W.Fast.tw4621072227651743347 : True := .intro
theorem PySem.W.Fast.tw7476849318326023891 : True := .intro
theorem PySem.W.Fast.tw17729722543536422611 : True := .intro
theorem PySem.W.Fast.tw9699238373776710387 : True := .intro
theorem PySem.W.Fast.tw6429885263780952851 : True := .intro
theorem PySem.W.Fast.tw14402656108417391443 : True := .intro
theorem PySem.W.Fast.tw7812844642401897331 : True := .intro
theorem PySem.W.Fast.tw7832539267440567187 : True := .intro
theorem PySem.W.Fast.tw864235697742564339 : True := .intro
theorem PySem.W.Fast.tw16521263539333041172 : True := .intro
theorem PySem.W.Fast.tw5361015817887909908 : True := .intro
theorem PySem.W.Fast.tw8338885075630045236 : True := .intro
theorem PySem.W.Fast.tw12755226387621847092 : True := .intro
theorem PySem.W.Fast.tw9068169343219384500 : True := .intro
theorem PySem.W.Fast.tw6942960133505860788 : True := .intro
theorem PySem.W.Fast.tw4089828361764304052 : True := .intro
theorem PySem.W.Fast.tw3926240160276292980 : True := .intro
theorem PySem.W.Fast.tw15741875884184265140 : True := .intro
theorem PySem.W.Fast.tw1185471958518326708 : True := .intro
theorem PySem.W.Fast.tw3607748188794140116 : True := .intro
theorem PySem.W.Fast.tw12989044765716561364 : True := .intro
theorem PySem.W.Fast.tw135838373222608340 : True := .intro
theorem PySem.W.Fast.tw2816584807400370676 : True := .intro
theorem PySem.W.Fast.tw15580474328223449620 : True := .intro
theorem PySem.W.Fast.tw5394103319828239892 : True := .intro
theorem PySem.W.Fast.tw13269346104632330772 : True := .intro
theorem PySem.W.Fast.tw14133346600876070420 : True := .intro
theorem PySem.W.Fast.tw11889961170700372532 : True := .intro
theorem PySem.W.Fast.tw9820988022877525556 : True := .intro
theorem PySem.W.Fast.tw9714749293639876148 : True := .intro
theorem PySem.W.Fast.tw6503310673647600372 : True := .intro
theorem PySem.W.Fast.tw13509747068665160500 : True := .intro
theorem PySem.W.Fast.tw3018851378532947860 : True := .intro
theorem PySem.W.Fast.tw836584648619471764 : True := .intro
theorem PySem.W.Fast.tw10028107016576984980 : True := .intro
theorem PySem.W.Fast.tw7035071568782971828 : True := .intro
theorem PySem.W.Fast.tw9188617879804082132 : True := .intro
theorem PySem.W.Fast.tw3051191759709574197 : True := .intro
theorem PySem.W.Fast.tw5903431595234809909 : True := .intro
theorem PySem.W.Fast.tw7821163357487710293 : True := .intro
theorem PySem.W.Fast.tw18397301867649739893 : True := .intro
theorem PySem.W.Fast.tw1935013584062636149 : True := .intro
theorem PySem.W.Fast.tw1501848223456978037 : True := .intro
theorem PySem.W.Fast.tw1347745257561303189 : True := .intro
theorem PySem.W.Fast.tw3283195240230085781 : True := .intro
theorem PySem.W.Fast.tw17964991633113872597 : True := .intro
theorem PySem.W.Fast.tw17002912774052677909 : True := .intro
theorem PySem.W.Fast.tw13003156579697570069 : True := .intro
theorem PySem.W.Fast.tw8930319159958024469 : True := .intro
theorem PySem.W.Fast.tw1704190001658379829 : True := .intro
theorem PySem.W.Fast.tw3164018965344192085 : True := .intro
theorem PySem.W.Fast.tw11634951325638174325 : True := .intro
theorem PySem.W.Fast.tw17697291413879068309 : True := .intro
theorem PySem.W.Fast.tw922474901842903829 : True := .intro
theorem PySem.W.Fast.tw137217701016040213 : True := .intro
theorem PySem.W.Fast.tw17882227447293516597 : True := .intro
theorem PySem.W.Fast.tw4441823968768904021 : True := .intro
theorem PySem.W.Fast.tw11578295467962020725 : True := .intro
theorem PySem.W.Fast.tw539095660032826486 : True := .intro
theorem PySem.W.Fast.tw8060800074228592758 : True := .intro
theorem PySem.W.Fast.tw13013464741149496470 : True := .intro
theorem PySem.W.Fast.tw16942494554936491158 : True := .intro
theorem PySem.W.Fast.tw10848454454988273846 : True := .intro
theorem PySem.W.Fast.tw15181742670188395766 : True := .intro
theorem PySem.W.Fast.tw17802968895333691670 : True := .intro
theorem PySem.W.Fast.tw8780605525488262518 : True := .intro
theorem PySem.W.Fast.tw13685499804839173526 : True := .intro
theorem PySem.W.Fast.tw551740252810543574 : True := .intro
theorem PySem.W.Fast.tw16675607535193935318 : True := .intro
theorem PySem.W.Fast.tw16265095896668900886 : True := .intro
theorem PySem.W.Fast.tw2670218236689617430 : True := .intro
theorem PySem.W.Fast.tw1869406211542294038 : True := .intro
theorem PySem.W.Fast.tw3016826472581390902 : True := .intro
theorem PySem.W.Fast.tw8461224038669549110 : True := .intro
theorem PySem.W.Fast.tw12646085518501529174 : True := .intro
theorem PySem.W.Fast.tw5440697063820451510 : True := .intro
theorem PySem.W.Fast.tw10182092164446726934 : True := .intro
theorem PySem.W.Fast.tw5584635778977312534 : True := .intro
theorem PySem.W.Fast.tw717760933084345110 : True := .intro
theorem PySem.W.Fast.tw6811617997380892438 : True := .intro
theorem PySem.W.Fast.tw17096751128147583766 : True := .intro
theorem PySem.W.Fast.tw13922015817737238326 : True := .intro
theorem PySem.W.Fast.tw1192837518987144054 : True := .intro
theorem PySem.W.Fast.tw2682346430312595318 : True := .intro
theorem PySem.W.Fast.tw17454778369139071862 : True := .intro
theorem PySem.W.Fast.tw7593430979164043126 : True := .intro
theorem PySem.W.Fast.tw6252727846584322966 : True := .intro
theorem PySem.W.Fast.tw16847256872539800566 : True := .intro
theorem PySem.W.Fast.tw12736746486401753111 : True := .intro
theorem PySem.W.Fast.tw15704885712014286903 : True := .intro
theorem PySem.W.Fast.tw1313758290740443191 : True := .intro
theorem PySem.W.Fast.tw18239870201088228471 : True := .intro
theorem PySem.W.Fast.tw1143892204749295863 : True := .intro
theorem PySem.W.Fast.tw4297218815308856567 : True := .intro
theorem PySem.W.Fast.tw11382877666957322679 : True := .intro
theorem PySem.W.Fast.tw8085503914518944311 : True := .intro
theorem PySem.W.Fast.tw7261820303457908279 : True := .intro
theorem PySem.W.Fast.tw13336040543810810583 : True := .intro
theorem PySem.W.Fast.tw2555781096982340407 : True := .intro
theorem PySem.W.Fast.tw18280764074358907735 : True := .intro
theorem PySem.W.Fast.tw10635403323175762839 : True := .intro
theorem PySem.W.Fast.tw4653250470538058679 : True := .intro
theorem PySem.W.Fast.tw11368009124482463671 : True := .intro
theorem PySem.W.Fast.tw4823691465017850839 : True := .intro
theorem PySem.W.Fast.tw8363755365251412983 : True := .intro
theorem PySem.W.Fast.tw11892467872857007256 : True := .intro
theorem PySem.W.Fast.tw9172150989845108920 : True := .intro
theorem PySem.W.Fast.tw15446754858420151480 : True := .intro
theorem PySem.W.Fast.tw1625893645827626200 : True := .intro
theorem PySem.W.Fast.tw13207018335096008920 : True := .intro
theorem PySem.W.Fast.tw1691326207366284536 : True := .intro
theorem PySem.W.Fast.tw6209356184741155096 : True := .intro
theorem PySem.W.Fast.tw17592210784324982072 : True := .intro
theorem PySem.W.Fast.tw2938061825608168888 : True := .intro
theorem PySem.W.Fast.tw7144445101105994200 : True := .intro
theorem PySem.W.Fast.tw953495899041927672 : True := .intro
theorem PySem.W.Fast.tw7389641079237621272 : True := .intro
theorem PySem.W.Fast.tw12737282493304113720 : True := .intro
theorem PySem.W.Fast.tw11893063533532796568 : True := .intro
theorem PySem.W.Fast.tw3852042268242761368 : True := .intro
theorem PySem.W.Fast.tw15687691268106783416 : True := .intro
theorem PySem.W.Fast.tw9374938477161760472 : True := .intro
theorem PySem.W.Fast.tw17846999407866944312 : True := .intro
theorem PySem.W.Fast.tw12939841489600228152 : True := .intro
theorem PySem.W.Fast.tw9232859195796165528 : True := .intro
theorem PySem.W.Fast.tw993705478080585656 : True := .intro
theorem PySem.W.Fast.tw15115660112240373688 : True := .intro
theorem PySem.W.Fast.tw7285012086943748056 : True := .intro
theorem PySem.W.Fast.tw13789420387324526552 : True := .intro
theorem PySem.W.Fast.tw5445533278989096952 : True := .intro
theorem PySem.W.Fast.tw11804362858526254137 : True := .intro
theorem PySem.W.Fast.tw2054710678432287833 : True := .intro
theorem PySem.W.Fast.tw12604050876999048313 : True := .intro
theorem PySem.W.Fast.tw12691922746984302745 : True := .intro
theorem PySem.W.Fast.tw11994157779700317337 : True := .intro
theorem PySem.W.Fast.tw10266788776659361977 : True := .intro
theorem PySem.W.Fast.tw2858710927510971609 : True := .intro
theorem PySem.W.Fast.tw13645229695111493849 : True := .intro
theorem PySem.W.Fast.tw8372452131428398329 : True := .intro
theorem PySem.W.Fast.tw4928454808511651097 : True := .intro
theorem PySem.W.Fast.tw17894188230913562937 : True := .intro
theorem PySem.W.Fast.tw17211001200288394585 : True := .intro
theorem PySem.W.Fast.tw18014811510632669561 : True := .intro
theorem PySem.W.Fast.tw9174416935099633049 : True := .intro
theorem PySem.W.Fast.tw1705598544154921369 : True := .intro
theorem PySem.W.Fast.tw8081508008135743929 : True := .intro
theorem PySem.W.Fast.tw16324522889292074425 : True := .intro
theorem PySem.W.Fast.tw4505544122012007897 : True := .intro
theorem PySem.W.Fast.tw11229458558656179737 : True := .intro
theorem PySem.W.Fast.tw16173647015536942649 : True := .intro
theorem PySem.W.Fast.tw2432041833739401881 : True := .intro
theorem PySem.W.Fast.tw2508699807585240857 : True := .intro
theorem PySem.W.Fast.tw8995565786149871449 : True := .intro
theorem PySem.W.Fast.tw7350433624932283257 : True := .intro
theorem PySem.W.Fast.tw2042121123845630873 : True := .intro
theorem PySem.W.Fast.tw4299003821320267705 : True := .intro
theorem PySem.W.Fast.tw8294079187419224057 : True := .intro
theorem PySem.W.Fast.tw786097938798139385 : True := .intro
theorem PySem.W.Fast.tw11588587994261206042 : True := .intro
theorem PySem.W.Fast.tw318294012530128922 : True := .intro
theorem PySem.W.Fast.tw11892877766125112346 : True := .intro
theorem PySem.W.Fast.tw3537091593153373274 : True := .intro
theorem PySem.W.Fast.tw571302164665894010 : True := .intro
theorem PySem.W.Fast.tw17647126376235775098 : True := .intro
theorem PySem.W.Fast.tw3455338808542909562 : True := .intro
theorem PySem.W.Fast.tw17830435404612888730 : True := .intro
theorem PySem.W.Fast.tw9244477647776501018 : True := .intro
theorem PySem.W.Fast.tw15749514371184029082 : True := .intro
theorem PySem.W.Fast.tw13385722115896154554 : True := .intro
theorem PySem.W.Fast.tw10375476795057251802 : True := .intro
theorem PySem.W.Fast.tw5115497744460701178 : True := .intro
theorem PySem.W.Fast.tw1340842769401163290 : True := .intro
theorem PySem.W.Fast.tw15347061990334838298 : True := .intro
theorem PySem.W.Fast.tw14038518747774945850 : True := .intro
theorem PySem.W.Fast.tw15838082565073621562 : True := .intro
theorem PySem.W.Fast.tw438247114061772346 : True := .intro
theorem PySem.W.Fast.tw3257550910224404090 : True := .intro
theorem PySem.W.Fast.tw17078414673210574714 : True := .intro
theorem PySem.W.Fast.tw16901784830625280890 : True := .intro
theorem PySem.W.Fast.tw15162245348237535130 : True := .intro
theorem PySem.W.Fast.tw5290482206773637018 : True := .intro
theorem PySem.W.Fast.tw7660799968308950938 : True := .intro
theorem PySem.W.Fast.tw5933733164966882331 : True := .intro
theorem PySem.W.Fast.tw2468536368724730907 : True := .intro
theorem PySem.W.Fast.tw10226539149869626427 : True := .intro
theorem PySem.W.Fast.tw15862090308737075291 : True := .intro
theorem PySem.W.Fast.tw14634900711935570075 : True := .intro
theorem PySem.W.Fast.tw8763277595369154715 : True := .intro
theorem PySem.W.Fast.tw16678255677862237371 : True := .intro
theorem PySem.W.Fast.tw12995806110007448763 : True := .intro
theorem PySem.W.Fast.tw900746008071170235 : True := .intro
theorem PySem.W.Fast.tw3356245122683971803 : True := .intro
theorem PySem.W.Fast.tw2751836178357750011 : True := .intro
theorem PySem.W.Fast.tw7567287000730111227 : True := .intro
theorem PySem.W.Fast.tw1431814495076091163 : True := .intro
theorem PySem.W.Fast.tw1393194493614431515 : True := .intro
theorem PySem.W.Fast.tw7323736524649209115 : True := .intro
theorem PySem.W.Fast.tw13250002767371989275 : True := .intro
theorem PySem.W.Fast.tw2880831405681708347 : True := .intro
theorem PySem.W.Fast.tw12959568204119840059 : True := .intro
theorem PySem.W.Fast.tw13324411276918561083 : True := .intro
theorem PySem.W.Fast.tw5912149242513082683 : True := .intro
theorem PySem.W.Fast.tw14905199966243785051 : True := .intro
theorem PySem.W.Fast.tw2622451558938764635 : True := .intro
theorem PySem.W.Fast.tw1635047207027794299 : True := .intro
theorem PySem.W.Fast.tw5588820799794976155 : True := .intro
theorem PySem.W.Fast.tw9563246651636909467 : True := .intro
theorem PySem.W.Fast.tw2266365925871114683 : True := .intro
theorem PySem.W.Fast.tw8285126371742190107 : True := .intro
theorem PySem.W.Fast.tw9846402937720544827 : True := .intro
theorem PySem.W.Fast.tw4151567326961803835 : True := .intro
theorem PySem.W.Fast.tw12951893283294041659 : True := .intro
theorem PySem.W.Fast.tw2916348548066109051 : True := .intro
theorem PySem.W.Fast.tw6396402029529167483 : True := .intro
theorem PySem.W.Fast.tw917241296376520379 : True := .intro
theorem PySem.W.Fast.tw11353232783837662939 : True := .intro
theorem PySem.W.Fast.tw11185991698340378331 : True := .intro
theorem PySem.W.Fast.tw9436381262392932123 : True := .intro
theorem PySem.W.Fast.tw2794408717373457179 : True := .intro
theorem PySem.W.Fast.tw14699515688954941243 : True := .intro
theorem PySem.W.Fast.tw1669164655899588443 : True := .intro
theorem PySem.W.Fast.tw6907546177295863739 : True := .intro
theorem PySem.W.Fast.tw9411451057620188091 : True := .intro
theorem PySem.W.Fast.tw5258567435623601115 : True := .intro
theorem PySem.W.Fast.tw9183281661754045403 : True := .intro
theorem PySem.W.Fast.tw11727844411189765115 : True := .intro
theorem PySem.W.Fast.tw12101493158296337436 : True := .intro
theorem PySem.W.Fast.tw12406726705048256572 : True := .intro
theorem PySem.W.Fast.tw4284982247786481820 : True := .intro
theorem PySem.W.Fast.tw17847489687714010268 : True := .intro
theorem PySem.W.Fast.tw7209145316554828956 : True := .intro
theorem PySem.W.Fast.tw16446160076685568380 : True := .intro
theorem PySem.W.Fast.tw6661192680111523228 : True := .intro
theorem PySem.W.Fast.tw3512531466258699708 : True := .intro
theorem PySem.W.Fast.tw18294669712715690460 : True := .intro
theorem PySem.W.Fast.tw2958107806724342332 : True := .intro
theorem PySem.W.Fast.tw9515271566466549372 : True := .intro
theorem PySem.W.Fast.tw9103059588919352956 : True := .intro
theorem PySem.W.Fast.tw4811961980736614044 : True := .intro
theorem PySem.W.Fast.tw14380113927044100796 : True := .intro
theorem PySem.W.Fast.tw3559323507793226460 : True := .intro
theorem PySem.W.Fast.tw16902910712648518460 : True := .intro
theorem PySem.W.Fast.tw13013029561164921820 : True := .intro
theorem PySem.W.Fast.tw10735021788652085309 : True := .intro
theorem PySem.W.Fast.tw12645911979400053821 : True := .intro
theorem PySem.W.Fast.tw13272031843174785245 : True := .intro
theorem PySem.W.Fast.tw5445003490398704925 : True := .intro
theorem PySem.W.Fast.tw715929110557151581 : True := .intro
theorem PySem.W.Fast.tw4687144337286660541 : True := .intro
theorem PySem.W.Fast.tw14459597078847506941 : True := .intro
theorem PySem.W.Fast.tw7747309434376296957 : True := .intro
theorem PySem.W.Fast.tw7162358801825437245 : True := .intro
theorem PySem.W.Fast.tw8398578955635604029 : True := .intro
theorem PySem.W.Fast.tw17199598430359174717 : True := .intro
theorem PySem.W.Fast.tw10499711762510046781 : True := .intro
theorem PySem.W.Fast.tw12839899791053098589 : True := .intro
theorem PySem.W.Fast.tw12328662387180508765 : True := .intro
theorem PySem.W.Fast.tw14775800304679179869 : True := .intro
theorem PySem.W.Fast.tw14747307955685998205 : True := .intro
theorem PySem.W.Fast.tw4069250997392817789 : True := .intro
theorem PySem.W.Fast.tw10739066628499755645 : True := .intro
theorem PySem.W.Fast.tw15047555061349222045 : True := .intro
theorem PySem.W.Fast.tw10577932106952515229 : True := .intro
theorem PySem.W.Fast.tw11910613784560192157 : True := .intro
theorem PySem.W.Fast.tw1539634268801345277 : True := .intro
theorem PySem.W.Fast.tw5589625788657873693 : True := .intro
theorem PySem.W.Fast.tw14542175184874766141 : True := .intro
theorem PySem.W.Fast.tw17718081236139015997 : True := .intro
theorem PySem.W.Fast.tw4745930812798367581 : True := .intro
theorem PySem.W.Fast.tw16229998638453888893 : True := .intro
theorem PySem.W.Fast.tw7017681853074877437 : True := .intro
theorem PySem.W.Fast.tw10633846293217665054 : True := .intro
theorem PySem.W.Fast.tw10266907153115859998 : True := .intro
theorem PySem.W.Fast.tw13442684772829121694 : True := .intro
theorem PySem.W.Fast.tw13150726017364153534 : True := .intro
theorem PySem.W.Fast.tw14986544084156273950 : True := .intro
theorem PySem.W.Fast.tw7401501763886491966 : True := .intro
theorem PySem.W.Fast.tw14408739534212484414 : True := .intro
theorem PySem.W.Fast.tw16726223358895485278 : True := .intro
theorem PySem.W.Fast.tw11426397520046443934 : True := .intro
theorem PySem.W.Fast.tw5796244091108617630 : True := .intro
theorem PySem.W.Fast.tw17548270599933625790 : True := .intro
theorem PySem.W.Fast.tw3362531331852522942 : True := .intro
theorem PySem.W.Fast.tw13136161691500681694 : True := .intro
theorem PySem.W.Fast.tw15415586706485655038 : True := .intro
theorem PySem.W.Fast.tw11411996778700447262 : True := .intro
theorem PySem.W.Fast.tw187002434775882430 : True := .intro
theorem PySem.W.Fast.tw3997655767426703038 : True := .intro
theorem PySem.W.Fast.tw15411291065659299582 : True := .intro
theorem PySem.W.Fast.tw12668673427858659102 : True := .intro
theorem PySem.W.Fast.tw1682144088994138942 : True := .intro
theorem PySem.W.Fast.tw5323357971765655422 : True := .intro
theorem PySem.W.Fast.tw10863063859885782942 : True := .intro
theorem PySem.W.Fast.tw5602609613245560798 : True := .intro
theorem PySem.W.Fast.tw4472240773802531935 : True := .intro
theorem PySem.W.Fast.tw17155311204571939007 : True := .intro
theorem PySem.W.Fast.tw9769276891455546559 : True := .intro
theorem PySem.W.Fast.tw18091417809537762527 : True := .intro
theorem PySem.W.Fast.tw18136020880719295743 : True := .intro
theorem PySem.W.Fast.tw4044330197541557535 : True := .intro
theorem PySem.W.Fast.tw10185413048223433023 : True := .intro
theorem PySem.W.Fast.tw11170896120340971967 : True := .intro
theorem PySem.W.Fast.tw14151218757988267455 : True := .intro
theorem PySem.W.Fast.tw16326222599546463679 : True := .intro
theorem PySem.W.Fast.tw11320396919680369247 : True := .intro
theorem PySem.W.Fast.tw9781081495721776735 : True := .intro
theorem PySem.W.Fast.tw3139625373157432991 : True := .intro
theorem PySem.W.Fast.tw16038934559334684383 : True := .intro
theorem PySem.W.Fast.tw15065789756662503167 : True := .intro
theorem PySem.W.Fast.tw12436199581570053951 : True := .intro
theorem PySem.W.Fast.tw10173989322173240191 : True := .intro
theorem PySem.W.Fast.tw13974236074485312934 : True := .intro
theorem PySem.W.Fast.tw12075496639335658536 : True := .intro
theorem PySem.W.Fast.tw9368662994101267499 : True := .intro
open PySem PySem.W PyProof.Rows
structure Mine.Classes (K : Frag) (mg : Str → Option Value) (CS CN CP CE CL fI : Addr) : Prop where
  ms : mg "SayError" = some (.ref CS)
  mn : mg "NoRows" = some (.ref CN)
  mp : mg "NoPoint" = some (.ref CP)
  me : mg "NoLetter" = some (.ref CE)
  ml : mg "NoLine" = some (.ref CL)
  fe : L2.FunE K "__init__" "NoRows.__init__" Mine.s_NoRows_init fI
  xi : L2.excInI K CN L2.bmV "ValueError.__new__" fI = true
  kc : keepIn K (.ref CN) = true
  fl : L2.XFld K CN
  n1 : L2.NoAttr K CN "at"
  ec : L2.ExcCls K CN
  cc : L2.CatchCls K CS
  su : mroIn K CN (.ref CS) = some true
  k2 : kitOne K (.ref CN) (.type "ValueError") = some true
  k3 : kitOne K (.ref CN) (.ref CP) = some false
  k4 : kitOne K (.ref CN) (.ref CE) = some false
  k5 : kitOne K (.ref CN) (.ref CL) = some false
  kk : Mine.Kit13 K
  tk : L2.TopDict K mg "TAKEN" Mine.TK
theorem Mine.classes_mk {K : Frag} {h : Heap} {mg : Str → Option Value} {CS CN CP CE CL fI aT : Addr} {c1 c2 : ClassData} {es : Array DictEntry} {ep : Nat} (X : K.In h) (G : h.Ns mainGlobals mg)
    (mCS : nsIn K mainGlobals "SayError" = some (some (.ref CS)))
    (mCN : nsIn K mainGlobals "NoRows" = some (some (.ref CN)))
    (mCP : nsIn K mainGlobals "NoPoint" = some (some (.ref CP)))
    (mCE : nsIn K mainGlobals "NoLetter" = some (some (.ref CE)))
    (mCL : nsIn K mainGlobals "NoLine" = some (some (.ref CL)))
    (i0 : findIn K (.ref CN) "__init__" = some (some (.ref fI)))
    (fe : L2.FunE K "__init__" "NoRows.__init__" Mine.s_NoRows_init fI)
    (xi : L2.excInI K CN L2.bmV "ValueError.__new__" fI = true)
    (kc : keepIn K (.ref CN) = true)
    (xf : L2.xfldIn K CN = true)
    (sa : findIn K (.ref CN) "__setattr__" = some (some (.builtin "object.__setattr__")))
    (n1 : findIn K (.ref CN) "at" = some none)
    (e6 : clsIn K CN = some c1)
    (e8 : mroIn K CN (.type "BaseException") = some true)
    (e9 : findIn K (.ref CN) "__getattribute__" = some (some (.builtin "BaseException.__getattribute__")))
    (e10 : findIn K (.ref CN) "__getattr__" = some none)
    (e12 : findIn K (.ref CN) "__class__" = some (some (.builtin "object.__class__")))
    (e13 : specialIn K (.builtin "object.__class__") "__get__" = some (some (.builtin "getset_descriptor.__get__")))
    (e14 : takesIn K (.builtin "object.__class__") = some true)
    (e16 : mroIn K CN (.type "object") = some true)
    (s6 : clsIn K CS = some c2)
    (s7 : typeIn K (.ref CS) = some (.type "type"))
    (s8 : mroIn K CS (.type "BaseException") = some true)
    (su : mroIn K CN (.ref CS) = some true)
    (k2 : kitOne K (.ref CN) (.type "ValueError") = some true)
    (k3 : kitOne K (.ref CN) (.ref CP) = some false)
    (k4 : kitOne K (.ref CN) (.ref CE) = some false)
    (k5 : kitOne K (.ref CN) (.ref CL) = some false)
    (qni : kitOne K (.type "NoneType") (.type "int") = some false)
    (qsi : kitOne K (.type "str") (.type "int") = some false)
    (qti : kitOne K (.type "tuple") (.type "int") = some false)
    (qbi : kitOne K (.type "bool") (.type "int") = some true)
    (qib : kitOne K (.type "int") (.type "bool") = some false)
    (qns : kitOne K (.type "NoneType") (.type "str") = some false)
    (qis : kitOne K (.type "int") (.type "str") = some false)
    (qbs : kitOne K (.type "bool") (.type "str") = some false)
    (qts : kitOne K (.type "tuple") (.type "str") = some false)
    (qnt : kitOne K (.type "NoneType") (.type "tuple") = some false)
    (qit : kitOne K (.type "int") (.type "tuple") = some false)
    (qst : kitOne K (.type "str") (.type "tuple") = some false)
    (qbt : kitOne K (.type "bool") (.type "tuple") = some false)
    (qlt : kitOne K (.type "list") (.type "tuple") = some false)
    (qdt : kitOne K (.type "dict") (.type "tuple") = some false)
    (t1 : nsIn K mainGlobals "TAKEN" = some (some (.ref aT)))
    (t2 : K.lookup aT = some ⟨.type "dict", none, .dict es ep, #[]⟩)
    (t3 : (aT == sysModules) = false)
    (t4 : KTD.Rows (fun (n : Int) v => ∃ t, v = Value.int n t) es.toList Mine.TK) :
    ∃ CS CN CP CE CL fI, Mine.Classes K mg CS CN CP CE CL fI :=
  ⟨CS, CN, CP, CE, CL, fI, mg_of X G mCS, mg_of X G mCN, mg_of X G mCP, mg_of X G mCE, mg_of X G mCL, fe, xi, kc, L2.xfld_mk xf sa ⟨e9, e10, ⟨_, e6⟩, e12, e13, e14, e8, e16⟩, n1, ⟨e9, e10, ⟨_, e6⟩, e12, e13, e14, e8, e16⟩, ⟨⟨_, s6⟩, s7, s8⟩, su, k2, k3, k4, k5, ⟨qni, qsi, qti, qbi, qib, qns, qis, qbs, qts, qnt, qit, qst, qbt, qlt, qdt⟩, L2.topdict_mk X G t1 t2 t3 t4⟩
set_option maxRecDepth 100000 in
set_option maxHeartbeats 0 in
theorem PySem.Challenge.cw_leansay_k13_rows_amiss_holds : PySem.Challenge.rw_leansay_k13_rows_amiss.Holds := by
  w_on; o_law; k_head; (case hw => w_witness2)
  k_fill
  refine L2.walk_bits (l := PySem.Challenge.rw_leansay_k13_rows_amiss) (n := 63) (k := 10) (x := "_law_script") (CX := L2.CX0) (sp := Mine.spLaw) rfl (by decide) rfl ⟨rfl, by decide, by decide⟩ (fun w h Y => PySem.W.kIn_of Y) ?F ?S ?C
  case F =>
    intro w mg fa h KX G hmg
    have T_is_whole : L2.TopDef (L2.KOf KX) mg "is_whole" Mine.s_is_whole := by
      dsimp only [L2.KOf]
      refine' L2.top_mk KX G ?a ?l ?c ?k; (case a => k_is); (case l => k_is); (case c => k_is); (case k => k_is)
    have T_how_many_it_takes : L2.TopDef (L2.KOf KX) mg "how_many_it_takes" Mine.s_how_many_it_takes := by
      dsimp only [L2.KOf]
      refine' L2.top_mk KX G ?a ?l ?c ?k; (case a => k_is); (case l => k_is); (case c => k_is); (case k => k_is)
    have T_is_place_ahead : L2.TopDef (L2.KOf KX) mg "is_place_ahead" Mine.s_is_place_ahead := by
      dsimp only [L2.KOf]
      refine' L2.top_mk KX G ?a ?l ?c ?k; (case a => k_is); (case l => k_is); (case c => k_is); (case k => k_is)
    have T_is_row : L2.TopDef (L2.KOf KX) mg "is_row" Mine.s_is_row := by
      dsimp only [L2.KOf]
      refine' L2.top_mk KX G ?a ?l ?c ?k; (case a => k_is); (case l => k_is); (case c => k_is); (case k => k_is)
    have T_rows_fault : L2.TopDef (L2.KOf KX) mg "rows_fault" Mine.s_rows_fault := by
      dsimp only [L2.KOf]
      refine' L2.top_mk KX G ?a ?l ?c ?k; (case a => k_is); (case l => k_is); (case c => k_is); (case k => k_is)
    have T_must_be_rows : L2.TopDef (L2.KOf KX) mg "must_be_rows" Mine.s_must_be_rows := by
      dsimp only [L2.KOf]
      refine' L2.top_mk KX G ?a ?l ?c ?k; (case a => k_is); (case l => k_is); (case c => k_is); (case k => k_is)
    have T_worth_of_rows : L2.TopDef (L2.KOf KX) mg "worth_of_rows" Mine.s_worth_of_rows := by
      dsimp only [L2.KOf]
      refine' L2.top_mk KX G ?a ?l ?c ?k; (case a => k_is); (case l => k_is); (case c => k_is); (case k => k_is)
    have T_line_of_rows : L2.TopDef (L2.KOf KX) mg "line_of_rows" Mine.s_line_of_rows := by
      dsimp only [L2.KOf]
      refine' L2.top_mk KX G ?a ?l ?c ?k; (case a => k_is); (case l => k_is); (case c => k_is); (case k => k_is)
    have T_rules_on : L2.TopDef (L2.KOf KX) mg "rules_on" Mine.s_rules_on := by
      dsimp only [L2.KOf]
      refine' L2.top_mk KX G ?a ?l ?c ?k; (case a => k_is); (case l => k_is); (case c => k_is); (case k => k_is)
    have T_l_cell : L2.TopDef (L2.KOf KX) mg "_law_cell" Mine.s_l_cell := by
      dsimp only [L2.KOf]
      refine' L2.top_mk KX G ?a ?l ?c ?k; (case a => k_is); (case l => k_is); (case c => k_is); (case k => k_is)
    have T_l_whole : L2.TopDef (L2.KOf KX) mg "_law_whole" Mine.s_l_whole := by
      dsimp only [L2.KOf]
      refine' L2.top_mk KX G ?a ?l ?c ?k; (case a => k_is); (case l => k_is); (case c => k_is); (case k => k_is)
    have T_l_rows : L2.TopDef (L2.KOf KX) mg "_law_rows" Mine.s_l_rows := by
      dsimp only [L2.KOf]
      refine' L2.top_mk KX G ?a ?l ?c ?k; (case a => k_is); (case l => k_is); (case c => k_is); (case k => k_is)
    have T_l_row : L2.TopDef (L2.KOf KX) mg "_law_row" Mine.s_l_row := by
      dsimp only [L2.KOf]
      refine' L2.top_mk KX G ?a ?l ?c ?k; (case a => k_is); (case l => k_is); (case c => k_is); (case k => k_is)
    have T_l_fault : L2.TopDef (L2.KOf KX) mg "_law_fault" Mine.s_l_fault := by
      dsimp only [L2.KOf]
      refine' L2.top_mk KX G ?a ?l ?c ?k; (case a => k_is); (case l => k_is); (case c => k_is); (case k => k_is)
    have T_l_spoilt : L2.TopDef (L2.KOf KX) mg "_law_spoilt" Mine.s_l_spoilt := by
      dsimp only [L2.KOf]
      refine' L2.top_mk KX G ?a ?l ?c ?k; (case a => k_is); (case l => k_is); (case c => k_is); (case k => k_is)
    have T_l_refused : L2.TopDef (L2.KOf KX) mg "_law_refused" Mine.s_l_refused := by
      dsimp only [L2.KOf]
      refine' L2.top_mk KX G ?a ?l ?c ?k; (case a => k_is); (case l => k_is); (case c => k_is); (case k => k_is)
    have T_law : L2.TopDef (L2.KOf KX) mg "law" Mine.s_law := by
      dsimp only [L2.KOf]
      refine' L2.top_mk KX G ?a ?l ?c ?k; (case a => k_is); (case l => k_is); (case c => k_is); (case k => k_is)
    have Z_len : mg "len" = none := by
      refine' PySem.W.mg_none_of KX G ?z; (case z => k_is)
    have Z_min : mg "min" = none := by
      refine' PySem.W.mg_none_of KX G ?z; (case z => k_is)
    have Z_max : mg "max" = none := by
      refine' PySem.W.mg_none_of KX G ?z; (case z => k_is)
    have Z_range : mg "range" = none := by
      refine' PySem.W.mg_none_of KX G ?z; (case z => k_is)
    have Z_int : mg "int" = none := by
      refine' PySem.W.mg_none_of KX G ?z; (case z => k_is)
    have Z_bool : mg "bool" = none := by
      refine' PySem.W.mg_none_of KX G ?z; (case z => k_is)
    have Z_tuple : mg "tuple" = none := by
      refine' PySem.W.mg_none_of KX G ?z; (case z => k_is)
    have Z_list : mg "list" = none := by
      refine' PySem.W.mg_none_of KX G ?z; (case z => k_is)
    have Z_str : mg "str" = none := by
      refine' PySem.W.mg_none_of KX G ?z; (case z => k_is)
    have Z_enumerate : mg "enumerate" = none := by
      refine' PySem.W.mg_none_of KX G ?z; (case z => k_is)
    have Z_isinstance : mg "isinstance" = none := by
      refine' PySem.W.mg_none_of KX G ?z; (case z => k_is)
    have Z_all : mg "all" = none := by
      refine' PySem.W.mg_none_of KX G ?z; (case z => k_is)
    have Z_ValueError : mg "ValueError" = none := by
      refine' PySem.W.mg_none_of KX G ?z; (case z => k_is)
    have I_MOST_ROWS : ∃ t, mg "MOST_ROWS" = some (.int 400 t) := by
      refine' L2.topint_mk KX G ?ie ?iq; (case ie => k_is); (case iq => exact ⟨_, rfl⟩)
    have CC : ∃ CS CN CP CE CL fI, Mine.Classes (L2.KOf KX) mg CS CN CP CE CL fI := by
      dsimp only [L2.KOf]
      refine' Mine.classes_mk KX G ?mCS ?mCN ?mCP ?mCE ?mCL ?i0 ?fe ?xi ?kc ?xf ?sa ?n1 ?e6 ?e8 ?e9 ?e10 ?e12 ?e13 ?e14 ?e16 ?s6 ?s7 ?s8 ?su ?k2 ?k3 ?k4 ?k5 ?qni ?qsi ?qti ?qbi ?qib ?qns ?qis ?qbs ?qts ?qnt ?qit ?qst ?qbt ?qlt ?qdt ?t1 ?t2 ?t3 ?t4
      (case mCS => k_is)
      (case mCN => k_is)
      (case mCP => k_is)
      (case mCE => k_is)
      (case mCL => k_is)
      (case i0 => k_is)
      (case fe => refine' L2.funE_mk ?fl ?fc ?fk; (case fl => k_is); (case fc => k_is); (case fk => k_is))
      (case xi => kernel_rfl)
      (case kc => k_is)
      (case xf => kernel_rfl)
      (case sa => k_is)
      (case n1 => k_is)
      (case e6 => k_is)
      (case e8 => k_is)
      (case e9 => k_is)
      (case e10 => k_is)
      (case e12 => k_is)
      (case e13 => k_is)
      (case e14 => k_is)
      (case e16 => k_is)
      (case s6 => k_is)
      (case s7 => k_is)
      (case s8 => k_is)
      (case su => k_is)
      (case k2 => first | k_is | kit_is)
      (case k3 => first | k_is | kit_is)
      (case k4 => first | k_is | kit_is)
      (case k5 => first | k_is | kit_is)
      (case qni => first | k_is | kit_is)
      (case qsi => first | k_is | kit_is)
      (case qti => first | k_is | kit_is)
      (case qbi => first | k_is | kit_is)
      (case qib => first | k_is | kit_is)
      (case qns => first | k_is | kit_is)
      (case qis => first | k_is | kit_is)
      (case qbs => first | k_is | kit_is)
      (case qts => first | k_is | kit_is)
      (case qnt => first | k_is | kit_is)
      (case qit => first | k_is | kit_is)
      (case qst => first | k_is | kit_is)
      (case qbt => first | k_is | kit_is)
      (case qlt => first | k_is | kit_is)
      (case qdt => first | k_is | kit_is)
      (case t1 => k_is)
      (case t2 => k_is)
      (case t3 => decide)
      (case t4 => exact (.cons rfl ⟨_, rfl⟩ (.cons rfl ⟨_, rfl⟩ (.cons rfl ⟨_, rfl⟩ (.cons rfl ⟨_, rfl⟩ (.cons rfl ⟨_, rfl⟩ (.cons rfl ⟨_, rfl⟩ (.cons rfl ⟨_, rfl⟩ (.cons rfl ⟨_, rfl⟩ (.cons rfl ⟨_, rfl⟩ (.cons rfl ⟨_, rfl⟩ .nil)))))))))))
    obtain ⟨CS, CN, CP, CE, CL, fI, Z⟩ := CC
    obtain ⟨f, fd, F, m⟩ := T_law.ex
    have e := hmg.symm.trans m
    cases e
    obtain ⟨oc, od, kV, doc, pm, an, cdv, ct, osl, hfd, lk, hcd⟩ := id F.ex
    subst hfd
    refine ⟨PySem.W.fnOf "law" "law" (L2.defArgs Mine.s_law) (L2.defBody Mine.s_law) (L2.defScope Mine.s_law) .none kV doc pm an cdv ct, fun s u => .of_eq rfl, fun base kb nb => ?_⟩
    obtain ⟨tm, M_MOST⟩ := I_MOST_ROWS
    obtain ⟨fdI, FI⟩ := Z.fe.ex
    have XN : L2.XC1 PySem.Challenge.rw_leansay_k13_rows_amiss.prog w (L2.KOf KX) mg base "NoRows" CN "at" := ⟨Z.mn, Z.kc, ⟨fI, fdI, _, Mine.ok_init FI Z.fl Z.n1, FI.binds (fun _ _ _ _ _ _ => L2.ar2 fun _ _ => rfl), Z.xi⟩, Z.fl, Z.n1⟩
    have XX : Mine.Exc13 PySem.Challenge.rw_leansay_k13_rows_amiss.prog w (L2.KOf KX) mg base CS CN CP CE CL := ⟨Z.ms, Z.mn, Z.mp, Z.me, Z.ml, Z.cc, Z.ec, Z.su, Mine.kit_same, Z.k2, Z.k3, Z.k4, Z.k5, XN⟩
    have D_iw := Mine.ok_isWhole (P := PySem.Challenge.rw_leansay_k13_rows_amiss.prog) (w := w) (base := base) T_is_whole Z_isinstance Z_int Z_bool Z.kk
    have D_how := Mine.ok_how (P := PySem.Challenge.rw_leansay_k13_rows_amiss.prog) (w := w) (base := base) T_how_many_it_takes Z.tk
    have D_ah := Mine.ok_ahead T_is_place_ahead D_iw
    have D_row := Mine.ok_isRow T_is_row Z_isinstance Z_tuple Z_len Z_str Z_all M_MOST Z.kk D_how D_ah
    have D_fault := Mine.ok_fault13 T_rows_fault Z_enumerate Z_len D_row
    have D_must := Mine.ok_must13 T_must_be_rows XN D_fault
    have D_lw := Mine.ok_lwhole (P := PySem.Challenge.rw_leansay_k13_rows_amiss.prog) (w := w) (base := base) T_l_whole Z_isinstance Z_int Z_bool Z.kk
    have D_lr := Mine.ok_lrow T_l_row Z_isinstance Z_tuple Z_len Z_str Z_all Z.kk D_lw
    have D_lf := Mine.ok_lfault T_l_fault Z_range Z_len D_lr
    have D_sp := Mine.ok_spoilt (P := PySem.Challenge.rw_leansay_k13_rows_amiss.prog) (w := w) (base := base) T_l_spoilt Z_isinstance Z_tuple Z_len Z.kk
    have D_wr := Mine.ok_worthR T_worth_of_rows D_must
    have D_ro := Mine.ok_rulesOn T_rules_on D_must
    have D_lo := Mine.ok_lineR T_line_of_rows D_must
    have D_ref := Mine.ok_refused13 T_l_refused Z_isinstance Z_ValueError XX D_wr D_ro D_lo D_lw
    have D_cell := Mine.ok_cell (P := PySem.Challenge.rw_leansay_k13_rows_amiss.prog) (w := w) (base := base) T_l_cell Z_len
    have D_rows := Mine.ok_rowsL T_l_rows Z_len Z_range Z_max Z_min D_cell
    exact Mine.ok_law F Z_len Z_list Z_range Z_all D_cell D_rows D_sp D_lf D_fault D_lw D_ref
  case S => exact fun K H a ns hl hb hO hS => ⟨a, ns, rfl, Mine.scr_of hO hS hl hb, fun _ => rfl⟩
  case C => exact fun _ _ _ _ z => z




