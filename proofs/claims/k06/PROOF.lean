import PyProof.Rows.All
import Wide.All
import OpenK.AllK
import Wide.FinOn
import Lean
import PyProof.EqAt
import PyProof.EqKinds
import PyProof.TupleCall
import KE.KRevIter
import PyProof.ListNew
import PyProof.NeKinds
import PyProof.StrBlockL
import KE.LcSums
import PyProof.Rows.EqDataRows
import PyProof.IsRules
import KE.KTab
import PyProof.Rows.SumAny
import PyProof.Draws
import PyProof.EnumMake
import PyProof.ZipIter
import PySem.Challenge.RW_leansay_k06_steps_and_the_least
set_option Elab.async false
set_option linter.all false
set_option maxRecDepth 100000
/-! THE HAND LAYER, for ints, bools, texts, own classes, LISTS and tuples (index, slices, in, append, pop ..), calls, loops. Paste it whole ahead of your own text; what your proof does not reach may be deleted. -/
namespace L2
open PySem PySem.Spec PyProof.Rows

/-- a key: an int or a str -/
abbrev Key := Sum Int Str
def keyIs : Key → Value → Bool
  | .inl k, v => Value.isInt k v
  | .inr x, v => Value.isStrOf x v
def keyH (w : World) : Key → Int
  | .inl k => hashInt k
  | .inr x => hashStr w x
theorem keyIs_shape : ∀ {k : Key} {v : Value}, keyIs k v = true → (∃ i t, k = Sum.inl i ∧ v = Value.int i t) ∨ (∃ x t, k = Sum.inr x ∧ v = Value.str x t)
  | .inl i, v, h => by
    obtain ⟨t, e⟩ := Value.isInt_shape (k := i) (v := v) h
    exact .inl ⟨i, t, rfl, e⟩
  | .inr x, v, h => by
    obtain ⟨t, e⟩ := Value.isStrOf_shape (x := x) (v := v) h
    exact .inr ⟨x, t, rfl, e⟩
theorem key_ll (a b : Int) : decide ((Sum.inl a : Key) = Sum.inl b) = (a == b) := by
  by_cases e : a = b
  · subst e; simp
  · have h : ¬ (Sum.inl a : Key) = Sum.inl b := fun q => e (Sum.inl.inj q)
    rw [decide_eq_false h]
    exact (beq_eq_false_iff_ne.mpr e).symm
theorem key_rr (a b : Str) : decide ((Sum.inr a : Key) = Sum.inr b) = decide (a = b) := by
  by_cases e : a = b
  · subst e; simp
  · have h : ¬ (Sum.inr a : Key) = Sum.inr b := fun q => e (Sum.inr.inj q)
    rw [decide_eq_false h, decide_eq_false e]
theorem key_lr (a : Int) (b : Str) : decide ((Sum.inl a : Key) = Sum.inr b) = false := decide_eq_false (fun q => nomatch q)
theorem key_rl (a : Str) (b : Int) : decide ((Sum.inr a : Key) = Sum.inl b) = false := decide_eq_false (fun q => nomatch q)

def mixKind (prog : Program) (w : World) : PySem.KeyKind prog w Key where
  is := keyIs
  hash := keyH w
  inj := fun v a b ha hb => by
    rcases keyIs_shape ha with ⟨i, t, rfl, rfl⟩ | ⟨x, t, rfl, rfl⟩
    · rcases keyIs_shape hb with ⟨j, u, rfl, e⟩ | ⟨y, u, rfl, e⟩
      · injection e with e1 _; rw [e1]
      · exact nomatch e
    · rcases keyIs_shape hb with ⟨j, u, rfl, e⟩ | ⟨y, u, rfl, e⟩
      · exact nomatch e
      · injection e with e1 _; rw [e1]
  byValue := fun k v h => by
    rcases keyIs_shape h with ⟨i, t, rfl, rfl⟩ | ⟨x, t, rfl, rfl⟩ <;> rfl
  pyHash := fun hv h => by
    rcases keyIs_shape hv with ⟨i, t, rfl, rfl⟩ | ⟨x, t, rfl, rfl⟩
    · exact wpAny_pyHash_int h
    · exact wpAny_pyHash_str h
  eqBool := fun hu hv h => by
    rcases keyIs_shape hu with ⟨i, t, rfl, rfl⟩ | ⟨x, t, rfl, rfl⟩
    · rcases keyIs_shape hv with ⟨j, u, rfl, rfl⟩ | ⟨y, u, rfl, rfl⟩
      · rw [key_ll] at h; exact wpAny_eqBool_int h
      · rw [key_lr] at h; exact SeqAt.EqAt.int_str i t y u _ _ _ _ h
    · rcases keyIs_shape hv with ⟨j, u, rfl, rfl⟩ | ⟨y, u, rfl, rfl⟩
      · rw [key_rl] at h; exact SeqAt.EqAt.str_int x t j u _ _ _ _ h
      · rw [key_rr] at h; exact wpAny_eqBool_str h
  «strs» := fun k x t v h => by
    rcases keyIs_shape h with ⟨i, u, rfl, e⟩ | ⟨y, u, rfl, e⟩
    · exact nomatch e
    · injection e with e1 _
      subst e1
      cases v <;> rfl

end L2

namespace L2
open PySem PySem.Spec PyProof.Rows

/-- a value, without the heap -/
inductive V where
  | non | bl (b : Bool) | int (i : Int) | str (x : Str) | byt (b : Array UInt8) | flt (b : UInt64) | ref (a : Addr) | ty (n : String)
  deriving DecidableEq

def RelV : V → Value → Prop
  | .non, u => u = Value.none
  | .bl b, u => u = Value.bool b
  | .int i, u => ∃ t, u = Value.int i t
  | .str x, u => ∃ t, u = Value.str x t
  | .byt b, u => ∃ t, u = Value.bytes b t
  | .flt b, u => ∃ t, u = Value.float b t
  | .ref a, u => u = Value.ref a
  | .ty n, u => u = Value.type n

abbrev Vals : List V → List Value → Prop := Paired RelV
theorem Vals.length {xs : List V} {us : List Value} (r : Vals xs us) : xs.length = us.length := Paired.length r
theorem Vals.get : ∀ {xs : List V} {us : List Value} {i : Nat} {x : V}, Vals xs us → xs[i]? = some x → ∃ u, us[i]? = some u ∧ RelV x u
  | _, _, _, _, .nil, e => by simp at e
  | _, _, 0, _, .cons r _, e => by simp at e; subst e; exact ⟨_, rfl, r⟩
  | _, _, i + 1, x, .cons _ t, e => by
    obtain ⟨u, h1, h2⟩ := Vals.get (i := i) (x := x) t (by simpa using e)
    exact ⟨u, by simpa using h1, h2⟩
theorem Vals.set {x : V} {u : Value} (r : RelV x u) : ∀ {xs : List V} {us : List Value} (i : Nat), Vals xs us → Vals (xs.set i x) (us.set i u)
  | _, _, _, .nil => .nil
  | _, _, 0, .cons _ t => .cons r t
  | _, _, i + 1, .cons q t => .cons q (Vals.set r i t)
theorem Vals.append : ∀ {xs ys : List V} {us ws : List Value}, Vals xs us → Vals ys ws → Vals (xs ++ ys) (us ++ ws)
  | _, _, _, _, .nil, s => s
  | _, _, _, _, .cons r t, s => .cons r (Vals.append t s)
theorem Vals.take : ∀ {xs : List V} {us : List Value} (n : Nat), Vals xs us → Vals (xs.take n) (us.take n)
  | _, _, 0, _ => .nil
  | _, _, _ + 1, .nil => .nil
  | _, _, n + 1, .cons r t => .cons r (Vals.take n t)
theorem Vals.drop : ∀ {xs : List V} {us : List Value} (n : Nat), Vals xs us → Vals (xs.drop n) (us.drop n)
  | _, _, 0, r => r
  | _, _, _ + 1, .nil => .nil
  | _, _, n + 1, .cons _ t => Vals.drop n t

def RelO : Option V → Option Value → Prop
  | some v, some u => RelV v u
  | none, none => True
  | _, _ => False
def KV {κ : Type} : List (κ × V) → List (κ × Value) → Prop := Paired fun (p : κ × V) (q : κ × Value) => p.1 = q.1 ∧ RelV p.2 q.2

/-- a key of a dict (00_mix): an int or a text -/
def kV : Key → V
  | .inl i => .int i
  | .inr x => .str x

/-- what stands at a tracked address -/
inductive HO where
  /-- a list -/
  | lst (xs : List V)
  /-- a tuple (never changes) -/
  | tup (xs : List V)
  /-- a dict whose keys are ints and texts; one whose keys are tuples of ints and texts (the empty one is both) -/
  | dK (kvs : List (Key × V)) | dT (kvs : List (List Key × V))
  /-- a set of ints: its members, its size -/
  | set (S : Int → Bool) (n : Nat)
  /-- an instance of the class at C, its dict at dx, its attributes -/
  | ins (C dx : Addr) (fs : List (Str × V))
  /-- the dict of the instance at x -/
  | own (x : Addr)
  /-- the dict of an exception -/
  | xd (fs : List (Str × V))
  /-- a bound method, f of x -/
  | met (f x : Addr)
  /-- a range object lo, lo + 1, .. below hi -/
  | rng (lo hi : Int)
  /-- a thing that is known to the object (the script; a dict while a loop walks it): read, never written while it is so -/
  | frz (o : Obj) (u : HO)
  /-- a code object's table -/
  | tbl (ps : Array Value)
  /-- any other thing, by what is true of its one object (a def of one's own: SetO a S n := HO.ext fun h => ..) -/
  | ext (φ : Heap → Prop)

abbrev Hp := Addr → Option HO
def upd (H : Hp) (a : Addr) (o : HO) : Hp := fun b => if b = a then some o else H b
theorem upd_same {H : Hp} {a : Addr} {o : HO} : upd H a o a = some o := by unfold upd; rw [if_pos rfl]
theorem upd_ne {H : Hp} {a b : Addr} {o : HO} (h : b ≠ a) : upd H a o b = H b := by unfold upd; rw [if_neg h]
theorem upd_upd {H : Hp} {a : Addr} {o u : HO} : upd (upd H a o) a u = upd H a u := by
  funext b; unfold upd; split <;> rfl
/-- two objects of different content stand apart -/
theorem ne_of {H : Hp} {a b : Addr} {o u : HO} (h : H a = some o) (h' : H b = some u) (d : o ≠ u) : a ≠ b := by
  intro e; subst e; rw [h] at h'; exact d (Option.some.inj h')
theorem ne_of_none {H : Hp} {a b : Addr} {o : HO} (h : H a = some o) (h' : H b = none) : a ≠ b := by
  intro e; subst e; rw [h] at h'; cases h'

section
variable (P : Program) (w : World)
def ObjOk (H : Hp) (h : Heap) (a : Addr) : HO → Prop
  | .lst xs => xs.length ≤ sizeLine ∧ ∃ (its : List Value) (n : Nat), Vals xs its ∧ h.get? a = some { cls := .type "list", data := .seq its.toArray n }
  | .tup xs => xs.length ≤ sizeLine ∧ ∃ its : List Value, Vals xs its ∧ IsTup h a its.toArray
  | .dK kvs => kvs.length ≤ sizeLine ∧ (a == sysModules) = false ∧ ∃ vs, KV kvs vs ∧ h.DictOf (mixKind P w) a vs
  | .dT kvs => kvs.length ≤ sizeLine ∧ (a == sysModules) = false ∧ ∃ xs : List (List Key × Addr × Value),
      Paired (fun (p : List Key × V) (q : List Key × Addr × Value) => p.1 = q.1 ∧ H q.2.1 = some (.tup (p.1.map kV)) ∧ RelV p.2 q.2.2) kvs xs ∧
      ∃ o es ep, h.get? a = some o ∧ o.ExactDict ∧ o.data = .dict es ep ∧ es.toList = xs.map (entryOfKey (tupleKind (mixKind P w))) ∧ (xs.map (·.1)).Nodup
  | .set S n => h.SetOf (intKind P w) a S n
  | .ins C dx fs => H dx = some (.own a) ∧ fs.length ≤ 1000 ∧ dx ≠ a ∧ h.get? a = some (PySem.W.instObj C dx) ∧
      ∃ mA, h.Ns1 dx mA ∧ (∀ f, RelO (fs.lookup f) (mA f)) ∧ PySem.Within mA (fs.map (·.1))
  | .own _ => ∃ o, h.get? a = some o
  | .xd fs => ∃ mA, h.Ns1 a mA ∧ ∀ f, RelO (fs.lookup f) (mA f)
  | .rng lo hi => ∃ t u v, h.get? a = some { cls := .type "range", data := .fields #[.int lo t, .int hi u, .int 1 v] }
  | .frz o u => h.get? a = some o ∧ ObjOk H h a u
  | .tbl ps => h.get? a = some { cls := .none, data := .fields ps }
  | .met f x => h.get? a = some (PySem.W.methodObj (.ref f) (.ref x))
  | .ext φ => φ h ∧ (∃ o, h.get? a = some o) ∧ ∀ h1 h2 : Heap, φ h1 → (∀ o, h1.get? a = some o → h2.get? a = some o) → φ h2
/-- the abstract heap is held -/
def HOk (H : Hp) (h : Heap) : Prop := ∀ a o, H a = some o → ObjOk P w H h a o
end

section
variable {P : Program} {w : World} {H H' : Hp} {h h' : Heap} {a : Addr} {o : HO}
theorem ObjOk.lt (x : ObjOk P w H h a o) : a < h.objs.size := by
  cases o with
  | lst xs => obtain ⟨_, _, _, _, e⟩ := x; exact Heap.lt_size e
  | tup xs => obtain ⟨_, _, _, p⟩ := x; exact p.lt
  | dK kvs => obtain ⟨_, _, _, _, o, _, _, e, _⟩ := x; exact Heap.lt_size e
  | dT kvs => obtain ⟨_, _, _, _, o, _, _, e, _⟩ := x; exact Heap.lt_size e
  | set S n => obtain ⟨o, _, _, _, e, _⟩ := x; exact Heap.lt_size e
  | ins C dx fs => obtain ⟨_, _, _, e, _⟩ := x; exact Heap.lt_size e
  | own y => obtain ⟨_, e⟩ := x; exact Heap.lt_size e
  | xd fs => obtain ⟨_, ⟨_, _, _, e, _⟩, _⟩ := x; exact Heap.lt_size e
  | rng lo hi => obtain ⟨_, _, _, e⟩ := x; exact Heap.lt_size e
  | frz ob u => obtain ⟨e, _⟩ := x; exact Heap.lt_size e
  | tbl ps => exact Heap.lt_size (show h.get? a = some _ from x)
  | met f y => exact Heap.lt_size (show h.get? a = some _ from x)
  | ext φ => obtain ⟨_, ⟨_, e⟩, _⟩ := x; exact Heap.lt_size e
theorem Paired.mapP {α β : Type} {F G : α → β → Prop} : ∀ {l₁ : List α} {l₂ : List β}, Paired F l₁ l₂ → (∀ a b, F a b → G a b) → Paired G l₁ l₂
  | _, _, .nil, _ => .nil
  | _, _, .cons r t, f => .cons (f _ _ r) (Paired.mapP t f)
/-- what an object's description leans on: its own object, its own dict, the tuples -/
theorem ObjOk.stay (x : ObjOk P w H h a o) (k : ∀ b u, (b = a ∨ H b = some (.own a)) → h.get? b = some u → h'.get? b = some u)
    (ho : ∀ b, H b = some (.own a) → H' b = some (.own a)) (ht : ∀ b xs, H b = some (.tup xs) → H' b = some (.tup xs)) : ObjOk P w H' h' a o := by
  induction o with
  | lst xs => obtain ⟨z, its, n, r, e⟩ := x; exact ⟨z, its, n, r, k _ _ (.inl rfl) e⟩
  | tup xs => obtain ⟨z, its, r, ob, e, c⟩ := x; exact ⟨z, its, r, ob, k _ _ (.inl rfl) e, c⟩
  | dK kvs => obtain ⟨z, y, vs, r, ob, es, ep, e, c⟩ := x; exact ⟨z, y, vs, r, ob, es, ep, k _ _ (.inl rfl) e, c⟩
  | dT kvs =>
    obtain ⟨z, y, xs, r, ob, es, ep, e, c⟩ := x
    exact ⟨z, y, xs, Paired.mapP r fun p q z => ⟨z.1, ht _ _ z.2.1, z.2.2⟩, ob, es, ep, k _ _ (.inl rfl) e, c⟩
  | set S n => obtain ⟨ob, es, ep, t, e, c⟩ := x; exact ⟨ob, es, ep, t, k _ _ (.inl rfl) e, c⟩
  | ins C dx fs =>
    obtain ⟨d, z, ne, e, mA, ⟨od, es, ep, e2, c⟩, r⟩ := x
    exact ⟨ho _ d, z, ne, k _ _ (.inl rfl) e, mA, ⟨od, es, ep, k _ _ (.inr d) e2, c⟩, r⟩
  | own y => obtain ⟨ob, e⟩ := x; exact ⟨ob, k _ _ (.inl rfl) e⟩
  | xd fs => obtain ⟨mA, ⟨od, es, ep, e, c⟩, r⟩ := x; exact ⟨mA, ⟨od, es, ep, k _ _ (.inl rfl) e, c⟩, r⟩
  | rng lo hi => obtain ⟨t, u, v, e⟩ := x; exact ⟨t, u, v, k _ _ (.inl rfl) e⟩
  | frz ob u ih => obtain ⟨e, q⟩ := x; exact ⟨k _ _ (.inl rfl) e, ih q⟩
  | tbl ps =>
    have e : h.get? a = some { cls := .none, data := .fields ps } := x
    show h'.get? a = some { cls := .none, data := .fields ps }
    exact k a _ (.inl rfl) e
  | met f y =>
    have e : h.get? a = some (PySem.W.methodObj (.ref f) (.ref y)) := x
    show h'.get? a = some (PySem.W.methodObj (.ref f) (.ref y))
    exact k a _ (.inl rfl) e
  | ext φ => obtain ⟨p, ⟨o, e⟩, st⟩ := x; exact ⟨st _ _ p fun o q => k _ _ (.inl rfl) q, ⟨o, k _ _ (.inl rfl) e⟩, st⟩
theorem HOk.lt (x : HOk P w H h) (e : H a = some o) : a < h.objs.size := (x a o e).lt
theorem HOk.fresh (x : HOk P w H h) (e : h.objs.size ≤ a) : H a = none := by
  cases q : H a with
  | none => rfl
  | some u => exact absurd (Nat.lt_of_lt_of_le (x.lt q) e) (Nat.lt_irrefl _)
/-- every object of the heap is kept -/
theorem HOk.kept (x : HOk P w H h) (k : ∀ b u, h.get? b = some u → h'.get? b = some u) : HOk P w H h' := fun a o e =>
  (x a o e).stay (fun b u _ q => k b u q) (fun _ q => q) fun _ _ q => q
/-- a new object is laid and tracked -/
theorem HOk.laid (x : HOk P w H h) (k : ∀ b u, h.get? b = some u → h'.get? b = some u) (hp : h.objs.size ≤ a) (new : ObjOk P w (upd H a o) h' a o) : HOk P w (upd H a o) h' := fun b u e => by
  have hn := x.fresh hp
  by_cases hb : b = a
  · subst hb; rw [upd_same] at e; cases e; exact new
  · rw [upd_ne hb] at e
    exact (x b u e).stay (fun c v _ q => k c v q) (fun c q => by rw [upd_ne (ne_of_none q hn)]; exact q) fun c xs q => by rw [upd_ne (ne_of_none q hn)]; exact q
end

/-- what may be read as u: it is u, or a known u -/
def Rd (H : Hp) (a : Addr) (u : HO) : Prop := H a = some u ∨ ∃ o, H a = some (.frz o u)
theorem Rd.ok {P : Program} {w : World} {H : Hp} {h : Heap} {a : Addr} {u : HO} (r : Rd H a u) (x : HOk P w H h) : ObjOk P w H h a u := by
  rcases r with r | ⟨o, r⟩
  · exact x a u r
  · obtain ⟨_, q⟩ := x a _ r
    exact q
/-- what may be written -/
def Mut : Option HO → Prop
  | some (.lst _) => True
  | some (.dK _) => True
  | some (.dT _) => True
  | some (.set _ _) => True
  | some (.ins _ _ _) => True
  | some (.ext _) => True
  | _ => False
section
variable {P : Program} {w : World} {H : Hp} {h h' : Heap} {x e : Addr} {o' : HO}
/-- the object at e is changed: x itself, or the dict of the instance x -/
theorem HOk.write (ok : HOk P w H h) (mu : Mut (H x)) (he : e = x ∨ H e = some (.own x)) (k : ∀ b u, b ≠ e → h.get? b = some u → h'.get? b = some u) (heo : ∃ u, h'.get? e = some u)
    (new : ObjOk P w (upd H x o') h' x o') : HOk P w (upd H x o') h' := fun b u q => by
  have nown : ∀ c y, H c = some (.own y) → c ≠ x := fun c y r z => by subst z; rw [r] at mu; exact mu
  have ntup : ∀ c xs, H c = some (.tup xs) → c ≠ x := fun c xs r z => by subst z; rw [r] at mu; exact mu
  by_cases hb : b = x
  · subst hb; rw [upd_same] at q; cases q; exact new
  · rw [upd_ne hb] at q
    by_cases hbe : b = e
    · have q' : H b = some (.own x) := by
        rcases he with z | z
        · exact absurd (hbe.trans z) hb
        · rw [hbe]; exact z
      rw [q] at q'; cases q'
      obtain ⟨v, hv⟩ := heo
      exact ⟨v, by rw [hbe]; exact hv⟩
    · refine (ok b u q).stay (fun c v hc r => k c v ?_ r) (fun c r => by rw [upd_ne (nown c b r)]; exact r) fun c xs r => by rw [upd_ne (ntup c xs r)]; exact r
      rcases hc with rfl | hc
      · exact hbe
      · rintro rfl
        rcases he with z | z
        · exact nown c b hc z
        · rw [hc] at z; cases z; exact hb rfl
end

/-! ### kept unless tracked; of the frames at fs (the callers') the slots may change (an exception that passes writes there); of the records at ex (iterators) nothing is said -/
structure Un (fs ex : List Addr) (H H' : Hp) (h h' : Heap) : Prop where
  keep : ∀ b o, h.get? b = some o → H b = none → b ∉ fs → b ∉ ex → h'.get? b = some o
  slot : ∀ b o, h.get? b = some o → H b = none → b ∈ fs → b ∉ ex → ∃ sl, h'.get? b = some { o with slots := sl }
  free : ∀ b o, h.get? b = some o → H b = none → b ∉ ex → H' b = none
  there : ∀ b o, h.get? b = some o → b ∉ ex → ∃ o', h'.get? b = some o'
  tups : ∀ b xs, H b = some (.tup xs) → H' b = some (.tup xs)
  frzs : ∀ b o u, H b = some (.frz o u) → H' b = some (.frz o u)
  tbls : ∀ b ps, H b = some (.tbl ps) → ∃ more, H' b = some (.tbl (ps ++ more))
section
variable {fs fs' ex ex' : List Addr} {H H1 H2 : Hp} {h h1 h2 h' : Heap} {a x e : Addr} {o : HO}
theorem Un.any (u : Un fs ex H H1 h h1) {b : Addr} {ob : Obj} (q : h.get? b = some ob) (n : H b = none) (hx : b ∉ ex) : ∃ sl, h1.get? b = some { ob with slots := sl } := by
  by_cases hb : b ∈ fs
  · exact u.slot b ob q n hb hx
  · exact ⟨ob.slots, u.keep b ob q n hb hx⟩
theorem Un.kept (k : ∀ b u, h.get? b = some u → h'.get? b = some u) : Un fs ex H H h h' :=
  ⟨fun b ob q _ _ _ => k b ob q, fun b ob q _ _ _ => ⟨ob.slots, k b ob q⟩, fun _ _ _ n _ => n, fun b ob q _ => ⟨ob, k b ob q⟩, fun _ _ q => q, fun _ _ _ q => q, fun _ ps q => ⟨#[], by rw [q]; simp⟩⟩
theorem Un.refl : Un fs ex H H h h := Un.kept fun _ _ q => q
theorem Un.laid (k : ∀ b u, h.get? b = some u → h'.get? b = some u) (hp : h.objs.size ≤ a) (hn : H a = none) : Un fs ex H (upd H a o) h h' where
  keep := fun b u q _ _ _ => k b u q
  slot := fun b u q _ _ _ => ⟨u.slots, k b u q⟩
  free := fun b u q n _ => by rw [upd_ne (Nat.ne_of_lt (Nat.lt_of_lt_of_le (Heap.lt_size q) hp))]; exact n
  there := fun b u q _ => ⟨u, k b u q⟩
  tups := fun b xs q => by rw [upd_ne (ne_of_none q hn)]; exact q
  frzs := fun b u xs q => by rw [upd_ne (ne_of_none q hn)]; exact q
  tbls := fun b ps q => ⟨#[], by rw [upd_ne (ne_of_none q hn), q]; simp⟩
theorem Un.write (mu : Mut (H x)) (he : e = x ∨ H e = some (.own x)) (k : ∀ b u, b ≠ e → h.get? b = some u → h'.get? b = some u) (heo : ∃ u, h'.get? e = some u) : Un fs ex H (upd H x o) h h' := by
  have hx : ∀ b, H b = none → b ≠ x := fun b n z => by subst z; rw [n] at mu; exact mu
  have hb : ∀ b, H b = none → b ≠ e := fun b n z => by
    subst z
    rcases he with r | r
    · exact hx b n r
    · rw [n] at r; cases r
  have hm : ∀ b u, H b = some u → ¬ Mut (some u) → b ≠ x := fun b u q nm z => by subst z; rw [q] at mu; exact nm mu
  refine ⟨fun b u q n _ _ => k b u (hb b n) q, fun b u q n _ _ => ⟨u.slots, k b u (hb b n) q⟩, fun b u q n _ => by rw [upd_ne (hx b n)]; exact n, fun b u q _ => ?_,
    fun b xs q => by rw [upd_ne (hm b _ q fun z => z)]; exact q, fun b u xs q => by rw [upd_ne (hm b _ q fun z => z)]; exact q, fun b ps q => ⟨#[], by rw [upd_ne (hm b _ q fun z => z), q]; simp⟩⟩
  by_cases hbe : b = e
  · subst hbe; exact heo
  · exact ⟨u, k b u hbe q⟩
end

/-! ### the heap without what is tracked -/
def trk (h : Heap) (H : Hp) : List Addr := (List.range h.objs.size).filter fun a => (H a).isSome
def hidT (h : Heap) (H : Hp) : Heap := PySem.W.hideAll h (trk h H)
theorem hidT_size (h : Heap) (H : Hp) : (hidT h H).objs.size = h.objs.size := PySem.W.hideAll_size _ _
theorem hidT_get {h : Heap} {H : Hp} {b : Addr} {o : Obj} (e : h.get? b = some o) (n : H b = none) : (hidT h H).get? b = some o :=
  PySem.W.hideAll_get _ e fun hm => by
    have q : (H b).isSome = true := (List.mem_filter.mp hm).2
    rw [n] at q; simp at q
theorem of_hidT {h : Heap} {H : Hp} {b : Addr} {o : Obj} (e : (hidT h H).get? b = some o) : h.get? b = some o ∧ H b = none := by
  have e' : h.get? b = some o := PySem.W.of_hideAll (trk h H) e
  refine ⟨e', ?_⟩
  cases q : H b with
  | none => rfl
  | some x =>
    have hm : b ∈ trk h H := List.mem_filter.mpr ⟨List.mem_range.mpr (Heap.lt_size e'), by simp [q]⟩
    have z : (hidT h H).get? b = none := PySem.W.hideAll_none (trk h H) hm
    rw [z] at e; cases e

/-! ### OpenK's ledger, filled with every new object but one -/
end L2

namespace L2
open PySem PySem.Spec PyProof.Rows

/-- the module's facts, over the base: the heap at the law's entry without what is tracked there -/
structure Mod (K : PySem.W.Frag) (mg : Str → Option Value) (base : Heap) : Prop where
  kin : K.In base
  glob : base.Ns mainGlobals mg
  blt : ∃ mb, base.Ns builtinsNs mb ∧ ∀ x : Str, x ≠ "__name__" → mb x = bootBuiltins x
  nolimit : base.NoLimit

/-- the context: a def's body (or a comprehension's block) running. base: fixed through the whole law; s₀, H₀: the entry; outer: the frames whose slots others may change (a def's callers); stack: all frames that run;
   ex: iterators that were made ahead of the entry and are walked here (a comprehension's); fn: the names whose cells were made at the entry (a def: all; a comprehension's block: its own); calm: not within an except suite; pn: pins that every state bears; xe: what is wanted of an exception that leaves the code -/
structure Cx where
  prog : Program
  w : World
  K : PySem.W.Frag
  mg : Str → Option Value
  base : Heap
  A : Around
  N : List Str
  s₀ : Shared
  H₀ : Hp
  env : Env
  outer : List Env
  stack : List Env
  ex : List Addr
  fn : Str → Bool
  calm : Bool
  pn : List (Addr × Obj)
  xe : Value → Shared → Prop
/-- the callers' frames -/
def frs (l : List Env) : List Addr := l.filterMap (·.frame)
abbrev Cx.fs (X : Cx) : List Addr := frs X.outer

def Vis (sc : Scope) (x : Str) : Prop := sc.names.lookup x = some .local ∨ sc.names.lookup x = some .cell ∨ sc.names.lookup x = some .free
def Loc (sc : Scope) (x : Str) : Prop := sc.names.lookup x = some .local ∨ sc.names.lookup x = some .cell
def Look (env : Env) (h : Heap) (m : Str → Option Value) (x : Str) (u : Value) : Prop :=
  (env.kindOf x = some .local ∧ m x = some u) ∨ ((env.kindOf x = some .cell ∨ env.kindOf x = some .free) ∧ ∃ c, env.cells.lookup x = some c ∧ h.IsCell c (some u))

structure Cx.Ok (X : Cx) : Prop where
  mod : Mod X.K X.mg X.base
  kind : X.env.scope.kind = .function
  glob : X.env.globals = mainGlobals
  blt : X.env.builtins = builtinsNs
  above : X.s₀.heap.objs.size ≤ X.env.locals
  inj : ∀ x y c, X.env.cells.lookup x = some c → X.env.cells.lookup y = some c → x = y
  has : ∀ x, (X.env.kindOf x = some .cell ∨ X.env.kindOf x = some .free) → ∃ c, X.env.cells.lookup x = some c
  cab : ∀ x c, X.fn x = true → X.env.cells.lookup x = some c → X.s₀.heap.objs.size ≤ c
  hd : X.calm = true → X.A.handled = none
  frames : X.A.frames = some X.stack
  stk : X.stack = X.outer ∨ (X.stack = X.env :: X.outer ∧ X.env.frame = some X.env.locals)
  exf : ∀ b ∈ X.ex, b ≠ X.env.locals ∧ ∀ x c, X.env.cells.lookup x = some c → c ≠ b
  bs : ∀ b o, X.base.get? b = some o → X.s₀.heap.get? b = some o ∧ X.H₀ b = none
  bsz : X.base.objs.size ≤ X.s₀.heap.objs.size
  noex : ∀ b o, X.base.get? b = some o → b ∉ X.ex
  exfs : ∀ b ∈ X.ex, b ∉ X.fs
  funs : X.s₀.heap.FunFrames X.base X.outer
  frf : ∀ b ∈ X.fs, X.H₀ b = none

structure Inv (X : Cx) (pins : List (Addr × Obj)) (σ : List (Option V)) (H : Hp) (s : Shared) : Prop where
  ok : X.Ok
  os : s.os = X.s₀.os
  bare : AllBare s.gens
  base : Un X.fs X.ex X.H₀ H X.s₀.heap s.heap
  loc : ∃ m, s.heap.Ns X.env.locals m ∧ ∀ (i : Nat) (x : Str) (v : V), X.N[i]? = some x → σ[i]? = some (some v) → Vis X.env.scope x → ∃ u, RelV v u ∧ Look X.env s.heap m x u
  cell : ∀ x c, X.env.cells.lookup x = some c → ∃ v, s.heap.IsCell c v
  free : H X.env.locals = none
  freeC : ∀ x c, X.env.cells.lookup x = some c → H c = none
  pin : ∀ p ∈ X.pn ++ pins, s.heap.get? p.1 = some p.2 ∧ H p.1 = none ∧ p.1 ≠ X.env.locals ∧ p.1 ∉ X.fs ∧ ∀ v, p.2.data ≠ .cell v
  hok : HOk X.prog X.w H s.heap
  len : σ.length = X.N.length

section
variable {X : Cx} {pins : List (Addr × Obj)} {σ : List (Option V)} {H H' : Hp} {s : Shared} {h' : Heap}

theorem Cx.Ok.nofr (ok : X.Ok) {b : Addr} {o : Obj} (e : X.base.get? b = some o) : b ∉ X.fs := fun hb => by
  have := (ok.funs.mem hb).1
  rw [e] at this; cases this
theorem Inv.bs (I : Inv X pins σ H s) : ∀ b o, X.base.get? b = some o → s.heap.get? b = some o ∧ H b = none := fun b o e =>
  ⟨I.base.keep b o (I.ok.bs b o e).1 (I.ok.bs b o e).2 (I.ok.nofr e) (I.ok.noex b o e), I.base.free b o (I.ok.bs b o e).1 (I.ok.bs b o e).2 (I.ok.noex b o e)⟩
theorem Inv.bk (I : Inv X pins σ H s) : ∀ b o, X.base.get? b = some o → s.heap.get? b = some o := fun b o e => (I.bs b o e).1
theorem Inv.mod (I : Inv X pins σ H s) : Mod X.K X.mg X.base := I.ok.mod
theorem Inv.kIn (I : Inv X pins σ H s) : X.K.In s.heap := I.ok.mod.kin.keeps I.bk
theorem Inv.lt (I : Inv X pins σ H s) : X.env.locals < s.heap.objs.size := let ⟨_, hn, _⟩ := I.loc; hn.lt
theorem Inv.sz (I : Inv X pins σ H s) : X.s₀.heap.objs.size ≤ s.heap.objs.size := Nat.le_trans I.ok.above (Nat.le_of_lt I.lt)
theorem Inv.nofs (I : Inv X pins σ H s) {a : Addr} (h : s.heap.objs.size ≤ a) : a ∉ X.fs := fun hb => by
  obtain ⟨_, o, ho, _⟩ := I.ok.funs.mem hb
  exact absurd (Nat.lt_of_lt_of_le (Heap.lt_size ho) (Nat.le_trans I.sz h)) (Nat.lt_irrefl _)
theorem Inv.cne (I : Inv X pins σ H s) : ∀ x c, X.env.cells.lookup x = some c → c ≠ X.env.locals := fun x c e z => by
  obtain ⟨v, o, ho, hd⟩ := I.cell x c e
  obtain ⟨m, ⟨o', es, ep, ho', hd', _⟩, _⟩ := I.loc
  rw [z, ho'] at ho; cases ho; rw [hd'] at hd; cases hd
theorem Inv.funs (I : Inv X pins σ H s) : s.heap.FunFrames X.base X.outer := by
  have all : ∀ (l : List Env), (∀ b ∈ frs l, b ∈ X.fs) → X.s₀.heap.FunFrames X.base l → s.heap.FunFrames X.base l := by
    intro l
    induction l with
    | nil => intro _ _; trivial
    | cons env r ih =>
      intro hs hl
      obtain ⟨hk, ⟨L, o, hf, hn, ho, hd⟩, hr⟩ := hl
      have hL : L ∈ X.fs := hs L (by unfold frs; rw [List.filterMap_cons, hf]; exact List.mem_cons_self)
      obtain ⟨sl, e⟩ := I.base.slot L o ho (I.ok.frf L hL) hL fun z => I.ok.exfs L z hL
      exact ⟨hk, ⟨L, _, hf, hn, e, hd⟩, ih (fun b hb => hs b (by unfold frs; rw [List.filterMap_cons, hf]; exact List.mem_cons_of_mem _ hb)) hr⟩
  exact all X.outer (fun _ hb => hb) I.ok.funs

/-- the frames that run, for a call -/
theorem Inv.stack (I : Inv X pins σ H s) : s.heap.FunFrames X.base X.stack := by
  rcases I.ok.stk with e | ⟨e, hf⟩
  · rw [e]; exact I.funs
  · rw [e]
    obtain ⟨m, hn, _⟩ := I.loc
    refine .cons (by rw [I.ok.kind]; decide) hf hn ?_ I.funs
    exact Heap.get?_none_of_le (Nat.le_trans I.ok.bsz I.ok.above)
theorem Inv.stkSub (I : Inv X pins σ H s) : ∀ b ∈ frs X.stack, b ∈ X.env.locals :: X.fs := fun b hb => by
  rcases I.ok.stk with e | ⟨e, hf⟩
  · rw [e] at hb; exact List.mem_cons_of_mem _ hb
  · rw [e] at hb
    unfold frs at hb
    rw [List.filterMap_cons, hf] at hb
    exact hb
theorem Inv.stkFree (I : Inv X pins σ H s) : ∀ b ∈ frs X.stack, H b = none := fun b hb => by
  rcases List.mem_cons.mp (I.stkSub b hb) with e | hb
  · rw [e]; exact I.free
  · obtain ⟨_, o, ho, _⟩ := I.ok.funs.mem hb
    exact I.base.free b o ho (I.ok.frf b hb) fun z => I.ok.exfs b z hb

/-- THE STEP: the untracked objects but the frame and the records at ch are kept (the callers' frames up to slots), the frame's map is kept, the new abstract heap is held -/
theorem Inv.step {g' : Array GenState} {t' : Nat} {d' : Drawn} {ch : List Addr} (I : Inv X pins σ H s)
    (hch : ∀ b ∈ ch, (b ∈ X.ex ∨ X.s₀.heap.objs.size ≤ b) ∧ b ≠ X.env.locals ∧ (∀ x c, X.env.cells.lookup x = some c → c ≠ b) ∧ ∀ p ∈ X.pn ++ pins, p.1 ≠ b)
    (keep : ∀ b o, b ≠ X.env.locals → b ∉ X.fs → b ∉ ch → s.heap.get? b = some o → H b = none → h'.get? b = some o)
    (slot : ∀ b o, b ≠ X.env.locals → b ∈ X.fs → b ∉ ch → s.heap.get? b = some o → H b = none → ∃ sl, h'.get? b = some { o with slots := sl }) (free : ∀ b o, b ∉ ch → s.heap.get? b = some o → H b = none → H' b = none)
    (there : ∀ b o, b ∉ ch → s.heap.get? b = some o → ∃ o', h'.get? b = some o')
    (tups : ∀ b xs, H b = some (.tup xs) → H' b = some (.tup xs)) (frzs : ∀ b o u, H b = some (.frz o u) → H' b = some (.frz o u)) (tbls : ∀ b ps, H b = some (.tbl ps) → ∃ more, H' b = some (.tbl (ps ++ more)))
    (ns : ∀ m, s.heap.Ns X.env.locals m → h'.Ns X.env.locals m) (hok : HOk X.prog X.w H' h') (hg : AllBare g') :
    Inv X pins σ H' { s with heap := h', gens := g', drawn := d', toks := t' } := by
  have neL : ∀ b o, X.s₀.heap.get? b = some o → b ≠ X.env.locals := fun b o e => Nat.ne_of_lt (Nat.lt_of_lt_of_le (Heap.lt_size e) I.ok.above)
  have neC : ∀ b o, X.s₀.heap.get? b = some o → b ∉ X.ex → b ∉ ch := fun b o e hx hb => by
    rcases (hch b hb).1 with z | z
    · exact hx z
    · exact absurd (Nat.lt_of_lt_of_le (Heap.lt_size e) z) (Nat.lt_irrefl _)
  have cellK : ∀ x c, X.env.cells.lookup x = some c → ∀ v, s.heap.IsCell c v → h'.IsCell c v := fun x c e v ⟨o, ho, hd⟩ => by
    have nch : c ∉ ch := fun z => (hch c z).2.2.1 x c e rfl
    by_cases hc : c ∈ X.fs
    · obtain ⟨sl, q⟩ := slot c o (I.cne x c e) hc nch ho (I.freeC x c e)
      exact ⟨_, q, hd⟩
    · exact ⟨o, keep c o (I.cne x c e) hc nch ho (I.freeC x c e), hd⟩
  refine ⟨I.ok, I.os, hg, ⟨fun b o e n hb hx => ?_, fun b o e n hb hx => ?_, fun b o e n hx => ?_, fun b o e hx => ?_, fun b xs e => tups b xs (I.base.tups b xs e), fun b o xs e => frzs b o xs (I.base.frzs b o xs e), fun b ps e => ?_⟩, ?_, fun x c e => ?_, ?_, fun x c e => ?_, fun p hp => ?_, hok, I.len⟩
  · exact keep b o (neL b o e) hb (neC b o e hx) (I.base.keep b o e n hb hx) (I.base.free b o e n hx)
  · obtain ⟨sl, e1⟩ := I.base.slot b o e n hb hx
    obtain ⟨sl', e2⟩ := slot b _ (neL b o e) hb (neC b o e hx) e1 (I.base.free b o e n hx)
    exact ⟨sl', e2⟩
  · obtain ⟨o', e1⟩ := I.base.there b o e hx
    exact free b o' (neC b o e hx) e1 (I.base.free b o e n hx)
  · obtain ⟨o', e1⟩ := I.base.there b o e hx
    exact there b o' (neC b o e hx) e1
  · obtain ⟨m1, e1⟩ := I.base.tbls b ps e
    obtain ⟨m2, e2⟩ := tbls b _ e1
    exact ⟨m1 ++ m2, by rw [e2, Array.append_assoc]⟩
  · obtain ⟨m, hn, hl⟩ := I.loc
    refine ⟨m, ns m hn, fun i x v e1 e2 e3 => ?_⟩
    obtain ⟨u, r, l⟩ := hl i x v e1 e2 e3
    refine ⟨u, r, ?_⟩
    rcases l with l | ⟨k, c, e, z⟩
    · exact .inl l
    · exact .inr ⟨k, c, e, cellK x c e _ z⟩
  · obtain ⟨v, z⟩ := I.cell x c e
    exact ⟨v, cellK x c e v z⟩
  · obtain ⟨m, ⟨o, _, _, ho, _⟩, _⟩ := I.loc
    exact free _ o (fun z => (hch _ z).2.1 rfl) ho I.free
  · obtain ⟨v, o, ho, hd⟩ := I.cell x c e
    exact free c o (fun z => (hch c z).2.2.1 x c e rfl) ho (I.freeC x c e)
  · obtain ⟨e, n, ne, nf, d⟩ := I.pin p hp
    have nch : p.1 ∉ ch := fun z => (hch p.1 z).2.2.2 p hp rfl
    exact ⟨keep p.1 p.2 ne nf nch e n, free p.1 p.2 nch e n, ne, nf, d⟩
/-- .. where the frame's own object is kept too -/
theorem Inv.un {t' : Nat} (I : Inv X pins σ H s) (u : Un X.fs [] H H' s.heap h') (hok : HOk X.prog X.w H' h') : Inv X pins σ H' { s with heap := h', toks := t' } := by
  obtain ⟨m, ⟨o, es, ep, ho, r⟩, _⟩ := id I.loc
  obtain ⟨sl, hL⟩ := u.any ho I.free (by simp)
  exact I.step (g' := s.gens) (d' := s.drawn) (ch := []) (fun _ z => nomatch z) (fun b o _ hb _ e n => u.keep b o e n hb (by simp)) (fun b o _ hb _ e n => u.slot b o e n hb (by simp)) (fun b o _ e n => u.free b o e n (by simp)) (fun b o _ e => u.there b o e (by simp)) u.tups u.frzs u.tbls (fun m' hm => by
    obtain ⟨o', es', ep', ho', r'⟩ := hm
    rw [ho] at ho'; cases ho'
    exact ⟨_, es', ep', hL, r'⟩) hok I.bare
/-- behind a call (or a comprehension's block): the slots of this frame may have changed too, the records at ch may have turned -/
theorem Inv.call {g' : Array GenState} {t' : Nat} {d' : Drawn} {ch : List Addr} (I : Inv X pins σ H s) (u : Un (frs X.stack) ch H H' s.heap h') (hok : HOk X.prog X.w H' h') (hg : AllBare g')
    (hch : ∀ b ∈ ch, (b ∈ X.ex ∨ X.s₀.heap.objs.size ≤ b) ∧ b ≠ X.env.locals ∧ (∀ x c, X.env.cells.lookup x = some c → c ≠ b) ∧ ∀ p ∈ X.pn ++ pins, p.1 ≠ b) :
    Inv X pins σ H' { s with heap := h', gens := g', drawn := d', toks := t' } := by
  obtain ⟨m, ⟨o, es, ep, ho, r⟩, _⟩ := id I.loc
  obtain ⟨sl, hL⟩ := u.any ho I.free fun z => (hch _ z).2.1 rfl
  exact I.step (ch := ch) hch (fun b o hL hb hc e n => u.keep b o e n (fun z => (List.mem_cons.mp (I.stkSub b z)).elim hL hb) hc) (fun b o _ _ hc e n => u.any e n hc) (fun b o hc e n => u.free b o e n hc) (fun b o hc e => u.there b o e hc) u.tups u.frzs u.tbls (fun m' hm => by
    obtain ⟨o', es', ep', ho', r'⟩ := hm
    rw [ho] at ho'; cases ho'
    exact ⟨_, es', ep', hL, r'⟩) hok hg
/-- an untracked record of ours (an iterator) has turned -/
theorem Inv.turned {t' : Nat} {it : Addr} (I : Inv X pins σ H s) (k : ∀ b o, b ≠ it → s.heap.get? b = some o → h'.get? b = some o) (hn : H it = none) (hL : it ≠ X.env.locals)
    (h1 : it ∈ X.ex ∨ X.s₀.heap.objs.size ≤ it) (h2 : ∀ x c, X.env.cells.lookup x = some c → c ≠ it) (h3 : ∀ p ∈ X.pn ++ pins, p.1 ≠ it) : Inv X pins σ H { s with heap := h', toks := t' } := by
  have nit : ∀ b u, H b = some u → b ≠ it := fun b u e z => by rw [z, hn] at e; cases e
  refine I.step (g' := s.gens) (d' := s.drawn) (ch := [it]) (fun b hb => ?_) (fun b o _ _ hc e _ => k b o (fun z => hc (by simp [z])) e) (fun b o _ _ hc e _ => ⟨o.slots, k b o (fun z => hc (by simp [z])) e⟩) (fun _ _ _ _ n => n)
    (fun b o hc e => ⟨o, k b o (fun z => hc (by simp [z])) e⟩) (fun _ _ e => e) (fun _ _ _ e => e) (fun b ps e => ⟨#[], by rw [e]; simp⟩) (fun m hm => ?_) (fun b u e => ?_) I.bare
  · have e : b = it := by simpa using hb
    subst e
    exact ⟨h1, hL, h2, h3⟩
  · obtain ⟨o, es, ep, ho, r⟩ := hm
    exact ⟨o, es, ep, k _ o (Ne.symm hL) ho, r⟩
  · refine (I.hok b u e).stay (fun c v hc q => k c v ?_ q) (fun _ q => q) fun _ _ q => q
    rcases hc with z | z
    · rw [z]; exact nit b u e
    · exact nit c _ z
theorem Inv.tok (I : Inv X pins σ H s) (t : Nat) : Inv X pins σ H { s with toks := t } := I.un (h' := s.heap) (t' := t) Un.refl I.hok
/-- all objects kept -/
theorem Inv.kept {t' : Nat} (I : Inv X pins σ H s) (k : ∀ b u, s.heap.get? b = some u → h'.get? b = some u) : Inv X pins σ H { s with heap := h', toks := t' } := I.un (Un.kept k) (I.hok.kept k)
/-- a new object laid and tracked -/
theorem Inv.laid {a : Addr} {o : HO} {t' : Nat} (I : Inv X pins σ H s) (k : ∀ b u, s.heap.get? b = some u → h'.get? b = some u) (hp : s.heap.objs.size ≤ a) (new : ObjOk X.prog X.w (upd H a o) h' a o) :
    Inv X pins σ (upd H a o) { s with heap := h', toks := t' } := I.un (Un.laid k hp (I.hok.fresh hp)) (I.hok.laid k hp new)
/-- an object written -/
theorem Inv.write {x e : Addr} {o : HO} {t' : Nat} (I : Inv X pins σ H s) (mu : Mut (H x)) (he : e = x ∨ H e = some (.own x)) (k : ∀ b u, b ≠ e → s.heap.get? b = some u → h'.get? b = some u) (heo : ∃ u, h'.get? e = some u)
    (new : ObjOk X.prog X.w (upd H x o) h' x o) : Inv X pins σ (upd H x o) { s with heap := h', toks := t' } := I.un (Un.write mu he k heo) (I.hok.write mu he k heo new)
theorem Inv.pins_of {pins' : List (Addr × Obj)} (I : Inv X pins σ H s) (h : ∀ p ∈ pins', s.heap.get? p.1 = some p.2 ∧ H p.1 = none ∧ p.1 ≠ X.env.locals ∧ p.1 ∉ X.fs ∧ ∀ v, p.2.data ≠ .cell v) : Inv X pins' σ H s :=
  ⟨I.ok, I.os, I.bare, I.base, I.loc, I.cell, I.free, I.freeC, fun p hp => (List.mem_append.mp hp).elim (fun z => I.pin p (List.mem_append_left _ z)) (h p), I.hok, I.len⟩

theorem nodup_ix {N : List Str} (hN : N.Nodup) {i j : Nat} {x : Str} (a : N[i]? = some x) (b : N[j]? = some x) : i = j := by
  obtain ⟨h1, e1⟩ := List.getElem?_eq_some_iff.mp a
  obtain ⟨h2, e2⟩ := List.getElem?_eq_some_iff.mp b
  exact (List.getElem_inj hN).mp (e1.trans e2.symm)

/-- a name is stored; what changed -/
theorem store_ok2 {M : Model} {A : Around} {E : Value → Shared → Prop} {i : Nat} {x : Str} {v : V} {u : Value} {Q : Unit → Shared → Prop} (I : Inv X pins σ H s) (hN : X.N.Nodup) (hi : X.N[i]? = some x) (hx : Loc X.env.scope x) (r : RelV v u)
    (h : ∀ s', Inv X pins (σ.set i (some v)) H s' → (∃ a, Heap.SameBut a s.heap s'.heap ∧ (a = X.env.locals ∨ X.env.cells.lookup x = some a)) → Q () s') (hf : X.fn x = true ∨ X.env.scope.names.lookup x = some .local := by first | exact .inl rfl | exact .inr rfl | assumption) : wpAny M A (storeName X.env x u) Q E s := by
  obtain ⟨m, hn, hl⟩ := id I.loc
  have hcls : (X.env.scope.kind == .class || (X.env.scope.kind == .module && X.env.locals != X.env.globals)) = false := by rw [I.ok.kind]; rfl
  have hiσ : i < σ.length := by rw [I.len]; exact (List.getElem?_eq_some_iff.mp hi).1
  have cne := I.cne
  have tracked : ∀ {a : Addr} {h' : Heap}, (∃ o, s.heap.get? a = some o ∧ H a = none) → Heap.SameBut a s.heap h' → HOk X.prog X.w H h' := fun {a h'} ha hs b ob e => by
    obtain ⟨_, _, hfree⟩ := ha
    refine (I.hok b ob e).stay (fun c w' hc q => (hs.2 c ?_).trans q) (fun _ q => q) fun _ _ q => q
    rintro rfl
    rcases hc with rfl | hc
    · rw [hfree] at e; cases e
    · rw [hfree] at hc; cases hc
  rcases hx with hk | hk
  · refine wpAny_storeName_local hk hn (fun h' hn' hs => ?_) hcls
    obtain ⟨oL, _, _, hoL, _⟩ := id hn
    refine h _ ⟨I.ok, I.os, I.bare, ⟨fun b o e n hb hx => ?_, fun b o e n hb hx => ?_, I.base.free, fun b o e hx => ?_, I.base.tups, I.base.frzs, I.base.tbls⟩, ⟨_, hn', fun j y v' e1 e2 e3 => ?_⟩, fun y c e => ?_, I.free, I.freeC, fun p hp => ?_, tracked ⟨oL, hoL, I.free⟩ hs, by simpa using I.len⟩ ⟨_, hs, .inl rfl⟩
    · exact (hs.2 b (Nat.ne_of_lt (Nat.lt_of_lt_of_le (Heap.lt_size e) I.ok.above))).trans (I.base.keep b o e n hb hx)
    · obtain ⟨sl, e1⟩ := I.base.slot b o e n hb hx
      exact ⟨sl, (hs.2 b (Nat.ne_of_lt (Nat.lt_of_lt_of_le (Heap.lt_size e) I.ok.above))).trans e1⟩
    · obtain ⟨o', e1⟩ := I.base.there b o e hx
      exact ⟨o', (hs.2 b (Nat.ne_of_lt (Nat.lt_of_lt_of_le (Heap.lt_size e) I.ok.above))).trans e1⟩
    · by_cases hj : j = i
      · subst hj
        rw [hi] at e1; cases e1
        rw [List.getElem?_set_self hiσ] at e2
        cases e2
        exact ⟨u, r, .inl ⟨hk, by simp⟩⟩
      · rw [List.getElem?_set_ne (Ne.symm hj)] at e2
        obtain ⟨u', r', q⟩ := hl j y v' e1 e2 e3
        refine ⟨u', r', ?_⟩
        rcases q with ⟨k, e⟩ | ⟨k, c, e, z⟩
        · refine .inl ⟨k, ?_⟩
          have : y ≠ x := fun e => hj (nodup_ix hN e1 (e ▸ hi))
          simp [this, e]
        · exact .inr ⟨k, c, e, z.sameBut hs (cne y c e)⟩
    · obtain ⟨w', z⟩ := I.cell y c e
      exact ⟨w', z.sameBut hs (cne y c e)⟩
    · obtain ⟨e, n, ne, nf, d⟩ := I.pin p hp
      exact ⟨(hs.2 p.1 ne).trans e, n, ne, nf, d⟩
  · have hfn : X.fn x = true := by
      rcases hf with z | z
      · exact z
      · rw [z] at hk; cases hk
    obtain ⟨c, hc⟩ := I.ok.has x (.inl hk)
    obtain ⟨w', z⟩ := I.cell x c hc
    refine wpAny_storeName_cell I.ok.kind hk hc z (fun h' hc' hs => ?_)
    obtain ⟨oc, hoc, hocd⟩ := id z
    refine h { s with heap := h' } ⟨I.ok, I.os, I.bare, ⟨fun b o e n hb hx => ?_, fun b o e n hb hx => ?_, I.base.free, fun b o e hx => ?_, I.base.tups, I.base.frzs, I.base.tbls⟩, ⟨m, hn.sameBut hs (Ne.symm (cne x c hc)), fun j y v' e1 e2 e3 => ?_⟩, fun y c' e => ?_, I.free, I.freeC, fun p hp => ?_, tracked ⟨oc, hoc, I.freeC x c hc⟩ hs, by simpa using I.len⟩ ⟨c, hs, .inr hc⟩
    · exact (hs.2 b (Nat.ne_of_lt (Nat.lt_of_lt_of_le (Heap.lt_size e) (I.ok.cab x c hfn hc)))).trans (I.base.keep b o e n hb hx)
    · obtain ⟨sl, e1⟩ := I.base.slot b o e n hb hx
      exact ⟨sl, (hs.2 b (Nat.ne_of_lt (Nat.lt_of_lt_of_le (Heap.lt_size e) (I.ok.cab x c hfn hc)))).trans e1⟩
    · obtain ⟨o', e1⟩ := I.base.there b o e hx
      exact ⟨o', (hs.2 b (Nat.ne_of_lt (Nat.lt_of_lt_of_le (Heap.lt_size e) (I.ok.cab x c hfn hc)))).trans e1⟩
    · by_cases hj : j = i
      · subst hj
        rw [hi] at e1; cases e1
        rw [List.getElem?_set_self hiσ] at e2
        cases e2
        exact ⟨u, r, .inr ⟨.inl hk, c, hc, hc'⟩⟩
      · rw [List.getElem?_set_ne (Ne.symm hj)] at e2
        obtain ⟨u', r', q⟩ := hl j y v' e1 e2 e3
        refine ⟨u', r', ?_⟩
        rcases q with q | ⟨k, c', e, z'⟩
        · exact .inl q
        · refine .inr ⟨k, c', e, z'.sameBut hs ?_⟩
          rintro rfl
          exact hj (nodup_ix hN e1 (I.ok.inj _ _ _ e hc ▸ hi))
    · by_cases hcc : c' = c
      · subst hcc; exact ⟨_, hc'⟩
      · obtain ⟨w2, z2⟩ := I.cell y c' e
        exact ⟨w2, z2.sameBut hs hcc⟩
    · obtain ⟨e, n, ne, nf, d⟩ := I.pin p hp
      refine ⟨(hs.2 p.1 ?_).trans e, n, ne, nf, d⟩
      intro q
      rw [q, hoc] at e
      have q' : oc = p.2 := Option.some.inj e
      exact d w' (by rw [← q']; exact hocd)
theorem store_ok {M : Model} {A : Around} {E : Value → Shared → Prop} {i : Nat} {x : Str} {v : V} {u : Value} {Q : Unit → Shared → Prop} (I : Inv X pins σ H s) (hN : X.N.Nodup) (hi : X.N[i]? = some x) (hx : Loc X.env.scope x) (r : RelV v u)
    (h : ∀ s', Inv X pins (σ.set i (some v)) H s' → Q () s') (hf : X.fn x = true ∨ X.env.scope.names.lookup x = some .local := by first | exact .inl rfl | exact .inr rfl | assumption) : wpAny M A (storeName X.env x u) Q E s :=
  store_ok2 I hN hi hx r (fun s' I' _ => h s' I') hf
/-- behind a call or a block, the state as it is -/
theorem Inv.call' {s' : Shared} {ch : List Addr} (I : Inv X pins σ H s) (ho : s'.os = s.os) (u : Un (frs X.stack) ch H H' s.heap s'.heap) (hok : HOk X.prog X.w H' s'.heap) (hg : AllBare s'.gens)
    (hch : ∀ b ∈ ch, (b ∈ X.ex ∨ X.s₀.heap.objs.size ≤ b) ∧ b ≠ X.env.locals ∧ (∀ x c, X.env.cells.lookup x = some c → c ≠ b) ∧ ∀ p ∈ X.pn ++ pins, p.1 ≠ b) : Inv X pins σ H' s' := by
  obtain ⟨h', g', d', t', o'⟩ := s'
  have e : o' = s.os := ho
  subst e
  exact I.call (g' := g') (t' := t') (d' := d') u hok hg hch
end

/-! ### the judgements -/
/-- an exception: its class, its own dict's address (where it has one), the abstract heap behind it -/
abbrev XK := Value → Option Addr → Hp → Prop
abbrev St := List (Option V)
abbrev VK := V → Hp → Prop
/-- an expression's reading; a test's; an argument list's -/
abbrev TE := St → Hp → VK → Prop
abbrev TT := St → Hp → (Bool → Hp → Prop) → Prop
abbrev TA := St → Hp → (List V → Hp → Prop) → Prop
/-- what is wanted behind a statement -/
structure Ends where
  nx : St → Hp → Prop
  rt : VK
  bk : St → Hp → Prop := fun _ _ => False
  ct : St → Hp → Prop := fun _ _ => False
abbrev TS := Ends → St → Hp → Prop

def EP (X : Cx) (pins : List (Addr × Obj)) (σ : St) (Q : VK) (u : Value) (s' : Shared) : Prop := ∃ v H', Inv X pins σ H' s' ∧ RelV v u ∧ Q v H'
def TP (X : Cx) (pins : List (Addr × Obj)) (σ : St) (Q : Bool → Hp → Prop) (b : Bool) (s' : Shared) : Prop := ∃ H', Inv X pins σ H' s' ∧ Q b H'
def AP (X : Cx) (pins : List (Addr × Obj)) (σ : St) (Q : List V → Hp → Prop) (us : List Value) (s' : Shared) : Prop := ∃ vs H', Inv X pins σ H' s' ∧ Vals vs us ∧ Q vs H'
def SP (X : Cx) (pins : List (Addr × Obj)) (D : Ends) (f : Flow) (s' : Shared) : Prop :=
  match f with
  | .next => ∃ σ' H', Inv X pins σ' H' s' ∧ D.nx σ' H'
  | .brk => ∃ σ' H', Inv X pins σ' H' s' ∧ D.bk σ' H'
  | .cont => ∃ σ' H', Inv X pins σ' H' s' ∧ D.ct σ' H'
  | .ret u => ∃ v σ' H', Inv X pins σ' H' s' ∧ RelV v u ∧ D.rt v H'

def PE (X : Cx) (e : Expr) (t : TE) : Prop :=
  ∀ (pins : List (Addr × Obj)) (s : Shared) (σ : St) (H : Hp) (Q : VK), Inv X pins σ H s → t σ H Q → wpAny (model X.prog X.w) X.A (eval e X.env) (EP X pins σ Q) X.xe s
def PT (X : Cx) (e : Expr) (t : TT) : Prop :=
  ∀ (pins : List (Addr × Obj)) (s : Shared) (σ : St) (H : Hp) (Q : Bool → Hp → Prop), Inv X pins σ H s → t σ H Q → wpAny (model X.prog X.w) X.A (isTrue e X.env (eval e X.env)) (TP X pins σ Q) X.xe s
/-- a test whatever its 'whole' is (and, or) -/
def PW (X : Cx) (e : Expr) (t : TT) : Prop :=
  ∀ (whole : Sem Value) (pins : List (Addr × Obj)) (s : Shared) (σ : St) (H : Hp) (Q : Bool → Hp → Prop), Inv X pins σ H s → t σ H Q → wpAny (model X.prog X.w) X.A (isTrue e X.env whole) (TP X pins σ Q) X.xe s
theorem PW.pt {X : Cx} {e : Expr} {t : TT} (h : PW X e t) : PT X e t := h _
/-- an argument list (no star), from the left -/
def PA (X : Cx) (es : List Expr) (t : TA) : Prop :=
  ∀ (pos : Pos) (pins : List (Addr × Obj)) (s : Shared) (σ : St) (H : Hp) (Q : List V → Hp → Prop), Inv X pins σ H s → t σ H Q → wpAny (model X.prog X.w) X.A (spliced (backTo pos (starEach es X.env))) (AP X pins σ Q) X.xe s
def PS (X : Cx) (st : Stmt) (t : TS) : Prop :=
  ∀ (pins : List (Addr × Obj)) (s : Shared) (σ : St) (H : Hp) (D : Ends), Inv X pins σ H s → t D σ H → wpAny (model X.prog X.w) X.A (exec st X.env) (SP X pins D) X.xe s
def PSs (X : Cx) (st : List Stmt) (t : TS) : Prop :=
  ∀ (pins : List (Addr × Obj)) (s : Shared) (σ : St) (H : Hp) (D : Ends), Inv X pins σ H s → t D σ H → wpAny (model X.prog X.w) X.A (execs st X.env) (SP X pins D) X.xe s
/-- weaken the end -/
theorem thn {α : Type} {t : Sem α} {Q Q' : α → Shared → Prop} {M : Model} {A : Around} {E : Value → Shared → Prop} {s : Shared} (h : wpAny M A t Q E s) (hQ : ∀ a s, Q a s → Q' a s) : wpAny M A t Q' E s := wpAny_mono h hQ fun _ _ x => x
end L2

namespace L2
open PySem PySem.Spec PyProof.Rows
section
variable {X : Cx}

/-- two expressions in a row -/
theorem bin {a b : Expr} {ta tb : TE} (ha : PE X a ta) (hb : PE X b tb) {pins : List (Addr × Obj)} {s : Shared} {σ : St} {H : Hp} {R : V → V → Hp → Prop} (I : Inv X pins σ H s) (h : ta σ H fun x H1 => tb σ H1 fun y H2 => R x y H2)
    {α : Type} {Q : α → Shared → Prop} {f : Value → Value → Sem α}
    (hf : ∀ v u s2 x y H2, Inv X pins σ H2 s2 → RelV x v → RelV y u → R x y H2 → wpAny (model X.prog X.w) X.A (f v u) Q X.xe s2) :
    wpAny (model X.prog X.w) X.A (eval a X.env) (fun v s₁ => wpAny (model X.prog X.w) X.A (eval b X.env) (fun u s₂ => wpAny (model X.prog X.w) X.A (f v u) Q X.xe s₂) X.xe s₁) X.xe s := by
  refine thn (ha pins s σ H _ I h) fun v s1 ⟨x, H1, I1, r1, q1⟩ => ?_
  refine thn (hb pins s1 σ H1 _ I1 q1) fun u s2 ⟨y, H2, I2, r2, q2⟩ => ?_
  exact hf v u s2 x y H2 I2 r1 r2 q2

/-! ### names and constants -/
def tVar (i : Nat) : TE := fun σ H Q => ∃ v, σ[i]? = some (some v) ∧ Q v H
def tC (v : V) : TE := fun _ H Q => Q v H
theorem pe_var {i : Nat} {x : Str} {pos : Pos} (hN : X.N[i]? = some x) (hv : Vis X.env.scope x) (hd : (x == ("__debug__" : Str)) = false := by decide) (hcd : (x == ("__classdict__" : Str)) = false := by decide) : PE X (.Name x pos) (tVar i) := by
  intro pins s σ H Q I h
  obtain ⟨v, e, h⟩ := h
  obtain ⟨m, hn, hl⟩ := I.loc
  obtain ⟨u, r, l⟩ := hl i x v hN e hv
  have fin : EP X pins σ Q u s := ⟨v, H, I, r, h⟩
  rcases l with ⟨hk, hm⟩ | ⟨hk, c, hc, hcell⟩
  · exact wpAny_Name (wpAny_loadName_local I.ok.kind hk hn hm fin) hd
  · rcases hk with hk | hk
    · exact wpAny_Name (wpAny_loadName_cell I.ok.kind hk hc hcell fin) hd
    · exact wpAny_Name (wpAny_loadName_free I.ok.kind hk hc hcell fin hcd) hd
theorem pe_int {i j pos} : PE X (.Constant (.int i) j pos) (tC (.int i)) := fun _ _ _ H _ I h => wpAny_Constant_int ⟨.int i, H, I.tok _, ⟨_, rfl⟩, h⟩
theorem pe_bl {b j pos} : PE X (.Constant (.bool b) j pos) (tC (.bl b)) := fun _ _ _ H _ I h => Constant_bool ⟨.bl b, H, I, rfl, h⟩
theorem pe_non {j pos} : PE X (.Constant .none j pos) (tC .non) := fun _ _ _ H _ I h => Constant_none ⟨.non, H, I, rfl, h⟩
theorem pe_str {x j pos} : PE X (.Constant (.str x) j pos) (tC (.str x)) := fun _ _ _ H _ I h => Calls.Constant_str ⟨.str x, H, I.tok _, ⟨_, rfl⟩, h⟩

/-- a global name of the def -/
def Gl (X : Cx) (x : Str) : Prop := X.env.kindOf x = some .globalImplicit
theorem ld_glob {E : Value → Shared → Prop} {pins : List (Addr × Obj)} {s : Shared} {σ : St} {H : Hp} {x : Str} {u : Value} {pos : Pos} {Q : Value → Shared → Prop} (I : Inv X pins σ H s) (hg : Gl X x) (hm : X.mg x = some u) (h : Q u s)
    (hd : (x == ("__debug__" : Str)) = false := by decide) : wpAny (model X.prog X.w) X.A (eval (.Name x pos) X.env) Q E s :=
  Calls.Name_function_global I.ok.kind hg (Calls.loadGlobal_global (by rw [I.ok.glob]; exact I.mod.glob.keeps I.bk) hm h) hd
theorem ld_blt {E : Value → Shared → Prop} {pins : List (Addr × Obj)} {s : Shared} {σ : St} {H : Hp} {x : Str} {u : Value} {pos : Pos} {Q : Value → Shared → Prop} (I : Inv X pins σ H s) (hg : Gl X x) (hm : X.mg x = none) (hv : bootBuiltins x = some u) (h : Q u s)
    (hn : x ≠ "__name__" := by decide) (hd : (x == ("__debug__" : Str)) = false := by decide) : wpAny (model X.prog X.w) X.A (eval (.Name x pos) X.env) Q E s := by
  obtain ⟨mb, h1, h2⟩ := I.mod.blt
  exact Calls.Name_function_global I.ok.kind hg (Calls.loadGlobal_builtin (by rw [I.ok.glob]; exact I.mod.glob.keeps I.bk) hm (by rw [I.ok.blt]; exact h1.keeps I.bk) ((h2 x hn).trans hv) h) hd
theorem pe_bltn {x : Str} {v : V} {u : Value} {pos : Pos} (hg : Gl X x) (hm : X.mg x = none) (hv : bootBuiltins x = some u) (r : RelV v u) (hn : x ≠ "__name__" := by decide) (hd : (x == ("__debug__" : Str)) = false := by decide) : PE X (.Name x pos) (tC v) :=
  fun _ _ _ H _ I h => ld_blt I hg hm hv ⟨v, H, I, r, h⟩ hn hd

/-! ### arithmetic -/
variable {a b : Expr} {ta tb : TE} {pos : Pos}

/-! ### comparisons -/
def PC (X : Cx) (op : CmpOp) (a b : Expr) (t : TE) : Prop :=
  ∀ (pins : List (Addr × Obj)) (s : Shared) (σ : St) (H : Hp) (Q : VK), Inv X pins σ H s → t σ H Q →
    wpAny (model X.prog X.w) X.A (eval a X.env) (fun v s₁ => wpAny (model X.prog X.w) X.A (eval b X.env) (fun u s₂ => wpAny (model X.prog X.w) X.A (compareOp op v u) (EP X pins σ Q) X.xe s₂) X.xe s₁) X.xe s
/-- a comparison as a value, as a test -/
def tB (t : TE) : TT := fun σ H Q => t σ H fun x H1 => ∃ c, x = .bl c ∧ Q c H1
theorem pt_cmp {op : CmpOp} {t : TE} (h : PC X op a b t) (h1 : behindInMarks op b = false := by first | exact nobehind _ (by decide) (by decide) | rfl) : PT X (.Compare a [op] [b] pos) (tB t) := by
  intro pins s σ H Q I hw
  refine wpAny_isTrue_Compare1 (thn (h pins s σ H _ I hw) fun v s1 h1 => thn h1 fun u s2 h2 => thn h2 fun c s3 ⟨x, H1, I1, r1, q1⟩ => ?_) h1
  obtain ⟨d, rfl, q⟩ := q1
  cases r1
  exact wpAny_truthy_bool ⟨H1, I1, q⟩
/-- an expression whose value is a bool, as a test -/
theorem pt_val {e : Expr} {t : TE} (h : PE X e t) (he : ∀ whole, isTrue e X.env whole = (do let v ← whole; standAt e.pos; holding [v] (truthy v)) := by intro _; rfl) : PT X e (tB t) := by
  intro pins s σ H Q I hw
  refine isTrue_plain (thn (h pins s σ H _ I hw) fun v s1 ⟨x, H1, I1, r1, q1⟩ => ?_) (he _)
  obtain ⟨d, rfl, q⟩ := q1
  cases r1
  exact wpAny_truthy_bool ⟨H1, I1, q⟩

/-! ### and, or, not -/
variable {tA tB' : TT} {rest : List Expr}
def tAnd (t u : TT) : TT := fun σ H Q => t σ H fun c H1 => if c = true then u σ H1 Q else Q false H1
def tOr (t u : TT) : TT := fun σ H Q => t σ H fun c H1 => if c = true then Q true H1 else u σ H1 Q
def tNot (t : TT) : TT := fun σ H Q => t σ H fun c H1 => Q (!c) H1
theorem pw_and1 (ha : PT X a tA) : PW X (.BoolOp .And [a] pos) tA := by
  intro wh pins s σ H Q I h
  refine isTrue_and (thn (ha pins s σ H Q I h) fun c s1 e => ?_)
  cases c with
  | true => exact isTrue_and_nil e
  | false => exact e
theorem pw_or1 (ha : PT X a tA) : PW X (.BoolOp .Or [a] pos) tA := by
  intro wh pins s σ H Q I h
  refine isTrue_or (thn (ha pins s σ H Q I h) fun c s1 e => ?_)
  cases c with
  | false => exact isTrue_or_nil e
  | true => exact e
theorem pw_and (ha : PT X a tA) (hb : PW X (.BoolOp .And (b :: rest) pos) tB') : PW X (.BoolOp .And (a :: b :: rest) pos) (tAnd tA tB') := by
  intro wh pins s σ H Q I h
  refine isTrue_and (thn (ha pins s σ H _ I h) fun c s1 ⟨H1, I1, q1⟩ => ?_)
  cases c with
  | true => exact hb wh pins s1 σ H1 Q I1 q1
  | false => exact ⟨H1, I1, q1⟩
theorem pw_or (ha : PT X a tA) (hb : PW X (.BoolOp .Or (b :: rest) pos) tB') : PW X (.BoolOp .Or (a :: b :: rest) pos) (tOr tA tB') := by
  intro wh pins s σ H Q I h
  refine isTrue_or (thn (ha pins s σ H _ I h) fun c s1 ⟨H1, I1, q1⟩ => ?_)
  cases c with
  | true => exact ⟨H1, I1, q1⟩
  | false => exact hb wh pins s1 σ H1 Q I1 q1
theorem pt_not (ha : PT X a tA) : PT X (.UnaryOp .Not a pos) (tNot tA) := by
  intro pins s σ H Q I h
  exact isTrue_not (ha pins s σ H (fun c H1 => Q (!c) H1) I h)
/-- .. as values (bools) -/
def tAndV (ta tb : TE) : TE := fun σ H Q => ta σ H fun x H1 => ∃ c, x = .bl c ∧ if c = true then tb σ H1 Q else Q (.bl false) H1
def tNotV (ta : TE) : TE := fun σ H Q => ta σ H fun x H1 => ∃ c, x = .bl c ∧ Q (.bl (!c)) H1
theorem pe_one {op} {t : TE} (h : PE X a t) : PE X (.BoolOp op [a] pos) t := fun pins s σ H Q I hw => BoolOp_one (h pins s σ H Q I hw)
theorem pe_and (ha : PE X a ta) (hb : PE X (.BoolOp .And (b :: rest) pos) tb) : PE X (.BoolOp .And (a :: b :: rest) pos) (tAndV ta tb) := by
  intro pins s σ H Q I h
  refine BoolOp_and (thn (ha pins s σ H _ I h) fun v s1 ⟨x, H1, I1, r1, q1⟩ => ?_)
  obtain ⟨c, rfl, q1⟩ := q1
  cases r1
  refine wpAny_truthy_bool ?_
  cases c with
  | true => exact hb pins s1 σ H1 Q I1 q1
  | false => exact ⟨.bl false, H1, I1, rfl, q1⟩
theorem pe_not (ha : PE X a ta) : PE X (.UnaryOp .Not a pos) (tNotV ta) := by
  intro pins s σ H Q I h
  refine UnaryOp_ (thn (ha pins s σ H _ I h) fun v s1 ⟨x, H1, I1, r1, q1⟩ => ?_)
  obtain ⟨c, rfl, q1⟩ := q1
  cases r1
  exact not_of (wpAny_truthy_bool ⟨.bl (!c), H1, I1, rfl, q1⟩)
/-- a if t else b -/
def tIf (t : TT) (ta tb : TE) : TE := fun σ H Q => t σ H fun c H1 => if c = true then ta σ H1 Q else tb σ H1 Q
theorem pe_ifExp {c : Expr} (hc : PT X c tA) (ha : PE X a ta) (hb : PE X b tb) : PE X (.IfExp c a b pos) (tIf tA ta tb) := by
  intro pins s σ H Q I h
  refine wpAny_IfExp (thn (hc pins s σ H _ I h) fun d s1 ⟨H1, I1, q1⟩ => ?_)
  cases d with
  | true => exact ha pins s1 σ H1 Q I1 q1
  | false => exact hb pins s1 σ H1 Q I1 q1
end
end L2

namespace L2
open PySem PySem.Spec PyProof.Rows

/-! ### a list, a tuple that is read: tracked, frozen, or an object of the module -/
def SqL (K : PySem.W.Frag) (H : Hp) (a : Addr) (xs : List V) : Prop :=
  Rd H a (.lst xs) ∨
    ∃ (o : Obj) (its : Array Value) (n : Nat), K.lookup a = some o ∧ o.cls = .type "list" ∧ o.dict = none ∧ o.data = .seq its n ∧ its.size ≤ sizeLine ∧ Vals xs its.toList
def SqT (K : PySem.W.Frag) (H : Hp) (a : Addr) (xs : List V) : Prop :=
  Rd H a (.tup xs) ∨
    ∃ (o : Obj) (its : Array Value) (n : Nat), K.lookup a = some o ∧ o.cls = .type "tuple" ∧ o.data = .seq its n ∧ its.size ≤ sizeLine ∧ Vals xs its.toList
def absV : Value → Option V
  | .none => some .non
  | .bool b => some (.bl b)
  | .int i _ => some (.int i)
  | .str x _ => some (.str x)
  | .bytes b _ => some (.byt b)
  | .float b _ => some (.flt b)
  | .ref a => some (.ref a)
  | .type n => some (.ty n)
  | _ => none
theorem RelV.abs {x : V} {u : Value} (r : RelV x u) : absV u = some x := by
  cases x with
  | non => cases r; rfl
  | bl _ => cases r; rfl
  | int _ => obtain ⟨t, rfl⟩ := r; rfl
  | str _ => obtain ⟨t, rfl⟩ := r; rfl
  | byt _ => obtain ⟨t, rfl⟩ := r; rfl
  | flt _ => obtain ⟨t, rfl⟩ := r; rfl
  | ref _ => cases r; rfl
  | ty _ => cases r; rfl
theorem RelV.inj {x y : V} {u : Value} (r : RelV x u) (q : RelV y u) : x = y := Option.some.inj (r.abs.symm.trans q.abs)
theorem Vals.inj : ∀ {xs ys : List V} {us : List Value}, Vals xs us → Vals ys us → xs = ys
  | _, _, _, .nil, .nil => rfl
  | _, _, _, .cons r t, .cons r' t' => by rw [r.inj r', Vals.inj t t']
section
variable {X : Cx} {pins : List (Addr × Obj)} {σ : St} {H : Hp} {s : Shared} {a : Addr} {xs ys : List V}
theorem SqL.of {K : PySem.W.Frag} (h : H a = some (.lst xs)) : SqL K H a xs := .inl (.inl h)
theorem SqT.of {K : PySem.W.Frag} (h : H a = some (.tup xs)) : SqT K H a xs := .inl (.inl h)
theorem Inv.list (I : Inv X pins σ H s) (h : SqL X.K H a xs) : ∃ its : List Value, Vals xs its ∧ PlainL s.heap a its.toArray ∧ xs.length ≤ sizeLine := by
  rcases h with h | ⟨o, its, n, hk, hc, hd, hs, hz, r⟩
  · obtain ⟨z, its, n, r, e⟩ := h.ok I.hok
    exact ⟨its, r, ⟨_, n, e, rfl, rfl, rfl⟩, z⟩
  · refine ⟨its.toList, r, ⟨o, n, I.kIn a o hk, hc, hd, by simpa using hs⟩, ?_⟩
    have e := r.length
    simp only [Array.length_toList] at e
    omega
theorem Inv.tuple (I : Inv X pins σ H s) (h : SqT X.K H a xs) : ∃ its : List Value, Vals xs its ∧ IsTup s.heap a its.toArray ∧ xs.length ≤ sizeLine := by
  rcases h with h | ⟨o, its, n, hk, hc, hs, hz, r⟩
  · obtain ⟨z, its, r, p⟩ := h.ok I.hok
    exact ⟨its, r, p, z⟩
  · refine ⟨its.toList, r, ⟨o, I.kIn a o hk, hc, n, by simpa using hs⟩, ?_⟩
    have e := r.length
    simp only [Array.length_toList] at e
    omega
theorem Inv.list_inj (I : Inv X pins σ H s) (h : SqL X.K H a xs) (h' : SqL X.K H a ys) : xs = ys := by
  obtain ⟨its, r, ⟨o, n, e, _, _, d⟩, _⟩ := I.list h
  obtain ⟨its', r', ⟨o', n', e', _, _, d'⟩, _⟩ := I.list h'
  rw [e] at e'; cases e'
  rw [d] at d'
  injection d' with d1 _
  have : its = its' := by simpa using congrArg Array.toList d1
  subst this
  exact r.inj r'
end

/-! ### another wish about exceptions -/
abbrev Cx.wish (X : Cx) (E : Value → Shared → Prop) : Cx := { X with xe := E }
/-- no exception leaves -/
abbrev Cx.nox (X : Cx) : Cx := X.wish fun _ _ => False
theorem Cx.Ok.wish {X : Cx} (ok : X.Ok) (E : Value → Shared → Prop) : (X.wish E).Ok :=
  ⟨ok.mod, ok.kind, ok.glob, ok.blt, ok.above, ok.inj, ok.has, ok.cab, ok.hd, ok.frames, ok.stk, ok.exf, ok.bs, ok.bsz, ok.noex, ok.exfs, ok.funs, ok.frf⟩
theorem Cx.Ok.unwish {X : Cx} {E : Value → Shared → Prop} (ok : (X.wish E).Ok) : X.Ok :=
  ⟨ok.mod, ok.kind, ok.glob, ok.blt, ok.above, ok.inj, ok.has, ok.cab, ok.hd, ok.frames, ok.stk, ok.exf, ok.bs, ok.bsz, ok.noex, ok.exfs, ok.funs, ok.frf⟩
section
variable {X : Cx} {pins : List (Addr × Obj)} {σ : St} {H : Hp} {s : Shared} {E : Value → Shared → Prop}
theorem Inv.wish (I : Inv X pins σ H s) (E : Value → Shared → Prop) : Inv (X.wish E) pins σ H s := ⟨I.ok.wish E, I.os, I.bare, I.base, I.loc, I.cell, I.free, I.freeC, I.pin, I.hok, I.len⟩
theorem Inv.unwish (I : Inv (X.wish E) pins σ H s) : Inv X pins σ H s := ⟨I.ok.unwish, I.os, I.bare, I.base, I.loc, I.cell, I.free, I.freeC, I.pin, I.hok, I.len⟩
theorem SP.unwish {D : Ends} {f : Flow} {s' : Shared} (h : SP (X.wish E) pins D f s') : SP X pins D f s' := by
  cases f with
  | next => obtain ⟨σ', H', I, q⟩ := h; exact ⟨σ', H', I.unwish, q⟩
  | brk => obtain ⟨σ', H', I, q⟩ := h; exact ⟨σ', H', I.unwish, q⟩
  | cont => obtain ⟨σ', H', I, q⟩ := h; exact ⟨σ', H', I.unwish, q⟩
  | ret u => obtain ⟨v, σ', H', I, r, q⟩ := h; exact ⟨v, σ', H', I.unwish, r, q⟩
theorem PSs.nox {st : List Stmt} {t : TS} (h : PSs X.nox st t) : PSs X st t := fun pins s σ H D I hw =>
  wpAny_mono (h pins s σ H D (I.wish _) hw) (fun _ _ q => q.unwish) fun _ _ z => False.elim z
end

/-! ### blocks and small statements -/
section
variable {X : Cx} {st : Stmt} {rest : List Stmt} {t u : TS} {e : Expr} {te : TE} {pos : Pos}
def tNext : TS := fun D σ H => D.nx σ H
def tSeq (t u : TS) : TS := fun D σ H => t { D with nx := u D } σ H
theorem pss_nil : PSs X [] tNext := fun _ _ σ H _ I h => wpAny_execs_nil ⟨σ, H, I, h⟩
theorem pss_cons (h1 : PS X st t) (h2 : PSs X rest u) : PSs X (st :: rest) (tSeq t u) := by
  intro pins s σ H D I h
  refine wpAny_execs_cons (thn (h1 pins s σ H { D with nx := u D } I h) fun f s1 q => ?_)
  cases f with
  | next =>
    obtain ⟨σ', H', I', q⟩ := q
    exact h2 pins s1 σ' H' D I' q
  | ret v => exact q
  | brk => exact q
  | cont => exact q
theorem pss_one (h1 : PS X st t) : PSs X [st] t := by
  intro pins s σ H D I h
  refine wpAny_execs_cons (thn (h1 pins s σ H D I h) fun f s1 q => ?_)
  cases f with
  | next => exact wpAny_execs_nil q
  | ret v => exact q
  | brk => exact q
  | cont => exact q
/-- in a def's body nothing is shown -/
theorem Inv.quiet {pins : List (Addr × Obj)} {σ : St} {H : Hp} {s : Shared} (I : Inv X pins σ H s) : interactive X.env = false := by simp [interactive, I.ok.kind]
/-- an expression whose value is dropped -/
def tDrop (te : TE) : TS := fun D σ H => te σ H fun _ H1 => D.nx σ H1
theorem ps_expr (he : PE X e te) (hs : swapsWith e none pos.line X.env = pure false := by rfl) : PS X (.Expr e pos) (tDrop te) := by
  intro pins s σ H D I h
  exact wpAny_Expr_any (thn (he pins s σ H _ I h) fun v s1 ⟨x, H1, I1, r1, q1⟩ => ⟨σ, H1, I1, q1⟩) I.quiet hs
def tRet (te : TE) : TS := fun D σ H => te σ H D.rt
theorem ps_ret (he : PE X e te) : PS X (.Return (some e) pos) (tRet te) := by
  intro pins s σ H D I h
  exact wpAny_Return_some (thn (he pins s σ H _ I h) fun v s1 ⟨x, H1, I1, r1, q1⟩ => ⟨x, σ, H1, I1, r1, q1⟩)
def tIfS (c : TT) (t u : TS) : TS := fun D σ H => c σ H fun b H1 => if b = true then t D σ H1 else u D σ H1
theorem ps_if {c : Expr} {a b : List Stmt} {tc : TT} (hc : PT X c tc) (ha : PSs X a t) (hb : PSs X b u) : PS X (.If c a b pos) (tIfS tc t u) := by
  intro pins s σ H D I h
  refine wpAny_If (thn (hc pins s σ H _ I h) fun d s1 ⟨H1, I1, q1⟩ => ?_)
  cases d with
  | true => exact ha pins s1 σ H1 D I1 q1
  | false => exact hb pins s1 σ H1 D I1 q1
end

/-! ### targets -/
abbrev TG := V → St → Hp → (St → Hp → Prop) → Prop
abbrev TGs := List V → St → Hp → (St → Hp → Prop) → Prop
def PG (X : Cx) (target : Expr) (t : TG) : Prop :=
  ∀ (pins : List (Addr × Obj)) (s : Shared) (σ : St) (H : Hp) (v : V) (u : Value) (Q : St → Hp → Prop), Inv X pins σ H s → RelV v u → t v σ H Q →
    wpAny (model X.prog X.w) X.A (assign target X.env u) (fun _ s' => ∃ σ' H', Inv X pins σ' H' s' ∧ Q σ' H') X.xe s
/-- several targets, one after another -/
def PGs (X : Cx) (ts : List Expr) (t : TGs) : Prop :=
  ∀ (pins : List (Addr × Obj)) (s : Shared) (σ : St) (H : Hp) (vs : List V) (us : List Value) (Q : St → Hp → Prop), Inv X pins σ H s → Vals vs us → t vs σ H Q →
    wpAny (model X.prog X.w) X.A (assignInOrder ((assignEach ts X.env).map (·.2)) us) (fun _ s' => ∃ σ' H', Inv X pins σ' H' s' ∧ Q σ' H') X.xe s
/-- o[i] = v, by values -/
abbrev TSet := V → V → V → Hp → (Hp → Prop) → Prop
def PSet (X : Cx) (t : TSet) : Prop :=
  ∀ (pins : List (Addr × Obj)) (s : Shared) (σ : St) (H : Hp) (o i v : V) (ov iv u : Value) (Q : Hp → Prop), Inv X pins σ H s → RelV o ov → RelV i iv → RelV v u → t o i v H Q →
    wpAny (model X.prog X.w) X.A (setItem ov iv u) (fun _ s' => ∃ H', Inv X pins σ H' s' ∧ Q H') X.xe s
section
variable {X : Cx} {pos : Pos}
def gName (i : Nat) : TG := fun v σ H Q => Q (σ.set i (some v)) H
theorem pg_name {i : Nat} {x : Str} (hN : X.N.Nodup) (hi : X.N[i]? = some x) (hx : Loc X.env.scope x) (hf : X.fn x = true ∨ X.env.scope.names.lookup x = some .local := by first | exact .inl rfl | exact .inr rfl | assumption) : PG X (.Name x pos) (gName i) := by
  intro pins s σ H v u Q I r h
  exact wpAny_assign_Name (store_ok I hN hi hx r (fun s' I' => ⟨_, H, I', h⟩) hf)
def gNil : TGs := fun vs σ H Q => vs = [] ∧ Q σ H
def gCons (t : TG) (u : TGs) : TGs := fun vs σ H Q => ∃ v r, vs = v :: r ∧ t v σ H fun σ' H' => u r σ' H' Q
theorem pgs_nil : PGs X [] gNil := by
  intro pins s σ H vs us Q I r h
  obtain ⟨e, h⟩ := h
  subst e
  cases r
  exact assignInOrder_nil ⟨σ, H, I, h⟩
theorem pgs_cons {e : Expr} {es : List Expr} {t : TG} {u : TGs} (h1 : PG X e t) (h2 : PGs X es u)
    (hs : (assignEach (e :: es) X.env).map (·.2) = assign e X.env :: (assignEach es X.env).map (·.2) := by rfl) : PGs X (e :: es) (gCons t u) := by
  intro pins s σ H vs us Q I r h
  obtain ⟨v, vr, e1, h⟩ := h
  subst e1
  cases r with
  | cons r rr =>
    rw [hs]
    refine assignInOrder_cons (thn (h1 pins s σ H _ _ _ I r h) fun _ s1 ⟨σ1, H1, I1, q1⟩ => ?_)
    exact h2 pins s1 σ1 H1 _ _ Q I1 rr q1
/-- (a, b, ..) = a tuple of that length -/
def gTup (K : PySem.W.Frag) (n : Nat) (t : TGs) : TG := fun v σ H Q => ∃ a xs, v = .ref a ∧ SqT K H a xs ∧ xs.length = n ∧ t xs σ H Q
theorem pg_tup {es : List Expr} {k : Nat} {t : TGs} {n : Nat} (hc : X.calm = true) (h : PGs X es t)
    (hn : (assignEach es X.env).length = n := by rfl) (hst : (assignEach es X.env).findIdx? (·.1) = none := by rfl) : PG X (.Tuple es k pos) (gTup X.K n t) := by
  intro pins s σ H v u Q I r hw
  obtain ⟨a, xs, e1, hq, hl, hw⟩ := hw
  subst e1
  cases r
  obtain ⟨its, rv, ht, hz⟩ := I.tuple hq
  refine assign_Tuple_tuple (I.ok.hd hc) ht (by simp [hn, ← hl, rv.length]) hst fun h' hx => ?_
  have I1 : Inv X pins σ H { s with heap := h' } := I.kept (t' := s.toks) fun b o e => hx b o (Nat.ne_of_lt (Heap.lt_size e)) e
  exact h pins _ σ H xs _ Q I1 (by simpa using rv) hw
/-- o[i] = .. -/
def gSub (to ti : TE) (t : TSet) : TG := fun v σ H Q => to σ H fun o H1 => ti σ H1 fun i H2 => t o i v H2 fun H3 => Q σ H3
theorem pg_sub {o i : Expr} {to ti : TE} {t : TSet} (ho : PE X o to) (hi : PE X i ti) (hs : PSet X t)
    (ha : ∀ v, assign (.Subscript o i pos) X.env v = (do
      let ov ← holding [v] (eval o X.env)
      let iv ← holding [v, ov] (eval i X.env)
      standAt pos
      holding [v, ov, iv] (setItem ov iv v)
      release [v, ov, iv] []) := by intro _; rfl) : PG X (.Subscript o i pos) (gSub to ti t) := by
  intro pins s σ H v u Q I r h
  rw [ha]
  refine wpAny_bind (wpAny_holding (thn (ho pins s σ H _ I h) fun ov s1 ⟨x, H1, I1, r1, q1⟩ => ?_))
  refine wpAny_bind (wpAny_holding (thn (hi pins s1 σ H1 _ I1 q1) fun iv s2 ⟨y, H2, I2, r2, q2⟩ => ?_))
  refine wpAny_bind (wpAny_standAt (wpAny_bind (wpAny_holding (thn (hs pins s2 σ H2 x y v ov iv u _ I2 r1 r2 r q2) fun _ s3 ⟨H3, I3, q3⟩ => ?_))))
  exact wpAny_release ⟨σ, H3, I3, q3⟩
/-- target = value -/
def tAsg (te : TE) (g : TG) : TS := fun D σ H => te σ H fun x H1 => g x σ H1 D.nx
theorem ps_asg {tg e : Expr} {te : TE} {g : TG} (he : PE X e te) (hg : PG X tg g) (hs : swapsWithSole [tg] e pos.line X.env = pure false := by rfl) (hw : swappedStores [tg] e X.env = pure none := by rfl)
    (h1 : (assignEach [tg] X.env).map (·.2) = [assign tg X.env] := by rfl) : PS X (.Assign [tg] e pos) (tAsg te g) := by
  intro pins s σ H D I h
  refine wpAny_Assign_stores (thn (he pins s σ H _ I h) fun v s1 ⟨x, H1, I1, r1, q1⟩ => ?_) hs hw
  rw [h1]
  exact thn (hg pins s1 σ H1 x v _ I1 r1 q1) fun _ s2 q => q
/-- name = value -/
theorem ps_set {i : Nat} {x : Str} {e : Expr} {te : TE} {pos' : Pos} (hN : X.N.Nodup) (hi : X.N[i]? = some x) (hx : Loc X.env.scope x) (he : PE X e te) (hs : swapsWith e (some (.Name x pos')) pos.line X.env = pure false := by rfl) (hf : X.fn x = true ∨ X.env.scope.names.lookup x = some .local := by first | exact .inl rfl | exact .inr rfl | assumption) :
    PS X (.Assign [.Name x pos'] e pos) (tAsg te (gName i)) := by
  intro pins s σ H D I h
  refine wpAny_Assign_Name (thn (he pins s σ H _ I h) fun v s1 ⟨y, H1, I1, r1, q1⟩ => ?_) hs
  exact store_ok I1 hN hi hx r1 (fun s2 I2 => ⟨_, H1, I2, q1⟩) hf
end

/-! ### while -/
section
variable {X : Cx} {pos : Pos}
/-- the invariant W with its measure -/
def tWhile (c : TT) (tb : TS) : TS := fun D σ H => ∃ W : Nat → St → Hp → Prop, (∃ m, W m σ H) ∧ ∀ m σ H, W m σ H →
  c σ H fun b H1 => if b = true then ∃ N : St → Hp → Prop, (∀ σ' H', N σ' H' → ∃ m', m' < m ∧ W m' σ' H') ∧ tb { D with nx := N, ct := N, bk := D.nx } σ H1 else D.nx σ H1
theorem ps_while {c : Expr} {body : List Stmt} {tc : TT} {tb : TS} (hp : PassesOwn (model X.prog X.w) X.A X.env X.xe) (hc : PT X c tc) (hb : PSs X body tb) : PS X (.While c body [] pos) (tWhile tc tb) := by
  intro pins s σ H D I h
  obtain ⟨W, ⟨m0, w0⟩, turn⟩ := h
  refine wpAny_While (codeAny_whileLoop (fun n s' => ∃ σ' H', Inv X pins σ' H' s' ∧ W n σ' H') ?_ m0 ⟨σ, H, I, w0⟩)
  rintro n s1 ⟨σ1, H1, I1, w1⟩
  refine wpAny_passesOwn hp (thn (hc pins s1 σ1 H1 _ I1 (turn n σ1 H1 w1)) fun b s2 ⟨H2, I2, q2⟩ => ?_)
  cases b with
  | true =>
    obtain ⟨N, hN, q2⟩ := q2
    rw [if_pos rfl]
    refine wpAny_passesOwn hp (thn (hb pins s2 σ1 H2 _ I2 q2) fun f s3 q3 => ?_)
    cases f with
    | next =>
      obtain ⟨σ3, H3, I3, n3⟩ := q3
      obtain ⟨m', hm, w3⟩ := hN σ3 H3 n3
      exact ⟨m', hm, σ3, H3, I3, w3⟩
    | cont =>
      obtain ⟨σ3, H3, I3, n3⟩ := q3
      obtain ⟨m', hm, w3⟩ := hN σ3 H3 n3
      exact ⟨m', hm, σ3, H3, I3, w3⟩
    | brk => exact q3
    | ret v => exact q3
  | false =>
    rw [if_neg Bool.false_ne_true]
    exact wpAny_execs_nil ⟨σ1, H2, I2, q2⟩
end

/-! ### what a loop or a comprehension walks -/
/-- at turn i: it yields x (the heap may grow), or it stops -/
structure It where
  go : Nat → Hp → Prop
  yld : Nat → Hp → V → Hp → Prop
  stop : Nat → Hp → Prop
/-- the iterator's own objects may turn: they are not the frame's, not pinned, younger than the entry (or a comprehension's own) -/
def FpOk (X : Cx) (pins : List (Addr × Obj)) (H : Hp) (b : Addr) : Prop :=
  H b = none ∧ b ≠ X.env.locals ∧ b ∉ X.fs ∧ (b ∈ X.ex ∨ X.s₀.heap.objs.size ≤ b) ∧ (∀ x c, X.env.cells.lookup x = some c → c ≠ b) ∧ ∀ p ∈ X.pn ++ pins, p.1 ≠ b
theorem Inv.fpOk {X : Cx} {pins : List (Addr × Obj)} {σ : St} {H H' : Hp} {s : Shared} {b : Addr} (I : Inv X pins σ H s) (hb : s.heap.objs.size ≤ b) (hn : H' b = none) : FpOk X pins H' b := by
  refine ⟨hn, Nat.ne_of_gt (Nat.lt_of_lt_of_le I.lt hb), I.nofs hb, .inr (Nat.le_trans I.sz hb), fun x c e z => ?_, fun p hp z => ?_⟩
  · obtain ⟨v, q⟩ := I.cell x c e
    exact absurd (Nat.lt_of_lt_of_le q.lt (by rw [z]; exact hb)) (Nat.lt_irrefl _)
  · exact absurd (Nat.lt_of_lt_of_le (Heap.lt_size (I.pin p hp).1) (by rw [z]; exact hb)) (Nat.lt_irrefl _)
structure Turn (P : Program) (w : World) (K : PySem.W.Frag) (tg : Expr) (J : It) (fp : List Addr) (it : Addr) (tn : Nat → Heap → Prop) : Prop where
  mem : it ∈ fp
  obj : ∀ i h, tn i h → ∀ b ∈ fp, ∃ o, h.get? b = some o ∧ ∀ v, o.data ≠ .cell v
  keep : ∀ i h h', tn i h → (∀ b ∈ fp, ∀ o, h.get? b = some o → h'.get? b = some o) → tn i h'
  item : ∀ (X : Cx), X.prog = P → X.w = w → X.K = K → X.calm = true → ∀ (i : Nat) (pins : List (Addr × Obj)) (s : Shared) (σ : St) (H : Hp) (E : Value → Shared → Prop), Inv X pins σ H s → (∀ b ∈ fp, FpOk X pins H b) → tn i s.heap → J.go i H →
    wpAny (model P w) X.A (pyNext (.ref it)) (fun r s1 => ∃ u, r = some u ∧
      wpAny (model P w) X.A (letOwnedTupleGo tg (.ref it) u) (fun _ s2 => ∃ x H', Inv X pins σ H' s2 ∧ RelV x u ∧ J.yld i H x H' ∧ tn (i + 1) s2.heap ∧ ∀ b ∈ fp, H' b = none) E s1) E s
  done : ∀ (X : Cx), X.prog = P → X.w = w → X.K = K → X.calm = true → ∀ (i : Nat) (pins : List (Addr × Obj)) (s : Shared) (σ : St) (H : Hp) (E : Value → Shared → Prop), Inv X pins σ H s → (∀ b ∈ fp, FpOk X pins H b) → tn i s.heap → J.stop i H →
    wpAny (model P w) X.A (pyNext (.ref it)) (fun r s1 => r = none ∧ Inv X pins σ H s1) E s
  self : ∀ (A : Around) (i : Nat) (s : Shared) (Q : Value → Shared → Prop) (E : Value → Shared → Prop), tn i s.heap → Q (.ref it) s → wpAny (model P w) A (pyIter (.ref it)) Q E s
abbrev TI := St → Hp → (It → Hp → Prop) → Prop
/-- an iterator has come -/
def PIE (X : Cx) (pins : List (Addr × Obj)) (σ : St) (tg : Expr) (R : It → Hp → Prop) (itv : Value) (s2 : Shared) : Prop :=
  ∃ (it : Addr) (fp : List Addr) (tn : Nat → Heap → Prop) (J : It) (H' : Hp), itv = .ref it ∧ Inv X pins σ H' s2 ∧ Turn X.prog X.w X.K tg J fp it tn ∧ tn 0 s2.heap ∧ (∀ b ∈ fp, FpOk X pins H' b) ∧ R J H'
def PI (X : Cx) (tg iter : Expr) (wi : TI) : Prop :=
  ∀ (pins : List (Addr × Obj)) (s : Shared) (σ : St) (H : Hp) (R : It → Hp → Prop), Inv X pins σ H s → wi σ H R →
    wpAny (model X.prog X.w) X.A (eval iter X.env) (fun v s1 => wpAny (model X.prog X.w) X.A (pyIter v) (PIE X pins σ tg R) X.xe s1) X.xe s

/-- the step ahead of the store is nothing for an iterator that keeps no tuple -/
theorem go_of {M : Model} {A : Around} {E : Value → Shared → Prop} {s : Shared} {tg : Expr} {it : Addr} {u : Value} {o : Obj} {n : String} {vs : Array Value} {Q : Unit → Shared → Prop} (ho : s.heap.get? it = some o) (hc : o.cls = .type n) (hd : o.data = .fields vs)
    (hn : ["enumerate", "zip", "dict_itemiterator", "dict_reverseitemiterator", "odict_iterator", "itertools.zip_longest", "itertools.pairwise"].contains n = false) (hQ : Q () s) : wpAny M A (letOwnedTupleGo tg (.ref it) u) Q E s := by
  unfold letOwnedTupleGo
  cases tg <;> first
    | exact wpAny_pure hQ
    | (cases u <;> first
        | exact wpAny_pure hQ
        | (refine wpAny_bind (wpAny_load ho ?_)
           rw [hc, hd]
           show wpAny M A (if (["enumerate", "zip", "dict_itemiterator", "dict_reverseitemiterator", "odict_iterator", "itertools.zip_longest", "itertools.pairwise"].contains n && vs[0]? == some (rawInt _)) = true then _ else _) Q E s
           rw [if_neg (by intro h; rw [hn, Bool.false_and] at h; cases h)]
           exact wpAny_pure hQ))

/-- the list at a, as it stands at each turn (a loop may append to it) -/
def Itl (K : PySem.W.Frag) (a : Addr) : It :=
  ⟨fun i H => ∃ xs x, SqL K H a xs ∧ xs[i]? = some x, fun i H x H' => H' = H ∧ ∀ xs, SqL K H a xs → xs[i]? = some x, fun i H => ∃ xs, SqL K H a xs ∧ xs.length ≤ i⟩
/-- lo, lo + 1, .. (n of them) -/
def Itr (lo : Int) (n : Nat) : It := ⟨fun i _ => i < n, fun i H x H' => H' = H ∧ x = .int (lo + i), fun i _ => n ≤ i⟩
theorem turn_list {P : Program} {w : World} {K : PySem.W.Frag} {tg : Expr} (a it : Addr) : Turn P w K tg (Itl K a) [it] it (fun i h => h.IsListIter it a i) where
  mem := by simp
  obj := fun i h st b hb => by
    have e : b = it := by simpa using hb
    subst e
    obtain ⟨o, e, c, d⟩ := st
    exact ⟨o, e, fun v z => by rw [d] at z; cases z⟩
  keep := fun i h h' st k => st.at fun o e => k it (by simp) o e
  item := by
    intro X hP hw hK hc i pins s σ H E I hf st hg
    subst hP hw hK
    obtain ⟨xs, x, hq, hx⟩ := hg
    obtain ⟨its, rv, p, hz⟩ := I.list hq
    obtain ⟨u, hu, ru⟩ := rv.get hx
    obtain ⟨f0, f1, f2, f3, f4, f5⟩ := hf it (by simp)
    refine wpAny_pyNext_list_item st p.isList (x := u) (by simpa using hu) fun h' st' sb => ?_
    have I1 : Inv X pins σ H { s with heap := h' } := I.turned (t' := s.toks) (fun b o hb e => (sb.2 b hb).trans e) f0 f1 f3 f4 f5
    obtain ⟨o, e, c, d⟩ := id st'
    exact ⟨u, rfl, go_of (s := { s with heap := h' }) e c d (by decide) ⟨x, H, I1, ru, ⟨rfl, fun ys hy => by rw [I.list_inj hy hq]; exact hx⟩, st', fun b hb => (hf b hb).1⟩⟩
  done := by
    intro X hP hw hK hc i pins s σ H E I hf st hg
    subst hP hw hK
    obtain ⟨xs, hq, hx⟩ := hg
    obtain ⟨its, rv, p, hz⟩ := I.list hq
    obtain ⟨f0, f1, f2, f3, f4, f5⟩ := hf it (by simp)
    have hl := rv.length
    exact wpAny_pyNext_list_end (I.ok.hd hc) st p.isList (by simp; omega) fun h' eb => ⟨rfl, I.turned (t' := s.toks) (fun b o hb e => eb b o hb e) f0 f1 f3 f4 f5⟩
  self := fun _ _ _ _ _ st h => wpAny_pyIter_listiter st h
theorem turn_range {P : Program} {w : World} {K : PySem.W.Frag} {tg : Expr} (it : Addr) (lo : Int) (n : Nat) : Turn P w K tg (Itr lo n) [it] it (fun i h => IsRangeIter h it (lo + (i : Nat) * 1) ((n : Int) - (i : Nat)) 1) where
  mem := by simp
  obj := fun i h st b hb => by
    have e : b = it := by simpa using hb
    subst e
    exact ⟨_, st, fun v z => by
      have z' : Data.fields _ = Data.cell v := z
      cases z'⟩
  keep := fun i h h' st k => k it (by simp) _ st
  item := by
    intro X hP hw hK hc i pins s σ H E I hf st hg
    subst hP hw hK
    obtain ⟨f0, f1, f2, f3, f4, f5⟩ := hf it (by simp)
    have W := Walks.range (prog := X.prog) (w := X.w) (I.ok.hd hc) it lo 1 n
    refine W.item i s _ _ hg st fun v h' tk hv st' kk => ?_
    obtain ⟨t, rfl⟩ := hv
    have I1 : Inv X pins σ H { s with heap := h', toks := tk } := I.turned (fun b o hb e => kk b o (by simpa using hb) e) f0 f1 f3 f4 f5
    refine ⟨_, rfl, go_of (s := { s with heap := h', toks := tk }) (n := "range_iterator") st' rfl rfl (by decide) ⟨.int (lo + i), H, I1, ⟨t, ?_⟩, ⟨rfl, rfl⟩, st', fun b hb => (hf b hb).1⟩⟩
    rw [Int.mul_one]
  done := by
    intro X hP hw hK hc i pins s σ H E I hf st hg
    subst hP hw hK
    obtain ⟨f0, f1, f2, f3, f4, f5⟩ := hf it (by simp)
    exact wpAny_pyNext_range_end (I.ok.hd hc) st (by have : n ≤ i := hg; omega) fun h' eb => ⟨rfl, I.turned (t' := s.toks) (fun b o hb e => eb b o hb e) f0 f1 f3 f4 f5⟩
  self := fun _ _ _ _ _ st h => wpAny_pyIter_rangeiter st h
end L2

namespace L2
open PySem PySem.Spec PyProof.Rows
section
variable {X : Cx} {tg : Expr}
def iList (K : PySem.W.Frag) (tl : TE) : TI := fun σ H R => tl σ H fun x H1 => ∃ a, x = .ref a ∧ (∃ xs, SqL K H1 a xs) ∧ R (Itl K a) H1
theorem pi_list {l : Expr} {tl : TE} (hl : PE X l tl) : PI X tg l (iList X.K tl) := by
  intro pins s σ H R I h
  refine thn (hl pins s σ H _ I h) fun v s1 ⟨x, H1, I1, r1, q1⟩ => ?_
  obtain ⟨a, e, ⟨xs, hq⟩, q⟩ := q1
  subst e
  cases r1
  obtain ⟨its, rv, p, hz⟩ := I1.list hq
  refine wpAny_pyIter_list p.isList ?_
  refine ⟨s1.heap.objs.size, [s1.heap.objs.size], _, _, H1, rfl, I1.kept (t' := s1.toks) fun b o e => Heap.get?_push_of_some _ e, turn_list a _, ⟨_, Heap.get?_push_size _ rfl, rfl, rfl⟩, fun b hb => ?_, q⟩
  have e : b = s1.heap.objs.size := by simpa using hb
  subst e
  exact I1.fpOk (Nat.le_refl _) (I1.hok.fresh (Nat.le_refl _))
/-- a range object just made, walked -/
theorem range_it {pins : List (Addr × Obj)} {σ : St} {H : Hp} {s : Shared} {R : It → Hp → Prop} {E : Value → Shared → Prop} {lo hi : Int} {t u v : Tok} {tk : Nat} (I : Inv X pins σ H s) (h1 : -(2 ^ 62) ≤ lo) (h2 : lo < 2 ^ 62) (h3 : -(2 ^ 62) ≤ hi) (h4 : hi < 2 ^ 62)
    (q : R (Itr lo (hi - lo).toNat) H) : wpAny (model X.prog X.w) X.A (pyIter (.ref s.heap.objs.size)) (PIE X pins σ tg R) E { s with heap := s.heap.push { cls := .type "range", data := .fields #[.int lo t, .int hi u, .int 1 v] }, toks := tk } := by
  refine wpAny_pyIter_range (IsRange.new ..) (small_one h1 h2 h3 h4) ?_
  have I1 : Inv X pins σ H { s with heap := s.heap.push { cls := .type "range", data := .fields #[.int lo t, .int hi u, .int 1 v] }, toks := tk } := I.kept fun b o e => Heap.get?_push_of_some _ e
  refine ⟨(s.heap.push { cls := .type "range", data := .fields #[.int lo t, .int hi u, .int 1 v] }).objs.size, [(s.heap.push { cls := .type "range", data := .fields #[.int lo t, .int hi u, .int 1 v] }).objs.size], _, _, H, rfl,
    I1.kept (t' := tk) fun b o e => Heap.get?_push_of_some _ e, turn_range _ lo (hi - lo).toNat, ?_, fun b hb => ?_, q⟩
  · have e1 : lo + ((0 : Nat) : Int) * 1 = lo := by simp
    have e2 : (((hi - lo).toNat : Nat) : Int) - ((0 : Nat) : Int) = Builtin.Range.rangeSize lo hi 1 := by rw [rangeSize_one]; split <;> omega
    show IsRangeIter _ _ (lo + ((0 : Nat) : Int) * 1) ((((hi - lo).toNat : Nat) : Int) - ((0 : Nat) : Int)) 1
    rw [e1, e2]
    exact Heap.get?_push_size _ rfl
  · have e : b = (s.heap.push { cls := .type "range", data := .fields #[.int lo t, .int hi u, .int 1 v] }).objs.size := by simpa using hb
    subst e
    exact I1.fpOk (Nat.le_refl _) (I1.hok.fresh (Nat.le_refl _))
def iRng1 (ta : TA) : TI := fun σ H R => ta σ H fun vs H1 => ∃ j : Int, vs = [.int j] ∧ -(2 ^ 62) ≤ j ∧ j < 2 ^ 62 ∧ R (Itr 0 j.toNat) H1
theorem pi_range1 {a : Expr} {ta : TA} {p pos : Pos} (hg : Gl X "range") (hm : X.mg "range" = none) (ha : PA X [a] ta) (hs : starEach [a] X.env = [(false, eval a X.env)] := by rfl) : PI X tg (.Call (.Name "range" p) [a] [] pos) (iRng1 ta) := by
  intro pins s σ H R I h
  refine Call_ (ld_blt I hg hm boot_range (PyProof.Rows.callWith_type1 (thn (ha pos pins s σ H _ I h) fun us s1 ⟨vs, H1, I1, r1, q1⟩ => ?_) hs rfl))
  obtain ⟨j, e, q1, q2, q⟩ := q1
  subst e
  cases r1 with
  | cons r rr =>
    cases rr
    obtain ⟨t, rfl⟩ := r
    exact call_range_1 (range_it I1 (by omega) (by omega) q1 q2 (by simpa using q))

/-! ### for -/
/-- W: the invariant by the turn and a measure; N: what the body is to reach -/
def tFor (wi : TI) (g : TG) (tb : TS) : TS := fun D σ H => wi σ H fun J H1 => ∃ W : Nat → Nat → St → Hp → Prop, (∃ m, W 0 m σ H1) ∧ ∀ i m σ H, W i m σ H →
  (J.stop i H ∧ D.nx σ H) ∨ (J.go i H ∧ ∃ N : St → Hp → Prop, (∀ σ' H', N σ' H' → ∃ m', m' < m ∧ W (i + 1) m' σ' H') ∧ ∀ x H', J.yld i H x H' → g x σ H' fun σ2 H2 => tb { D with nx := N, ct := N, bk := D.nx } σ2 H2)
/-- the records at fp as they stand -/
def pinsAt (fp : List Addr) (h : Heap) : List (Addr × Obj) := fp.filterMap fun b => (h.get? b).map fun o => (b, o)
theorem mem_pinsAt {fp : List Addr} {h : Heap} {b : Addr} {o : Obj} (hb : b ∈ fp) (e : h.get? b = some o) : (b, o) ∈ pinsAt fp h := List.mem_filterMap.mpr ⟨b, hb, by rw [e]; rfl⟩
theorem of_pinsAt {fp : List Addr} {h : Heap} {p : Addr × Obj} (hp : p ∈ pinsAt fp h) : p.1 ∈ fp ∧ h.get? p.1 = some p.2 := by
  obtain ⟨b, hb, e⟩ := List.mem_filterMap.mp hp
  cases q : h.get? b with
  | none => rw [q] at e; cases e
  | some o =>
    rw [q] at e
    have e' : (b, o) = p := Option.some.inj e
    subst e'
    exact ⟨hb, q⟩
theorem Inv.pinned {pins : List (Addr × Obj)} {σ : St} {H : Hp} {s : Shared} {fp : List Addr} (I : Inv X pins σ H s) (hf : ∀ b ∈ fp, FpOk X pins H b) (ho : ∀ b ∈ fp, ∃ o, s.heap.get? b = some o ∧ ∀ v, o.data ≠ .cell v) : Inv X (pins ++ pinsAt fp s.heap) σ H s :=
  I.pins_of fun p hp => (List.mem_append.mp hp).elim (fun z => I.pin p (List.mem_append_right _ z)) fun z => by
    obtain ⟨hb, e⟩ := of_pinsAt z
    obtain ⟨f0, f1, f2, _⟩ := hf p.1 hb
    obtain ⟨o, e', d⟩ := ho p.1 hb
    rw [e] at e'; cases e'
    exact ⟨e, f0, f1, f2, d⟩
theorem Inv.unpinned {pins pl : List (Addr × Obj)} {σ : St} {H : Hp} {s : Shared} (I : Inv X (pins ++ pl) σ H s) : Inv X pins σ H s := I.pins_of fun p hp => I.pin p (List.mem_append_right _ (List.mem_append_left _ hp))
theorem ps_for {iter : Expr} {body : List Stmt} {wi : TI} {g : TG} {tb : TS} {pos : Pos} (hp : PassesOwn (model X.prog X.w) X.A X.env X.xe) (hc : X.calm = true) (hi : PI X tg iter wi) (hg : PG X tg g) (hb : PSs X body tb)
    (hs : ∀ x, foldedSetIterable iter X.env x = pure x := by intro _; rfl) : PS X (.For tg iter body [] pos) (tFor wi g tb) := by
  intro pins s σ H D I h
  refine wpAny_For (thn (hi pins s σ H _ I h) fun v s1 h1 => thn h1 fun itv s2 h2 => ?_) hs
  obtain ⟨it, fp, tn, J, H2, e, I2, T, st2, f2, W, ⟨m0, w0⟩, turn⟩ := h2
  subst e
  -- what stays true of the iterator's objects through the loop
  have stat : ∀ {H' : Hp}, (∀ b ∈ fp, H' b = none) → ∀ b ∈ fp, FpOk X pins H' b := fun hn b hb => ⟨hn b hb, (f2 b hb).2⟩
  refine codeAny_forLoop_any (fun n s' => ∃ i σ' H', Inv X pins σ' H' s' ∧ tn i s'.heap ∧ (∀ b ∈ fp, H' b = none) ∧ W i n σ' H') ?_ m0 ⟨0, σ, H2, I2, st2, fun b hb => (f2 b hb).1, w0⟩
  rintro n s3 ⟨i, σ3, H3, I3, st3, fr3, w3⟩
  rcases turn i n σ3 H3 w3 with ⟨stop, qn⟩ | ⟨go, N, hN, step⟩
  · refine wpAny_passesOwn hp (thn (T.done X rfl rfl rfl hc i pins s3 σ3 H3 X.xe I3 (stat fr3) st3 stop) fun r s4 ⟨hr, I4⟩ => ?_)
    subst hr
    exact wpAny_execs_nil ⟨σ3, H3, I4, qn⟩
  · refine wpAny_passesOwn hp (thn (T.item X rfl rfl rfl hc i pins s3 σ3 H3 X.xe I3 (stat fr3) st3 go) fun r s4 ⟨u, hr, h4⟩ => ?_)
    subst hr
    refine wpAny_passesOwn hp (thn h4 fun _ s5 ⟨x, H5, I5, r5, y5, st5, fr5⟩ => ?_)
    have I5' := I5.pinned (stat fr5) (T.obj _ _ st5)
    refine wpAny_passesOwn hp (thn (hg _ s5 σ3 H5 x u _ I5' r5 (step x H5 y5)) fun _ s6 ⟨σ6, H6, I6, q6⟩ => ?_)
    refine wpAny_passesOwn hp (thn (hb _ s6 σ6 H6 _ I6 q6) fun f s7 q7 => ?_)
    have again : ∀ {σ7 : St} {H7 : Hp}, Inv X (pins ++ pinsAt fp s5.heap) σ7 H7 s7 → N σ7 H7 → ∃ m, m < n ∧ ∃ i σ' H', Inv X pins σ' H' s7 ∧ tn i s7.heap ∧ (∀ b ∈ fp, H' b = none) ∧ W i m σ' H' := fun {σ7 H7} I7 n7 => by
      obtain ⟨m', hm, w7⟩ := hN σ7 H7 n7
      refine ⟨m', hm, i + 1, σ7, H7, I7.unpinned, T.keep _ _ _ st5 fun b hb o e => (I7.pin (b, o) (List.mem_append_right _ (List.mem_append_right _ (mem_pinsAt hb e)))).1, fun b hb => ?_, w7⟩
      obtain ⟨o, e, d⟩ := T.obj _ _ st5 b hb
      exact (I7.pin (b, o) (List.mem_append_right _ (List.mem_append_right _ (mem_pinsAt hb e)))).2.1
    cases f with
    | next => obtain ⟨σ7, H7, I7, n7⟩ := q7; exact again I7 n7
    | cont => obtain ⟨σ7, H7, I7, n7⟩ := q7; exact again I7 n7
    | brk => obtain ⟨σ7, H7, I7, q7⟩ := q7; exact ⟨σ7, H7, I7.unpinned, q7⟩
    | ret v => obtain ⟨x7, σ7, H7, I7, r7, q7⟩ := q7; exact ⟨x7, σ7, H7, I7.unpinned, r7, q7⟩
end

/-! ### the forms one uses -/
/-- over a list that the body leaves as it is -/
theorem for_list {K : PySem.W.Frag} {a : Addr} {xs : List V} {g : TG} {tb : TS} {D : Ends} {σ : St} {H : Hp} (Pv : Nat → St → Hp → Prop) (h0 : Pv 0 σ H) (hl : ∀ i σ H, i ≤ xs.length → Pv i σ H → SqL K H a xs)
    (hs : ∀ i x σ H, xs[i]? = some x → Pv i σ H → g x σ H fun σ2 H2 => tb { D with nx := Pv (i + 1), ct := Pv (i + 1), bk := D.nx } σ2 H2) (hd : ∀ σ H, Pv xs.length σ H → D.nx σ H) :
    ∃ W : Nat → Nat → St → Hp → Prop, (∃ m, W 0 m σ H) ∧ ∀ i m σ H, W i m σ H →
      ((Itl K a).stop i H ∧ D.nx σ H) ∨ ((Itl K a).go i H ∧ ∃ N : St → Hp → Prop, (∀ σ' H', N σ' H' → ∃ m', m' < m ∧ W (i + 1) m' σ' H') ∧ ∀ x H', (Itl K a).yld i H x H' → g x σ H' fun σ2 H2 => tb { D with nx := N, ct := N, bk := D.nx } σ2 H2) := by
  refine ⟨fun i m σ H => m = xs.length - i ∧ i ≤ xs.length ∧ Pv i σ H, ⟨xs.length, by simp, Nat.zero_le _, h0⟩, ?_⟩
  rintro i m σ H ⟨rfl, hi, p⟩
  have q := hl i σ H hi p
  by_cases hlt : i < xs.length
  · refine .inr ⟨⟨xs, xs[i], q, by simp [hlt]⟩, Pv (i + 1), fun σ' H' p' => ⟨xs.length - (i + 1), by omega, rfl, hlt, p'⟩, fun x H' y => ?_⟩
    obtain ⟨e, y⟩ := y
    subst e
    exact hs i x σ _ (y xs q) p
  · have e : i = xs.length := by omega
    subst e
    exact .inl ⟨⟨xs, q, Nat.le_refl _⟩, hd σ H p⟩
theorem for_range {lo : Int} {n : Nat} {g : TG} {tb : TS} {D : Ends} {σ : St} {H : Hp} (Pv : Nat → St → Hp → Prop) (h0 : Pv 0 σ H)
    (hs : ∀ i σ H, i < n → Pv i σ H → g (.int (lo + i)) σ H fun σ2 H2 => tb { D with nx := Pv (i + 1), ct := Pv (i + 1), bk := D.nx } σ2 H2) (hd : ∀ σ H, Pv n σ H → D.nx σ H) :
    ∃ W : Nat → Nat → St → Hp → Prop, (∃ m, W 0 m σ H) ∧ ∀ i m σ H, W i m σ H →
      ((Itr lo n).stop i H ∧ D.nx σ H) ∨ ((Itr lo n).go i H ∧ ∃ N : St → Hp → Prop, (∀ σ' H', N σ' H' → ∃ m', m' < m ∧ W (i + 1) m' σ' H') ∧ ∀ x H', (Itr lo n).yld i H x H' → g x σ H' fun σ2 H2 => tb { D with nx := N, ct := N, bk := D.nx } σ2 H2) := by
  refine ⟨fun i m σ H => m = n - i ∧ i ≤ n ∧ Pv i σ H, ⟨n, by simp, Nat.zero_le _, h0⟩, ?_⟩
  rintro i m σ H ⟨rfl, hi, p⟩
  by_cases hlt : i < n
  · refine .inr ⟨hlt, Pv (i + 1), fun σ' H' p' => ⟨n - (i + 1), by omega, rfl, hlt, p'⟩, fun x H' y => ?_⟩
    obtain ⟨e, y⟩ := y
    subst e y
    exact hs i σ _ hlt p
  · have e : i = n := by omega
    subst e
    exact .inl ⟨Nat.le_refl _, hd σ H p⟩
end L2

namespace L2
open PySem PySem.Spec PyProof.Rows

abbrev R2 := V → V → Hp → VK → Prop
/-- a two-place operation on values: f is binaryOp op, inplaceOp op or compareOp op -/
def OpR (X : Cx) (f : Value → Value → Sem Value) (r : R2) : Prop :=
  ∀ (pins : List (Addr × Obj)) (s : Shared) (σ : St) (H : Hp) (x y : V) (v u : Value) (Q : VK), Inv X pins σ H s → RelV x v → RelV y u → r x y H Q →
    wpAny (model X.prog X.w) X.A (f v u) (EP X pins σ Q) X.xe s
/-- a call of a value that is known (a builtin, a type) with values -/
def CallR (X : Cx) (f : Value) (r : List V → Hp → VK → Prop) : Prop :=
  ∀ (pins : List (Addr × Obj)) (s : Shared) (σ : St) (H : Hp) (xs : List V) (us : List Value) (Q : VK), Inv X pins σ H s → Vals xs us → r xs H Q →
    wpAny (model X.prog X.w) X.A (call f us) (EP X pins σ Q) X.xe s
/-- a value's truth -/
def TruR (X : Cx) (r : V → Hp → (Bool → Hp → Prop) → Prop) : Prop :=
  ∀ (pins : List (Addr × Obj)) (s : Shared) (σ : St) (H : Hp) (x : V) (v : Value) (Q : Bool → Hp → Prop), Inv X pins σ H s → RelV x v → r x H Q →
    wpAny (model X.prog X.w) X.A (truthy v) (TP X pins σ Q) X.xe s

def tOp (r : R2) (ta tb : TE) : TE := fun σ H Q => ta σ H fun x H1 => tb σ H1 fun y H2 => r x y H2 Q
/-- ints in, under C, and a value out -/
def rI (C : Int → Int → Prop) (g : Int → Int → V) : R2 := fun x y H Q => ∃ i j, x = .int i ∧ y = .int j ∧ C i j ∧ Q (g i j) H
def rI0 (g : Int → Int → V) : R2 := fun x y H Q => ∃ i j, x = .int i ∧ y = .int j ∧ Q (g i j) H

section
variable {X : Cx} {a b c : Expr} {ta tb tc : TE} {pos : Pos}

theorem binT (ha : PE X a ta) (hb : PE X b tb) {pins : List (Addr × Obj)} {s : Shared} {σ : St} {H : Hp} {R : V → V → Hp → Prop} (I : Inv X pins σ H s)
    (h : ta σ H fun x H1 => tb σ H1 fun y H2 => R x y H2) {Q : Value → Shared → Prop} {f : Value → Value → Sem Value}
    (hf : ∀ v u s2 x y H2, Inv X pins σ H2 s2 → RelV x v → RelV y u → R x y H2 → wpAny (model X.prog X.w) X.A (f v u) Q X.xe s2) :
    wpAny (model X.prog X.w) X.A (eval a X.env) (fun v s₁ => wpAny (model X.prog X.w) X.A (eval b X.env) (fun u s₂ => wpAny (model X.prog X.w) X.A (f v u) Q X.xe s₂) X.xe s₁) X.xe s := by
  refine thn (ha pins s σ H _ I h) fun v s1 ⟨x, H1, I1, r1, q1⟩ => ?_
  refine thn (hb pins s1 σ H1 _ I1 q1) fun u s2 ⟨y, H2, I2, r2, q2⟩ => ?_
  exact hf v u s2 x y H2 I2 r1 r2 q2

theorem pe_op {op : Operator} {r : R2} (ho : OpR X (binaryOp op) r) (ha : PE X a ta) (hb : PE X b tb) : PE X (.BinOp a op b pos) (tOp r ta tb) := by
  intro pins s σ H Q I h
  exact wpAny_BinOp (binT ha hb I h fun v u s2 x y H2 I2 rx ry q => ho pins s2 σ H2 x y v u Q I2 rx ry q)

/-! ### ints -/
theorem opI {f : Value → Value → Sem Value} {C : Int → Int → Prop} {g : Int → Int → Int}
    (rule : ∀ (i j : Int) (t u : Tok) (s : Shared) (Q : Value → Shared → Prop) (E : Value → Shared → Prop), C i j → Q (.int (g i j) s.toks) { s with toks := s.toks + 1 } → wpAny (model X.prog X.w) X.A (f (.int i t) (.int j u)) Q E s) :
    OpR X f (rI C fun i j => .int (g i j)) := by
  intro pins s σ H x y v u Q I rx ry h
  obtain ⟨i, j, rfl, rfl, hc, q⟩ := h
  obtain ⟨t, rfl⟩ := rx
  obtain ⟨t', rfl⟩ := ry
  exact rule i j t t' s _ _ hc ⟨.int (g i j), H, I.tok _, ⟨_, rfl⟩, q⟩
theorem opI0 {f : Value → Value → Sem Value} {g : Int → Int → Int}
    (rule : ∀ (i j : Int) (t u : Tok) (s : Shared) (Q : Value → Shared → Prop) (E : Value → Shared → Prop), Q (.int (g i j) s.toks) { s with toks := s.toks + 1 } → wpAny (model X.prog X.w) X.A (f (.int i t) (.int j u)) Q E s) :
    OpR X f (rI0 fun i j => .int (g i j)) := by
  intro pins s σ H x y v u Q I rx ry h
  obtain ⟨i, j, rfl, rfl, q⟩ := h
  obtain ⟨t, rfl⟩ := rx
  obtain ⟨t', rfl⟩ := ry
  exact rule i j t t' s _ _ ⟨.int (g i j), H, I.tok _, ⟨_, rfl⟩, q⟩
theorem opB0 {f : Value → Value → Sem Value} {g : Int → Int → Bool}
    (rule : ∀ (i j : Int) (t u : Tok) (s : Shared) (Q : Value → Shared → Prop) (E : Value → Shared → Prop), Q (.bool (g i j)) s → wpAny (model X.prog X.w) X.A (f (.int i t) (.int j u)) Q E s) :
    OpR X f (rI0 fun i j => .bl (g i j)) := by
  intro pins s σ H x y v u Q I rx ry h
  obtain ⟨i, j, rfl, rfl, q⟩ := h
  obtain ⟨t, rfl⟩ := rx
  obtain ⟨t', rfl⟩ := ry
  exact rule i j t t' s _ _ ⟨.bl (g i j), H, I, rfl, q⟩

def CDiv (i j : Int) : Prop := 0 < j ∧ j < 1073741824
def CPow (i j : Int) : Prop := 0 ≤ j ∧ j ≤ 1000000 ∧ i.natAbs < 2 ^ 64

theorem op_add : OpR X (binaryOp .Add) (rI0 fun i j => .int (i + j)) := opI0 fun _ _ _ _ _ _ _ q => add_int q
theorem op_sub : OpR X (binaryOp .Sub) (rI0 fun i j => .int (i - j)) := opI0 fun _ _ _ _ _ _ _ q => sub_int q
/-- // by a positive divisor -/
theorem op_fdiv : OpR X (binaryOp .FloorDiv) (rI CDiv fun i j => .int (i / j)) := opI fun i j _ _ _ _ _ hc q => by
  have h1 : (0 : Int) < j := hc.1
  have h2 : j < 1073741824 := hc.2
  exact floordiv_int (by omega) (by rw [Int.fdiv_eq_ediv_of_nonneg i (by omega)]; exact q) (.inl (PyProof.noPylong_small (by omega)))
/-- % by a positive divisor of any size -/
theorem op_mod : OpR X (binaryOp .Mod) (rI (fun _ j => 0 < j) fun i j => .int (i % j)) := opI fun i j _ _ _ _ _ hc q => by
  have h1 : (0 : Int) < j := hc
  exact mod_int' (by omega) (by rw [Int.fmod_eq_emod_of_nonneg i (by omega)]; exact q)
theorem op_modN : OpR X (binaryOp .Mod) (rI (fun _ j => j ≠ 0) fun i j => .int (i.fmod j)) := opI fun _ _ _ _ _ _ _ hc q => mod_int' hc q
theorem op_pow : OpR X (binaryOp .Pow) (rI CPow fun i j => .int (i ^ j.toNat)) := opI fun _ _ _ _ _ _ _ hc q => pow_int_small hc.1 hc.2.1 hc.2.2 q



/-! ### bools among ints: n += (a < b) -/
end

/-! ### comparisons -/
/-- the scalars that == tells apart as data does -/
def scal : V → V → Bool
  | .non, .non => true | .non, .int _ => true | .int _, .non => true | .non, .bl _ => true | .bl _, .non => true | .non, .str _ => true | .str _, .non => true
  | .int _, .int _ => true | .bl _, .bl _ => true | .str _, .str _ => true | .byt _, .byt _ => true
  | .int _, .str _ => true | .str _, .int _ => true | .bl _, .str _ => true | .str _, .bl _ => true
  | _, _ => false
def rEq : R2 := fun x y H Q => scal x y = true ∧ Q (.bl (decide (x = y))) H

theorem dec_int {i j : Int} : decide (V.int i = V.int j) = (i == j) := by
  rw [Bool.eq_iff_iff]
  simp
theorem dec_bl {i j : Bool} : decide (V.bl i = V.bl j) = (i == j) := by
  rw [Bool.eq_iff_iff]
  simp
theorem dec_str {i j : Str} : decide (V.str i = V.str j) = (i == j) := by
  rw [Bool.eq_iff_iff]
  simp
theorem dec_byt {i j : Array UInt8} : decide (V.byt i = V.byt j) = (i.toList == j.toList) := by
  rw [Bool.eq_iff_iff]
  cases i
  cases j
  simp

section
variable {X : Cx} {a b c : Expr} {ta tb tc : TE} {pos : Pos}
theorem fin_bl {pins : List (Addr × Obj)} {σ : St} {H : Hp} {s : Shared} {Q : VK} {k k' : Bool} (I : Inv X pins σ H s) (q : Q (.bl k) H) (e : k = k') : EP X pins σ Q (.bool k') s := by
  subst e
  exact ⟨.bl k, H, I, rfl, q⟩
theorem op_eq : OpR X (compareOp .Eq) rEq := by
  intro pins s σ H x y v u Q I rx ry h
  obtain ⟨hs, q⟩ := h
  cases x with
  | non =>
    cases rx
    cases y with
    | non => cases ry; exact PySem.EqNone.eq_none_none (fin_bl I q (by simp))
    | bl j => cases ry; exact PySem.EqNone.eq_none_bool (fin_bl I q (by simp))
    | int j => obtain ⟨t', rfl⟩ := ry; exact PySem.EqNone.eq_none_int (fin_bl I q (by simp))
    | str j => obtain ⟨t', rfl⟩ := ry; exact PySem.EqNone.eq_none_str (fin_bl I q (by simp))
    | _ => exact absurd (show false = true from hs) Bool.false_ne_true
  | bl i =>
    cases rx
    cases y with
    | non => cases ry; exact PySem.EqNone.eq_bool_none (fin_bl I q (by simp))
    | bl j => cases ry; exact eq_bool (fin_bl I q dec_bl)
    | str j => obtain ⟨t', rfl⟩ := ry; exact PySem.EqMixed.eq_bool_str (fin_bl I q (by simp))
    | _ => exact absurd (show false = true from hs) Bool.false_ne_true
  | int i =>
    obtain ⟨t, rfl⟩ := rx
    cases y with
    | non => cases ry; exact PySem.EqNone.eq_int_none (fin_bl I q (by simp))
    | int j => obtain ⟨t', rfl⟩ := ry; exact eq_int (fin_bl I q dec_int)
    | str j => obtain ⟨t', rfl⟩ := ry; exact PySem.EqMixed.eq_int_str (fin_bl I q (by simp))
    | _ => exact absurd (show false = true from hs) Bool.false_ne_true
  | str i =>
    obtain ⟨t, rfl⟩ := rx
    cases y with
    | non => cases ry; exact PySem.EqNone.eq_str_none (fin_bl I q (by simp))
    | bl j => cases ry; exact PySem.EqMixed.eq_str_bool (fin_bl I q (by simp))
    | int j => obtain ⟨t', rfl⟩ := ry; exact PySem.EqMixed.eq_str_int (fin_bl I q (by simp))
    | str j => obtain ⟨t', rfl⟩ := ry; exact eq_str (fin_bl I q dec_str)
    | _ => exact absurd (show false = true from hs) Bool.false_ne_true
  | byt i =>
    obtain ⟨t, rfl⟩ := rx
    cases y with
    | byt j => obtain ⟨t', rfl⟩ := ry; exact PySem.W.eq_bytes (fin_bl I q dec_byt)
    | _ => exact absurd (show false = true from hs) Bool.false_ne_true
  | _ => cases y <;> exact absurd (show false = true from hs) Bool.false_ne_true

theorem op_lt : OpR X (compareOp .Lt) (rI0 fun i j => .bl (decide (i < j))) := opB0 fun _ _ _ _ _ _ _ q => lt_int q
theorem op_gt : OpR X (compareOp .Gt) (rI0 fun i j => .bl (decide (j < i))) := opB0 fun _ _ _ _ _ _ _ q => gt_int q

/-- is None, is not None: the right side a value none -/
theorem op_isN : OpR X (compareOp .Is) (fun x y H Q => y = .non ∧ Q (.bl (decide (x = .non))) H) := by
  intro pins s σ H x y v u Q I rx ry h
  obtain ⟨rfl, q⟩ := h
  cases ry
  refine is_none_gen (fin_bl I q ?_)
  cases x <;> first
    | (cases rx; rfl)
    | (obtain ⟨t, rfl⟩ := rx; rfl)



theorem nomark (b : Expr) {op : CmpOp} (h : op ≠ .In := by decide) (h2 : op ≠ .NotIn := by decide) : behindInMarks op b = false := by
  have e1 : (op == CmpOp.In) = false := by cases op <;> first | rfl | exact absurd rfl h
  have e2 : (op == CmpOp.NotIn) = false := by cases op <;> first | rfl | exact absurd rfl h2
  cases b <;> simp [behindInMarks, e1, e2]
/-- a comparison as a value; hm: nomark b, or (for in, not in) by with_unfolding_all rfl -/
theorem pe_cmpR {op : CmpOp} {r : R2} (ho : OpR X (compareOp op) r) (ha : PE X a ta) (hb : PE X b tb) (hm : behindInMarks op b = false) : PE X (.Compare a [op] [b] pos) (tOp r ta tb) := by
  intro pins s σ H Q I h
  exact wpAny_Compare1 (binT ha hb I h fun v u s2 x y H2 I2 rx ry q => ho pins s2 σ H2 x y v u Q I2 rx ry q) hm
/-- a reading of a value as a test -/
def tTest (t : TE) : TT := fun σ H Q => t σ H fun x H' => ∃ k, x = .bl k ∧ Q k H'
theorem pt_cmpR {op : CmpOp} {r : R2} (ho : OpR X (compareOp op) r) (ha : PE X a ta) (hb : PE X b tb) (hm : behindInMarks op b = false) : PT X (.Compare a [op] [b] pos) (tTest (tOp r ta tb)) := by
  intro pins s σ H Q I h
  refine wpAny_isTrue_Compare1 (thn (ha pins s σ H _ I h) fun v s1 ⟨x, H1, I1, r1, q1⟩ => thn (hb pins s1 σ H1 _ I1 q1) fun u s2 ⟨y, H2, I2, r2, q2⟩ =>
    thn (ho pins s2 σ H2 x y v u _ I2 r1 r2 q2) fun c s3 ⟨z, H3, I3, r3, k, e, q3⟩ => ?_) hm
  subst e
  cases r3
  exact wpAny_truthy_bool ⟨H3, I3, q3⟩
/-- a op1 b op2 c -/
def tChain (r r' : R2) (ta tb tc : TE) : TE := fun σ H Q => ta σ H fun x H1 => tb σ H1 fun y H2 => r x y H2 fun z H3 => ∃ k, z = .bl k ∧
  (if k = true then tc σ H3 fun w' H4 => r' y w' H4 Q else Q (.bl false) H3)
theorem pt_chain {op op' : CmpOp} {r r' : R2} (ho : OpR X (compareOp op) r) (ho' : OpR X (compareOp op') r') (ha : PE X a ta) (hb : PE X b tb) (hc : PE X c tc)
    (hm : lastMarks [op, op'] [b, c] = false := by with_unfolding_all rfl) : PT X (.Compare a [op, op'] [b, c] pos) (tTest (tChain r r' ta tb tc)) := by
  intro pins s σ H Q I h
  refine isTrue_chain (thn (ha pins s σ H _ I h) fun v s1 ⟨x, H1, I1, r1, q1⟩ => test_link (thn (hb pins s1 σ H1 _ I1 q1) fun u s2 ⟨y, H2, I2, r2, q2⟩ =>
    thn (ho pins s2 σ H2 x y v u _ I2 r1 r2 q2) fun d s3 ⟨z, H3, I3, r3, k, e, q3⟩ => ?_)) hm
  subst e
  cases r3
  refine wpAny_truthy_bool ?_
  cases k with
  | false =>
    obtain ⟨k', e', q'⟩ := q3
    cases e'
    exact ite_ff ⟨H3, I3, q'⟩
  | true =>
    refine ite_tt (test_last (thn (hc pins s3 σ H3 _ I3 q3) fun w' s4 ⟨z', H4, I4, r4, q4⟩ => thn (ho' pins s4 σ H4 y z' u w' _ I4 r2 r4 q4) fun d' s5 ⟨z2, H5, I5, r5, k2, e2, q5⟩ => ?_))
    subst e2
    cases r5
    exact wpAny_truthy_bool ⟨H5, I5, q5⟩

/-! ### truth -/
/-- a value's truth by the abstract heap -/
def TruV (K : PySem.W.Frag) (x : V) (H : Hp) (k : Bool) : Prop :=
  match x with
  | .non => k = false
  | .bl b => k = b
  | .int i => k = (i != 0)
  | .str y => y.length ≤ sizeLine ∧ k = ((y.length : Int) != 0)
  | .byt y => y.size ≤ sizeLine ∧ k = ((y.size : Int) != 0)
  | .ref p => (∃ xs, SqL K H p xs ∧ k = !xs.isEmpty) ∨ (∃ xs, SqT K H p xs ∧ k = !xs.isEmpty) ∨ ∃ kvs, H p = some (.dK kvs) ∧ k = !kvs.isEmpty
  | _ => False
theorem isEmpty_kv {κ : Type} {kvs : List (κ × V)} {vs : List (κ × Value)} (r : KV kvs vs) : (!vs.isEmpty) = !kvs.isEmpty := by
  cases r <;> rfl
theorem isEmpty_of {xs : List V} {its : List Value} (r : Vals xs its) : (!its.toArray.isEmpty) = !xs.isEmpty := by
  cases r <;> simp
theorem line63 : (sizeLine : Nat) < 2 ^ 63 := by rw [sizeLine_eq]; decide
theorem tru_ok : TruR X (fun x H Q => ∃ k, TruV X.K x H k ∧ Q k H) := by
  intro pins s σ H x v Q I rx h
  obtain ⟨k, e, q⟩ := h
  have hl := line63
  have hs : sizeLine = 16777216 := sizeLine_eq
  cases x with
  | non =>
    cases rx
    have e' : k = false := e
    subst e'
    exact truthy_none ⟨H, I, q⟩
  | bl b =>
    cases rx
    have e' : k = b := e
    subst e'
    exact wpAny_truthy_bool ⟨H, I, q⟩
  | int i =>
    obtain ⟨t, rfl⟩ := rx
    have e' : k = (i != 0) := e
    subst e'
    exact PySem.P.truthy_int ⟨H, I, q⟩
  | str y =>
    obtain ⟨t, rfl⟩ := rx
    obtain ⟨hy, e'⟩ : y.length ≤ sizeLine ∧ k = ((y.length : Int) != 0) := e
    subst e'
    exact PySem.P.truthy_str (by omega) ⟨H, I.tok _, q⟩
  | byt y =>
    obtain ⟨t, rfl⟩ := rx
    obtain ⟨hy, e'⟩ : y.size ≤ sizeLine ∧ k = ((y.size : Int) != 0) := e
    subst e'
    exact PySem.W.truthy_bytes (by omega) ⟨H, I.tok _, q⟩
  | ref p =>
    cases rx
    have e' : (∃ xs, SqL X.K H p xs ∧ k = !xs.isEmpty) ∨ (∃ xs, SqT X.K H p xs ∧ k = !xs.isEmpty) ∨ ∃ kvs, H p = some (.dK kvs) ∧ k = !kvs.isEmpty := e
    rcases e' with ⟨xs, hx, e'⟩ | ⟨xs, hx, e'⟩ | ⟨kvs, hx, e'⟩
    · subst e'
      obtain ⟨its, r, pl, hz⟩ := I.list hx
      have hlen := r.length
      exact wpAny_truthy_list pl.isList (by simp only [List.size_toArray]; omega) ⟨H, I.tok _, by rw [isEmpty_of r]; exact q⟩
    · subst e'
      obtain ⟨its, r, pl, hz⟩ := I.tuple hx
      have hlen := r.length
      exact truthy_tuple pl (by simp only [List.size_toArray]; omega) ⟨H, I.tok _, by rw [isEmpty_of r]; exact q⟩
    · subst e'
      obtain ⟨hz, hS, vs, r, m⟩ : kvs.length ≤ sizeLine ∧ (p == sysModules) = false ∧ ∃ vs, KV kvs vs ∧ s.heap.DictOf (mixKind X.prog X.w) p vs := I.hok p _ hx
      have hlen : kvs.length = vs.length := Paired.length r
      exact wpAny_truthy_dict hS m (by omega) ⟨H, I.tok _, by rw [isEmpty_kv r]; exact q⟩
  | _ => exact (show False from e).elim
/-- any expression whose test is its value's truth (a name, a call, a subscript, a field ..: he by fun _ => rfl) -/
theorem pt_truth (ha : PE X a ta) (he : ∀ whole, isTrue a X.env whole = (do let v ← whole; standAt a.pos; holding [v] (truthy v))) :
    PT X a (fun σ H Q => ta σ H fun x H' => ∃ k, TruV X.K x H' k ∧ Q k H') := by
  intro pins s σ H Q I h
  exact isTrue_plain (thn (ha pins s σ H _ I h) fun v s1 ⟨x, H1, I1, r1, q1⟩ => tru_ok pins s1 σ H1 x v Q I1 r1 q1) (he _)

/-! ### strs and bytes -/


/-! ### scalar builtins, by CallR -/
theorem vals1 {x : V} {us : List Value} (r : Vals [x] us) : ∃ u, us = [u] ∧ RelV x u := by
  cases r with
  | cons r1 r2 => cases r2; exact ⟨_, rfl, r1⟩
theorem vals2 {x y : V} {us : List Value} (r : Vals [x, y] us) : ∃ u w', us = [u, w'] ∧ RelV x u ∧ RelV y w' := by
  cases r with
  | cons r1 r2 =>
    cases r2 with
    | cons r3 r4 => cases r4; exact ⟨_, _, rfl, r1, r3⟩
theorem call_abs : CallR X (.builtin "abs") (fun xs H Q => ∃ i, xs = [.int i] ∧ Q (.int (if i < 0 then -i else i)) H) := by
  intro pins s σ H xs us Q I r h
  obtain ⟨i, rfl, q⟩ := h
  obtain ⟨u, rfl, t, rfl⟩ := vals1 r
  exact call_abs_int fun u tk => ⟨.int (if i < 0 then -i else i), H, I.tok _, ⟨_, rfl⟩, q⟩
theorem call_max2 (hc : X.calm = true) : CallR X (.builtin "max") (fun xs H Q => ∃ i j, xs = [.int i, .int j] ∧ Q (.int (if j > i then j else i)) H) := by
  intro pins s σ H xs us Q I r h
  obtain ⟨i, j, rfl, q⟩ := h
  obtain ⟨u, w', rfl, ⟨t, rfl⟩, ⟨t', rfl⟩⟩ := vals2 r
  refine max_two_ints (I.ok.hd hc) fun h' tk k => ⟨_, H, I.kept k, ?_, q⟩
  by_cases hj : j > i
  · rw [if_pos hj, if_pos hj]; exact ⟨_, rfl⟩
  · rw [if_neg hj, if_neg hj]; exact ⟨_, rfl⟩
theorem call_min2 (hc : X.calm = true) : CallR X (.builtin "min") (fun xs H Q => ∃ i j, xs = [.int i, .int j] ∧ Q (.int (if j < i then j else i)) H) := by
  intro pins s σ H xs us Q I r h
  obtain ⟨i, j, rfl, q⟩ := h
  obtain ⟨u, w', rfl, ⟨t, rfl⟩, ⟨t', rfl⟩⟩ := vals2 r
  refine min_two_ints (I.ok.hd hc) fun h' tk k => ⟨_, H, I.kept k, ?_, q⟩
  by_cases hj : j < i
  · rw [if_pos hj, if_pos hj]; exact ⟨_, rfl⟩
  · rw [if_neg hj, if_neg hj]; exact ⟨_, rfl⟩
theorem call_int1 : CallR X (.type "int") (fun xs H Q => (∃ i, xs = [.int i] ∧ Q (.int i) H) ∨ ∃ k, xs = [.bl k] ∧ Q (.int (if k then 1 else 0)) H) := by
  intro pins s σ H xs us Q I r h
  rcases h with ⟨i, rfl, q⟩ | ⟨k, rfl, q⟩
  · obtain ⟨u, rfl, t, rfl⟩ := vals1 r
    exact call_int_int ⟨.int i, H, I, ⟨_, rfl⟩, q⟩
  · obtain ⟨u, rfl, r1⟩ := vals1 r
    cases r1
    exact call_int_bool ⟨.int (if k then 1 else 0), H, I.tok _, ⟨_, rfl⟩, q⟩
/-- len of a str, a bytes, a list, a tuple -/
def LenV (K : PySem.W.Frag) (x : V) (H : Hp) (n : Nat) : Prop :=
  match x with
  | .str y => y.length ≤ sizeLine ∧ n = y.length
  | .byt y => y.size ≤ sizeLine ∧ n = y.size
  | .ref p => (∃ xs, SqL K H p xs ∧ n = xs.length) ∨ ∃ xs, SqT K H p xs ∧ n = xs.length
  | _ => False
theorem call_len : CallR X (.builtin "len") (fun xs H Q => ∃ x n, xs = [x] ∧ LenV X.K x H n ∧ Q (.int n) H) := by
  intro pins s σ H xs us Q I r h
  obtain ⟨x, n, rfl, e, q⟩ := h
  obtain ⟨u, rfl, rx⟩ := vals1 r
  have hl := line63
  have hs : sizeLine = 16777216 := sizeLine_eq
  cases x with
  | str y =>
    obtain ⟨t, rfl⟩ := rx
    obtain ⟨hy, e'⟩ : y.length ≤ sizeLine ∧ n = y.length := e
    subst e'
    exact len_str (by omega) ⟨.int _, H, I.tok _, ⟨_, rfl⟩, q⟩
  | byt y =>
    obtain ⟨t, rfl⟩ := rx
    obtain ⟨hy, e'⟩ : y.size ≤ sizeLine ∧ n = y.size := e
    subst e'
    exact PySem.W.len_bytes (by omega) ⟨.int _, H, I.tok _, ⟨_, rfl⟩, q⟩
  | ref p =>
    cases rx
    have e' : (∃ xs, SqL X.K H p xs ∧ n = xs.length) ∨ ∃ xs, SqT X.K H p xs ∧ n = xs.length := e
    rcases e' with ⟨xs, hx, e'⟩ | ⟨xs, hx, e'⟩
    · subst e'
      obtain ⟨its, r', pl, hz⟩ := I.list hx
      have hlen := r'.length
      exact Calls.call_len_list pl.isList (by simp only [List.size_toArray]; omega) ⟨.int xs.length, H, I.tok _, ⟨_, by simp only [List.size_toArray]; rw [hlen]⟩, q⟩
    · subst e'
      obtain ⟨its, r', pl, hz⟩ := I.tuple hx
      have hlen := r'.length
      exact len_tuple pl (by simp only [List.size_toArray]; omega) ⟨.int xs.length, H, I.tok _, ⟨_, by simp only [List.size_toArray]; rw [hlen]⟩, q⟩
  | _ => exact (show False from e).elim
end
end L2

namespace L2
open PySem PySem.Spec PyProof.Rows

/-! ### an instance, its attributes a map -/
structure ObjM (h : Heap) (x dx C : Addr) (mA : Str → Option Value) : Prop where
  obj : h.get? x = some (PySem.W.instObj C dx)
  ns : h.Ns1 dx mA
  ne : dx ≠ x

theorem lookIn_ns {h : Heap} {dx : Addr} {mA : Str → Option Value} (n : h.Ns1 dx mA) : ∃ od, h.get? dx = some od ∧ ∀ name, PySem.W.lookIn name od = some (mA name) := by
  obtain ⟨o, es, ep, ho, hd, hk, _, hm⟩ := n
  refine ⟨o, ho, fun name => ?_⟩
  have e := hm name
  unfold nsFind findBy at e
  rw [← Array.find?_toList] at e
  unfold PySem.W.lookIn
  rw [hd]
  dsimp only
  split
  · rename_i y q
    rw [q] at e
    exact congrArg some e
  · rename_i q
    rw [q] at e
    have a : es.toList.any (·.refKey) = false := by
      rw [List.any_eq_false]
      intro y hy
      obtain ⟨z, t, hkey⟩ := hk y (Array.mem_toList_iff.mp hy)
      simp [DictEntry.refKey, hkey]
    have a' : ¬ es.toList.any (·.refKey) = true := by rw [a]; exact Bool.false_ne_true
    rw [if_neg a']
    exact congrArg some e

theorem ObjM.look {h : Heap} {x dx C : Addr} {mA : Str → Option Value} (I : ObjM h x dx C mA) : ∃ od, PySem.W.InstAt h x (PySem.W.instObj C dx) C (some od) ∧ ∀ name, PySem.W.lookIn name od = some (mA name) :=
  let ⟨od, ho, hl⟩ := lookIn_ns I.ns
  ⟨od, ⟨I.obj, rfl, rfl, ho⟩, hl⟩

section
variable {prog : Program} {w : World} {A : Around} {E : Value → Shared → Prop} {s : Shared} {K : PySem.W.Frag} {x dx C f : Addr} {mA : Str → Option Value} {name : Str} {v : Value}

theorem get_map {expr : Bool} {Q : Value → Shared → Prop} (X : K.In s.heap) (I : ObjM s.heap x dx C mA) (hg : PySem.W.plainGet K C name = true) (hh : PySem.W.hasDictIn K C = true)
    (ha : PySem.W.findIn K (.ref C) name = some none) (hv : mA name = some v) (hv' : PySem.W.handedIn v = true) (h : Q v { s with toks := s.toks + 1 }) :
    wpAny (model prog w) A (getAttr (.ref x) name expr) Q E s := by
  obtain ⟨od, J, hl⟩ := I.look
  exact PySem.W.get_value X J (PySem.W.plainGet_of hg).1 (PySem.W.findObj_own hh ha rfl (by rw [hl, hv])) hv' h


theorem get_meth {pl : Sem Bool} {Q : Value × List Value → Shared → Prop} (X : K.In s.heap) (I : ObjM s.heap x dx C mA) (hg : PySem.W.plainGet K C name = true)
    (hf : PySem.W.findIn K (.ref C) name = some (some (.ref f))) (ht : PySem.W.isFn K (.ref f) = true) (hv : mA name = none) (h : Q (.ref f, [.ref x]) s) :
    wpAny (model prog w) A (getMethod (.ref x) name pl) Q E s := by
  obtain ⟨od, J, hl⟩ := I.look
  exact PySem.W.method_fn X J (PySem.W.plainGet_of hg).1 (PySem.W.plainGet_of hg).2 hf (beq_iff_eq.mp ht) (by show (PySem.W.lookIn name od).map (·.isSome) = some false; rw [hl, hv]; rfl) h

theorem set_map {ns : List Str} {Q : Unit → Shared → Prop} (X : K.In s.heap) (I : ObjM s.heap x dx C mA)
    (hs : PySem.W.findIn K (.ref C) "__setattr__" = some (some (.builtin "object.__setattr__"))) (hp : PySem.W.plainOver K C = true) (ht : PySem.W.takerIn K C name = some none) (hh : PySem.W.hasDictIn K C = true)
    (hw : PySem.Within mA ns) (hsz : ns.length ≤ sizeLine)
    (h : ∀ h', ObjM h' x dx C (fun y => if y = name then some v else mA y) → Heap.SameBut dx s.heap h' → Q () { s with heap := h', toks := s.toks + 2 }) :
    wpAny (model prog w) A (setAttr (.ref x) name v) Q E s := by
  obtain ⟨od, J, hl⟩ := I.look
  refine PySem.W.set_plain X J hs (PySem.W.osa_open (s := { s with toks := s.toks + 1 }) (r := none) X J hp ht fun b => ?_)
  obtain ⟨cd, hc, hd'⟩ := PySem.W.any_some hh
  have hx : s.heap.get? x = some ⟨.ref C, some dx, .plain, #[]⟩ := I.obj
  refine wpAny_bind (wpAny_pure (wpAny_bind (wpAny_bind (wpAny_loadPart hx (wpAny_bind (PySem.W.Looks.here (s := { s with toks := s.toks + 1 }) (PySem.W.looks_clsIn X hc) ?_))))))
  rw [hd']
  refine wpAny_pure (a := some dx) (wpAny_bind (wpAny_pure (wpAny_bind ?_)))
  refine wpAny_nsSet1 (s := { s with toks := s.toks + 1 }) I.ns fun h' hn2 hs2 => ?_
  obtain ⟨oD, esD, epD, hoD, hdD, hcD⟩ := hn2.count (PySem.Within.cons name v hw)
  refine wpAny_bind (wpAny_lookBehind hoD (by rw [hdD]; exact pastItsLine_dict (Nat.le_trans hcD (by rw [List.length_cons]; omega))) ?_)
  exact wpAny_pure (h _ ⟨(hs2.2 _ (Ne.symm I.ne)).trans I.obj, hn2, I.ne⟩ hs2)

/-- C(..): the dict at the heap's end, the instance behind it; then its __init__ -/
theorem make_map {R : Result → Shared → Prop} {vs : List Value} {kw : List (Str × Value)} (X : K.In s.heap) (hm : PySem.W.makesIn K C = true)
    (hi : PySem.W.findIn K (.ref C) "__init__" = some (some (.ref f))) (hf : PySem.W.typeIn K (.ref f) = some (.type "function"))
    (h : codeAny (model prog w) (A.under (.builtin "type.__call__" ⟨.ref C :: vs, kw⟩)) (.call (.ref f) ⟨.ref (s.heap.objs.size + 1) :: vs, kw⟩) (PySem.W.InitBack (s.heap.objs.size + 1) R)
      { s with heap := (s.heap.push PySem.W.emptyDict).push (PySem.W.instObj C s.heap.objs.size) }) :
    codeAny (model prog w) A (.call (.ref C) ⟨vs, kw⟩) R s := by
  obtain ⟨hh, g, d, t, os⟩ := s
  exact PySem.W.make_core (PySem.W.makes_of X hm) (PySem.W.looks_findIn X hi) (fun self => PySem.W.bind_fn X self hf) (.inl rfl) h
/-- C() where there is no __init__ but object's -/
theorem make_map0 {R : Result → Shared → Prop} (X : K.In s.heap) (hm : PySem.W.makesIn K C = true)
    (hi : PySem.W.findIn K (.ref C) "__init__" = some (some (.builtin "object.__init__")))
    (hb : ∀ self, PySem.W.Looks (model prog w) s.heap (bindSpecial (.builtin "object.__init__") self) (.builtin "object.__init__", [self]))
    (h : codeAny (model prog w) (A.under (.builtin "type.__call__" ⟨[.ref C], []⟩)) (.call (.builtin "object.__init__") ⟨[.ref (s.heap.objs.size + 1)], []⟩) (PySem.W.InitBack (s.heap.objs.size + 1) R)
      { s with heap := (s.heap.push PySem.W.emptyDict).push (PySem.W.instObj C s.heap.objs.size) }) :
    codeAny (model prog w) A (.call (.ref C) ⟨[], []⟩) R s := by
  obtain ⟨hh, g, d, t, os⟩ := s
  exact PySem.W.make_core (PySem.W.makes_of X hm) (PySem.W.looks_findIn X hi) hb (.inr ⟨rfl, rfl⟩) h
end

/-! ### the attributes as a list of pairs -/
def putF (f : Str) (v : V) : List (Str × V) → List (Str × V)
  | [] => [(f, v)]
  | (g, x) :: r => if g = f then (g, v) :: r else (g, x) :: putF f v r
theorem lookup_putF (f g : Str) (v : V) : ∀ fs : List (Str × V), (putF f v fs).lookup g = if g = f then some v else fs.lookup g
  | [] => by
    show List.lookup g [(f, v)] = _
    by_cases h : g = f
    · have hb : (g == f) = true := beq_iff_eq.mpr h
      simp only [List.lookup, hb, if_pos h]
    · have hb : (g == f) = false := beq_eq_false_iff_ne.mpr h
      simp only [List.lookup, hb, if_neg h]
  | (k, x) :: r => by
    have ih := lookup_putF f g v r
    rw [show putF f v ((k, x) :: r) = (if k = f then (k, v) :: r else (k, x) :: putF f v r) from rfl]
    by_cases hk : k = f
    · rw [if_pos hk]
      by_cases h : g = k
      · have hb : (g == k) = true := beq_iff_eq.mpr h
        simp only [List.lookup, hb, if_pos (h.trans hk)]
      · have hb : (g == k) = false := beq_eq_false_iff_ne.mpr h
        simp only [List.lookup, hb, if_neg (fun e : g = f => h (e.trans hk.symm))]
    · rw [if_neg hk]
      by_cases h : g = k
      · have hb : (g == k) = true := beq_iff_eq.mpr h
        simp only [List.lookup, hb, if_neg (fun e : g = f => hk (h.symm.trans e))]
      · have hb : (g == k) = false := beq_eq_false_iff_ne.mpr h
        simp only [List.lookup, hb]
        exact ih
theorem keys_putF (f : Str) (v : V) : ∀ fs : List (Str × V), f ∈ (putF f v fs).map (·.1) ∧ ∀ g, g ∈ fs.map (·.1) → g ∈ (putF f v fs).map (·.1)
  | [] => ⟨by simp [putF], fun g h => by simp at h⟩
  | (k, x) :: r => by
    obtain ⟨i1, i2⟩ := keys_putF f v r
    rw [show putF f v ((k, x) :: r) = (if k = f then (k, v) :: r else (k, x) :: putF f v r) from rfl]
    by_cases hk : k = f
    · rw [if_pos hk]
      subst hk
      exact ⟨by simp, fun g h => by simpa using h⟩
    · rw [if_neg hk]
      refine ⟨?_, fun g h => ?_⟩
      · rw [List.map_cons]
        exact List.mem_cons_of_mem _ i1
      · rw [List.map_cons] at h ⊢
        rcases List.mem_cons.mp h with e | e
        · exact List.mem_cons.mpr (.inl e)
        · exact List.mem_cons_of_mem _ (i2 g e)
theorem length_putF (f : Str) (v : V) : ∀ fs : List (Str × V), (putF f v fs).length ≤ fs.length + 1
  | [] => by simp [putF]
  | (k, x) :: r => by
    have ih := length_putF f v r
    rw [show putF f v ((k, x) :: r) = (if k = f then (k, v) :: r else (k, x) :: putF f v r) from rfl]
    by_cases hk : k = f
    · rw [if_pos hk, List.length_cons, List.length_cons]; omega
    · rw [if_neg hk, List.length_cons, List.length_cons]; omega

theorem RelO.some_of {v : V} {o : Option Value} (r : RelO (some v) o) : ∃ u, o = some u ∧ RelV v u := by
  cases o with
  | none => exact (show False from r).elim
  | some u => exact ⟨u, rfl, r⟩
theorem RelO.none_of {o : Option Value} (r : RelO none o) : o = none := by
  cases o with
  | none => rfl
  | some u => exact (show False from r).elim
theorem handed_of {v : V} {u : Value} (r : RelV v u) : PySem.W.handedIn u = true := by
  cases v with
  | non => cases (show u = Value.none from r); rfl
  | bl b => cases (show u = Value.bool b from r); rfl
  | int i => obtain ⟨t, e⟩ := (show ∃ t, u = Value.int i t from r); cases e; rfl
  | str x => obtain ⟨t, e⟩ := (show ∃ t, u = Value.str x t from r); cases e; rfl
  | byt b => obtain ⟨t, e⟩ := (show ∃ t, u = Value.bytes b t from r); cases e; rfl
  | flt b => obtain ⟨t, e⟩ := (show ∃ t, u = Value.float b t from r); cases e; rfl
  | ref a => cases (show u = Value.ref a from r); rfl
  | ty n => cases (show u = Value.type n from r); rfl

section
variable {P : Program} {w : World} {H H' : Hp} {h h' : Heap} {a C dx : Addr} {fs fs' : List (Str × V)}
theorem ins_get (hok : HOk P w H h) (e : H a = some (.ins C dx fs)) : ∃ mA, ObjM h a dx C mA ∧ (∀ f, RelO (fs.lookup f) (mA f)) ∧ PySem.Within mA (fs.map (·.1)) ∧ fs.length ≤ 1000 ∧ H dx = some (.own a) := by
  obtain ⟨d, z, ne, ob, mA, n, r, q⟩ := (show ObjOk P w H h a (.ins C dx fs) from hok a _ e)
  exact ⟨mA, ⟨ob, n, ne⟩, r, q, z, d⟩
end

/-! ### what of the text a class must have -/
structure Cls (K : PySem.W.Frag) (C : Addr) : Prop where
  pg : PySem.W.plainGet K C Str.empty = true
  hd : PySem.W.hasDictIn K C = true
  po : PySem.W.plainOver K C = true
  sa : PySem.W.findIn K (.ref C) "__setattr__" = some (some (.builtin "object.__setattr__"))
theorem Cls.get {K : PySem.W.Frag} {C : Addr} (c : Cls K C) (f : Str) : PySem.W.plainGet K C f = true := c.pg
/-- no class of it has the name -/
def NoAttr (K : PySem.W.Frag) (C : Addr) (f : Str) : Prop := PySem.W.findIn K (.ref C) f = some none
theorem NoAttr.taker {K : PySem.W.Frag} {C : Addr} {f : Str} (n : NoAttr K C f) : PySem.W.takerIn K C f = some none := by
  unfold PySem.W.takerIn
  rw [show PySem.W.findIn K (.ref C) f = some none from n]
  rfl
/-- a method: a plain def of the class or of one above it -/
structure Meth (K : PySem.W.Frag) (C : Addr) (m : Str) (f : Addr) : Prop where
  at_ : PySem.W.findIn K (.ref C) m = some (some (.ref f))
  fn : PySem.W.isFn K (.ref f) = true
  kp : PySem.W.keepIn K (.ref f) = true

section
variable {X : Cx} {pins : List (Addr × Obj)} {σ : St} {H : Hp} {s : Shared} {a C dx : Addr} {fs : List (Str × V)} {f : Str} {v : V} {A : Around} {E : Value → Shared → Prop}

theorem getattr_ok {b : Bool} {Q : Value → Shared → Prop} (I : Inv X pins σ H s) (e : H a = some (.ins C dx fs)) (c : Cls X.K C) (n : NoAttr X.K C f) (l : fs.lookup f = some v)
    (h : ∀ u s', Inv X pins σ H s' → RelV v u → Q u s') : wpAny (model X.prog X.w) A (getAttr (.ref a) f b) Q E s := by
  obtain ⟨mA, O, r, _, _, _⟩ := ins_get I.hok e
  obtain ⟨u, hu, ru⟩ := RelO.some_of (v := v) (o := mA f) (by rw [← l]; exact r f)
  exact get_map I.kIn O (c.get f) c.hd n hu (handed_of ru) (h u _ (I.tok _) ru)


theorem getmeth_ok {m : Str} {g : Addr} {pl : Sem Bool} {Q : Value × List Value → Shared → Prop} (I : Inv X pins σ H s) (e : H a = some (.ins C dx fs)) (c : Cls X.K C) (k : Meth X.K C m g) (l : fs.lookup m = none)
    (h : Q (.ref g, [.ref a]) s) : wpAny (model X.prog X.w) A (getMethod (.ref a) m pl) Q E s := by
  obtain ⟨mA, O, r, _, _, _⟩ := ins_get I.hok e
  have hn : mA m = none := RelO.none_of (by rw [← l]; exact r m)
  exact get_meth I.kIn O (c.get m) k.at_ k.fn hn h

theorem setattr_ok {y : V} {u : Value} {Q : Unit → Shared → Prop} (I : Inv X pins σ H s) (e : H a = some (.ins C dx fs)) (c : Cls X.K C) (n : NoAttr X.K C f) (hl : fs.length < 1000) (ry : RelV y u)
    (h : ∀ s', Inv X pins σ (upd H a (.ins C dx (putF f y fs))) s' → Q () s') : wpAny (model X.prog X.w) A (setAttr (.ref a) f u) Q E s := by
  obtain ⟨mA, O, r, wi, _, ho⟩ := ins_get I.hok e
  have hz : (fs.map (·.1)).length ≤ sizeLine := by rw [List.length_map, sizeLine_eq]; omega
  refine set_map I.kIn O c.sa c.po n.taker c.hd wi hz fun h' O' sb => h _ ?_
  have hd : ∃ o, h'.get? dx = some o := let ⟨o, _, _, e', _⟩ := O'.ns; ⟨o, e'⟩
  refine I.write (x := a) (e := dx) (by rw [e]; exact True.intro) (.inr ho) (fun b q hb z => (sb.2 b hb).trans z) hd ?_
  refine ⟨by rw [upd_ne O.ne]; exact ho, ?_, O.ne, O'.obj, _, O'.ns, fun g => ?_, fun g hg => ?_⟩
  · have := length_putF f y fs; omega
  · show RelO ((putF f y fs).lookup g) (if g = f then some u else mA g)
    rw [lookup_putF]
    by_cases q : g = f
    · rw [if_pos q, if_pos q]; exact ry
    · rw [if_neg q, if_neg q]; exact r g
  · by_cases q : g = f
    · rw [q]; exact (keys_putF f y fs).1
    · refine (keys_putF f y fs).2 g (wi g fun z => hg ?_)
      show (if g = f then some u else mA g) = none
      rw [if_neg q]; exact z

/-- a new instance, tracked, without attributes -/
theorem Inv.made (I : Inv X pins σ H s) : Inv X pins σ (upd (upd H s.heap.objs.size (.own (s.heap.objs.size + 1))) (s.heap.objs.size + 1) (.ins C s.heap.objs.size []))
    { s with heap := (s.heap.push PySem.W.emptyDict).push (PySem.W.instObj C s.heap.objs.size) } := by
  have e1 : (s.heap.push PySem.W.emptyDict).get? s.heap.objs.size = some PySem.W.emptyDict := Heap.get?_push_size s.heap rfl
  have e2 : ((s.heap.push PySem.W.emptyDict).push (PySem.W.instObj C s.heap.objs.size)).get? (s.heap.objs.size + 1) = some (PySem.W.instObj C s.heap.objs.size) := by
    have := Heap.get?_push_size (s.heap.push PySem.W.emptyDict) (o := PySem.W.instObj C s.heap.objs.size) rfl
    rwa [Heap.size_push] at this
  have e3 : (s.heap.push PySem.W.emptyDict).Ns s.heap.objs.size (fun _ => none) := ⟨PySem.W.emptyDict, #[], _, e1, rfl, (fun e he => absurd he (by simp)), fun _ => rfl⟩
  have I1 := I.laid (a := s.heap.objs.size) (o := .own (s.heap.objs.size + 1)) (h' := s.heap.push PySem.W.emptyDict) (t' := s.toks) (fun b u q => Heap.get?_push_of_some _ q) (Nat.le_refl _) ⟨_, e1⟩
  refine I1.laid (a := s.heap.objs.size + 1) (o := .ins C s.heap.objs.size []) (t' := s.toks) (fun b u q => Heap.get?_push_of_some _ q) (Nat.le_of_eq (Heap.size_push _ _)) ?_
  have ne : s.heap.objs.size ≠ s.heap.objs.size + 1 := Nat.ne_of_lt (Nat.lt_succ_self _)
  refine ⟨by rw [upd_ne ne, upd_same], Nat.zero_le _, ne, e2, fun _ => none, (Heap.Ns1.of_empty e3).at fun o q => Heap.get?_push_of_some _ q, fun _ => True.intro, fun y hy => absurd rfl hy⟩

/-- e.f where nothing but the object is asked: through attributeBase (super) and the last hold -/
theorem attr_of {prog : Program} {w : World} {env : Env} {e : Expr} {f : Str} {pos : Pos} {s : Shared} {Q : Value → Shared → Prop} (hb : attributeBase e f env (eval e env) = eval e env)
    (h : wpAny (model prog w) A (eval e env) (fun o s₁ => wpAny (model prog w) A (getAttr o f true) Q E s₁) E s) : wpAny (model prog w) A (eval (.Attribute e f pos) env) Q E s :=
  Attribute_any_ h (by rw [arm_eval_Attribute, hb])
end

/-! ### readings and rules -/
/-- e.f, an attribute of the instance -/
def tFld (K : PySem.W.Frag) (ta : TE) (f : Str) : TE := fun σ H Q => ta σ H fun x H1 => ∃ a C dx fs v, x = .ref a ∧ H1 a = some (.ins C dx fs) ∧ Cls K C ∧ NoAttr K C f ∧ fs.lookup f = some v ∧ Q v H1
/-- e.f = value -/
def sFld (K : PySem.W.Frag) (ta tv : TE) (f : Str) : TS := fun D σ H => tv σ H fun y H1 => ta σ H1 fun x H2 => ∃ a C dx fs, x = .ref a ∧ H2 a = some (.ins C dx fs) ∧ Cls K C ∧ NoAttr K C f ∧ fs.length < 1000 ∧
  D.nx σ (upd H2 a (.ins C dx (putF f y fs)))

section
variable {X : Cx} {o e value : Expr} {f : Str} {pos pos' tpos : Pos} {ta tv : TE}
theorem pe_fld (he : PE X e ta) (hb : attributeBase e f X.env (eval e X.env) = eval e X.env) : PE X (.Attribute e f pos) (tFld X.K ta f) := by
  intro pins s σ H Q I h
  refine attr_of hb (thn (he pins s σ H _ I h) fun u s1 ⟨x, H1, I1, rx, a, C, dx, fs, v, ex, ea, c, n, l, q⟩ => ?_)
  subst ex
  obtain rfl : u = Value.ref a := rx
  exact getattr_ok I1 ea c n l fun u' s2 I2 ru => ⟨v, H1, I2, ru, q⟩
theorem ps_fld (ha : PE X o ta) (hv : PE X value tv) (hs : swapsWith value (some (.Attribute o f pos')) pos.line X.env = pure false) : PS X (.Assign [.Attribute o f pos'] value pos) (sFld X.K ta tv f) := by
  intro pins s σ H D I h
  refine plainObj_wpAny_Assign_Attribute (thn (hv pins s σ H _ I h) fun u s1 ⟨y, H1, I1, ry, q⟩ => thn (ha pins s1 σ H1 _ I1 q) fun ov s2 ⟨x, H2, I2, rx, a, C, dx, fs, ex, ea, c, n, l, q2⟩ => ?_) hs
  subst ex
  obtain rfl : ov = Value.ref a := rx
  exact setattr_ok I2 ea c n l ry fun s3 I3 => ⟨σ, _, I3, q2⟩

end

/-! ### isinstance -/
section
variable {X : Cx} {pins : List (Addr × Obj)} {σ : St} {H : Hp} {s : Shared} {A : Around} {E : Value → Shared → Prop} {Q : Value → Shared → Prop} {c : Value} {b : Bool}
/-- the type of a value, as the fragment's deciders take it; for an instance its class -/
inductive TyOf (K : PySem.W.Frag) (H : Hp) : V → Value → Prop where
  | non : TyOf K H .non (.type "NoneType")
  | bl (x : Bool) : TyOf K H (.bl x) (.type "bool")
  | int (i : Int) : TyOf K H (.int i) (.type "int")
  | str (x : Str) : TyOf K H (.str x) (.type "str")
  | flt (x : UInt64) : TyOf K H (.flt x) (.type "float")
  | lst {a : Addr} {xs : List V} (e : H a = some (.lst xs)) : TyOf K H (.ref a) (.type "list")
  | frz {a : Addr} {o : Obj} {xs : List V} (e : H a = some (.frz o (.lst xs))) : TyOf K H (.ref a) (.type "list")
  | tup {a : Addr} {xs : List V} (e : H a = some (.tup xs)) : TyOf K H (.ref a) (.type "tuple")
  | dK {a : Addr} {kvs : List (Key × V)} (e : H a = some (.dK kvs)) : TyOf K H (.ref a) (.type "dict")
  | dT {a : Addr} {kvs : List (List Key × V)} (e : H a = some (.dT kvs)) : TyOf K H (.ref a) (.type "dict")
  | ins {a C dx : Addr} {fs : List (Str × V)} (e : H a = some (.ins C dx fs)) (cl : Cls K C) (ha : PySem.W.findIn K (.ref C) "__class__" = some (some (.builtin "object.__class__")))
      (hn : PySem.W.specialIn K (.builtin "object.__class__") "__get__" = some (some (.builtin "getset_descriptor.__get__"))) (htk : PySem.W.takesIn K (.builtin "object.__class__") = some true)
      (hm : PySem.W.mroIn K C (.type "object") = some true) : TyOf K H (.ref a) (.ref C)
/-- isinstance(x, c) for one class c, a built-in or an own one: kitOne's answer -/
theorem isinst_ok {x : V} {u t : Value} (I : Inv X pins σ H s) (rx : RelV x u) (ty : TyOf X.K H x t) (e : PySem.W.kitOne X.K t c = some b) (h : ∀ tk, Q (.bool b) { s with toks := tk }) :
    wpAny (model X.prog X.w) A (call (.builtin "isinstance") [u, c]) Q E s := by
  cases ty with
  | non => cases (show u = Value.none from rx); exact PySem.W.kia_one PySem.W.kitx_none I.kIn True.intro e (fun z => nomatch z) h
  | bl y => cases (show u = Value.bool y from rx); exact PySem.W.kia_one PySem.W.kitx_bool I.kIn True.intro e (fun z => nomatch z) h
  | int i => obtain ⟨t, q⟩ := (show ∃ t, u = Value.int i t from rx); cases q; exact PySem.W.kia_one PySem.W.kitx_int I.kIn True.intro e (fun z => nomatch z) h
  | str y => obtain ⟨t, q⟩ := (show ∃ t, u = Value.str y t from rx); cases q; exact PySem.W.kia_one PySem.W.kitx_str I.kIn True.intro e (fun z => nomatch z) h
  | flt y => obtain ⟨t, q⟩ := (show ∃ t, u = Value.float y t from rx); cases q; exact PySem.W.kia_one PySem.W.kitx_float I.kIn True.intro e (fun z => nomatch z) h
  | @lst a xs ea =>
    cases (show u = Value.ref a from rx)
    obtain ⟨_, _, n, _, h1⟩ := (show ObjOk X.prog X.w H s.heap a (.lst xs) from I.hok a _ ea)
    exact PySem.W.kia_one PySem.W.kitx_list I.kIn ⟨_, h1, rfl⟩ e (fun z => nomatch z) h
  | @frz a ob xs ea =>
    cases (show u = Value.ref a from rx)
    obtain ⟨_, _, _, n, _, h1⟩ := (show ObjOk X.prog X.w H s.heap a (.frz ob (.lst xs)) from I.hok a _ ea)
    exact PySem.W.kia_one PySem.W.kitx_list I.kIn ⟨_, h1, rfl⟩ e (fun z => nomatch z) h
  | @tup a xs ea =>
    cases (show u = Value.ref a from rx)
    obtain ⟨_, _, _, p⟩ := (show ObjOk X.prog X.w H s.heap a (.tup xs) from I.hok a _ ea)
    obtain ⟨o, h1, h2, _⟩ := p
    exact PySem.W.kia_one PySem.W.kitx_tuple I.kIn ⟨o, h1, h2⟩ e (fun z => nomatch z) h
  | @dK a kvs ea =>
    cases (show u = Value.ref a from rx)
    obtain ⟨_, _, vs, _, p⟩ := (show ObjOk X.prog X.w H s.heap a (.dK kvs) from I.hok a _ ea)
    obtain ⟨o, es, ep, h1, h2, _⟩ := p
    exact PySem.W.kia_one PySem.W.kitx_dict I.kIn ⟨o, h1, h2.1⟩ e (fun z => nomatch z) h
  | @dT a kvs ea =>
    cases (show u = Value.ref a from rx)
    obtain ⟨_, _, xs, _, o, es, ep, h1, h2, _⟩ := (show ObjOk X.prog X.w H s.heap a (.dT kvs) from I.hok a _ ea)
    exact PySem.W.kia_one PySem.W.kitx_dict I.kIn ⟨o, h1, h2.1⟩ e (fun z => nomatch z) h
  | @ins a C dx fs ea cl ha hn htk hm =>
    cases (show u = Value.ref a from rx)
    obtain ⟨mA, O, _⟩ := ins_get I.hok ea
    obtain ⟨od, J, _⟩ := O.look
    exact PySem.W.kia_one (PySem.W.kitx_own (cl.get _) cl.hd ha hn htk hm) I.kIn J e (fun z => nomatch z) h
end
end L2

namespace L2
open PySem PySem.Spec PyProof.Rows

/-! ### room -/
structure Room (k : Nat) (A : Around) : Prop where
  hd : A.handled = none
  dp : A.depth + 3 * k + 5 < recursionLimit
  un : A.units + 16 * k + 200 < cLine
theorem Room.mono {j k : Nat} {A : Around} (r : Room k A) (h : j ≤ k) : Room j A := ⟨r.hd, by have := r.dp; omega, by have := r.un; omega⟩
theorem Room.deeper {k : Nat} {A : Around} (r : Room (k + 1) A) (env : Env) : Room k (A.deeper env) :=
  ⟨r.hd, by have := r.dp; show A.depth + 1 + 3 * k + 5 < _; omega, by have := r.un; show A.units + 3 + 16 * k + 200 < _; omega⟩
theorem make_depth {A : Around} {C : Addr} {us : List Value} {kw : List (Str × Value)} : (A.under (.builtin "type.__call__" ⟨.ref C :: us, kw⟩)).depth = A.depth + 1 := by
  first | rfl | simp [Around.under, Code.weight, Code.isCreation, Code.isGuard, Code.isCaller, Code.frames, Code.isFrame, guardIds]
theorem make_units {A : Around} {C : Addr} {us : List Value} {kw : List (Str × Value)} : (A.under (.builtin "type.__call__" ⟨.ref C :: us, kw⟩)).units = A.units + 1 := by
  first | rfl | simp [Around.under, Code.cUnits, Code.frames, Code.isFrame]
theorem Room.make {k : Nat} {A : Around} (r : Room (k + 1) A) (C : Addr) (us : List Value) (kw : List (Str × Value)) : Room k (A.under (.builtin "type.__call__" ⟨.ref C :: us, kw⟩)) :=
  ⟨r.hd, by have := r.dp; rw [make_depth]; omega, by have := r.un; rw [make_units]; omega⟩
theorem Room.depth {k : Nat} {A : Around} (r : Room k A) : A.depth < recursionLimit := by have := r.dp; omega
theorem Room.units {k : Nat} {A : Around} (r : Room k A) : A.units + 64 < cLine := by have := r.un; omega

/-! ### argument lists and displays -/
def tNil : TA := fun _ H Q => Q [] H
def tCons (ta : TE) (tr : TA) : TA := fun σ H Q => ta σ H fun x H1 => tr σ H1 fun xs H2 => Q (x :: xs) H2
section
variable {X : Cx} {e : Expr} {es : List Expr} {te : TE} {t : TA} {pos : Pos}
theorem pa_nil : PA X [] tNil := fun _ _ _ _ H Q I h => Calls.spliced_nil ⟨[], H, I, .nil, h⟩
theorem pa_cons (ha : PE X e te) (hr : PA X es t) (hs : starEach (e :: es) X.env = (false, eval e X.env) :: starEach es X.env := by rfl) : PA X (e :: es) (tCons te t) := by
  intro pos pins s σ H Q I h
  rw [hs]
  show wpAny _ _ (spliced ((false, eval e X.env) :: backTo pos (starEach es X.env))) _ _ s
  refine Calls.spliced_cons (thn (ha pins s σ H _ I h) fun u s1 ⟨x, H1, I1, r1, q1⟩ => ?_)
  exact thn (hr pos pins s1 σ H1 _ I1 q1) fun us s2 ⟨xs, H2, I2, r2, q2⟩ => ⟨x :: xs, H2, I2, .cons r1 r2, q2⟩

/-- a tuple, a list of written items -/
def tTup (t : TA) : TE := fun σ H Q => t σ H fun xs H1 => xs.length ≤ sizeLine ∧ ∀ p, H1 p = none → Q (.ref p) (upd H1 p (.tup xs))
def tLst (t : TA) : TE := fun σ H Q => t σ H fun xs H1 => xs.length ≤ sizeLine ∧ ∀ p, H1 p = none → Q (.ref p) (upd H1 p (.lst xs))
theorem pe_tup {x1} (h : PA X es t) : PE X (.Tuple es x1 pos) (tTup t) := by
  intro pins s σ H Q I hq
  refine wpAny_Tuple_spliced (thn (h pos pins s σ H _ I hq) fun us s1 ⟨xs, H1, I1, r, z, q⟩ => ⟨by rw [← r.length]; exact z, ?_⟩)
  have hf : H1 s1.heap.objs.size = none := I1.hok.fresh (Nat.le_refl _)
  refine ⟨.ref s1.heap.objs.size, upd H1 s1.heap.objs.size (.tup xs), I1.laid (t' := s1.toks) (fun b u e => Heap.get?_push_of_some _ e) (Nat.le_refl _) ?_, rfl, q _ hf⟩
  exact ⟨z, us, r, ⟨_, Heap.get?_push_size _ rfl, rfl, _, rfl⟩⟩
theorem pe_lst (h : PA X es t) : PE X (.List es pos) (tLst t) := by
  intro pins s σ H Q I hq
  refine wpAny_List_spliced (thn (h pos pins s σ H _ I hq) fun us s1 ⟨xs, H1, I1, r, z, q⟩ => ⟨by rw [← r.length]; exact z, ?_⟩)
  have hf : H1 s1.heap.objs.size = none := I1.hok.fresh (Nat.le_refl _)
  refine ⟨.ref s1.heap.objs.size, upd H1 s1.heap.objs.size (.lst xs), I1.laid (t' := s1.toks) (fun b u e => Heap.get?_push_of_some _ e) (Nat.le_refl _) ?_, rfl, q _ hf⟩
  exact ⟨z, us, 0, r, Heap.get?_push_size _ rfl⟩
end

/-! ### what a def promises -/
/-- a def's promise: the bound arguments in the parameters' order, the heap, the wanted end, the wanted exception -/
abbrev Sp := List V → Hp → VK → XK → Prop
/-- how an exception lies behind a call (file 08 gives it): the callers' frames, abstract heap and state ahead of the call, the wish, the exception, the state -/
abbrev CXT := List Env → Hp → Shared → XK → Value → Shared → Prop

/-- the state at a call -/
structure Env0 (P : Program) (w : World) (K : PySem.W.Frag) (mg : Str → Option Value) (base : Heap) (A : Around) (outer : List Env) (s : Shared) (H : Hp) : Prop where
  frames : A.frames = some outer
  mod : Mod K mg base
  bs : ∀ b o, base.get? b = some o → s.heap.get? b = some o ∧ H b = none
  bsz : base.objs.size ≤ s.heap.objs.size
  funs : s.heap.FunFrames base outer
  frf : ∀ b ∈ frs outer, H b = none
  hok : HOk P w H s.heap
  bare : AllBare s.gens
/-- a call's end -/
def CE (outer : List Env) (P : Program) (w : World) (H : Hp) (s : Shared) (Q : VK) (u : Value) (s' : Shared) : Prop :=
  ∃ v H', s'.os = s.os ∧ AllBare s'.gens ∧ Un (frs outer) [] H H' s.heap s'.heap ∧ HOk P w H' s'.heap ∧ RelV v u ∧ Q v H'
def CR (CX : CXT) (outer : List Env) (P : Program) (w : World) (H : Hp) (s : Shared) (Q : VK) (E : XK) (r : Result) (s' : Shared) : Prop :=
  match r with
  | .ok (.ret u) => CE outer P w H s Q u s'
  | .ok _ => False
  | .error e => CX outer H s E e s'
structure FnOk (P : Program) (w : World) (K : PySem.W.Frag) (mg : Str → Option Value) (base : Heap) (CX : CXT) (k : Nat) (f : Addr) (fd : FuncData) (ps : List Str) (sp : Sp) : Prop where
  len : ∀ vs H Q E, sp vs H Q E → vs.length = ps.length
  run : ∀ (A : Around) (outer : List Env) (s : Shared) (H : Hp) (args : Args) (us : List Value) (vs : List V) (Q : VK) (E : XK), Room k A → Env0 P w K mg base A outer s H → BindsTo s fd args (ps.zip us) → Vals vs us → sp vs H Q E →
    codeAny (model P w) A (.call (.ref f) args) (CR CX outer P w H s Q E) s

theorem Env0.make {P : Program} {w : World} {K : PySem.W.Frag} {mg : Str → Option Value} {base : Heap} {A : Around} {outer : List Env} {s : Shared} {H : Hp} (e : Env0 P w K mg base A outer s H) (C : Addr) (us : List Value) (kw : List (Str × Value)) :
    Env0 P w K mg base (A.under (.builtin "type.__call__" ⟨.ref C :: us, kw⟩)) outer s H := ⟨by first | exact e.frames | (simpa [Around.under, Code.envs, Code.isFrame, pushEnvs] using e.frames), e.mod, e.bs, e.bsz, e.funs, e.frf, e.hok, e.bare⟩

section
variable {X : Cx} {pins : List (Addr × Obj)} {σ : St} {H : Hp} {s s' : Shared}
/-- from a body: what a callee wants -/
theorem Inv.env0 (I : Inv X pins σ H s) : Env0 X.prog X.w X.K X.mg X.base X.A X.stack s H :=
  ⟨I.ok.frames, I.ok.mod, I.bs, Nat.le_trans I.ok.bsz I.sz, I.stack, I.stkFree, I.hok, I.bare⟩
/-- behind a call -/
theorem Inv.after {Q : VK} {u : Value} (I : Inv X pins σ H s) (h : CE X.stack X.prog X.w H s Q u s') : EP X pins σ Q u s' := by
  obtain ⟨v, H', os, bare, un, hok, r, q⟩ := h
  obtain ⟨hh, g, d, t, os'⟩ := s'
  obtain rfl : os' = s.os := os
  exact ⟨v, H', I.call (h' := hh) (g' := g) (d' := d) (t' := t) (ch := []) un hok bare (fun b z => absurd z (by simp)), r, q⟩
end

/-! ### calls -/
/-- f(..): the written arguments, then the defaults dvs; E: what is wanted of an exception -/
def tCall (sp : Sp) (dvs : List V) (E : XK) (t : TA) : TE := fun σ H Q => t σ H fun vs H1 => sp (vs ++ dvs) H1 Q E
/-- C(..): a new instance and its dict, then __init__ -/
def tMake (C : Addr) (sp : Sp) (dvs : List V) (E : XK) (t : TA) : TE := fun σ H Q => t σ H fun vs H1 => ∀ x dx, H1 x = none → H1 dx = none → dx ≠ x →
  sp (.ref x :: (vs ++ dvs)) (upd (upd H1 dx (.own x)) x (.ins C dx [])) (fun v H2 => v = .non ∧ Q (.ref x) H2) E

/-- how the parameters are bound: us the positional arguments, kw the keywords' values by name, ds the defaults that fill up -/
def Binds (K : PySem.W.Frag) (fd : FuncData) (ps : List Str) (ds : List Value) : Prop :=
  ∀ (s : Shared) (us : List Value), K.In s.heap → (us ++ ds).length = ps.length → BindsTo s fd ⟨us, []⟩ (ps.zip (us ++ ds))
/-- every parameter is given -/
theorem Binds.all {K : PySem.W.Frag} {fd : FuncData} {ps : List Str} (h : ∀ us : List Value, us.length = ps.length → bindArgs fd ⟨us, []⟩ = pure (ps.zip us)) : Binds K fd ps [] := fun s us _ hl => by
  rw [List.append_nil] at hl ⊢
  exact .of_eq (h us hl)

/-- an exception of a callee reaches what this body wants of exceptions -/
def Passes (CX : CXT) (X : Cx) (E : XK) : Prop := ∀ (pins : List (Addr × Obj)) (σ : St) (H : Hp) (s : Shared) (e : Value) (s' : Shared), Inv X pins σ H s → CX X.stack H s E e s' → X.xe e s'

section
variable {X : Cx} {CX : CXT} {k : Nat} {f C : Addr} {fd : FuncData} {ps : List Str} {sp : Sp} {dvs : List V} {ds : List Value} {E : XK} {x m : Str} {p pos apos : Pos} {e o : Expr} {es : List Expr} {ta : TE} {t : TA}

/-- the callee runs -/
theorem run_fn {pins : List (Addr × Obj)} {σ : St} {H : Hp} {s : Shared} {Q : VK} {us : List Value} {vs : List V} (F : FnOk X.prog X.w X.K X.mg X.base CX k f fd ps sp) (hr : Room k X.A) (hb : Binds X.K fd ps ds) (hd : Vals dvs ds) (hx : Passes CX X E)
    (I : Inv X pins σ H s) (r : Vals vs us) (h : sp (vs ++ dvs) H Q E) : wpAny (model X.prog X.w) X.A (call (.ref f) us) (EP X pins σ Q) X.xe s := by
  have r2 : Vals (vs ++ dvs) (us ++ ds) := r.append hd
  have hl : (us ++ ds).length = ps.length := by rw [← r2.length]; exact F.len _ _ _ _ h
  refine wpAny_call (codeAny_mono (F.run X.A X.stack s H ⟨us, []⟩ (us ++ ds) (vs ++ dvs) Q E hr I.env0 (hb s us I.kIn hl) r2 h) fun r s' hq => ?_)
  cases r with
  | error e => exact hx pins σ H s e s' I hq
  | ok fl =>
    cases fl with
    | ret u => exact I.after hq
    | next => exact False.elim hq
    | brk => exact False.elim hq
    | cont => exact False.elim hq

theorem pe_call (F : FnOk X.prog X.w X.K X.mg X.base CX k f fd ps sp) (hr : Room k X.A) (hg : Gl X x) (hm : X.mg x = some (.ref f)) (hk : PySem.W.keepIn X.K (.ref f) = true) (hb : Binds X.K fd ps ds) (hd : Vals dvs ds) (hx : Passes CX X E)
    (ha : PA X (e :: es) t) (hdb : (x == ("__debug__" : Str)) = false := by decide) (he : starEach (e :: es) X.env = (false, eval e X.env) :: starEach es X.env := by rfl) (hpl : (backTo pos (starEach es X.env)).any (·.1) = false := by rfl) :
    PE X (.Call (.Name x p) (e :: es) [] pos) (tCall sp dvs E t) := by
  intro pins s σ H Q I h
  refine wpAny_Call_Name_kw (ld_glob I hg hm ?_ hdb)
  refine PySem.W.callWith_K (h₀ := X.base) I.ok.mod.kin hk (thn (ha pos pins s σ H _ I h) fun us s1 ⟨vs, H1, I1, r, q⟩ => ⟨I1.kIn, ?_⟩) he hpl
  exact run_fn F hr hb hd hx I1 r q


/-- what a class must have to be made -/
structure Mk (K : PySem.W.Frag) (C f : Addr) : Prop where
  makes : PySem.W.makesIn K C = true
  init : PySem.W.findIn K (.ref C) "__init__" = some (some (.ref f))
  fn : PySem.W.isFn K (.ref f) = true
  kp : PySem.W.keepIn K (.ref C) = true

theorem run_make {pins : List (Addr × Obj)} {σ : St} {H : Hp} {s : Shared} {Q : VK} {us : List Value} {vs : List V} (M : Mk X.K C f) (F : FnOk X.prog X.w X.K X.mg X.base CX k f fd ps sp) (hr : Room (k + 1) X.A) (hb : Binds X.K fd ps ds) (hd : Vals dvs ds)
    (hx : Passes CX X E) (I : Inv X pins σ H s) (r : Vals vs us)
    (h : ∀ x dx, H x = none → H dx = none → dx ≠ x → sp (.ref x :: (vs ++ dvs)) (upd (upd H dx (.own x)) x (.ins C dx [])) (fun v H2 => v = .non ∧ Q (.ref x) H2) E) :
    wpAny (model X.prog X.w) X.A (call (.ref C) us) (EP X pins σ Q) X.xe s := by
  have hq := h (s.heap.objs.size + 1) s.heap.objs.size (I.hok.fresh (Nat.le_succ _)) (I.hok.fresh (Nat.le_refl _)) (Nat.ne_of_lt (Nat.lt_succ_self _))
  have I2 := Inv.made (C := C) I
  have r2 : Vals (V.ref (s.heap.objs.size + 1) :: (vs ++ dvs)) (Value.ref (s.heap.objs.size + 1) :: (us ++ ds)) := .cons rfl (r.append hd)
  have hl : (Value.ref (s.heap.objs.size + 1) :: us ++ ds).length = ps.length := by
    have e := r2.length
    rw [F.len _ _ _ _ hq] at e
    exact e.symm
  refine wpAny_call (make_map (f := f) I.kIn M.makes M.init (beq_iff_eq.mp M.fn) (codeAny_mono (F.run _ X.stack _ _ ⟨Value.ref (s.heap.objs.size + 1) :: us, []⟩ (Value.ref (s.heap.objs.size + 1) :: (us ++ ds)) _ _ E (hr.make C us [])
    (I2.env0.make C us []) (hb _ (Value.ref (s.heap.objs.size + 1) :: us) I2.kIn hl) r2 hq) fun r s' hq' => ?_))
  cases r with
  | error e => exact hx pins σ _ _ e s' I2 hq'
  | ok fl =>
    cases fl with
    | ret u =>
      obtain ⟨v, H', I3, rv, ev, q3⟩ := I2.after hq'
      subst ev
      exact ⟨rv, ⟨V.ref (s.heap.objs.size + 1), H', I3, rfl, q3⟩⟩
    | next => exact False.elim hq'
    | brk => exact False.elim hq'
    | cont => exact False.elim hq'
theorem pe_make (M : Mk X.K C f) (F : FnOk X.prog X.w X.K X.mg X.base CX k f fd ps sp) (hr : Room (k + 1) X.A) (hg : Gl X x) (hm : X.mg x = some (.ref C)) (hb : Binds X.K fd ps ds) (hd : Vals dvs ds) (hx : Passes CX X E)
    (ha : PA X (e :: es) t) (hdb : (x == ("__debug__" : Str)) = false := by decide) (he : starEach (e :: es) X.env = (false, eval e X.env) :: starEach es X.env := by rfl) (hpl : (backTo pos (starEach es X.env)).any (·.1) = false := by rfl) :
    PE X (.Call (.Name x p) (e :: es) [] pos) (tMake C sp dvs E t) := by
  intro pins s σ H Q I h
  refine wpAny_Call_Name_kw (ld_glob I hg hm ?_ hdb)
  refine PySem.W.callWith_K (h₀ := X.base) I.ok.mod.kin M.kp (thn (ha pos pins s σ H _ I h) fun us s1 ⟨vs, H1, I1, r, q⟩ => ⟨I1.kIn, ?_⟩) he hpl
  exact run_make M F hr hb hd hx I1 r q
end

/-! ### keywords -/
section
variable {X : Cx} {CX : CXT} {k : Nat} {f C : Addr} {fd : FuncData} {ps ks : List Str} {sp : Sp} {E : XK} {x m : Str} {p pos apos kpos : Pos} {e o : Expr} {es : List Expr} {kws : List Keyword} {te ta : TE} {t tk : TA} {nm : Option Str}

variable {g : List Value → List Value → List Value} {gV : List V → List V → List V}
end

/-! ### a def's body keeps its promise -/
/-- names: the parameters first -/
structure FnScope (N P : List Str) (sc : Scope) : Prop where
  kind : sc.kind = .function
  co : sc.isCoroutine = false
  gen : sc.isGenerator = false
  nd : N.Nodup
  pre : N.take P.length = P
  par : ∀ x ∈ P, sc.names.lookup x = some .local ∨ sc.names.lookup x = some .cell
  nofree : ∀ y ∈ sc.names, y.2 ≠ .free

theorem bindL_out {kindOf : Str → Option NameKind} {x : Str} : ∀ {binds : List (Str × Value)} {m : Str → Option Value}, (∀ v, (x, v) ∉ binds) → bindL kindOf binds m x = m x
  | [], _, _ => rfl
  | (n, v) :: r, m, h => by
    unfold bindL
    rw [bindL_out fun w hw => h w (List.mem_cons_of_mem _ hw)]
    split
    · have : x ≠ n := by rintro rfl; exact h v List.mem_cons_self
      simp [this]
    · rfl
theorem bindC_out {kindOf : Str → Option NameKind} {x : Str} : ∀ {binds : List (Str × Value)} {m : Str → Option Value}, (∀ v, (x, v) ∉ binds) → bindC kindOf binds m x = m x
  | [], _, _ => rfl
  | (n, v) :: r, m, h => by
    unfold bindC
    rw [bindC_out fun w hw => h w (List.mem_cons_of_mem _ hw)]
    split
    · rfl
    · have : x ≠ n := by rintro rfl; exact h v List.mem_cons_self
      simp [this]
theorem bindL_get {kindOf : Str → Option NameKind} {x : Str} {v : Value} : ∀ {P : List Str} {vs : List Value} {i : Nat} {m : Str → Option Value}, P.Nodup → P[i]? = some x → vs[i]? = some v → kindOf x = some .local →
    bindL kindOf (P.zip vs) m x = some v
  | [], _, _, _, _, h, _, _ => by simp at h
  | _ :: _, [], _, _, _, _, h, _ => by simp at h
  | p :: P, w :: vs, 0, m, nd, h1, h2, hk => by
    simp at h1 h2; subst h1; subst h2
    show bindL kindOf ((p, w) :: P.zip vs) m p = _
    unfold bindL
    rw [bindL_out fun v hv => (List.nodup_cons.mp nd).1 (List.of_mem_zip hv).1, if_pos hk]
    simp
  | p :: P, w :: vs, i + 1, m, nd, h1, h2, hk => by
    show bindL kindOf ((p, w) :: P.zip vs) m x = _
    unfold bindL
    exact bindL_get (i := i) (List.nodup_cons.mp nd).2 (by simpa using h1) (by simpa using h2) hk
theorem bindC_get {kindOf : Str → Option NameKind} {x : Str} {v : Value} : ∀ {P : List Str} {vs : List Value} {i : Nat} {m : Str → Option Value}, P.Nodup → P[i]? = some x → vs[i]? = some v → kindOf x ≠ some .local →
    bindC kindOf (P.zip vs) m x = some v
  | [], _, _, _, _, h, _, _ => by simp at h
  | _ :: _, [], _, _, _, _, h, _ => by simp at h
  | p :: P, w :: vs, 0, m, nd, h1, h2, hk => by
    simp at h1 h2; subst h1; subst h2
    show bindC kindOf ((p, w) :: P.zip vs) m p = _
    unfold bindC
    rw [bindC_out fun v hv => (List.nodup_cons.mp nd).1 (List.of_mem_zip hv).1, if_neg hk]
    simp
  | p :: P, w :: vs, i + 1, m, nd, h1, h2, hk => by
    show bindC kindOf ((p, w) :: P.zip vs) m x = _
    unfold bindC
    exact bindC_get (i := i) (List.nodup_cons.mp nd).2 (by simpa using h1) (by simpa using h2) hk

/-- the names' values at the entry -/
def start (N : List Str) (vs : List V) : St := vs.map some ++ List.replicate (N.length - vs.length) none

/-- the context of a def's body, at its entry; an exception leaves the frame, then lies as CX says -/
def cxOf (CX : CXT) (P : Program) (w : World) (K : PySem.W.Frag) (mg : Str → Option Value) (base : Heap) (N : List Str) (qual : Str) (scope : Scope) (f : Addr) (cd : Value) (A : Around) (outer : List Env) (s : Shared) (H : Hp) (E : XK) : Cx where
  prog := P
  w := w
  K := K
  mg := mg
  base := base
  A := A.deeper (envOfC qual scope s.heap.objs.size f cd)
  N := N
  s₀ := s
  H₀ := H
  env := envOfC qual scope s.heap.objs.size f cd
  outer := outer
  stack := envOfC qual scope s.heap.objs.size f cd :: outer
  ex := []
  calm := true
  fn := fun _ => true
  pn := []
  xe := fun e s' => wpAny (model P w) (A.deeper (envOfC qual scope s.heap.objs.size f cd)) (leaving (envOfC qual scope s.heap.objs.size f cd) e) (fun _ s'' => CX outer H s E e s'') (fun e' s'' => CX outer H s E e' s'') s'

theorem cell_has {sc : Scope} {n : Nat} {x : Str} (h : sc.names.lookup x = some .cell) : ∃ c, (cellsFrom n sc.names []).lookup x = some c := by
  have q := PySem.W.cellsFrom_some sc.names n [] (.inl h)
  exact Option.isSome_iff_exists.mp q

theorem inv_start {CX : CXT} {P : Program} {w : World} {K : PySem.W.Frag} {mg : Str → Option Value} {base : Heap} {N ps : List Str} {qual : Str} {scope : Scope} {f : Addr} {cd : Value} {A : Around} {outer : List Env} {s s1 : Shared} {H : Hp} {E : XK} {us : List Value} {vs : List V}
    (S : FnScope N ps scope) (hd : A.handled = none) (e0 : Env0 P w K mg base A outer s H) (hl : vs.length = ps.length) (r : Vals vs us)
    (x : InCallC s s.heap.objs.size (bindL (envOfC qual scope s.heap.objs.size f cd).kindOf (ps.zip us) fun _ => none) (cellsFrom (s.heap.objs.size + 1) scope.names []) (bindC (envOfC qual scope s.heap.objs.size f cd).kindOf (ps.zip us) fun _ => none) s1) :
    Inv (cxOf CX P w K mg base N qual scope f cd A outer s H E) [] (start N vs) H s1 := by
  have hpl : ps.length ≤ N.length := by have := congrArg List.length S.pre; rw [List.length_take] at this; omega
  obtain ⟨h1, tk, rfl, hk⟩ := x.done
  have noA : ∀ b : Addr, b ∉ (cxOf CX P w K mg base N qual scope f cd A outer s H E).ex := fun b z => absurd (show b ∈ ([] : List Addr) from z) (by simp)
  refine ⟨⟨e0.mod, S.kind, rfl, rfl, Nat.le_refl _, fun y z c h1 h2 => ?_, fun y hy => ?_, fun y c _ h => ?_, fun _ => hd, Around.frames_deeper e0.frames, .inr ⟨rfl, rfl⟩, fun b z => absurd z (noA b), e0.bs, e0.bsz, fun b _ _ => noA b, fun b z => absurd z (noA b), e0.funs, e0.frf⟩,
    rfl, e0.bare, Un.kept hk, ⟨_, x.toInCall.ns, fun i y v h1 h2 h3 => ?_⟩, fun y c h => ⟨_, x.cell y c h⟩, e0.hok.fresh (Nat.le_refl _), fun y c h => ?_, fun p hp => absurd (show p ∈ ([] : List (Addr × Obj)) from hp) (by simp), e0.hok.kept hk, ?_⟩
  · exact name_of_addr x.apart (PySem.mem_of_lookup h1) (PySem.mem_of_lookup h2)
  · have hy : scope.names.lookup y = some .cell ∨ scope.names.lookup y = some .free := hy
    rcases hy with hy | hy
    · exact cell_has hy
    · exact absurd rfl (S.nofree _ (PySem.mem_of_lookup hy))
  · exact Nat.le_of_lt (x.above y c (PySem.mem_of_lookup h))
  · have hi : i < vs.length := by
      unfold start at h2
      by_cases hi : i < vs.length
      · exact hi
      · rw [List.getElem?_append_right (by simpa using hi)] at h2
        rw [List.getElem?_replicate] at h2
        split at h2 <;> cases h2
    have ha : vs[i]? = some v := by
      unfold start at h2
      rw [List.getElem?_append_left (by simpa using hi), List.getElem?_map] at h2
      cases e : vs[i]? with
      | none => rw [e] at h2; cases h2
      | some a => rw [e] at h2; cases h2; rfl
    obtain ⟨u, hu, rv⟩ := r.get ha
    have hp : ps[i]? = some y := by
      rw [← S.pre, List.getElem?_take_of_lt (by omega)]; exact h1
    have ndP : ps.Nodup := by rw [← S.pre]; exact S.nd.sublist (List.take_sublist _ _)
    refine ⟨u, rv, ?_⟩
    rcases S.par y (List.mem_of_getElem? hp) with k | k
    · exact .inl ⟨k, bindL_get ndP hp hu k⟩
    · obtain ⟨c, e⟩ := cell_has (n := s.heap.objs.size + 1) k
      refine .inr ⟨.inl k, c, e, ?_⟩
      have q := x.cell y c e
      rw [bindC_get ndP hp hu (by show scope.names.lookup y ≠ _; rw [k]; decide)] at q
      exact q
  · exact e0.hok.fresh (Nat.le_of_lt (x.above y c (PySem.mem_of_lookup h)))
  · unfold start
    show _ = N.length
    rw [List.length_append, List.length_map, List.length_replicate]
    omega

/-- THE RULE: a def (or a method) of the text, by its body. The body's reading t is chosen for each entry; it is run at the parameters' values -/
theorem fn_of {CX : CXT} {P : Program} {w : World} {K : PySem.W.Frag} {mg : Str → Option Value} {base : Heap} {k : Nat} {f : Addr} {name qual : Str} {params : Arguments} {body : List Stmt} {scope : Scope} {dV kV doc pm cdv ct oc : Value} {an od : Option Addr}
    {osl : Array (Option Value)} {N ps : List Str} {sp : Sp} (lk : K.lookup f = some ⟨oc, od, .func (PySem.W.fnOf name qual params body scope dV kV doc pm an cdv ct), osl⟩) (hcd : PySem.W.codeIn K cdv qual = true) (S : FnScope N ps scope)
    (len : ∀ vs H Q E, sp vs H Q E → vs.length = ps.length)
    (hbody : ∀ (A : Around) (outer : List Env) (s : Shared) (H : Hp) (vs : List V) (Q : VK) (E : XK), Room k (A.deeper (envOfC qual scope s.heap.objs.size f cdv)) → sp vs H Q E →
      ∃ t, PSs (cxOf CX P w K mg base N qual scope f cdv A outer s H E) body t ∧ t { nx := fun _ H' => Q .non H', rt := Q } (start N vs) H) :
    FnOk P w K mg base CX (k + 1) f (PySem.W.fnOf name qual params body scope dV kV doc pm an cdv ct) ps sp := by
  refine ⟨len, fun A outer s H args us vs Q E hr e0 hb r hsp => ?_⟩
  have hl := len _ _ _ _ hsp
  have KX : K.In s.heap := e0.mod.kin.keeps fun b o e => (e0.bs b o e).1
  have lim : s.heap.NoLimit := e0.mod.nolimit.keeps fun b o e => (e0.bs b o e).1
  have hkind : ∀ y ∈ ps.zip us, scope.names.lookup y.1 = some .local ∨ (scope.names.lookup y.1 = some .cell ∧ ((cellsFrom (s.heap.objs.size + 1) scope.names []).lookup y.1).isSome = true) := fun ⟨n, v⟩ hy => by
    rcases S.par n (List.of_mem_zip hy).1 with q | q
    · exact .inl q
    · exact .inr ⟨q, PySem.W.cellsFrom_some _ _ _ (.inl q)⟩
  refine codeAny_call_function hr.depth (KX _ _ lk) rfl S.co S.gen rfl (PySem.W.codeRec_of KX hcd) (hb _ _ _ _ ?_)
  refine wpAny_newFunctionEnv_cells S.kind hkind fun env he s1 x => ?_
  subst he
  refine ⟨lim.keeps x.toInCall.keep, codeAny_func ?_⟩
  obtain ⟨t, ht, hq⟩ := hbody A outer s H vs Q E (hr.deeper _) hsp
  have I : Inv (cxOf CX P w K mg base N qual scope f cdv A outer s H E) [] (start N vs) H s1 := inv_start S hr.hd e0 hl r x
  refine wpAny_mono (ht [] s1 (start N vs) H _ I hq) (fun fl s' hs => ?_) fun e s' hs => hs
  have fin : ∀ {σ' : St} {H' : Hp} {v : V} {u : Value}, Inv (cxOf CX P w K mg base N qual scope f cdv A outer s H E) [] σ' H' s' → RelV v u → Q v H' → CE outer P w H s Q u s' :=
    fun {σ' H' v u} J rv q => ⟨v, H', J.os, J.bare, J.base, J.hok, rv, q⟩
  cases fl with
  | ret u =>
    obtain ⟨v, σ', H', J, rv, q⟩ := hs
    exact fin J rv q
  | next =>
    obtain ⟨σ', H', J, q⟩ := hs
    exact fin (v := V.non) (u := Value.none) J rfl q
  | brk =>
    obtain ⟨_, _, _, q⟩ := hs
    exact False.elim q
  | cont =>
    obtain ⟨_, _, _, q⟩ := hs
    exact False.elim q
end L2

namespace L2
open PySem PySem.Spec PyProof.Rows
section
variable {X : Cx} {x : Str} {p pos : Pos} {e : Expr} {es : List Expr} {t : TA} {id T : String} {r : List V → Hp → VK → Prop}

def tCB (r : List V → Hp → VK → Prop) (t : TA) : TE := fun σ H Q => t σ H fun vs H1 => r vs H1 Q
/-- f(e, ..), f a built-in function -/
theorem pe_callB (hc : CallR X (.builtin id) r) (hg : Gl X x) (hm : X.mg x = none) (hv : bootBuiltins x = some (.builtin id)) (ha : PA X (e :: es) t) (hn : x ≠ "__name__" := by decide) (hdb : (x == ("__debug__" : Str)) = false := by decide)
    (he : starEach (e :: es) X.env = (false, eval e X.env) :: starEach es X.env := by rfl) (hpl : (backTo pos (starEach es X.env)).any (·.1) = false := by rfl) : PE X (.Call (.Name x p) (e :: es) [] pos) (tCB r t) := by
  intro pins s σ H Q I h
  refine wpAny_Call_Name_kw (ld_blt I hg hm hv ?_ hn hdb)
  exact PyProof.Rows.callWith_builtin1 (thn (ha pos pins s σ H _ I h) fun us s1 ⟨vs, H1, I1, r1, q1⟩ => hc pins s1 σ H1 vs us Q I1 r1 q1) he hpl
/-- T(e, ..), T a built-in type -/
theorem pe_callTy (hc : CallR X (.type T) r) (hg : Gl X x) (hm : X.mg x = none) (hv : bootBuiltins x = some (.type T)) (ha : PA X (e :: es) t) (hn : x ≠ "__name__" := by decide) (hdb : (x == ("__debug__" : Str)) = false := by decide)
    (he : starEach (e :: es) X.env = (false, eval e X.env) :: starEach es X.env := by rfl) (hpl : (backTo pos (starEach es X.env)).any (·.1) = false := by rfl) : PE X (.Call (.Name x p) (e :: es) [] pos) (tCB r t) := by
  intro pins s σ H Q I h
  refine wpAny_Call_Name_kw (ld_blt I hg hm hv ?_ hn hdb)
  exact PyProof.Rows.callWith_type1 (thn (ha pos pins s σ H _ I h) fun us s1 ⟨vs, H1, I1, r1, q1⟩ => hc pins s1 σ H1 vs us Q I1 r1 q1) he hpl
end
end L2

namespace HT
open PySem PyProof.Rows



section
open PySem.SeqAt
open PySem.AutoSeq1 (wpAny_loadPart')
open PySem.MeetsSeq PySem.MeetsSeq2 PySem.MeetsSeq3

end

section
variable {prog : Program} {w : World} {A : Around} {E : Value → Shared → Prop} {s : Shared}



/-! ### t[a:b], not the whole -/
/-- a slice's bound as a place among n (d where it is left out) -/
def sIx (n d : Nat) : Option Int → Nat
  | none => d
  | some v => if v < 0 then (v + (n : Int)).toNat else min v.toNat n

end
end HT

namespace L2
open PySem PySem.Spec PyProof.Rows

/-! ### the parts of a slice -/
abbrev TO := St → Hp → (Option Int → Hp → Prop) → Prop
/-- a slice's part (left out, or an int) -/
def PO (X : Cx) (e : Option Expr) (t : TO) : Prop :=
  ∀ (pins : List (Addr × Obj)) (s : Shared) (σ : St) (H : Hp) (Q : Option Int → Hp → Prop), Inv X pins σ H s → t σ H Q →
    wpAny (model X.prog X.w) X.A (evalPart e X.env) (fun u s' => ∃ o H', Inv X pins σ H' s' ∧ IsPart u o ∧ Q o H') X.xe s
def tNoPart : TO := fun _ H Q => Q none H
def tPart (t : TE) : TO := fun σ H Q => t σ H fun x H1 => ∃ i, x = .int i ∧ Q (some i) H1


section
variable {X : Cx} {e : Expr} {te : TE} {lo hi : Option Expr} {tl th : TO} {pos p2 : Pos}

theorem po_none : PO X none tNoPart := by
  intro pins s σ H Q I h
  rw [evalPart_none]
  exact wpAny_pure ⟨none, H, I, .none, h⟩
theorem po_some (h : PE X e te) : PO X (some e) (tPart te) := by
  intro pins s σ H Q I hw
  rw [evalPart_some]
  refine thn (h pins s σ H _ I hw) fun u s1 ⟨x, H1, I1, r1, q1⟩ => ?_
  obtain ⟨i, rfl, q⟩ := q1
  obtain ⟨t, rfl⟩ := r1
  exact ⟨some i, H1, I1, .int i t, q⟩

/-- what a slice of a value is, by values: the slice object stands at sl -/
def SlR (X : Cx) (r : V → Option Int → Option Int → Hp → VK → Prop) : Prop :=
  ∀ (pins : List (Addr × Obj)) (s : Shared) (σ : St) (H : Hp) (x : V) (v vl vu : Value) (lo hi : Option Int) (sl : Addr) (Q : VK), Inv X pins σ H s → RelV x v → s.heap.IsSliceOf sl vl vu .none → IsPart vl lo → IsPart vu hi → r x lo hi H Q →
    ∃ T id, typeLookup (.type T) "__getitem__" = pure (some (.builtin id)) ∧ s.TypeIs v T ∧ wpAny (model X.prog X.w) X.A (getItem v (.ref sl)) (EP X pins σ Q) X.xe s
def tSl (r : V → Option Int → Option Int → Hp → VK → Prop) (te : TE) (tl th : TO) : TE := fun σ H Q => te σ H fun x H1 => tl σ H1 fun l H2 => th σ H2 fun u H3 => r x l u H3 Q
/-- a[lo:hi], any a -/
theorem pe_slice {r : V → Option Int → Option Int → Hp → VK → Prop} (hr : SlR X r) (he : PE X e te) (hl : PO X lo tl) (hu : PO X hi th) : PE X (.Subscript e (.Slice lo hi none p2) pos) (tSl r te tl th) := by
  intro pins s σ H Q I h
  refine Subscript_ (thn (he pins s σ H _ I h) fun v s1 ⟨x, H1, I1, r1, q1⟩ => ?_)
  refine wpAny_Slice (thn (hl pins s1 σ H1 _ I1 q1) fun vl s2 ⟨l, H2, I2, pl, q2⟩ => thn (hu pins s2 σ H2 _ I2 q2) fun vu s3 ⟨u, H3, I3, pu, q3⟩ => ?_)
  rw [evalPart_none]
  refine wpAny_pure ?_
  have I4 : Inv X pins σ H3 { s3 with heap := s3.heap.push { cls := .type "slice", data := .fields #[vl, vu, .none] } } := I3.kept (t' := s3.toks) fun b ob q => Heap.get?_push_of_some _ q
  obtain ⟨T, id, hT, ht, hg⟩ := hr pins { s3 with heap := s3.heap.push { cls := .type "slice", data := .fields #[vl, vu, .none] } } σ H3 x v vl vu l u s3.heap.objs.size Q I4 r1 (Heap.IsSliceOf.new ..) pl pu q3
  show wpAny (model X.prog X.w) X.A (subscriptTail e (.Slice lo hi none p2) v (.ref s3.heap.objs.size)) (EP X pins σ Q) X.xe { s3 with heap := s3.heap.push { cls := .type "slice", data := .fields #[vl, vu, .none] } }
  exact tail_any (ops := [.ref s3.heap.objs.size, v]) ht hT hg (by with_unfolding_all rfl)

/-- the items of xs[lo:hi] -/
def cutV (xs : List V) (lo hi : Option Int) : List V := (xs.drop (HT.sIx xs.length 0 lo)).take (HT.sIx xs.length xs.length hi - HT.sIx xs.length 0 lo)
theorem cutV_length (xs : List V) (lo hi : Option Int) : (cutV xs lo hi).length ≤ xs.length := by
  unfold cutV
  rw [List.length_take, List.length_drop]
  omega

/-! ### t < u, t + u -/
end
end L2

namespace L2
open PySem PySem.Spec PyProof.Rows

/-! ### places -/
/-- the place that an index of any sign means -/
def ixN (n : Nat) (i : Int) : Option Nat := if 0 ≤ i then (if i < n then some i.toNat else none) else if -(n : Int) ≤ i then some (i + n).toNat else none
def atI {α : Type} (xs : List α) (i : Int) : Option α := (ixN xs.length i).bind fun j => xs[j]?
theorem ixN_seq {n : Nat} {i : Int} {j : Nat} (h : ixN n i = some j) : seqIndex? i n = some j ∧ j < n ∧ -(n : Int) ≤ i ∧ i < n := by
  unfold ixN at h
  by_cases h0 : 0 ≤ i
  · rw [if_pos h0] at h
    by_cases h1 : i < n
    · rw [if_pos h1] at h
      have e : i.toNat = j := Option.some.inj h
      exact ⟨by rw [seqIndex_of h0 h1, e], by omega, by omega, h1⟩
    · rw [if_neg h1] at h; cases h
  · rw [if_neg h0] at h
    by_cases h1 : -(n : Int) ≤ i
    · rw [if_pos h1] at h
      have e : (i + n).toNat = j := Option.some.inj h
      exact ⟨by rw [seqIndex_neg (by omega) h1, e], by omega, h1, by omega⟩
    · rw [if_neg h1] at h; cases h
theorem atI_get {α : Type} {xs : List α} {i : Int} {v : α} (h : atI xs i = some v) : ∃ j, seqIndex? i xs.length = some j ∧ xs[j]? = some v ∧ j < xs.length ∧ -(xs.length : Int) ≤ i ∧ i < xs.length := by
  unfold atI at h
  cases e : ixN xs.length i with
  | none => rw [e] at h; cases h
  | some j =>
    rw [e] at h
    obtain ⟨h1, h2, h3, h4⟩ := ixN_seq e
    exact ⟨j, h1, h, h2, h3, h4⟩
theorem atI_nat {α : Type} {xs : List α} {j : Nat} {v : α} (h : xs[j]? = some v) : atI xs (j : Int) = some v := by
  have hj : j < xs.length := (List.getElem?_eq_some_iff.mp h).1
  have e : ixN xs.length (j : Int) = some j := by
    unfold ixN
    rw [if_pos (by omega), if_pos (by omega)]; simp
  unfold atI; rw [e]; exact h

/-! ### what may be subscripted -/
/-- what stands as an index of a plain subscript -/
def PlainIx (b : Expr) : Prop := ∀ o i, subscripted b false o i = operate [o, i] (getItem o i)
/-- a subscript by values -/
def IxR (X : Cx) (r : R2) : Prop :=
  ∀ (value slice : Expr) (pins : List (Addr × Obj)) (s : Shared) (σ : St) (H : Hp) (x y : V) (v u : Value) (Q : VK), Inv X pins σ H s → RelV x v → RelV y u → r x y H Q →
    subscripted slice false v u = operate [v, u] (getItem v u) → wpAny (model X.prog X.w) X.A (subscriptTail value slice v u) (EP X pins σ Q) X.xe s
/-- a call of a builtin's method by values: the receiver, the arguments -/
def MtR (X : Cx) (id : String) (r : V → List V → Hp → VK → Prop) : Prop :=
  ∀ (pins : List (Addr × Obj)) (s : Shared) (σ : St) (H : Hp) (x : V) (xs : List V) (v : Value) (us : List Value) (Q : VK), Inv X pins σ H s → RelV x v → Vals xs us → r x xs H Q →
    wpAny (model X.prog X.w) X.A (call (.builtin id) (v :: us)) (EP X pins σ Q) X.xe s
section
variable {X : Cx} {a b : Expr} {ta tb : TE} {pos : Pos}
/-- a[b] -/
theorem pe_ix {r : R2} (hr : IxR X r) (ha : PE X a ta) (hb : PE X b tb) (hs : PlainIx b) : PE X (.Subscript a b pos) (tOp r ta tb) := by
  intro pins s σ H Q I h
  exact Subscript_ (binT ha hb I h fun v u s2 x y H2 I2 rx ry q => hr a b pins s2 σ H2 x y v u Q I2 rx ry q (hs _ _))

def rIxL (K : PySem.W.Frag) : R2 := fun x y H Q => ∃ p xs i v, x = .ref p ∧ y = .int i ∧ SqL K H p xs ∧ atI xs i = some v ∧ Q v H
def rIxT (K : PySem.W.Frag) : R2 := fun x y H Q => ∃ p xs i v, x = .ref p ∧ y = .int i ∧ SqT K H p xs ∧ atI xs i = some v ∧ Q v H
theorem ix_list : IxR X (rIxL X.K) := by
  intro value slice pins s σ H x y v u Q I rx ry h hs
  obtain ⟨p, xs, i, z, rfl, rfl, hq, he, q⟩ := h
  cases rx
  obtain ⟨t, rfl⟩ := ry
  obtain ⟨its, r, pl, hz⟩ := I.list hq
  obtain ⟨j, h1, h2, h3, h4, h5⟩ := atI_get he
  obtain ⟨w, ew, rw'⟩ := r.get h2
  have hl := r.length
  have hn := line63
  have fin : EP X pins σ Q w s := ⟨z, H, I, rw', q⟩
  by_cases h0 : 0 ≤ i
  · have hj : i.toNat = j := by
      rw [seqIndex_of h0 h5] at h1
      exact Option.some.inj h1
    exact item_listR pl.isList h0 (by omega) (by rw [hj]; simpa using ew) fin hs
  · have hj : (i + (its.toArray.size : Int)).toNat = j := by
      rw [seqIndex_neg (by omega) h4] at h1
      rw [List.size_toArray, ← hl]
      exact Option.some.inj h1
    exact subscriptTail_builtinR (x := w) pl.isList.typeIs slot_list_getitem.lookup
      (wpAny_getItem_list_neg (Q := fun r s' => r = w ∧ EP X pins σ Q r s') pl.isList (by omega) (by rw [List.size_toArray] <;> omega) (by omega) (by rw [hj]; simpa using ew) ⟨rfl, fin⟩) hs
theorem ix_tup : IxR X (rIxT X.K) := by
  intro value slice pins s σ H x y v u Q I rx ry h hs
  obtain ⟨p, xs, i, z, rfl, rfl, hq, he, q⟩ := h
  cases rx
  obtain ⟨t, rfl⟩ := ry
  obtain ⟨its, r, pl, hz⟩ := I.tuple hq
  obtain ⟨j, h1, h2, h3, h4, h5⟩ := atI_get he
  obtain ⟨w, ew, rw'⟩ := r.get h2
  have hl := r.length
  have hn := line63
  have fin : EP X pins σ Q w s := ⟨z, H, I, rw', q⟩
  exact subscriptTail_builtinR (x := w) pl.typeIs slot_tuple_getitem.lookup
    (getItem_tuple (j := j) (Q := fun r s' => r = w ∧ EP X pins σ Q r s') pl (by omega) (by omega) (by rw [List.size_toArray, ← hl]; exact h1) (by simpa using ew) ⟨rfl, fin⟩) hs

/-! ### xs[i] = v, any sign -/
/-- the list's object behind a store -/
theorem mapSeq_set (its : List Value) (n j : Nat) (u : Value) : Obj.mapSeq (·.setIfInBounds j u) { cls := .type "list", data := .seq its.toArray n } = { cls := .type "list", data := .seq (its.set j u).toArray n } := by
  simp [Obj.mapSeq]
theorem Inv.lst {pins : List (Addr × Obj)} {σ : St} {H : Hp} {s : Shared} {p : Addr} {xs : List V} (I : Inv X pins σ H s) (h : H p = some (.lst xs)) :
    ∃ (its : List Value) (n : Nat), Vals xs its ∧ s.heap.get? p = some { cls := .type "list", data := .seq its.toArray n } ∧ xs.length ≤ sizeLine := by
  obtain ⟨z, its, n, r, e⟩ := I.hok p _ h
  exact ⟨its, n, r, e, z⟩
/-- the list at p is written by an update of its object -/
theorem Inv.lstUpd {pins : List (Addr × Obj)} {σ : St} {H : Hp} {s : Shared} {p : Addr} {xs ys : List V} {its its' : List Value} {n n' : Nat} {f : Obj → Obj} (I : Inv X pins σ H s) (h : H p = some (.lst xs))
    (ho : s.heap.get? p = some { cls := .type "list", data := .seq its.toArray n }) (hf : f { cls := .type "list", data := .seq its.toArray n } = { cls := .type "list", data := .seq its'.toArray n' }) (r : Vals ys its') (hz : ys.length ≤ sizeLine) (t : Nat) :
    Inv X pins σ (upd H p (.lst ys)) { s with heap := s.heap.update p f, toks := t } := by
  have e : (s.heap.update p f).get? p = some { cls := .type "list", data := .seq its'.toArray n' } := by
    rw [Heap.get?_update_self f ho (by rw [hf] <;> rfl), hf]
  refine I.write (x := p) (e := p) (by rw [h]; trivial) (.inl rfl) (fun b u hb q => (Heap.get?_update_other _ _ (Ne.symm hb)).trans q) ⟨_, e⟩ ?_
  exact ⟨hz, its', n', r, e⟩
def rSetL : V → V → V → Hp → (Hp → Prop) → Prop := fun o i v H Q => ∃ p xs k j, o = .ref p ∧ i = .int k ∧ H p = some (.lst xs) ∧ ixN xs.length k = some j ∧ Q (upd H p (.lst (xs.set j v)))
theorem set_list : PSet X rSetL := by
  intro pins s σ H o i v ov iv u Q I ro ri rv h
  obtain ⟨p, xs, k, j, rfl, rfl, hp, hj, q⟩ := h
  cases ro
  obtain ⟨t, rfl⟩ := ri
  obtain ⟨its, n, r, ho, hz⟩ := I.lst hp
  obtain ⟨h1, h2, h3, h4⟩ := ixN_seq hj
  have hl := r.length
  have hn := line63
  have I' : Inv X pins σ (upd H p (.lst (xs.set j v))) { s with heap := s.heap.update p (Obj.mapSeq (·.setIfInBounds j u)) } :=
    I.lstUpd hp ho (mapSeq_set its n j u) (r.set rv j) (by rw [List.length_set]; exact hz) s.toks
  by_cases h0 : 0 ≤ k
  · have hk : k.toNat = j := by
      rw [seqIndex_of h0 h4] at h1
      exact Option.some.inj h1
    exact PySem.W.ki_setAt ho h0 (by omega) (by rw [List.size_toArray, ← hl]; exact h4) (by rw [hk]; exact ⟨_, I', q⟩)
  · have hk : (k + (its.toArray.size : Int)).toNat = j := by
      rw [seqIndex_neg (by omega) h3] at h1
      rw [List.size_toArray, ← hl]
      exact Option.some.inj h1
    exact PySem.W.ki_setBack ho (by omega) (by rw [List.size_toArray, ← hl]; exact h3) (by omega) (by rw [hk]; exact ⟨_, I', q⟩)

/-! ### slices -/
theorem slice_bounds (lo hi : Option Int) (n : Nat) : (sliceBounds lo hi none n).1 = ((HT.sIx n 0 lo : Nat) : Int) ∧ (sliceBounds lo hi none n).2.1 = ((HT.sIx n n hi : Nat) : Int) ∧ (sliceBounds lo hi none n).2.2 = 1 := by
  refine ⟨?_, ?_, rfl⟩
  · cases lo with
    | none => simp [sliceBounds, HT.sIx]
    | some i =>
      simp only [sliceBounds, HT.sIx, Option.getD_none, show (1 : Int) > 0 by decide, if_true]
      by_cases h : i < 0
      · simp only [h, if_true] <;> omega
      · simp only [h, if_false] <;> omega
  · cases hi with
    | none => simp [sliceBounds, HT.sIx]
    | some i =>
      simp only [sliceBounds, HT.sIx, Option.getD_none, show (1 : Int) > 0 by decide, if_true]
      by_cases h : i < 0
      · simp only [h, if_true] <;> omega
      · simp only [h, if_false] <;> omega
theorem slicePick_cut (its : List Value) (lo hi : Option Int) : slicePick its.toArray lo hi none = ((its.drop (HT.sIx its.length 0 lo)).take (HT.sIx its.length its.length hi - HT.sIx its.length 0 lo)).toArray := by
  obtain ⟨h1, h2, h3⟩ := slice_bounds lo hi its.toArray.size
  unfold slicePick
  rw [h1, h2, h3]
  simp only [sliceRange_one, pick_run, List.size_toArray] <;> rfl
/-- xs[lo:hi] of a list: a new list -/
def rSlL (K : PySem.W.Frag) : V → Option Int → Option Int → Hp → VK → Prop := fun x lo hi H Q => ∃ a xs, x = .ref a ∧ SqL K H a xs ∧ ∀ p, H p = none → Q (.ref p) (upd H p (.lst (cutV xs lo hi)))
theorem sl_list : SlR X (rSlL X.K) := by
  intro pins s σ H x v vl vu lo hi sl Q I rx hs pl pu h
  obtain ⟨a, xs, rfl, hx, q⟩ := h
  cases rx
  obtain ⟨its, r, ht, hz⟩ := I.list hx
  have hlen := r.length
  refine ⟨"list", _, slot_list_getitem.lookup, ht.isList.typeIs, ?_⟩
  refine wpAny_getItem_list_slice ht.isList hs pl pu .none (by simp) ?_ (by rw [List.size_toArray] <;> omega)
  rw [slicePick_cut, ← hlen]
  refine ⟨.ref s.heap.objs.size, _, I.laid (t' := s.toks) (o := .lst (cutV xs lo hi)) (fun b ob q => Heap.get?_push_of_some _ q) (Nat.le_refl _) ?_, rfl, q _ (I.hok.fresh (Nat.le_refl _))⟩
  exact ⟨Nat.le_trans (cutV_length xs lo hi) hz, _, 0, (r.drop (HT.sIx xs.length 0 lo)).take (HT.sIx xs.length xs.length hi - HT.sIx xs.length 0 lo), Heap.get?_push_size _ rfl⟩

/-! ### in, not in: flat items -/
def flatV : V → Bool
  | .non => true
  | .bl _ => true
  | .int _ => true
  | .str _ => true
  | _ => false
/-- == of flat values -/
def eqV : V → V → Bool
  | .non, .non => true
  | .bl a, .bl b => a == b
  | .bl a, .int b => (if a then 1 else 0) == b
  | .int a, .bl b => a == (if b then 1 else 0)
  | .int a, .int b => a == b
  | .str a, .str b => a == b
  | _, _ => false
theorem eqAt_V {A : Around} {s : Shared} {y x : V} {u v : Value} (ry : RelV y u) (rx : RelV x v) (fy : flatV y = true) (fx : flatV x = true) : SeqAt.EqAt A s u v (eqV y x) := by
  cases y with
  | non =>
    cases ry
    cases x with
    | non => cases rx; exact SeqAt.EqAt.same _
    | bl b => cases rx; exact SeqAt.EqAt.none_bool b
    | int b => obtain ⟨t, rfl⟩ := rx; exact SeqAt.EqAt.none_int b t
    | str b => obtain ⟨t, rfl⟩ := rx; exact SeqAt.EqAt.none_str b t
    | _ => exact absurd (show false = true from fx) Bool.false_ne_true
  | bl a =>
    cases ry
    cases x with
    | non => cases rx; exact SeqAt.EqAt.bool_none a
    | bl b => cases rx; exact SeqAt.EqAt.bool_bool a b
    | int b => obtain ⟨t, rfl⟩ := rx; exact SeqAt.EqAt.bool_int a b t
    | str b => obtain ⟨t, rfl⟩ := rx; exact SeqAt.EqAt.bool_str a b t
    | _ => exact absurd (show false = true from fx) Bool.false_ne_true
  | int a =>
    obtain ⟨t', rfl⟩ := ry
    cases x with
    | non => cases rx; exact SeqAt.EqAt.int_none a t'
    | bl b => cases rx; exact SeqAt.EqAt.int_bool a t' b
    | int b => obtain ⟨t, rfl⟩ := rx; exact SeqAt.EqAt.int_int a t' b t
    | str b => obtain ⟨t, rfl⟩ := rx; exact SeqAt.EqAt.int_str a t' b t
    | _ => exact absurd (show false = true from fx) Bool.false_ne_true
  | str a =>
    obtain ⟨t', rfl⟩ := ry
    cases x with
    | non => cases rx; exact SeqAt.EqAt.str_none a t'
    | bl b => cases rx; exact SeqAt.EqAt.str_bool a t' b
    | int b => obtain ⟨t, rfl⟩ := rx; exact SeqAt.EqAt.str_int a t' b t
    | str b => obtain ⟨t, rfl⟩ := rx; exact SeqAt.EqAt.str_str a t' b t
    | _ => exact absurd (show false = true from fx) Bool.false_ne_true
  | _ => exact absurd (show false = true from fy) Bool.false_ne_true
/-- the items' answers, read off the values (a value's own answer does not lean on its token) -/
def eqU (x : V) (u : Value) : Bool := match u with
  | .none => eqV .non x
  | .bool b => eqV (.bl b) x
  | .int i _ => eqV (.int i) x
  | .str z _ => eqV (.str z) x
  | _ => false
theorem eqU_of {x y : V} {u : Value} (r : RelV y u) (f : flatV y = true) : eqU x u = eqV y x := by
  cases y with
  | non => cases r; rfl
  | bl b => cases r; rfl
  | int i => obtain ⟨t, rfl⟩ := r; rfl
  | str z => obtain ⟨t, rfl⟩ := r; rfl
  | _ => exact absurd (show false = true from f) Bool.false_ne_true
theorem any_eqU {x : V} : ∀ {xs : List V} {us : List Value}, Vals xs us → xs.all flatV = true → us.any (eqU x) = xs.any fun y => eqV y x
  | _, _, .nil, _ => rfl
  | y :: xs, u :: us, .cons r t, f => by
    rw [List.all_cons, Bool.and_eq_true] at f
    rw [List.any_cons, List.any_cons, eqU_of r f.1, any_eqU t f.2]
theorem mem_eqAt {A : Around} {s : Shared} {x : V} {v : Value} (rx : RelV x v) (fx : flatV x = true) : ∀ {xs : List V} {us : List Value}, Vals xs us → xs.all flatV = true → ∀ u ∈ us, SeqAt.EqAt A s u v (eqU x u)
  | _, _, .nil, _ => fun u hu => by cases hu
  | y :: xs, u :: us, .cons r t, f => fun u' hu => by
    rw [List.all_cons, Bool.and_eq_true] at f
    rcases List.mem_cons.mp hu with rfl | hu
    · rw [eqU_of r f.1]; exact eqAt_V r rx f.1 fx
    · exact mem_eqAt rx fx t f.2 u' hu
def inV (x : V) (xs : List V) : Bool := xs.any fun y => eqV y x
/-- x in a list or tuple of flat items -/
def rIn (K : PySem.W.Frag) (neg : Bool) : R2 := fun x y H Q => ∃ p xs, y = .ref p ∧ (SqL K H p xs ∨ SqT K H p xs) ∧ flatV x = true ∧ xs.all flatV = true ∧ Q (.bl (if neg then !inV x xs else inV x xs)) H
theorem op_in_seq : OpR X (compareOp .In) (rIn X.K false) := by
  intro pins s σ H x y v u Q I rx ry h
  obtain ⟨p, xs, rfl, hq, fx, fs, q⟩ := h
  cases ry
  rcases hq with hq | hq
  · obtain ⟨its, r, pl, hz⟩ := I.list hq
    refine SeqAt.in_listAt (eqU x) pl.isList (fun w hw => mem_eqAt rx fx r fs w (by simpa using hw)) ⟨.bl _, H, I, rfl, ?_⟩
    rw [show its.toArray.any (eqU x) = its.any (eqU x) by simp, any_eqU r fs]
    exact q
  · obtain ⟨its, r, pl, hz⟩ := I.tuple hq
    refine SeqAt.in_tupleAt (eqU x) pl (fun w hw => mem_eqAt rx fx r fs w (by simpa using hw)) ⟨.bl _, H, I, rfl, ?_⟩
    rw [show its.toArray.any (eqU x) = its.any (eqU x) by simp, any_eqU r fs]
    exact q

/-! ### len, list(x), tuple(x) of any list or tuple that is read -/

/-! ### the call of a builtin's method: o.m(..) -/
/-- the value is of that builtin type -/
def tyV (K : PySem.W.Frag) (T : String) (x : V) (H : Hp) : Prop := match x with
  | .str _ => T = "str"
  | .int _ => T = "int"
  | .ref p => (T = "list" ∧ ∃ xs, SqL K H p xs) ∨ (T = "tuple" ∧ ∃ o, K.lookup p = some o ∧ o.cls = .type "tuple" ∧ o.dict = none) ∨
      (T = "dict" ∧ ((∃ kvs, H p = some (.dK kvs)) ∨ ∃ kvs, H p = some (.dT kvs))) ∨ (T = "set" ∧ ∃ S n, H p = some (.set S n))
  | _ => False
theorem tyV_is {pins : List (Addr × Obj)} {σ : St} {H : Hp} {s : Shared} {T : String} {x : V} {v : Value} (I : Inv X pins σ H s) (r : RelV x v) (ty : tyV X.K T x H) :
    s.TypeIs v T ∧ ∀ a, v = .ref a → ∃ ob, s.heap.get? a = some ob ∧ ob.dict = none := by
  cases x with
  | str z =>
    obtain ⟨t, rfl⟩ := r
    cases (show T = "str" from ty)
    exact ⟨typeIs_str s z t, fun _ e => nomatch e⟩
  | int i =>
    obtain ⟨t, rfl⟩ := r
    cases (show T = "int" from ty)
    exact ⟨typeIs_int s i t, fun _ e => nomatch e⟩
  | ref p =>
    cases r
    rcases ty with ⟨rfl, xs, hq⟩ | ⟨rfl, o, hk, hc, hd⟩ | ⟨rfl, hk⟩ | ⟨rfl, S, n, hk⟩
    · obtain ⟨its, _, pl, _⟩ := I.list hq
      refine ⟨pl.isList.typeIs, fun a e => ?_⟩
      cases e
      obtain ⟨o, n, e, c, hd, _⟩ := pl
      exact ⟨o, e, hd⟩
    · refine ⟨⟨o, I.kIn p o hk, hc⟩, fun a e => ?_⟩
      cases e
      exact ⟨o, I.kIn _ o hk, hd⟩
    · have z : ∃ o, s.heap.get? p = some o ∧ o.ExactDict := by
        rcases hk with ⟨kvs, hk⟩ | ⟨kvs, hk⟩
        · obtain ⟨_, _, _, _, o, _, _, e, ex, _⟩ := I.hok p _ hk
          exact ⟨o, e, ex⟩
        · obtain ⟨_, _, _, _, o, _, _, e, ex, _⟩ := I.hok p _ hk
          exact ⟨o, e, ex⟩
      obtain ⟨o, e, ex⟩ := z
      refine ⟨⟨o, e, ex.1⟩, fun a e2 => ?_⟩
      cases e2
      exact ⟨o, e, ex.2.1⟩
    · obtain ⟨o, _, _, _, e, ex, _⟩ := I.hok p _ hk
      refine ⟨⟨o, e, ex.1⟩, fun a e2 => ?_⟩
      cases e2
      exact ⟨o, e, ex.2.1⟩
  | _ => exact False.elim ty
def tBM0 (K : PySem.W.Frag) (T : String) (r : V → List V → Hp → VK → Prop) (to : TE) : TE := fun σ H Q => to σ H fun x H1 => tyV K T x H1 ∧ r x [] H1 Q
def tBM (K : PySem.W.Frag) (T : String) (r : V → List V → Hp → VK → Prop) (to : TE) (t : TA) : TE := fun σ H Q => to σ H fun x H1 => tyV K T x H1 ∧ t σ H1 fun xs H2 => r x xs H2 Q
variable {o e : Expr} {es : List Expr} {to : TE} {t : TA} {name : Str} {apos cpos : Pos} {T id : String} {r : V → List V → Hp → VK → Prop}
theorem pe_bm0 (pa : PlainAttrs T) (slot : Slot T name id) (hty : typeOf (.builtin id) = pure (.type "method_descriptor")) (hm : MtR X id r) (ho : PE X o to)
    (hbase : attributeBase o name X.env (eval o X.env) = eval o X.env := by rfl) (hline : (apos.endLine == cpos.line) = true := by rfl) : PE X (.Call (.Attribute o name apos) [] [] cpos) (tBM0 X.K T r to) := by
  intro pins s σ H Q I h
  refine wpAny_Call_method0_late hbase hline (thn (ho pins s σ H _ I h) fun v s1 ⟨x, H1, I1, r1, ty, q1⟩ => ?_)
  obtain ⟨h1, h2⟩ := tyV_is I1 r1 ty
  exact ⟨T, id, pa, slot, hty, h1, h2, Calls.callWith_builtin rfl (PySem.evalArgs_none (hm pins s1 σ H1 x [] v [] Q I1 r1 .nil q1))⟩
theorem pe_bm (pa : PlainAttrs T) (slot : Slot T name id) (hty : typeOf (.builtin id) = pure (.type "method_descriptor")) (hm : MtR X id r) (ho : PE X o to) (ha : PA X (e :: es) t)
    (hbase : attributeBase o name X.env (eval o X.env) = eval o X.env := by rfl)
    (hfew : ((backTo cpos (starEach (e :: es) X.env)).all (fun x => !x.1) && (backToKw cpos (keywordEach [] X.env)).all (fun x => x.1.isSome)
      && decide ((e :: es).length + ([] : List Keyword).length + (if ([] : List Keyword).isEmpty then 0 else 1) < 30)) = true := by rfl)
    (hline : (apos.endLine == cpos.line) = true := by rfl) (hs : starEach (e :: es) X.env = (false, eval e X.env) :: starEach es X.env := by rfl) (hplain : (backTo cpos (starEach es X.env)).any (·.1) = false := by rfl) :
    PE X (.Call (.Attribute o name apos) (e :: es) [] cpos) (tBM X.K T r to t) := by
  intro pins s σ H Q I h
  refine wpAny_Call_method_late hbase hfew hline rfl (thn (ho pins s σ H _ I h) fun v s1 ⟨x, H1, I1, r1, ty, q1⟩ => ?_)
  obtain ⟨h1, h2⟩ := tyV_is I1 r1 ty
  refine ⟨T, id, pa, slot, hty, h1, h2, ?_⟩
  have hA := ha cpos pins s1 σ H1 _ I1 q1
  rw [hs] at hA ⊢
  refine Calls.callWith_builtin (by show (false || (backTo cpos (starEach es X.env)).any (·.1)) = false; rw [hplain] <;> rfl) (Calls.evalArgs_plain ?_)
  exact thn hA fun us s2 ⟨vs, H2, I2, r2, q2⟩ => hm pins s2 σ H2 x vs v us Q I2 r1 r2 q2
/- xs.append(e), list.index on a module's tuple .. are MtR facts of 06m -/
end
end L2

namespace L2
open PySem PySem.Spec PyProof.Rows

def MtM (X : Cx) (id : String) (r : V → List V → Hp → VK → Prop) : Prop :=
  ∀ (pins : List (Addr × Obj)) (s : Shared) (σ : St) (H : Hp) (x : V) (xs : List V) (v : Value) (us : List Value) (Q : VK), Inv X pins σ H s → RelV x v → Vals xs us → r x xs H Q →
    wpAny (model X.prog X.w) X.A (call (.builtin id) (v :: us)) (EP X pins σ Q) X.xe s

/-! ### lists of values -/
theorem Vals.one : ∀ {x : V} {us : List Value}, Vals [x] us → ∃ u, us = [u] ∧ RelV x u
  | _, _, .cons r .nil => ⟨_, rfl, r⟩
theorem Vals.zero : ∀ {us : List Value}, Vals [] us → us = []
  | _, .nil => rfl
theorem Vals.dropLast {xs : List V} {us : List Value} (h : Vals xs us) : Vals xs.dropLast us.dropLast := by
  induction h with
  | nil => exact .nil
  | cons r t ih =>
    cases t with
    | nil => exact .nil
    | cons q t' => exact .cons r ih
theorem Vals.eraseIdx : ∀ {xs : List V} {us : List Value} (i : Nat), Vals xs us → Vals (xs.eraseIdx i) (us.eraseIdx i)
  | _, _, _, .nil => .nil
  | _, _, 0, .cons _ t => t
  | _, _, i + 1, .cons r t => .cons r (Vals.eraseIdx i t)
theorem Vals.reverse {xs : List V} {us : List Value} (h : Vals xs us) : Vals xs.reverse us.reverse := by
  induction h with
  | nil => exact .nil
  | cons r t ih => rw [List.reverse_cons, List.reverse_cons]; exact Vals.append ih (.cons r .nil)
theorem erase_last {α : Type} (l : List α) : l.eraseIdx (l.length - 1) = l.dropLast := by
  induction l with
  | nil => rfl
  | cons a r ih =>
    cases r with
    | nil => rfl
    | cons b r =>
      have e : (a :: b :: r).length - 1 = ((b :: r).length - 1) + 1 := by
        have h1 : (a :: b :: r).length = r.length + 2 := rfl
        have h2 : (b :: r).length = r.length + 1 := rfl
        omega
      rw [e, List.eraseIdx_cons_succ, ih]
      all_goals rfl
theorem len_erase {α : Type} : ∀ (l : List α) (i : Nat), (l.eraseIdx i).length ≤ l.length
  | [], _ => Nat.le_refl _
  | _ :: _, 0 => Nat.le_succ _
  | _ :: r, i + 1 => Nat.succ_le_succ (len_erase r i)

section
variable {X : Cx} {pins : List (Addr × Obj)} {σ : St} {H : Hp} {s : Shared} {l b : Addr} {xs ys zs : List V}

/-! ### the two steps: a tracked list is rewritten, a new list is laid -/
theorem Inv.lset {its its' : List Value} {n : Nat} {f : Array Value → Array Value} {t' : Nat} (I : Inv X pins σ H s) (hH : H l = some (.lst xs))
    (e : s.heap.get? l = some { cls := .type "list", data := .seq its.toArray n }) (hf : f its.toArray = its'.toArray) (hv : Vals ys its') (hz : ys.length ≤ sizeLine) :
    Inv X pins σ (upd H l (.lst ys)) { s with heap := s.heap.update l (Obj.mapSeq f), toks := t' } := by
  have q := PySem.IsL.update e f
  rw [hf] at q
  refine I.write (x := l) (e := l) (by rw [hH]; exact trivial) (.inl rfl) (fun b' u hb hu => (Heap.get?_update_other s.heap (Obj.mapSeq f) (Ne.symm hb)).trans hu) ⟨_, q⟩ ?_
  exact ⟨hz, its', _, hv, q⟩
theorem Inv.lnew {its : List Value} {t' : Nat} (I : Inv X pins σ H s) (hv : Vals ys its) (hz : ys.length ≤ sizeLine) :
    Inv X pins σ (upd H s.heap.objs.size (.lst ys)) { s with heap := s.heap.push { cls := .type "list", data := .seq its.toArray }, toks := t' } :=
  I.laid (fun _ _ q => Heap.get?_push_of_some _ q) (Nat.le_refl _) ⟨hz, its, 0, hv, Heap.get?_push_size _ rfl⟩
theorem Inv.lstM (I : Inv X pins σ H s) (hH : H l = some (.lst xs)) : xs.length ≤ sizeLine ∧ ∃ (its : List Value) (n : Nat), Vals xs its ∧ xs.length = its.length ∧ s.heap.get? l = some { cls := .type "list", data := .seq its.toArray n } := by
  obtain ⟨z, its, n, r, e⟩ := I.hok l _ hH
  exact ⟨z, its, n, r, r.length, e⟩

theorem notLongL {n : Nat} (h : n ≤ sizeLine) : Builtin.List.listTooLong n = false := by
  unfold Builtin.List.listTooLong
  exact decide_eq_false (by omega)
end

section
variable {X : Cx}

/-! ### methods -/
def rAppend : V → List V → Hp → VK → Prop := fun x vs H Q => ∃ l xs y, x = .ref l ∧ vs = [y] ∧ H l = some (.lst xs) ∧ xs.length < sizeLine ∧ Q .non (upd H l (.lst (xs ++ [y])))
theorem mt_append : MtM X "list.append" rAppend := by
  intro pins s σ H x vs v us Q I rx rv h
  obtain ⟨l, xs, y, rfl, rfl, hH, hz, q⟩ := h
  cases rx
  obtain ⟨u, rfl, ru⟩ := rv.one
  obtain ⟨z, its, n, r, hl, e⟩ := I.lstM hH
  refine call_meets F.slot_list_append ⟨_, e, rfl⟩ F.entry_list_append (F.args_list_append_2 _ _) (PySem.list_append l its.toArray n u (by rw [List.size_toArray]; omega)) ⟨e, ?_⟩
  refine ⟨.non, _, I.lset (its' := its ++ [u]) hH e (by simp) (r.append (.cons ru .nil)) ?_, rfl, q⟩
  rw [List.length_append, List.length_singleton]
  omega

def rExtend : V → List V → Hp → VK → Prop := fun x vs H Q => ∃ l b xs zs, x = .ref l ∧ vs = [.ref b] ∧ H l = some (.lst xs) ∧ H b = some (.lst zs) ∧ xs.length + zs.length ≤ sizeLine ∧ Q .non (upd H l (.lst (xs ++ zs)))
theorem mt_extend : MtM X "list.extend" rExtend := by
  intro pins s σ H x vs v us Q I rx rv h
  obtain ⟨l, b, xs, zs, rfl, rfl, hH, hB, hz, q⟩ := h
  cases rx
  obtain ⟨u, rfl, ru⟩ := rv.one
  cases ru
  obtain ⟨z, its, n, r, hl, e⟩ := I.lstM hH
  obtain ⟨z2, its2, n2, r2, hl2, e2⟩ := I.lstM hB
  have hsz : its.toArray.size + its2.toArray.size ≤ sizeLine := by rw [List.size_toArray, List.size_toArray]; omega
  have hlong : ¬ (!its.toArray.isEmpty && Builtin.List.listTooLong (its.toArray.size + its2.toArray.size)) = true := by
    rw [notLongL hsz, Bool.and_false]
    exact Bool.false_ne_true
  refine call_meets F.slot_list_extend ⟨_, e, rfl⟩ F.entry_list_extend (F.args_list_extend_2 _ _)
    (AutoSeq1.list_extend_list_list_0 l its.toArray n b its2.toArray n2 hlong (by rw [List.size_toArray]; omega) (by omega)) ⟨e, e2, ?_⟩
  refine ⟨.non, _, I.lset (its' := its ++ its2) hH e (by simp) (r.append r2) ?_, rfl, q⟩
  rw [List.length_append]
  omega

def rPop : V → List V → Hp → VK → Prop := fun x vs H Q => ∃ l xs y, x = .ref l ∧ vs = [] ∧ H l = some (.lst xs) ∧ xs[xs.length - 1]? = some y ∧ Q y (upd H l (.lst xs.dropLast))
theorem mt_pop : MtM X "list.pop" rPop := by
  intro pins s σ H x vs v us Q I rx rv h
  obtain ⟨l, xs, y, rfl, rfl, hH, hy, q⟩ := h
  cases rx
  have hus := rv.zero
  subst hus
  obtain ⟨z, its, n, r, hl, e⟩ := I.lstM hH
  obtain ⟨u, hu, ru⟩ := r.get hy
  have hy' : its.toArray[its.toArray.size - 1]? = some u := by
    show its.toArray[its.length - 1]? = some u
    rw [← Array.getElem?_toList, ← hl]
    exact hu
  refine call_meets F.slot_list_pop ⟨_, e, rfl⟩ F.entry_list_pop (F.args_list_pop_1 _) (MeetsSeq.list_pop_last l its.toArray n u hy' (by rw [List.size_toArray]; omega)) ⟨e, ?_⟩
  refine ⟨y, _, I.lset (its' := its.dropLast) hH e ?_ r.dropLast ?_, ru, q⟩
  · show its.toArray.eraseIdxIfInBounds (its.toArray.size - 1) = its.dropLast.toArray
    rw [List.size_toArray, List.eraseIdxIfInBounds_toArray, erase_last]
  · rw [List.length_dropLast]
    omega

def rPopAt : V → List V → Hp → VK → Prop := fun x vs H Q => ∃ l xs i k y, x = .ref l ∧ vs = [.int i] ∧ H l = some (.lst xs) ∧ -(2 ^ 63) ≤ i ∧ i < 2 ^ 63 ∧ seqIndex? i xs.length = some k ∧ xs[k]? = some y ∧ Q y (upd H l (.lst (xs.eraseIdx k)))
theorem mt_popAt : MtM X "list.pop" rPopAt := by
  intro pins s σ H x vs v us Q I rx rv h
  obtain ⟨l, xs, i, k, y, rfl, rfl, hH, h1, h2, hk, hy, q⟩ := h
  cases rx
  obtain ⟨u, rfl, ru⟩ := rv.one
  obtain ⟨t, rfl⟩ := ru
  obtain ⟨z, its, n, r, hl, e⟩ := I.lstM hH
  obtain ⟨w, hw, rw'⟩ := r.get hy
  refine call_meets F.slot_list_pop ⟨_, e, rfl⟩ F.entry_list_pop (F.args_list_pop_2 _ _)
    (MeetsSeq.list_pop_at l its.toArray n i t k w (fitsIndex_both h1 h2) (by rw [List.size_toArray, ← hl]; exact hk) (by rw [← Array.getElem?_toList]; exact hw) (by rw [List.size_toArray]; omega)) ⟨e, ?_⟩
  refine ⟨y, _, I.lset (its' := its.eraseIdx k) hH e ?_ (r.eraseIdx k) ?_, rw', q⟩
  · show its.toArray.eraseIdxIfInBounds k = (its.eraseIdx k).toArray
    rw [List.eraseIdxIfInBounds_toArray]
  · have := len_erase xs k
    omega

def rReverse : V → List V → Hp → VK → Prop := fun x vs H Q => ∃ l xs, x = .ref l ∧ vs = [] ∧ H l = some (.lst xs) ∧ Q .non (upd H l (.lst xs.reverse))
theorem mt_reverse : MtM X "list.reverse" rReverse := by
  intro pins s σ H x vs v us Q I rx rv h
  obtain ⟨l, xs, rfl, rfl, hH, q⟩ := h
  cases rx
  have hus := rv.zero
  subst hus
  obtain ⟨z, its, n, r, hl, e⟩ := I.lstM hH
  refine call_meets F.slot_list_reverse ⟨_, e, rfl⟩ F.entry_list_reverse (F.args_list_reverse_1 _) (AutoSeq1.list_reverse_list_0 l its.toArray n (by rw [List.size_toArray]; omega)) ⟨e, ?_⟩
  refine ⟨.non, _, I.lset (its' := its.reverse) hH e (by simp) r.reverse ?_, rfl, q⟩
  rw [List.length_reverse]
  omega


/-! ### list + list, list += list, list * int -/

/-! ### del xs[i] -/
end

/-! ### xs[a:b] = ys -/
section
variable {prog : Program} {w : World} {A : Around} {E : Value → Shared → Prop} {s : Shared}
set_option maxRecDepth 100000 in
end

section
variable {X : Cx}
end
end L2

namespace Att
open PySem PySem.W PySem.Calls PyProof.Rows

/-! ### the script -/
theorem ints_of_wellAll {P : Params} {h : Heap} : ∀ (ns : List Int) (vs : List Value), WellAll P h vs (ns.map WData.int) → IntsAre vs ns := by
  intro ns
  induction ns with
  | nil =>
    intro vs w
    rw [List.map_nil] at w
    cases w
    exact .nil
  | cons n ns ih =>
    intro vs w
    rw [List.map_cons] at w
    cases w with
    | cons a b =>
      cases a
      exact .cons _ _ (ih _ b)

theorem script_of {l : OpenLaw} {n : Nat} (hn : l.most = some n) {P : Params} {h : Heap} {args : List WData} {vals : List Value}
    (hpre : l.row.toRowW.claim.pre args = true) (hwl : WellAll P h vals args) :
    ∃ a vs ns, vals = [Value.ref a] ∧ args = [WData.list (ns.map WData.int)] ∧ h.get? a = some { cls := .type "list", data := .seq vs.toArray } ∧ IntsAre vs ns ∧ ns.length ≤ n := by
  have hsh : WShape.hasAll [] args [.list .int] = true := (pre_splitW hpre).1
  have hc : l.pre.holds [] { args := args } = true := (pre_splitW hpre).2
  obtain ⟨d, r, rfl, h1, h2⟩ := hasAllW_cons hsh
  obtain rfl := hasAllW_nil h2
  obtain ⟨xs, rfl, h3⟩ := hasW_list h1
  obtain ⟨ns, rfl⟩ := items_int h3
  have hlen : ns.length ≤ n := by
    unfold OpenLaw.pre at hc
    have h4 : (WTm.not (.lt (.lit (.int (n : Int))) (.len (.arg 0)))).holds [] { args := [.list (ns.map .int)] } = true := by
      have h4 := (holds_andW hc).1
      rw [hn] at h4
      exact h4
    have h5 := condW_of h4 (w_not (w_lt w_lit (w_len_list (w_arg rfl))))
    rw [List.length_map] at h5
    refine Nat.le_of_not_lt fun q => ?_
    have q' : (n : Int) < ((ns.length : Nat) : Int) := by omega
    first
      | (rw [decide_eq_true q'] at h5; exact absurd h5 (by decide))
      | (simp at h5; omega)
  cases hwl with
  | cons w1 w2 =>
    cases w2
    cases w1 with
    | list ho hall => exact ⟨_, _, ns, rfl, rfl, ho, ints_of_wellAll ns _ hall, hlen⟩

theorem post_true (l : OpenLaw) (args : List WData) : l.row.toRowW.claim.post args (.bool true) args = true :=
  postW_of (r := l.row.toRowW) (X := (true == true))
    (show WShape.has [] (.bool true) .bool = true by first | rfl | decide | simp [WShape.has, WShape.arms, WShape.armsAll])
    (show (WTm.eq .res (.lit (.bool true))).value [] { args := args, res := some (.bool true), after := args } = some (.bool (true == true)) from w_eq_bool (w_res rfl) w_lit) rfl

/-! ### the attachment: holds_open's last premise (the goal 'hc' behind k_head) from a wpAny of the law's body -/



/-! ### rules over ANY heap (no ledger) from facts about the written part K: the library's own take a ledger (News) for what they write -/
section
variable {prog : Program} {w : World} {A : Around} {E : Value → Shared → Prop} {s : Shared} {K : Frag}





/-! the whole heap as the ledger: makes every rule that writes through a ledger a rule over any heap -/

end
end Att

namespace L2
open PySem PySem.Spec PyProof.Rows

theorem vals_ints : ∀ {vs : List Value} {ns : List Int}, IntsAre vs ns → Vals (ns.map V.int) vs
  | _, _, .nil => .nil
  | _, _, .cons n t h => .cons ⟨t, rfl⟩ (vals_ints h)

/-- nothing is tracked but the script, known to the object (or it is an object of the module) -/
def Only (H : Hp) : Prop := ∀ b, H b = none ∨ ∃ o xs, H b = some (.frz o (.lst xs))

/-- THE HEAD: the law's promise, at the heap behind the top. F, the promise of the law's def, may use that base is part of the heap (so K.In base, base.Ns mainGlobals mg stand in Mod) -/
theorem law_call {P : Program} {w : World} {K : PySem.W.Frag} {mg mb : Str → Option Value} {CX : CXT} {k : Nat} {fa a : Addr} {fd : FuncData} {x : Str} {sp : Sp} {s₁ : Shared} {vs : List Value} {ns : List Int}
    (KX : K.In s₁.heap) (hns : s₁.heap.Ns mainGlobals mg) (hb : s₁.heap.Ns builtinsNs mb) (hbb : ∀ x : Str, x ≠ "__name__" → mb x = bootBuiltins x) (hlim : s₁.heap.NoLimit) (hg : s₁.gens = #[])
    (ha : s₁.heap.get? a = some { cls := .type "list", data := .seq vs.toArray }) (hi : IntsAre vs ns) (hl : ns.length ≤ sizeLine) (hr : Room k callerA)
    (F : ∀ base : Heap, K.In base → base.Ns mainGlobals mg → FnOk P w K mg base CX k fa fd [x] sp) (hbind : ∀ (s : Shared) (u : Value), BindsTo s fd ⟨[u], []⟩ [(x, u)])
    (hsp : ∀ H : Hp, Only H → SqL K H a (ns.map V.int) → sp [.ref a] H (fun v _ => v = .bl true) fun _ _ _ => False)
    (hCX : ∀ H e s', CX [] H s₁ (fun _ _ _ => False) e s' → False) :
    codeAny (model P w) callerA (.call (.ref fa) ⟨[.ref a], []⟩) (fun r s' => r = .ok (.ret (.bool true)) ∧ OldK s₁.heap s'.heap ∧ s'.os = s₁.os ∧ AllBare s'.gens) s₁ := by
  have rv := vals_ints hi
  have lenV := hi.length
  -- from an abstract heap in which nothing but the script may be tracked
  have core : ∀ H : Hp, Only H → SqL K H a (ns.map V.int) → HOk P w H s₁.heap → (∀ b, H b ≠ none → b = a) → (H a ≠ none → K.lookup a = none) →
      codeAny (model P w) callerA (.call (.ref fa) ⟨[.ref a], []⟩) (fun r s' => r = .ok (.ret (.bool true)) ∧ OldK s₁.heap s'.heap ∧ s'.os = s₁.os ∧ AllBare s'.gens) s₁ := by
    intro H hO hS hok hA hK
    have base_of : ∀ {b : Addr} {o : Obj}, s₁.heap.get? b = some o → H b = none → (hidT s₁.heap H).get? b = some o := fun e n => hidT_get e n
    have noA : ∀ {b : Addr} {o : Obj} {es : Array DictEntry} {ep : Nat}, s₁.heap.get? b = some o → o.data = .dict es ep → H b = none := fun {b o es ep} e d => by
      cases q : H b with
      | none => rfl
      | some u =>
        have e' : b = a := hA b (by rw [q]; simp)
        subst e'
        rw [ha] at e; cases e
        have d' : Data.seq vs.toArray _ = Data.dict es ep := d
        cases d'
    have nsK : ∀ {b : Addr} {m : Str → Option Value}, s₁.heap.Ns b m → (hidT s₁.heap H).Ns b m := fun {b m} ⟨o, es, ep, e, d, r⟩ => ⟨o, es, ep, base_of e (noA e d), d, r⟩
    have hKb : K.In (hidT s₁.heap H) := fun b o e => base_of (KX b o e) (by
      cases q : H b with
      | none => rfl
      | some u =>
        have e' : b = a := hA b (by rw [q]; simp)
        subst e'
        rw [hK (by rw [q]; simp)] at e; cases e)
    have hM : Mod K mg (hidT s₁.heap H) := ⟨hKb, nsK hns, ⟨mb, nsK hb, hbb⟩, let ⟨mc, h1, h2⟩ := hlim; ⟨mc, nsK h1, h2⟩⟩
    have e0 : Env0 P w K mg (hidT s₁.heap H) callerA [] s₁ H := ⟨rfl, hM, fun b o e => of_hidT e, Nat.le_of_eq (hidT_size _ _), trivial, fun b hb => absurd (show b ∈ ([] : List Addr) from hb) (by simp), hok, .of_eq hg⟩
    refine codeAny_mono ((F _ hKb (nsK hns)).run callerA [] s₁ H ⟨[.ref a], []⟩ [.ref a] [.ref a] _ _ hr e0 (hbind s₁ (.ref a)) (.cons rfl .nil) (hsp H hO hS)) fun r s' h => ?_
    cases r with
    | error e => exact (hCX H e s' h).elim
    | ok fl =>
      cases fl with
      | next => exact False.elim h
      | brk => exact False.elim h
      | cont => exact False.elim h
      | ret u =>
        obtain ⟨v, H', os, bare, un, hok', r', q⟩ := h
        have q' : v = .bl true := q
        subst q'
        obtain rfl : u = Value.bool true := r'
        refine ⟨rfl, OldK.of_keep fun b o e => ?_, os, bare⟩
        cases q : H b with
        | none => exact un.keep b o e q (by intro z; exact absurd (show b ∈ ([] : List Addr) from z) (by simp)) (by simp)
        | some u =>
          rcases hO b with z | ⟨ob, xs, z⟩
          · rw [q] at z; cases z
          · have z2 := un.frzs b ob _ z
            obtain ⟨e1, _⟩ := hok b _ z
            obtain ⟨e2, _⟩ := hok' b _ z2
            rw [e] at e1; cases e1
            exact e2
  cases hk : K.lookup a with
  | some o =>
    -- the script is one of the module's own objects
    have e := KX a o hk
    rw [ha] at e
    cases e
    refine core (fun _ => none) (fun _ => .inl rfl) (.inr ⟨_, vs.toArray, _, hk, rfl, rfl, rfl, by rw [List.size_toArray, lenV]; exact hl, by simpa using rv⟩) (fun b u z => by have z' : (none : Option HO) = some u := z; cases z') (fun b z => absurd rfl z) fun z => absurd rfl z
  | none =>
    refine core (fun b => if b = a then some (.frz { cls := .type "list", data := .seq vs.toArray } (.lst (ns.map V.int))) else none) (fun b => ?_) (.inl (.inr ⟨{ cls := .type "list", data := .seq vs.toArray }, if_pos rfl⟩)) (fun b u z => ?_) (fun b z => ?_) fun _ => hk
    · by_cases hb : b = a
      · exact .inr ⟨_, _, if_pos hb⟩
      · exact .inl (if_neg hb)
    · by_cases hb : b = a
      · have z' := (if_pos hb).symm.trans z
        cases z'
        subst hb
        exact ⟨ha, by rw [List.length_map]; exact hl, vs, _, rv, ha⟩
      · have z' := (if_neg hb).symm.trans z
        cases z'
    · by_cases hb : b = a
      · exact hb
      · exact absurd (if_neg hb) z
end L2

namespace L2
open PySem PySem.Spec PyProof.Rows

abbrev KOf {K : PySem.W.Frag} {h : Heap} (_ : K.In h) : PySem.W.Frag := K

end L2

/- THE LAST THEOREM (shape; LID, My.* are yours):
   My.Adr: a structure of the addresses that your layer names (classes, functions); My.Txt K t: a structure (Prop) of the equations over K;
   My.txt_mk : {K} {implicit addresses ..} (e1 : nsIn K mainGlobals "law" = some (some (.ref f))) (e2 : K.lookup f = some ⟨oc, od, .func (fnOf "law" "law" params body scope dV kV doc pm an cdv ct), sl⟩) (e3 : codeIn K cdv "law" = true) .. : ∃ t, My.Txt K t

set_option maxRecDepth 100000 in
set_option maxHeartbeats 0 in
theorem PySem.Challenge.cw_LID_holds : PySem.Challenge.rw_LID.Holds := by
  w_on; o_law; k_head; (case hw => w_witness2)
  k_fill
  refine L2.walk_of (l := PySem.Challenge.rw_LID) (n := 63) (k := 40) (x := "script") (CX := fun w => ..) (sp := fun _ => My.sp_law) rfl (by decide) rfl ⟨rfl, by decide, by decide⟩ (fun w h Y => PySem.W.kIn_of Y) ?F ?S ?C
  case F =>
    intro w mg fa h KX G hmg
    have T : ∃ t, My.Txt (L2.KOf KX) t := by
      dsimp only [L2.KOf]                          -- K must stand as «<heap const> w.params» for k_is
      refine' My.txt_mk ?e1 ?e2 ?e3 ..
      (case e1 => PySem.W.k_is)                    -- in the order: a name -> its address -> its object -> its parts
      (case e2 => PySem.W.k_is)
      ..
    obtain ⟨t, T⟩ := T
    have e0 := hmg.symm.trans (PySem.W.mg_of KX G T.law)
    cases e0                                       -- fa is the law's own address
    exact ⟨_, fun s u => .of_eq rfl, fun base kb nb => My.law_fn T kb nb⟩     -- if «.of_eq rfl» comes too early: refine' ⟨_, ?b, fun base kb nb => My.law_fn T kb nb⟩; exact fun s u => .of_eq rfl
  case S => exact fun w H a ns hl hO hS => ..
  case C => exact ..
(the tactic k_is has no namespace: write k_is) -/

/-! SHORT WORDS over the layer: a def of the text, its body, what a loop and a test want. -/
namespace L2
open PySem PySem.Spec PyProof.Rows

/-! ### the text by places -/
/-- the j-th statement of a class's body -/
def inClass (s : Stmt) (j : Nat) : Stmt := match s with
  | .ClassDef _ _ _ body _ _ _ _ _ _ _ => body.getD j (.Pass ⟨0, 0, 0, 0⟩)
  | _ => .Pass ⟨0, 0, 0, 0⟩
def defArgs (s : Stmt) : Arguments := match s with
  | .FunctionDef _ a _ _ _ _ _ _ _ _ => a
  | _ => { posonlyargs := [], args := [], vararg := none, kwonlyargs := [], kw_defaults := [], kwarg := none, defaults := [] }
def defBody (s : Stmt) : List Stmt := match s with
  | .FunctionDef _ _ b _ _ _ _ _ _ _ => b
  | _ => []
def defScope (s : Stmt) : Scope := match s with
  | .FunctionDef _ _ _ _ _ _ sc _ _ _ => sc
  | _ => { kind := .function, names := [], isGenerator := false, isCoroutine := false }

/-! ### no exception leaves a def -/
abbrev CX0 : CXT := fun _ _ _ _ _ _ => False
abbrev E0 : XK := fun _ _ _ => False
theorem pass0 {X : Cx} : Passes CX0 X E0 := fun _ _ _ _ _ _ _ h => h.elim

/-! ### a def (or method) of the text as it stands behind the top -/
structure Fun (K : PySem.W.Frag) (x qual : Str) (st : Stmt) (f : Addr) (fd : FuncData) : Prop where
  ex : ∃ (oc : Value) (od : Option Addr) (kV doc pm : Value) (an : Option Addr) (cdv ct : Value) (osl : Array (Option Value)),
    fd = PySem.W.fnOf x qual (defArgs st) (defBody st) (defScope st) .none kV doc pm an cdv ct ∧ K.lookup f = some ⟨oc, od, .func fd, osl⟩ ∧ PySem.W.codeIn K cdv qual = true
  kp : PySem.W.keepIn K (.ref f) = true
section
variable {P : Program} {w : World} {K : PySem.W.Frag} {mg : Str → Option Value} {base : Heap}
/-- THE RULE for a def: its body as a term of rules, and the reading of that term -/
theorem Fun.ok {x qual : Str} {st : Stmt} {f : Addr} {fd : FuncData} {N ps : List Str} {k : Nat} {sp : Sp} (F : Fun K x qual st f fd) (S : FnScope N ps (defScope st)) (len : ∀ vs H Q E, sp vs H Q E → vs.length = ps.length)
    (hbody : ∀ (cdv : Value) (A : Around) (outer : List Env) (s : Shared) (H : Hp) (vs : List V) (Q : VK) (E : XK), Room k (A.deeper (envOfC qual (defScope st) s.heap.objs.size f cdv)) → sp vs H Q E →
      ∃ t, PSs (cxOf CX0 P w K mg base N qual (defScope st) f cdv A outer s H E).nox (defBody st) t ∧ t { nx := fun _ H' => Q .non H', rt := Q } (start N vs) H) : FnOk P w K mg base CX0 (k + 1) f fd ps sp := by
  obtain ⟨oc, od, kV, doc, pm, an, cdv, ct, osl, rfl, lk, hcd⟩ := F.ex
  refine fn_of lk hcd S len fun A outer s H vs Q E hr hsp => ?_
  obtain ⟨t, h, q⟩ := hbody cdv A outer s H vs Q E hr hsp
  exact ⟨t, h.nox, q⟩
/-- how its arguments bind (no defaults): h is «fun _ _ _ _ _ _ us hl => match us, hl with | [_, _], _ => rfl», one _ a parameter -/
theorem Fun.binds {x qual : Str} {st : Stmt} {f : Addr} {fd : FuncData} {ps : List Str} (F : Fun K x qual st f fd)
    (h : ∀ (kV doc pm : Value) (an : Option Addr) (cdv ct : Value) (us : List Value), us.length = ps.length → bindArgs (PySem.W.fnOf x qual (defArgs st) (defBody st) (defScope st) .none kV doc pm an cdv ct) ⟨us, []⟩ = pure (ps.zip us)) : Binds K fd ps [] := by
  obtain ⟨oc, od, kV, doc, pm, an, cdv, ct, osl, rfl, lk, hcd⟩ := F.ex
  exact .all (h kV doc pm an cdv ct)
theorem fun_mk {x qual : Str} {st : Stmt} {f : Addr} {oc : Value} {od an : Option Addr} {osl : Array (Option Value)} {kV doc pm cdv ct : Value} (l : K.lookup f = some ⟨oc, od, .func (PySem.W.fnOf x qual (defArgs st) (defBody st) (defScope st) .none kV doc pm an cdv ct), osl⟩)
    (c : PySem.W.codeIn K cdv qual = true) (k : PySem.W.keepIn K (.ref f) = true) : Fun K x qual st f (PySem.W.fnOf x qual (defArgs st) (defBody st) (defScope st) .none kV doc pm an cdv ct) := ⟨⟨oc, od, kV, doc, pm, an, cdv, ct, osl, rfl, l, c⟩, k⟩
end

/-! ### expressions in short: the name that stands in the i-th slot -/
section
variable {X : Cx}
theorem pv (i : Nat) {x : Str} {pos : Pos} (hN : X.N[i]? = some x := by rfl) (hv : Vis X.env.scope x := by first | exact Or.inl rfl | exact Or.inr (Or.inl rfl) | exact Or.inr (Or.inr rfl)) (hd : (x == ("__debug__" : Str)) = false := by decide)
    (hcd : (x == ("__classdict__" : Str)) = false := by decide) : PE X (.Name x pos) (tVar i) := pe_var hN hv hd hcd
end

/-! ### tests -/
theorem iteF {A B : Prop} (h : B) : if false = true then A else B := by
  rw [if_neg Bool.false_ne_true]
  exact h
theorem iteT {A B : Prop} (h : A) : if true = true then A else B := by
  rw [if_pos rfl]
  exact h
theorem ite2 {c A B : Prop} [Decidable c] (h1 : c → A) (h2 : ¬ c → B) : if c then A else B := by
  by_cases h : c
  · rw [if_pos h]
    exact h1 h
  · rw [if_neg h]
    exact h2 h

/-! ### heaps -/
/-- all that was tracked is as it was -/
def Same (H H' : Hp) : Prop := ∀ b o, H b = some o → H' b = some o
theorem Same.refl (H : Hp) : Same H H := fun _ _ h => h
theorem Same.trans {H H1 H2 : Hp} (a : Same H H1) (b : Same H1 H2) : Same H H2 := fun c o h => b c o (a c o h)
theorem Same.free {H H' : Hp} (e : Same H H') {l : Addr} (h : H' l = Option.none) : H l = Option.none := by
  cases q : H l with
  | none => rfl
  | some o =>
    rw [e l o q] at h
    cases h
theorem Same.seq {K : PySem.W.Frag} {H H' : Hp} {a : Addr} {xs : List V} (e : Same H H') (h : SqL K H a xs) : SqL K H' a xs := by
  rcases h with (h | ⟨o, h⟩) | h
  · exact .inl (.inl (e _ _ h))
  · exact .inl (.inr ⟨o, e _ _ h⟩)
  · exact .inr h

end L2

set_option Elab.async false
set_option linter.all false
set_option maxRecDepth 100000
set_option maxHeartbeats 4000000
namespace L2
open PySem PySem.Spec PyProof.Rows

/-! ### a list comprehension: its block as a context of its own -/
/-- the context of the block: s, H the state behind the new list; fp the iterator's records -/
def cxComp (X : Cx) (scope : Scope) (cl : List (Str × Addr)) (N : List Str) (s : Shared) (H : Hp) (fp : List Addr) : Cx :=
  { prog := X.prog, w := X.w, K := X.K, mg := X.mg, base := X.base, A := X.A, N := N, s₀ := s, H₀ := H, env := compEnvC scope cl s.heap.objs.size X.env,
    outer := X.stack, stack := X.stack, ex := fp, fn := fun _ => false, calm := X.calm, pn := [], xe := fun _ _ => False }
/-- the names that the block sees: its own one, then those of the def at the places js -/
def cNames (X : Cx) (x : Str) (js : List Nat) : List Str := x :: js.map fun j => X.N.getD j ""
def cVals (js : List Nat) (σ : St) : St := js.map fun j => (σ[j]?).getD none
/-- each place holds a name that is a cell of the def's and free in the block -/
structure FreeAt (X : Cx) (scope : Scope) (js : List Nat) : Prop where
  all : ∀ j ∈ js, ∃ y, X.N[j]? = some y ∧ (X.env.kindOf y = some .cell ∨ X.env.kindOf y = some .free) ∧ (y, NameKind.free) ∈ scope.names ∧
    ((relabel scope X.env).names.lookup y = some .cell ∨ (relabel scope X.env).names.lookup y = some .free)
theorem fa_nil {X : Cx} {scope : Scope} : FreeAt X scope [] := ⟨fun _ h => nomatch h⟩
theorem fa_cons {X : Cx} {scope : Scope} {j : Nat} {js : List Nat} {y : Str} (h1 : X.N[j]? = some y) (h2 : X.env.kindOf y = some .cell ∨ X.env.kindOf y = some .free) (h3 : (y, NameKind.free) ∈ scope.names)
    (h4 : (relabel scope X.env).names.lookup y = some .cell ∨ (relabel scope X.env).names.lookup y = some .free) (r : FreeAt X scope js) : FreeAt X scope (j :: js) :=
  ⟨fun k hk => by
    rcases List.mem_cons.mp hk with e | e
    · subst e; exact ⟨y, h1, h2, h3, h4⟩
    · exact r.all k e⟩

theorem lookup_relabel {env : Env} : ∀ {names : List (Str × NameKind)} {y : Str} {k : NameKind},
    (names.map fun (n, k) => if (k == NameKind.free && env.scope.kind == .function && env.kindOf n == some .cell) then (n, NameKind.cell) else (n, k)).lookup y = some k →
    ∃ k', (y, k') ∈ names ∧ (k' = k ∨ (k = .cell ∧ k' = .free))
  | [], _, _, h => by simp at h
  | (n, k0) :: r, y, k, h => by
    by_cases hc : (k0 == NameKind.free && env.scope.kind == .function && env.kindOf n == some .cell) = true
    · rw [List.map_cons] at h
      dsimp only at h
      rw [if_pos hc] at h
      simp only [List.lookup_cons] at h
      have hf : k0 = .free := by
        rw [Bool.and_eq_true, Bool.and_eq_true] at hc
        exact beq_iff_eq.mp hc.1.1
      cases hx : y == n with
      | true =>
        rw [hx] at h
        have e := beq_iff_eq.mp hx
        subst e
        have e2 := Option.some.inj h
        exact ⟨k0, List.mem_cons_self, .inr ⟨e2.symm, hf⟩⟩
      | false =>
        rw [hx] at h
        obtain ⟨k', m, q⟩ := lookup_relabel h
        exact ⟨k', List.mem_cons_of_mem _ m, q⟩
    · rw [List.map_cons] at h
      dsimp only at h
      rw [if_neg hc] at h
      simp only [List.lookup_cons] at h
      cases hx : y == n with
      | true =>
        rw [hx] at h
        have e := beq_iff_eq.mp hx
        subst e
        have e2 := Option.some.inj h
        exact ⟨k0, List.mem_cons_self, .inl e2⟩
      | false =>
        rw [hx] at h
        obtain ⟨k', m, q⟩ := lookup_relabel h
        exact ⟨k', List.mem_cons_of_mem _ m, q⟩

section
variable {X : Cx} {pins : List (Addr × Obj)} {σ : St} {H : Hp} {s : Shared} {scope : Scope} {cl : List (Str × Addr)} {x : Str} {js : List Nat} {fp : List Addr}

theorem comp_ok (I : Inv X pins σ H s) (hk : scope.kind = .function) (hcell : ∀ y ∈ scope.names, y.2 ≠ .cell)
    (hcl1 : ∀ y c, cl.lookup y = some c → X.env.cells.lookup y = some c) (hcl2 : ∀ y, (y, NameKind.free) ∈ scope.names → ∃ c, cl.lookup y = some c)
    (hf : ∀ b ∈ fp, FpOk X pins H b) (hlt : ∀ b ∈ fp, b < s.heap.objs.size) : (cxComp X scope cl (cNames X x js) s H fp).Ok where
  mod := I.ok.mod
  kind := hk
  glob := I.ok.glob
  blt := I.ok.blt
  above := Nat.le_refl _
  inj := fun y z c h1 h2 => I.ok.inj y z c (hcl1 y c h1) (hcl1 z c h2)
  has := fun y hy => by
    have hy' : (relabel scope X.env).names.lookup y = some .cell ∨ (relabel scope X.env).names.lookup y = some .free := hy
    rcases hy' with h | h
    · obtain ⟨k', m, q⟩ := lookup_relabel h
      rcases q with q | ⟨_, q⟩
      · exact absurd q (hcell _ m)
      · subst q; exact hcl2 y m
    · obtain ⟨k', m, q⟩ := lookup_relabel h
      rcases q with q | ⟨q, _⟩
      · subst q; exact hcl2 y m
      · cases q
  cab := fun y c h _ => by cases h
  hd := I.ok.hd
  frames := I.ok.frames
  stk := .inl rfl
  exf := fun b hb => ⟨Nat.ne_of_lt (hlt b hb), fun y c h => (hf b hb).2.2.2.2.1 y c (hcl1 y c h)⟩
  bs := I.bs
  bsz := Nat.le_trans I.ok.bsz I.sz
  noex := fun b o e hb => by
    rcases (hf b hb).2.2.2.1 with z | z
    · exact I.ok.noex b o e z
    · exact absurd (Nat.lt_of_lt_of_le (Heap.lt_size e) (Nat.le_trans I.ok.bsz z)) (Nat.lt_irrefl _)
  exfs := fun b hb hz => (List.mem_cons.mp (I.stkSub b hz)).elim (hf b hb).2.1 (hf b hb).2.2.1
  funs := I.stack
  frf := I.stkFree

theorem comp_start {h₁ : Heap} {tk : Nat} (I : Inv X pins σ H s) (hk : scope.kind = .function) (hcell : ∀ y ∈ scope.names, y.2 ≠ .cell)
    (hcl1 : ∀ y c, cl.lookup y = some c → X.env.cells.lookup y = some c) (hcl2 : ∀ y, (y, NameKind.free) ∈ scope.names → ∃ c, cl.lookup y = some c) (hjs : FreeAt X scope js)
    (hf : ∀ b ∈ fp, FpOk X pins H b) (hlt : ∀ b ∈ fp, b < s.heap.objs.size) {m : Str → Option Value} (hn : h₁.Ns s.heap.objs.size m) (hkeep : ∀ b o, s.heap.get? b = some o → h₁.get? b = some o) :
    Inv (cxComp X scope cl (cNames X x js) s H fp) [] (none :: cVals js σ) H { s with heap := h₁, toks := tk } where
  ok := comp_ok I hk hcell hcl1 hcl2 hf hlt
  os := rfl
  bare := I.bare
  base := Un.kept hkeep
  loc := by
    refine ⟨m, hn, fun i y v h1 h2 h3 => ?_⟩
    cases i with
    | zero =>
      have z : (some none : Option (Option V)) = some (some v) := h2
      cases z
    | succ k =>
      have h1' : (js.map fun j => X.N.getD j "")[k]? = some y := h1
      have h2' : (js.map fun j => (σ[j]?).getD none)[k]? = some (some v) := h2
      rw [List.getElem?_map] at h1' h2'
      cases hj : js[k]? with
      | none => rw [hj] at h1'; cases h1'
      | some j =>
        rw [hj] at h1' h2'
        have e1 : X.N.getD j "" = y := Option.some.inj h1'
        have e2 : (σ[j]?).getD none = some v := Option.some.inj h2'
        obtain ⟨y', n1, n2, n3, n4⟩ := hjs.all j (List.mem_of_getElem? hj)
        have e3 : y' = y := by rw [← e1, List.getD_eq_getElem?_getD, n1]; rfl
        subst e3
        have e4 : σ[j]? = some (some v) := by
          cases q : σ[j]? with
          | none => rw [q] at e2; cases e2
          | some a => rw [q] at e2; exact congrArg some e2
        obtain ⟨m0, _, hl⟩ := I.loc
        obtain ⟨u, r, l⟩ := hl j y' v n1 e4 (n2.elim (fun z => Or.inr (Or.inl z)) fun z => Or.inr (Or.inr z))
        refine ⟨u, r, .inr ⟨n4, ?_⟩⟩
        rcases l with ⟨l, _⟩ | ⟨_, c, hc, hi⟩
        · exfalso
          rcases n2 with z | z <;> (rw [z] at l; cases l)
        · obtain ⟨c', hc'⟩ := hcl2 y' n3
          have e5 := hcl1 y' c' hc'
          rw [hc] at e5
          have e6 := Option.some.inj e5
          subst e6
          obtain ⟨o, ho, hd⟩ := hi
          exact ⟨c, hc', o, hkeep c o ho, hd⟩
  cell := fun y c h => by
    obtain ⟨v, o, ho, hd⟩ := I.cell y c (hcl1 y c h)
    exact ⟨v, o, hkeep c o ho, hd⟩
  free := I.hok.fresh (Nat.le_refl _)
  freeC := fun y c h => I.freeC y c (hcl1 y c h)
  pin := fun p hp => absurd (show p ∈ ([] : List (Addr × Obj)) from hp) (by simp)
  hok := I.hok.kept hkeep
  len := by
    show (none :: cVals js σ).length = (cNames X x js).length
    simp [cVals, cNames]
end

/-- the tests of a clause -/
def PIf (X : Cx) (ifs : List Expr) (t : TT) : Prop :=
  ∀ (pins : List (Addr × Obj)) (s : Shared) (σ : St) (H : Hp) (Q : Bool → Hp → Prop), Inv X pins σ H s → t σ H Q →
    wpAny (model X.prog X.w) X.A (forIn ifs true fun c r => if r = true then do let ok ← isTrue c X.env (eval c X.env); pure (ForInStep.yield ok) else pure (ForInStep.yield r)) (TP X pins σ Q) X.xe s
def tNoIf : TT := fun _ H Q => Q true H
theorem pif_nil {X : Cx} : PIf X [] tNoIf := fun _ _ _ H _ I h => wpAny_tests_nil ⟨H, I, h⟩

/-- [elt for x in iter if ..]: W an invariant by the turn and a measure; the list grows at D -/
def tComp (wi : TI) (tc : TT) (te : TE) (js : List Nat) : TE := fun σ H Q => wi σ H fun J H1 => ∀ D, H1 D = none →
  ∃ W : Nat → Nat → Hp → Prop, (∃ m, W 0 m (upd H1 D (.lst []))) ∧ ∀ i m H2, W i m H2 → (J.stop i H2 ∧ Q (.ref D) H2) ∨
    (J.go i H2 ∧ ∀ v H3, J.yld i H2 v H3 → tc (some v :: cVals js σ) H3 fun b H4 => if b = true then te (some v :: cVals js σ) H4 fun y H5 =>
      ∃ ys, H5 D = some (.lst ys) ∧ ys.length < sizeLine ∧ ∃ m', m' < m ∧ W (i + 1) m' (upd H5 D (.lst (ys ++ [y]))) else ∃ m', m' < m ∧ W (i + 1) m' H4)

section
variable {X : Cx} {elt iter : Expr} {x : Str} {px pos : Pos} {ifs : List Expr} {scope : Scope} {cl : List (Str × Addr)} {wi : TI} {tc : TT} {te : TE} {js : List Nat}

theorem comp_core {use : Option (Value → Sem Unit)} {Qv : Value → Shared → Prop} {pins : List (Addr × Obj)} {s : Shared} {σ : St} {H : Hp} {Q : VK}
    (hc : X.calm = true) (hi : PI X (.Name x px) iter wi) (hk : scope.kind = .function) (hcell : ∀ y ∈ scope.names, y.2 ≠ .cell) (hx : (relabel scope X.env).names.lookup x = some .local)
    (hcl1 : ∀ y c, cl.lookup y = some c → X.env.cells.lookup y = some c) (hcl2 : ∀ y, (y, NameKind.free) ∈ scope.names → ∃ c, cl.lookup y = some c) (hjs : FreeAt X scope js) (hnd : (cNames X x js).Nodup)
    (ht : ∀ s' H' fp, PIf (cxComp X scope cl (cNames X x js) s' H' fp) ifs tc) (he : ∀ s' H' fp, PE (cxComp X scope cl (cNames X x js) s' H' fp) elt te)
    (I : Inv X pins σ H s) (h : tComp wi tc te js σ H Q)
    (fin : ∀ (D C : Addr) (H' : Hp) (s' : Shared), Inv X pins σ H' s' → FpOk X pins H' C → (∃ m, s'.heap.Ns C m) → Q (.ref D) H' → compPost (model X.prog X.w) X.A X.xe use Qv (.ref D) C (.ok .next) s') :
    wpAny (model X.prog X.w) X.A (eval iter X.env) (fun xv s₁ => wpAny (model X.prog X.w) X.A (pyIter xv) (fun it s₂ => wpAny (model X.prog X.w) X.A (newList []) (fun acc s₃ =>
      wpAny (model X.prog X.w) X.A (newFunctionEnv scope X.env.globals cl [] X.env.qual none .none (some X.env)) (fun cenv s₄ =>
        codeAny (model X.prog X.w) X.A (.compStart (.ListComp elt [⟨.Name x px, iter, ifs, 0⟩] scope pos) 0 it acc { cenv with scope := relabel scope X.env })
          (compPost (model X.prog X.w) X.A X.xe use Qv acc cenv.locals) s₄) X.xe s₃) X.xe s₂) X.xe s₁) X.xe s := by
  refine thn (hi pins s σ H _ I h) fun v s1 h1 => thn h1 fun itv s2 h2 => ?_
  obtain ⟨it, fp, tn, J, H2, e, I2, T, st2, f2, hW⟩ := h2
  subst e
  obtain ⟨W, ⟨m0, w0⟩, turn⟩ := hW s2.heap.objs.size (I2.hok.fresh (Nat.le_refl _))
  have hlt2 : ∀ b ∈ fp, b < s2.heap.objs.size := fun b hb => let ⟨_, e, _⟩ := T.obj _ _ st2 b hb; Heap.lt_size e
  have I3 : Inv X pins σ (upd H2 s2.heap.objs.size (.lst [])) { s2 with heap := s2.heap.push { cls := .type "list", data := .seq ([] : List Value).toArray } } :=
    I2.lnew (t' := s2.toks) (its := []) .nil (Nat.zero_le _)
  refine wpAny_newObj_type ?_
  have k23 : ∀ b o, s2.heap.get? b = some o → (s2.heap.push { cls := .type "list", data := .seq ([] : List Value).toArray }).get? b = some o := fun b o e => Heap.get?_push_of_some _ e
  have sz3 : (s2.heap.push { cls := .type "list", data := .seq ([] : List Value).toArray }).objs.size = s2.heap.objs.size + 1 := Heap.size_push ..
  generalize hs3 : ({ s2 with heap := s2.heap.push { cls := .type "list", data := .seq ([] : List Value).toArray } } : Shared) = s3 at I3
  have hs3' : s3.heap = s2.heap.push { cls := .type "list", data := .seq ([] : List Value).toArray } := by rw [← hs3]
  have hlt3 : ∀ b ∈ fp, b < s3.heap.objs.size := fun b hb => by rw [hs3', sz3]; exact Nat.lt_succ_of_lt (hlt2 b hb)
  have f3 : ∀ b ∈ fp, FpOk X pins (upd H2 s2.heap.objs.size (.lst [])) b := fun b hb => ⟨by rw [upd_ne (Nat.ne_of_lt (hlt2 b hb))]; exact (f2 b hb).1, (f2 b hb).2⟩
  refine wpAny_newFunctionEnv hcell (by intro y hy; simp at hy) (fun h₁ hns hsb => ?_) hk
  have k34 : ∀ b o, s3.heap.get? b = some o → h₁.get? b = some o := fun b o e => hsb.extBut b o (Nat.ne_of_lt (Heap.lt_size e)) (Heap.get?_push_of_some _ e)
  have I4 := comp_start (x := x) (js := js) (tk := s3.toks + ([] : List (Str × Value)).length) I3 hk hcell hcl1 hcl2 hjs f3 hlt3 hns k34
  have st4 : tn 0 h₁ := T.keep 0 _ _ st2 fun b hb o e => k34 b o (by rw [hs3']; exact k23 b o e)
  -- the iterator's records stay what they are
  have stat : ∀ {H' : Hp}, (∀ b ∈ fp, H' b = none) → ∀ b ∈ fp, FpOk (cxComp X scope cl (cNames X x js) s3 (upd H2 s2.heap.objs.size (.lst [])) fp) [] H' b := fun hn b hb =>
    ⟨hn b hb, Nat.ne_of_lt (hlt3 b hb), fun hz => (List.mem_cons.mp (I3.stkSub b hz)).elim (f2 b hb).2.1 (f2 b hb).2.2.1, .inl hb, fun y c q => (f2 b hb).2.2.2.2.1 y c (hcl1 y c q), fun p hp => absurd (show p ∈ ([] : List (Addr × Obj)) from hp) (by simp)⟩
  have back : ∀ {σ' : St} {H' : Hp} {s' : Shared}, Inv (cxComp X scope cl (cNames X x js) s3 (upd H2 s2.heap.objs.size (.lst [])) fp) [] σ' H' s' → Inv X pins σ H' s' := fun {σ' H' s'} J' =>
    I3.call' (ch := fp) J'.os J'.base J'.hok J'.bare fun b hb => ⟨(f2 b hb).2.2.2.1, (f2 b hb).2.1, (f2 b hb).2.2.2.2.1, (f2 b hb).2.2.2.2.2⟩
  have loop : codeAny (model X.prog X.w) X.A (.compLoop (.ListComp elt [⟨.Name x px, iter, ifs, 0⟩] scope pos) 0 (.ref it) (.ref s2.heap.objs.size) (compEnvC scope cl s3.heap.objs.size X.env))
      (compPost (model X.prog X.w) X.A X.xe use Qv (.ref s2.heap.objs.size) s3.heap.objs.size) { s3 with heap := h₁, toks := s3.toks + ([] : List (Str × Value)).length } := by
    refine codeAny_compLoop_tests (fun n s' => ∃ i o H', Inv (cxComp X scope cl (cNames X x js) s3 (upd H2 s2.heap.objs.size (.lst [])) fp) [] (o :: cVals js σ) H' s' ∧ tn i s'.heap ∧ (∀ b ∈ fp, H' b = none) ∧ W i n H') ?_ m0
      ⟨0, none, _, I4, st4, fun b hb => (f3 b hb).1, w0⟩
    rintro n s5 ⟨i, o, H5, I5, st5, fr5, w5⟩
    rcases turn i n H5 w5 with ⟨stop, q⟩ | ⟨go, step⟩
    · refine thn (T.done (cxComp X scope cl (cNames X x js) s3 (upd H2 s2.heap.objs.size (.lst [])) fp) rfl rfl rfl hc i [] s5 _ H5 _ I5 (stat fr5) st5 stop) fun r s6 ⟨hr, I6⟩ => ?_
      subst hr
      exact fin _ _ H5 s6 (back I6) (I3.fpOk (Nat.le_refl _) I6.free) (let ⟨m, hm, _⟩ := I6.loc; ⟨m, hm⟩) q
    · refine thn (T.item (cxComp X scope cl (cNames X x js) s3 (upd H2 s2.heap.objs.size (.lst [])) fp) rfl rfl rfl hc i [] s5 _ H5 _ I5 (stat fr5) st5 go) fun r s6 ⟨u, hr, h6⟩ => ?_
      subst hr
      show wpAny _ _ (assign (.Name x px) _ u) _ _ s6
      intro Γ p hΓ
      have h6' := h6 Γ p hΓ
      obtain ⟨v, H6, I6, r6, y6, st6, fr6⟩ := h6'
      refine (?_ : wpAny _ _ _ _ _ s6) Γ p hΓ
      have I6' := I6.pinned (stat fr6) (T.obj _ _ st6)
      have hg : PG (cxComp X scope cl (cNames X x js) s3 (upd H2 s2.heap.objs.size (.lst [])) fp) (.Name x px) (gName 0) := pg_name (i := 0) hnd rfl (Or.inl hx) (.inr hx)
      refine wpAny_mono (hg _ s6 _ H6 v u (fun σ' H' => σ' = some v :: cVals js σ ∧ H' = H6) I6' r6 ⟨rfl, rfl⟩) (fun _ s7 q7 => ?_) (fun _ _ f => False.elim f)
      obtain ⟨σ7, H7, I7, e7, e8⟩ := q7
      subst e7 e8
      refine wpAny_mono (ht s3 _ fp _ s7 _ H7 _ I7 (step v H7 y6)) (fun ok s8 q8 => ?_) (fun _ _ f => False.elim f)
      obtain ⟨H8, I8, q8⟩ := q8
      have again : ∀ {s9 : Shared} {σ9 : St} {H9 : Hp} {m' : Nat}, Inv (cxComp X scope cl (cNames X x js) s3 (upd H2 s2.heap.objs.size (.lst [])) fp) ([] ++ pinsAt fp s6.heap) (some v :: cVals js σ) H9 s9 → m' < n → W (i + 1) m' H9 →
          ∃ m, m < n ∧ ∃ i o H', Inv (cxComp X scope cl (cNames X x js) s3 (upd H2 s2.heap.objs.size (.lst [])) fp) [] (o :: cVals js σ) H' s9 ∧ tn i s9.heap ∧ (∀ b ∈ fp, H' b = none) ∧ W i m H' := fun {s9 σ9 H9 m'} I9 hm w9 => by
        refine ⟨m', hm, i + 1, some v, H9, I9.unpinned, T.keep _ _ _ st6 fun b hb o e => (I9.pin (b, o) (List.mem_append_right _ (List.mem_append_right _ (mem_pinsAt hb e)))).1, fun b hb => ?_, w9⟩
        obtain ⟨o, e, d⟩ := T.obj _ _ st6 b hb
        exact (I9.pin (b, o) (List.mem_append_right _ (List.mem_append_right _ (mem_pinsAt hb e)))).2.1
      cases ok with
      | false =>
        rw [if_neg Bool.false_ne_true] at q8 ⊢
        obtain ⟨m', hm, w9⟩ := q8
        exact again (σ9 := []) I8 hm w9
      | true =>
        rw [if_pos rfl] at q8 ⊢
        refine wpAny_mono (he s3 _ fp _ s8 _ H8 _ I8 q8) (fun y s9 q9 => ?_) (fun _ _ f => False.elim f)
        obtain ⟨yv, H9, I9, r9, ys, hD, hl, m', hm, w9⟩ := q9
        refine wpAny_mono (mt_append (X := cxComp X scope cl (cNames X x js) s3 (upd H2 s2.heap.objs.size (.lst [])) fp) _ s9 _ H9 (.ref s2.heap.objs.size) [yv] (.ref s2.heap.objs.size) [y] (fun _ H' => H' = upd H9 s2.heap.objs.size (.lst (ys ++ [yv]))) I9 rfl (.cons r9 .nil) ⟨_, ys, yv, rfl, rfl, hD, hl, rfl⟩) (fun _ s10 q10 => ?_) (fun _ _ f => False.elim f)
        obtain ⟨_, H10, I10, _, e10⟩ := q10
        subst e10
        exact again (σ9 := []) I10 hm w9
  exact codeAny_compStart_list loop (T.self _ 0 _ _ _ st4 loop)

/-- the comprehension as an expression -/
theorem pe_comp (hc : X.calm = true) (hi : PI X (.Name x px) iter wi) (hk : scope.kind = .function) (hcell : ∀ y ∈ scope.names, y.2 ≠ .cell) (hnames : ∀ y ∈ scope.names, y.2 = .local → scope.names.lookup y.1 = some .local) (hx : (relabel scope X.env).names.lookup x = some .local)
    (hclos : closureFor scope X.env = pure cl) (hcl1 : ∀ y c, cl.lookup y = some c → X.env.cells.lookup y = some c) (hcl2 : ∀ y, (y, NameKind.free) ∈ scope.names → ∃ c, cl.lookup y = some c) (hjs : FreeAt X scope js) (hnd : (cNames X x js).Nodup)
    (ht : ∀ s' H' fp, PIf (cxComp X scope cl (cNames X x js) s' H' fp) ifs tc) (he : ∀ s' H' fp, PE (cxComp X scope cl (cNames X x js) s' H' fp) elt te)
    (hs : ∀ x, foldedSetIterable iter X.env x = pure x := by intro _; rfl) : PE X (.ListComp elt [⟨.Name x px, iter, ifs, 0⟩] scope pos) (tComp wi tc te js) := by
  intro pins s σ H Q I h
  rw [eval_ListComp]
  refine wpAny_comprehension_free (use := none) rfl hs hclos hk hnames (comp_core hc hi hk hcell hx hcl1 hcl2 hjs hnd ht he I h fun D C H' s' I' fC hC q => ?_)
  obtain ⟨m, hm⟩ := hC
  refine ⟨m, hm, fun h' sb => ?_⟩
  obtain ⟨f0, f1, f2, f3, f4, f5⟩ := fC
  exact ⟨.ref D, H', I'.turned (t' := s'.toks) (fun b o hb e => (sb.2 b hb).trans e) f0 f1 f3 f4 f5, rfl, q⟩

end
end L2


set_option Elab.async false
set_option linter.all false
set_option maxRecDepth 100000
set_option maxHeartbeats 4000000
namespace L2
open PySem PySem.Spec PyProof.Rows

/-! ### a def of the text: where it stands, what it promises -/
/-- the def st stands at the top by the name x -/
structure TopDef (K : PySem.W.Frag) (mg : Str → Option Value) (x : Str) (st : Stmt) : Prop where
  ex : ∃ (f : Addr) (fd : FuncData), Fun K x x st f fd ∧ mg x = some (.ref f)
theorem top_mk {K : PySem.W.Frag} {h : Heap} {mg : Str → Option Value} {x : Str} {st : Stmt} {f : Addr} {oc kV doc pm cdv ct : Value} {od an : Option Addr} {osl : Array (Option Value)} (X : K.In h) (G : h.Ns mainGlobals mg)
    (a : PySem.W.nsIn K mainGlobals x = some (some (.ref f)))
    (l : K.lookup f = some ⟨oc, od, .func (PySem.W.fnOf x x (defArgs st) (defBody st) (defScope st) .none kV doc pm an cdv ct), osl⟩)
    (c : PySem.W.codeIn K cdv x = true) (k : PySem.W.keepIn K (.ref f) = true) : TopDef K mg x st :=
  ⟨_, _, fun_mk l c k, PySem.W.mg_of X G a⟩
/-- the def by the name x keeps sp, within n calls of one another -/
structure Def (P : Program) (w : World) (K : PySem.W.Frag) (mg : Str → Option Value) (base : Heap) (n : Nat) (x : Str) (ps : List Str) (sp : Sp) : Prop where
  ex : ∃ (f : Addr) (fd : FuncData), FnOk P w K mg base CX0 n f fd ps sp ∧ Binds K fd ps [] ∧ PySem.W.keepIn K (.ref f) = true ∧ mg x = some (.ref f)
section
variable {P : Program} {w : World} {K : PySem.W.Frag} {mg : Str → Option Value} {base : Heap}
theorem def_of {x : Str} {st : Stmt} {N ps : List Str} {k : Nat} {sp : Sp} (T : TopDef K mg x st) (S : FnScope N ps (defScope st))
    (bd : ∀ (kV doc pm : Value) (an : Option Addr) (cdv ct : Value) (us : List Value), us.length = ps.length → bindArgs (PySem.W.fnOf x x (defArgs st) (defBody st) (defScope st) .none kV doc pm an cdv ct) ⟨us, []⟩ = pure (ps.zip us))
    (len : ∀ vs H Q E, sp vs H Q E → vs.length = ps.length)
    (body : ∀ (f : Addr) (cdv : Value) (A : Around) (outer : List Env) (s : Shared) (H : Hp) (vs : List V) (Q : VK) (E : XK), Room k (A.deeper (envOfC x (defScope st) s.heap.objs.size f cdv)) → sp vs H Q E →
      ∃ t, PSs (cxOf CX0 P w K mg base N x (defScope st) f cdv A outer s H E).nox (defBody st) t ∧ t { nx := fun _ H' => Q .non H', rt := Q } (start N vs) H) :
    Def P w K mg base (k + 1) x ps sp := by
  obtain ⟨f, fd, F, m⟩ := T.ex
  exact ⟨f, fd, F.ok S len (body f), F.binds bd, F.kp, m⟩
end
section
variable {X : Cx} {n : Nat} {x : Str} {ps : List Str} {sp : Sp} {e a b : Expr} {es : List Expr} {t : TA} {ta tb : TE} {p pos : Pos}
/-- f(..) of such a def -/
theorem pe_def (D : Def X.prog X.w X.K X.mg X.base n x ps sp) (hr : Room n X.A) (hg : Gl X x) (ha : PA X (e :: es) t) (hdb : (x == ("__debug__" : Str)) = false := by decide)
    (he : starEach (e :: es) X.env = (false, eval e X.env) :: starEach es X.env := by rfl) (hpl : (backTo pos (starEach es X.env)).any (·.1) = false := by rfl) :
    PE X (.Call (.Name x p) (e :: es) [] pos) (tCall sp [] E0 t) := by
  obtain ⟨f, fd, F, b, kp, m⟩ := D.ex
  exact pe_call F hr hg m kp b .nil pass0 ha hdb he hpl

/-! ### ints of any size -/
theorem op_mulK : OpR X (binaryOp .Mult) (rI IntMulOk fun i j => .int (i * j)) := opI fun _ _ _ _ _ _ _ hc q => PyProof.Rows.mul_int q hc

/-! ### isinstance(x, c) -/
theorem call_isi : CallR X (.builtin "isinstance") (fun xs H Q => ∃ (y : V) (c : V) (cv t : Value) (k : Bool), xs = [y, c] ∧ (∀ u, RelV c u → u = cv) ∧ TyOf X.K H y t ∧ PySem.W.kitOne X.K t cv = some k ∧ Q (.bl k) H) := by
  intro pins s σ H xs us Q I r h
  obtain ⟨y, c, cv, t, k, rfl, hc, ty, kt, q⟩ := h
  obtain ⟨u, w', rfl, r1, r2⟩ := vals2 r
  have e := hc _ r2
  subst e
  exact isinst_ok I r1 ty kt fun tk => ⟨.bl k, H, I.tok tk, rfl, q⟩
/-! ### sep.join(a list of texts) -/
end
end L2


set_option Elab.async false
set_option linter.all false
set_option maxRecDepth 100000
set_option maxHeartbeats 4000000
namespace L2
open PySem PySem.Spec PySem.Calls PyProof.Rows PySem.W PySem.Builtin.Getset_descriptor
section
variable {prog : Program} {w : World} {A : Around} {E : Value → Shared → Prop} {s : Shared} {K : Frag} {x D : Addr}
end
end L2


set_option Elab.async false
set_option linter.all false
set_option maxRecDepth 100000
set_option maxHeartbeats 4000000
namespace L2
open PySem PySem.Spec PyProof.Rows
section
variable {P : Program} {w : World} {H : Hp} {h : Heap} {a : Addr} {o : HO}
end

/-! ### how an exception lies behind a call: ea the object, C its class; whatever is tracked, or stood ahead of the call, stands in B, which stays -/

/-! ### raise: the exception leaves the def -/
section
variable {P : Program} {w : World} {K : PySem.W.Frag} {mg : Str → Option Value} {base : Heap} {N : List Str} {qual : Str} {scope : Scope} {f : Addr} {cd : Value} {A : Around} {outer : List Env} {s : Shared} {H : Hp} {E : XK}
end
end L2


set_option Elab.async false
set_option linter.all false
set_option maxRecDepth 100000
set_option maxHeartbeats 4000000
namespace L2
open PySem PySem.Spec PyProof.Rows PySem.W

/-! ### raise X(..) of an own class without __init__ -/

section
variable {P : Program} {w : World} {K : Frag} {mg : Str → Option Value} {base : Heap} {N : List Str} {qual : Str} {scope : Scope} {f : Addr} {cd : Value} {A : Around} {outer : List Env} {s : Shared} {H : Hp} {E : XK}
end

/-! ### a def that may raise -/

/-! ### except X -/
end L2


set_option Elab.async false
set_option linter.all false
set_option maxRecDepth 100000
set_option maxHeartbeats 4000000
namespace L2
open PySem PySem.Spec PyProof.Rows PySem.W

section
variable {X : Cx} {pins : List (Addr × Obj)} {σ : St} {H H' : Hp} {s s' : Shared}
end
end L2


set_option Elab.async false
set_option linter.all false
set_option maxRecDepth 100000
set_option maxHeartbeats 4000000
namespace L2
open PySem PySem.Spec PyProof.Rows PySem.W

/-! ### try: f(..) except Y as n: suite -/

/-! ### isinstance(an exception that was caught, c) -/
end L2


set_option Elab.async false
set_option linter.all false
set_option maxRecDepth 100000
set_option maxHeartbeats 4000000
namespace L2
open PySem PySem.Spec PyProof.Rows PySem.W
section
variable {X : Cx}
/-! ### == of two tuples of ints -/

/-! ### a, b = a list -/

/-! ### a comprehension's free names -/
theorem clo_aux {env : Env} : ∀ (names : List (Str × NameKind)) (acc : List (Str × Addr)), (∀ y, (y, NameKind.free) ∈ names → ∃ c, env.cells.lookup y = some c) →
    ∃ cl : List (Str × Addr), (forIn names acc (fun x r => match x with
        | (name, kind) => if (kind == NameKind.free) = true then do let a ← cellOf env name; pure (ForInStep.yield ((name, a) :: r)) else pure (ForInStep.yield r)) : Sem _) = pure cl ∧
      (∀ y c, cl.lookup y = some c → acc.lookup y = some c ∨ env.cells.lookup y = some c) ∧ (∀ y, (y, NameKind.free) ∈ names → ∃ c, cl.lookup y = some c) ∧ ∀ y, (∃ c, acc.lookup y = some c) → ∃ c, cl.lookup y = some c
  | [], acc, _ => ⟨acc, rfl, fun _ _ h => .inl h, (fun _ h => nomatch h), fun _ h => h⟩
  | (nm, kd) :: r, acc, h => by
    by_cases hk : kd = .free
    · subst hk
      obtain ⟨c, hc⟩ := h nm List.mem_cons_self
      obtain ⟨cl, e, p1, p2, p3⟩ := clo_aux r ((nm, c) :: acc) fun y hy => h y (List.mem_cons_of_mem _ hy)
      refine ⟨cl, ?_, fun y d hd => ?_, fun y hy => ?_, fun y hy => ?_⟩
      · rw [List.forIn_cons]
        have z : cellOf env nm = pure c := by unfold cellOf; rw [hc]
        simp only [z, beq_self_eq_true, if_true]
        exact e
      · rcases p1 y d hd with q | q
        · rw [List.lookup_cons] at q
          cases hy : y == nm with
          | true =>
            rw [hy] at q
            have e1 := beq_iff_eq.mp hy
            subst e1
            cases q
            exact .inr hc
          | false => rw [hy] at q; exact .inl q
        · exact .inr q
      · rcases List.mem_cons.mp hy with q | q
        · cases q
          exact p3 nm ⟨c, by rw [List.lookup_cons, beq_self_eq_true]⟩
        · exact p2 y q
      · obtain ⟨d, hd⟩ := hy
        refine p3 y ?_
        rw [List.lookup_cons]
        cases y == nm with
        | true => exact ⟨c, rfl⟩
        | false => exact ⟨d, hd⟩
    · obtain ⟨cl, e, p1, p2, p3⟩ := clo_aux r acc fun y hy => h y (List.mem_cons_of_mem _ hy)
      refine ⟨cl, ?_, p1, fun y hy => ?_, p3⟩
      · rw [List.forIn_cons]
        have z : (kd == NameKind.free) = false := by simpa using hk
        simp only [z, Bool.false_eq_true, if_false]
        exact e
      · rcases List.mem_cons.mp hy with q | q
        · cases q; exact absurd rfl hk
        · exact p2 y q
theorem clo_of {scope : Scope} {env : Env} (h : ∀ y, (y, NameKind.free) ∈ scope.names → ∃ c, env.cells.lookup y = some c) :
    ∃ cl, closureFor scope env = pure cl ∧ (∀ y c, cl.lookup y = some c → env.cells.lookup y = some c) ∧ ∀ y, (y, NameKind.free) ∈ scope.names → ∃ c, cl.lookup y = some c := by
  obtain ⟨cl, e, p1, p2, _⟩ := clo_aux (env := env) scope.names [] h
  refine ⟨cl, ?_, fun y c hc => (p1 y c hc).elim (fun z => by cases z) fun z => z, p2⟩
  unfold closureFor
  show (forIn scope.names [] _ >>= fun s => pure s) = pure cl
  rw [bind_pure]
  exact e
/-- what the block's free names ask: each is one of those at js -/
theorem free_of {scope : Scope} {js : List Nat} {pins : List (Addr × Obj)} {σ : St} {H : Hp} {s : Shared} (I : Inv X pins σ H s) (hf : ∀ y, (y, NameKind.free) ∈ scope.names → X.env.kindOf y = some .cell ∨ X.env.kindOf y = some .free) :
    ∀ y, (y, NameKind.free) ∈ scope.names → ∃ c, X.env.cells.lookup y = some c := fun y hy => I.ok.has y (hf y hy)
variable {elt iter : Expr} {x : Str} {px pos : Pos} {ifs : List Expr} {scope : Scope} {wi : TI} {tc : TT} {te : TE} {js : List Nat}
theorem pe_compF (hc : X.calm = true) (hi : PI X (.Name x px) iter wi) (hk : scope.kind = .function) (hcell : ∀ y ∈ scope.names, y.2 ≠ .cell) (hnames : ∀ y ∈ scope.names, y.2 = .local → scope.names.lookup y.1 = some .local) (hx : (relabel scope X.env).names.lookup x = some .local)
    (hf : ∀ p ∈ scope.names, p.2 = .free → X.env.kindOf p.1 = some .cell ∨ X.env.kindOf p.1 = some .free) (hjs : FreeAt X scope js) (hnd : (cNames X x js).Nodup)
    (ht : ∀ cl s' H' fp, PIf (cxComp X scope cl (cNames X x js) s' H' fp) ifs tc) (he : ∀ cl s' H' fp, PE (cxComp X scope cl (cNames X x js) s' H' fp) elt te)
    (hs : ∀ x, foldedSetIterable iter X.env x = pure x := by intro _; rfl) : PE X (.ListComp elt [⟨.Name x px, iter, ifs, 0⟩] scope pos) (tComp wi tc te js) := by
  intro pins s σ H Q I h
  obtain ⟨cl, e, p1, p2⟩ := clo_of (free_of (js := js) I fun y hy => hf (y, .free) hy rfl)
  exact pe_comp hc hi hk hcell hnames hx e p1 p2 hjs hnd (ht cl) (he cl) hs pins s σ H Q I h
end
end L2


set_option Elab.async false
set_option maxRecDepth 100000
set_option maxHeartbeats 4000000
/-! ### the law's call, with the bound of its ints' bits -/
namespace L2
open PySem PySem.Spec PyProof.Rows PySem.W
theorem weight_mem : ∀ {ns : List Int} {n : Int}, n ∈ ns → WData.weight (.int n) ≤ WData.weightAll (ns.map WData.int)
  | [], _, h => nomatch h
  | m :: r, n, h => by
    show _ ≤ WData.weight (.int m) + 1 + WData.weightAll (r.map WData.int)
    rcases List.mem_cons.mp h with e | e
    · subst e; omega
    · have := weight_mem (ns := r) e
      omega
theorem bits_weight (n : Int) : Builtin.Int.intBits n = WData.weight (.int n) := by
  show _ = if n == 0 then 0 else n.natAbs.log2 + 1
  unfold Builtin.Int.intBits
  by_cases h : n = 0
  · subst h; rfl
  · simp [h]
theorem script_bits {ns : List Int} (h : WData.layableAll [.list (ns.map .int)] = true) : ∀ n ∈ ns, Builtin.Int.intBits n ≤ 1048576 := fun n hn => by
  have h1 : WData.layable (.list (ns.map .int)) = true := by
    simpa [WData.layableAll] using h
  have h2 : WData.weight (.list (ns.map .int)) ≤ 2 ^ 20 := by
    unfold WData.layable at h1
    rw [Bool.and_eq_true, Bool.and_eq_true] at h1
    exact of_decide_eq_true h1.2
  have h3 : WData.weightAll (ns.map WData.int) ≤ 2 ^ 20 := h2
  have h4 := weight_mem hn
  rw [bits_weight]
  omega
theorem walk_bits {l : OpenLaw} {n k : Nat} {q : Program} {loose : List Str} {XP : (Str → Option Value) → Heap → Prop} {YP : World → Heap → Prop} {d : DefRec} {K : Params → Frag} {CX : CXT} {sp : Frag → Sp} {x : Str}
    (hn : l.most = some n) (hn2 : n ≤ sizeLine) (hdf : d.params.defaults = []) (hr : Room k callerA) (hY : ∀ (w : World) (h : Heap), YP w h → (K w.params).In h)
    (F : ∀ (w : World) (mg : Str → Option Value) (fa : Addr) (h : Heap), (K w.params).In h → h.Ns mainGlobals mg → mg d.name = some (.ref fa) →
      ∃ fd : FuncData, (∀ (s : Shared) (u : Value), BindsTo s fd ⟨[u], []⟩ [(x, u)]) ∧ ∀ base : Heap, (K w.params).In base → base.Ns mainGlobals mg → FnOk l.prog w (K w.params) mg base CX k fa fd [x] (sp (K w.params)))
    (hsp : ∀ (K : Frag) (H : Hp) (a : Addr) (ns : List Int), ns.length ≤ n → (∀ m ∈ ns, Builtin.Int.intBits m ≤ 1048576) → Only H → SqL K H a (ns.map V.int) → sp K [.ref a] H (fun v _ => v = .bl true) fun _ _ _ => False)
    (hCX : ∀ (H : Hp) (s : Shared) (e : Value) (s' : Shared), CX [] H s (fun _ _ _ => False) e s' → False) : WalkO q loose XP YP l.row.toRowW d [] (fun f vs => PySem.call f vs) := by
  intro w s₀ s₁ mg mb G Y fa o pm cd doc dV kV ho hd hcd hD hmg hg args vals as hpre hlay hrd hwl hlo
  obtain rfl : dV = .none := Dflts.none hD hdf
  obtain rfl : kV = .none := Dflts.noKw hD
  obtain ⟨a, vs, ns, rfl, rfl, hobj, hints, hlen⟩ := Att.script_of hn hpre hwl
  have KX := hY w _ Y
  obtain ⟨fd, hb, hF⟩ := F w mg fa _ KX G.T.g hmg
  have c := law_call KX G.T.g G.T.b G.T.builtins G.T.nolimit hg hobj hints (Nat.le_trans hlen hn2) hr hF hb (fun H hO hS => hsp (K w.params) H a ns hlen (script_bits hlay) hO hS) fun H e s' => hCX H s₁ e s'
  refine enter_call (codeAny_mono c fun r s' hq => ?_)
  obtain ⟨rfl, h2, h3, h4⟩ := hq
  exact ⟨.inl ⟨.bool true, .bool true, [], rfl, fun _ => rfl, .bool true, Att.post_true l _, fun _ => ⟨List.Pairwise.nil, fun _ hm => (nomatch hm)⟩⟩, h2, h3, h4⟩
end L2


namespace L2
open PySem PySem.Spec PyProof.Rows

/-! ### lists of pairs as tables -/
section
variable {κ : Type} [DecidableEq κ]



end


/-! ### a tracked dict, its keys ints and texts or tuples of these -/


section
variable {P : Program} {w : World} {H : Hp} {h : Heap} {a : Addr}
end



section
variable {X : Cx} {pins : List (Addr × Obj)} {σ : St} {H : Hp} {s : Shared} {a : Addr} {y v : V} {u r : Value} {o : Option V} {A : Around} {E : Value → Shared → Prop}


end

section
variable {X : Cx} {pins : List (Addr × Obj)} {σ : St} {H : Hp} {s : Shared} {a : Addr} {kvs : List (Key × V)} {k : Key} {u : Value} {A : Around} {E : Value → Shared → Prop}
end


/-! ### readings and rules -/



section
variable {X : Cx} {o i e value : Expr} {pos pos' tpos : Pos} {td ty tv : TE}
end


/-! ### displays -/
section
variable {X : Cx} {pos : Pos}
end




/-! ### methods -/


section
variable {X : Cx} {pins : List (Addr × Obj)} {σ : St} {H : Hp} {s : Shared} {a : Addr} {y d : V} {u r : Value} {o : Option V} {A : Around} {E : Value → Shared → Prop}
end

section
variable {X : Cx} {o e f : Expr} {apos cpos : Pos} {td ty tx : TE}
end

/-! ### dict(d): a copy -/
section
variable {X : Cx} {pins : List (Addr × Obj)} {σ : St} {H : Hp} {s : Shared} {a : Addr} {kvs : List (Key × V)} {A : Around} {E : Value → Shared → Prop}
end


section
variable {X : Cx} {pins : List (Addr × Obj)} {σ : St} {H : Hp} {s : Shared} {a : Addr} {y : V} {u : Value} {A : Around} {E : Value → Shared → Prop}
end
end L2


set_option Elab.async false
set_option linter.all false
set_option maxRecDepth 100000
set_option maxHeartbeats 4000000
namespace L2
open PySem PySem.Spec PyProof.Rows
/-! ### list(reversed(a list)) -/
section
variable {prog : Program} {w : World} {A : Around} {E : Value → Shared → Prop} {s : Shared} {R : Result → Shared → Prop} {l it S : Addr} {items : Array Value}
end
end L2


set_option Elab.async false
set_option linter.all false
set_option maxRecDepth 100000
set_option maxHeartbeats 4000000
namespace L2
open PySem PySem.Spec PyProof.Rows
/-! ### a method of whatever class the object is of -/
/-- the method m of the class C keeps sp -/
structure MethOk (P : Program) (w : World) (K : PySem.W.Frag) (mg : Str → Option Value) (base : Heap) (C : Addr) (m : Str) (k : Nat) (ps : List Str) (sp : Sp) : Prop where
  cl : Cls K C
  ex : ∃ (f : Addr) (fd : FuncData), Meth K C m f ∧ FnOk P w K mg base CX0 k f fd ps sp ∧ Binds K fd ps []
section
variable {X : Cx} {o e : Expr} {es : List Expr} {ta te : TE} {t : TA} {m x : Str} {k : Nat} {p pos apos p2 pos2 : Pos} {C : Addr}
def tMethD (X : Cx) (k : Nat) (m : Str) (ta : TE) (t : TA) : TE := fun σ H Q => ta σ H fun x H1 => ∃ (a C dx : Addr) (fs : List (Str × V)) (ps : List Str) (sp : Sp), x = .ref a ∧ H1 a = some (.ins C dx fs) ∧ fs.lookup m = none ∧
  MethOk X.prog X.w X.K X.mg X.base C m k ps sp ∧ t σ H1 fun vs H2 => sp (.ref a :: vs) H2 Q E0
/-- o.m() -/
theorem pe_methD0 {pl : Sem Bool} (he : PE X o ta) (hr : Room k X.A)
    (ht : eval (.Call (.Attribute o m apos) [] [] pos) X.env = (do
      let ov ← eval o X.env
      standAt apos.atName
      let (f, first) ← holding [ov] (getMethod ov m pl)
      callWith pos f first (backTo pos (starEach [] X.env)) (backToKw pos (keywordEach [] X.env))) := by rfl) :
    PE X (.Call (.Attribute o m apos) [] [] pos) (tMethD X k m ta tNil) := by
  intro pins s σ H Q I h
  refine PySem.W.methodCall_KW (pl := pl) (thn (he pins s σ H _ I h) fun u s1 ⟨y, H1, I1, ry, a, C, dx, fs, ps, sp, ey, ea, lo, M, q⟩ => ?_) ht
  subst ey
  have eu : u = Value.ref a := ry
  subst eu
  obtain ⟨f, fd, hm, G, hb⟩ := M.ex
  refine getmeth_ok I1 ea M.cl hm lo ?_
  exact PySem.W.callWith_K0 (first := [.ref a]) I1.kIn hm.kp (run_fn (us := [.ref a]) (vs := [.ref a]) G hr hb .nil pass0 I1 (.cons rfl .nil) q)
/-- o.m(e, ..) -/
theorem pe_methD {pl : Sem Bool} (he : PE X o ta) (hr : Room k X.A) (ha : PA X (e :: es) t)
    (hst : starEach (e :: es) X.env = (false, eval e X.env) :: starEach es X.env := by rfl) (hpl : (backTo pos (starEach es X.env)).any (·.1) = false := by rfl)
    (ht : eval (.Call (.Attribute o m apos) (e :: es) [] pos) X.env = (do
      let ov ← eval o X.env
      standAt apos.atName
      let (f, first) ← holding [ov] (getMethod ov m pl)
      callWith pos f first (backTo pos (starEach (e :: es) X.env)) (backToKw pos (keywordEach [] X.env))) := by rfl) :
    PE X (.Call (.Attribute o m apos) (e :: es) [] pos) (tMethD X k m ta t) := by
  intro pins s σ H Q I h
  refine PySem.W.methodCall_KW (pl := pl) (thn (he pins s σ H _ I h) fun u s1 ⟨y, H1, I1, ry, a, C, dx, fs, ps, sp, ey, ea, lo, M, q⟩ => ?_) ht
  subst ey
  have eu : u = Value.ref a := ry
  subst eu
  obtain ⟨f, fd, hm, G, hb⟩ := M.ex
  refine getmeth_ok I1 ea M.cl hm lo ?_
  refine PySem.W.callWith_K (first := [.ref a]) (h₀ := X.base) I.ok.mod.kin hm.kp (thn (ha pos pins s1 σ H1 _ I1 q) fun us s2 ⟨vs, H2, I2, r2, q2⟩ => ⟨I2.kIn, ?_⟩) hst hpl
  refine run_fn (us := .ref a :: us) (vs := .ref a :: vs) (dvs := []) G hr hb .nil pass0 I2 (.cons rfl r2) ?_
  rw [List.append_nil]
  exact q2
/-! ### C(), no __init__ of its own -/
structure Mk0 (K : PySem.W.Frag) (C : Addr) : Prop where
  makes : PySem.W.makesIn K C = true
  init : PySem.W.findIn K (.ref C) "__init__" = some (some (.builtin "object.__init__"))
  kp : PySem.W.keepIn K (.ref C) = true
def tMakeN (C : Addr) : TE := fun _ H Q => ∀ a dx, H a = none → H dx = none → dx ≠ a → Q (.ref a) (upd (upd H dx (.own a)) a (.ins C dx []))
theorem pe_makeN (M : Mk0 X.K C) (hg : Gl X x) (hm : X.mg x = some (.ref C)) (hdb : (x == ("__debug__" : Str)) = false := by decide) : PE X (.Call (.Name x p) [] [] pos) (tMakeN C) := by
  intro pins s σ H Q I h
  refine wpAny_Call_Name_kw (ld_glob I hg hm ?_ hdb)
  refine PySem.W.callWith_K0 I.kIn M.kp (wpAny_call ?_)
  have Y := PySem.W.makes_of (M := model X.prog X.w) I.kIn M.makes
  refine make_map0 I.kIn M.makes M.init (fun self => PySem.W.Looks.of_pure (PySem.W.oi_bind self)) ?_
  have I2 := Inv.made (C := C) I
  have e2 : ((s.heap.push PySem.W.emptyDict).push (PySem.W.instObj C s.heap.objs.size)).get? (s.heap.objs.size + 1) = some (PySem.W.instObj C s.heap.objs.size) := by
    have z := Heap.get?_push_size (s.heap.push PySem.W.emptyDict) (o := PySem.W.instObj C s.heap.objs.size) rfl
    rwa [Heap.size_push] at z
  have t1 : PySem.W.Looks (model X.prog X.w) ((s.heap.push PySem.W.emptyDict).push (PySem.W.instObj C s.heap.objs.size)) (typeOf (.ref (s.heap.objs.size + 1))) (.ref C) := (PySem.W.Looks.ld e2).andThen .now
  have t2 : PySem.W.Looks (model X.prog X.w) ((s.heap.push PySem.W.emptyDict).push (PySem.W.instObj C s.heap.objs.size)) (isInstance (.ref (s.heap.objs.size + 1)) (.type "object")) true :=
    t1.andThen (Y.top.keeps fun b q z => Heap.get?_push_of_some _ (Heap.get?_push_of_some _ z))
  have z := h (s.heap.objs.size + 1) s.heap.objs.size (I.hok.fresh (Nat.le_succ _)) (I.hok.fresh (Nat.le_refl _)) (Nat.ne_of_lt (Nat.lt_succ_self _))
  refine codeAny_call_builtin PySem.W.oi_plain PySem.W.entry_oi (PySem.W.check_slot (i := "object.__init__") (owner := "object") (n := "__init__") (self := .ref (s.heap.objs.size + 1)) (rest := []) (kw := []) PySem.W.oi_kind PySem.W.oi_split t2 (PySem.W.oi_args _) ?_)
  rw [PySem.W.oi_run]
  exact wpAny_pure (And.intro rfl ⟨V.ref (s.heap.objs.size + 1), _, I2, rfl, z⟩)
/-! ### list(reversed(e)) -/
/-! ### != of two lists of texts -/
end
end L2


set_option Elab.async false
set_option linter.all false
set_option maxRecDepth 100000
set_option maxHeartbeats 4000000
namespace Mine
open PySem
/-! ### sayings as trees -/
inductive W5 where
  | more | less | greater | lesser | leads
def W5.str : W5 → Str
  | .more => "more" | .less => "less" | .greater => "greater" | .lesser => "lesser" | .leads => "leads"
inductive Tr where
  | never | always | lp | lq
  | no (t : Tr)
  | fold (w : W5) (a b : Tr)
def Tr.size : Tr → Nat
  | .no t => t.size + 1
  | .fold _ a b => a.size + b.size + 1
  | _ => 1
theorem Tr.size_pos : ∀ t : Tr, 1 ≤ t.size
  | .never | .always | .lp | .lq => Nat.le_refl _
  | .no _ => Nat.le_add_left _ _
  | .fold _ _ _ => Nat.le_add_left _ _
/-! ### a text is of one tree -/
/-! ### worths, putting in, the parts in their order -/
def W5.worth (w : W5) (n a b : Int) : Int := match w with
  | .more => min (a + b) n
  | .less => max (a + b - n) 0
  | .greater => max a b
  | .lesser => min a b
  | .leads => min (n - a + b) n
/-- what is told of a tree by what is told of its parts -/
structure Alg (α : Type) where
  leaf : Tr → α
  no : α → α
  fold : W5 → α → α → α
def Alg.val {α : Type} (G : Alg α) : Tr → α
  | .no t => G.no (G.val t)
  | .fold w a b => G.fold w (G.val a) (G.val b)
  | t => G.leaf t
def Tr.post : Tr → List Tr
  | .no t => t.post ++ [.no t]
  | .fold w a b => a.post ++ b.post ++ [.fold w a b]
  | t => [t]
theorem post_len : ∀ t : Tr, t.post.length = t.size
  | .no t => by simp [Tr.post, Tr.size, post_len t]
  | .fold w a b => by simp [Tr.post, Tr.size, post_len a, post_len b]; omega
  | .never => rfl
  | .always => rfl
  | .lp => rfl
  | .lq => rfl
/-- one part on the stack of what was told, the last one ahead -/
def Alg.step {α : Type} (G : Alg α) : List α → Tr → Option (List α)
  | a :: R, .no _ => some (G.no a :: R)
  | b :: a :: R, .fold w _ _ => some (G.fold w a b :: R)
  | [], .no _ => none
  | [], .fold _ _ _ => none
  | [_], .fold _ _ _ => none
  | R, t => some (G.leaf t :: R)
def Alg.run {α : Type} (G : Alg α) : List α → List Tr → Option (List α)
  | R, [] => some R
  | R, t :: r => (G.step R t).bind fun R' => G.run R' r
theorem run_post {α : Type} (G : Alg α) : ∀ (t : Tr) (R : List α) (r : List Tr), G.run R (t.post ++ r) = G.run (G.val t :: R) r
  | .no t, R, r => by
    show G.run R (t.post ++ [.no t] ++ r) = _
    rw [List.append_assoc, run_post G t R]
    cases R <;> rfl
  | .fold w a b, R, r => by
    show G.run R (a.post ++ b.post ++ [.fold w a b] ++ r) = _
    rw [List.append_assoc, List.append_assoc, run_post G a R, run_post G b _]
    cases R <;> rfl
  | .never, R, r => by cases R with
    | nil => rfl
    | cons a R => cases R <;> rfl
  | .always, R, r => by cases R with
    | nil => rfl
    | cons a R => cases R <;> rfl
  | .lp, R, r => by cases R with
    | nil => rfl
    | cons a R => cases R <;> rfl
  | .lq, R, r => by cases R with
    | nil => rfl
    | cons a R => cases R <;> rfl
theorem run_all {α : Type} (G : Alg α) (t : Tr) : G.run [] t.post = some [G.val t] := by
  have h := run_post G t [] []
  rw [List.append_nil] at h
  rw [h]
  rfl
def worthAlg (n x y : Int) : Alg Int where
  leaf := fun t => match t with
    | .always => n
    | .lp => x
    | .lq => y
    | _ => 0
  no := fun a => n - a
  fold := fun w a b => w.worth n a b
abbrev Tr.worth (n x y : Int) (t : Tr) : Int := (worthAlg n x y).val t
end Mine


set_option Elab.async false
set_option linter.all false
set_option maxRecDepth 100000
set_option maxHeartbeats 4000000
namespace L2
open PySem PySem.Spec PyProof.Rows

/-! ### data in the heap: ints, truths, texts, None, and tuples of these -/
mutual
def Dat (K : PySem.W.Frag) (H : Hp) : PyData → V → Prop
  | .none, v => v = .non
  | .bool b, v => v = .bl b
  | .int i, v => v = .int i
  | .str x, v => v = .str x
  | .tuple ds, v => ∃ a xs, v = .ref a ∧ SqT K H a xs ∧ DatAll K H ds xs
  | .list _, _ => False
  | .dict _, _ => False
def DatAll (K : PySem.W.Frag) (H : Hp) : List PyData → List V → Prop
  | [], xs => xs = []
  | d :: ds, xs => ∃ x r, xs = x :: r ∧ Dat K H d x ∧ DatAll K H ds r
end
/-- tuples, and what is frozen, stay -/
structure Tst (H H' : Hp) : Prop where
  t : ∀ b xs, H b = some (.tup xs) → H' b = some (.tup xs)
  f : ∀ b o u, H b = some (.frz o u) → H' b = some (.frz o u)
theorem Same.ts {H H' : Hp} (e : Same H H') : Tst H H' := ⟨fun b xs h => e b _ h, fun b o u h => e b _ h⟩
theorem SqT.ts {K : PySem.W.Frag} {H H' : Hp} {a : Addr} {xs : List V} (h : SqT K H a xs) (e : Tst H H') : SqT K H' a xs := by
  rcases h with (h | ⟨o, h⟩) | h
  · exact .inl (.inl (e.t _ _ h))
  · exact .inl (.inr ⟨o, e.f _ _ _ h⟩)
  · exact .inr h
mutual
theorem Dat.ts {K : PySem.W.Frag} {H H' : Hp} (e : Tst H H') : ∀ {d : PyData} {v : V}, Dat K H d v → Dat K H' d v
  | .none, _, h => h
  | .bool _, _, h => h
  | .int _, _, h => h
  | .str _, _, h => h
  | .tuple _, _, ⟨a, xs, h1, h2, h3⟩ => ⟨a, xs, h1, h2.ts e, DatAll.ts e h3⟩
  | .list _, _, h => h
  | .dict _, _, h => h
theorem DatAll.ts {K : PySem.W.Frag} {H H' : Hp} (e : Tst H H') : ∀ {ds : List PyData} {xs : List V}, DatAll K H ds xs → DatAll K H' ds xs
  | [], _, h => h
  | _ :: _, _, ⟨x, r, h1, h2, h3⟩ => ⟨x, r, h1, Dat.ts e h2, DatAll.ts e h3⟩
end
mutual
theorem Dat.reads {X : Cx} {pins : List (Addr × Obj)} {σ : St} {H : Hp} {s : Shared} (I : Inv X pins σ H s) : ∀ (d : PyData) {v : V} {u : Value}, Dat X.K H d v → RelV v u → ∃ as, Reads s.heap u d as
  | .none, _, _, h, r => by
    cases (show _ = V.non from h)
    cases (show _ = Value.none from r)
    exact ⟨[], .none⟩
  | .bool b, _, _, h, r => by
    cases (show _ = V.bl b from h)
    cases (show _ = Value.bool b from r)
    exact ⟨[], .bool b⟩
  | .int i, _, _, h, r => by
    cases (show _ = V.int i from h)
    obtain ⟨t, q⟩ := (show ∃ t, _ = Value.int i t from r)
    cases q
    exact ⟨[], .int i t⟩
  | .str x, _, _, h, r => by
    cases (show _ = V.str x from h)
    obtain ⟨t, q⟩ := (show ∃ t, _ = Value.str x t from r)
    cases q
    exact ⟨[], .str x t⟩
  | .tuple ds, _, _, ⟨a, xs, h1, h2, h3⟩, r => by
    cases h1
    cases (show _ = Value.ref a from r)
    obtain ⟨its, rv, ⟨o, ho, hc, n, hd⟩, _⟩ := I.tuple h2
    obtain ⟨as, ra⟩ := DatAll.reads I ds h3 rv
    exact ⟨as, .tuple ho hc hd (by simpa using ra)⟩
  | .list _, _, _, h, _ => False.elim h
  | .dict _, _, _, h, _ => False.elim h
theorem DatAll.reads {X : Cx} {pins : List (Addr × Obj)} {σ : St} {H : Hp} {s : Shared} (I : Inv X pins σ H s) : ∀ (ds : List PyData) {xs : List V} {us : List Value}, DatAll X.K H ds xs → Vals xs us → ∃ as, ReadsAll s.heap us ds as
  | [], _, _, h, r => by
    cases (show _ = ([] : List V) from h)
    cases r
    exact ⟨[], .nil⟩
  | d :: ds, _, _, ⟨x, t, h1, h2, h3⟩, r => by
    cases h1
    cases r with
    | cons r1 r2 =>
      obtain ⟨as, a1⟩ := Dat.reads I d h2 r1
      obtain ⟨bs, b1⟩ := DatAll.reads I ds h3 r2
      exact ⟨as ++ bs, .cons a1 b1⟩
end
/-- such data, or a list of such data -/
def DatX (K : PySem.W.Frag) (H : Hp) (d : PyData) (v : V) : Prop := Dat K H d v ∨ ∃ ds a xs, d = .list ds ∧ v = .ref a ∧ SqL K H a xs ∧ DatAll K H ds xs
theorem DatX.reads {X : Cx} {pins : List (Addr × Obj)} {σ : St} {H : Hp} {s : Shared} {d : PyData} {v : V} {u : Value} (I : Inv X pins σ H s) (h : DatX X.K H d v) (r : RelV v u) : ∃ as, Reads s.heap u d as := by
  rcases h with h | ⟨ds, a, xs, rfl, rfl, h2, h3⟩
  · exact Dat.reads I d h r
  · cases (show _ = Value.ref a from r)
    obtain ⟨its, rv, ⟨o, n, ho, hc, _, hd⟩, _⟩ := I.list h2
    obtain ⟨as, ra⟩ := DatAll.reads I ds h3 rv
    exact ⟨a :: as, .list ho hc hd (by simpa using ra)⟩
section
variable {X : Cx}
def rEqD (K : PySem.W.Frag) : R2 := fun x y H Q => ∃ d e, DatX K H d x ∧ DatX K H e y ∧ SeqAt.shaped d = true ∧ SeqAt.shaped e = true ∧ Q (.bl (PyData.eqv d e)) H
theorem op_eqD (hu : X.A.units + 64 < cLine) : OpR X (compareOp .Eq) (rEqD X.K) := by
  intro pins s σ H x y v u Q I rx ry h
  obtain ⟨d, e, hd, he, sd, se, q⟩ := h
  obtain ⟨as, ra⟩ := hd.reads I rx
  obtain ⟨bs, rb⟩ := he.reads I ry
  exact eq_dataH ra rb sd se hu ⟨.bl _, H, I, rfl, q⟩
/-! ### isinstance of a tuple, a list that is read -/
theorem call_isiT : CallR X (.builtin "isinstance") (fun xs H Q => ∃ (a : Addr) (ys : List V) (c : V) (cv : Value) (k : Bool), xs = [.ref a, c] ∧ (∀ u, RelV c u → u = cv) ∧ SqT X.K H a ys ∧ PySem.W.kitOne X.K (.type "tuple") cv = some k ∧ Q (.bl k) H) := by
  intro pins s σ H xs us Q I r h
  obtain ⟨a, ys, c, cv, k, rfl, hc, hq, kt, q⟩ := h
  obtain ⟨u, w', rfl, r1, r2⟩ := vals2 r
  have e := hc _ r2
  subst e
  cases (show u = Value.ref a from r1)
  obtain ⟨its, rv, ⟨o, h1, h2, _⟩, _⟩ := I.tuple hq
  exact PySem.W.kia_one PySem.W.kitx_tuple I.kIn ⟨o, h1, h2⟩ kt (fun z => nomatch z) fun tk => ⟨.bl k, H, I.tok tk, rfl, q⟩
theorem call_isiL : CallR X (.builtin "isinstance") (fun xs H Q => ∃ (a : Addr) (ys : List V) (c : V) (cv : Value) (k : Bool), xs = [.ref a, c] ∧ (∀ u, RelV c u → u = cv) ∧ SqL X.K H a ys ∧ PySem.W.kitOne X.K (.type "list") cv = some k ∧ Q (.bl k) H) := by
  intro pins s σ H xs us Q I r h
  obtain ⟨a, ys, c, cv, k, rfl, hc, hq, kt, q⟩ := h
  obtain ⟨u, w', rfl, r1, r2⟩ := vals2 r
  have e := hc _ r2
  subst e
  cases (show u = Value.ref a from r1)
  obtain ⟨its, rv, ⟨o, n, h1, h2, _⟩, _⟩ := I.list hq
  exact PySem.W.kia_one PySem.W.kitx_list I.kIn ⟨o, h1, h2⟩ kt (fun z => nomatch z) fun tk => ⟨.bl k, H, I.tok tk, rfl, q⟩
/-! ### all, any of a list of truths -/
theorem bools_of {bs : List Bool} : ∀ {us : List Value}, Vals (bs.map V.bl) us → LSm.BoolsAre us bs := by
  induction bs with
  | nil => intro us r; cases r; exact .nil
  | cons b r ih =>
    intro us q
    cases q with
    | cons a t =>
      cases (show _ = Value.bool b from a)
      exact .cons b (ih t)
theorem call_all (hc : X.calm = true) : CallR X (.builtin "all") (fun xs H Q => ∃ (l : Addr) (bs : List Bool), xs = [.ref l] ∧ SqL X.K H l (bs.map V.bl) ∧ Q (.bl (bs.all id)) H) := by
  intro pins s σ H xs us Q I r h
  obtain ⟨l, bs, rfl, hq, q⟩ := h
  obtain ⟨u, rfl, rx⟩ := vals1 r
  cases rx
  obtain ⟨its, rv, pl, _⟩ := I.list hq
  have hl := pl.isList
  have hb := bools_of rv
  have hlt : l < s.heap.objs.size := by obtain ⟨_, e, _⟩ := hl; exact Heap.lt_size e
  refine call_all_walk (wpAny_pyIter_list hl ?_)
  refine ⟨s.heap.objs.size, [s.heap.objs.size, l], [s.heap.objs.size], its.toArray.size, _, _, fun i => (bs[i]?).getD true, rfl, Walks.list (A := X.A.in1) (I.ok.hd hc) _ l (Nat.ne_of_lt hlt) its.toArray,
    ⟨⟨_, Heap.get?_push_size _ rfl, rfl, rfl⟩, hl.push _⟩, fun i v s' Q' E' hP hQ => ?_, fun h' tk hk => ?_⟩
  · obtain ⟨b, e, rfl⟩ := hb.get i v (by simpa using hP)
    simp only [e, Option.getD_some] at hQ
    exact wpAny_truthy_bool hQ
  · have e : ((List.range its.toArray.size).all fun i => (bs[i]?).getD true) = bs.all id := by
      rw [List.size_toArray, hb.length]; exact LSm.range_all bs
    rw [e]
    exact ⟨.bl _, H, I.kept (t' := tk) (LSm.kept_iter hk), rfl, q⟩
end
/-! ### the same, where the context's K is named (within a comprehension the reading may not name the context) -/
section
variable {X : Cx} {K : PySem.W.Frag}
theorem call_isiK (e : X.K = K) : CallR X (.builtin "isinstance") (fun xs H Q => ∃ (y : V) (c : V) (cv t : Value) (k : Bool), xs = [y, c] ∧ (∀ u, RelV c u → u = cv) ∧ TyOf K H y t ∧ PySem.W.kitOne K t cv = some k ∧ Q (.bl k) H) := e ▸ call_isi
end
/-! ### what such data say when they are compared -/
theorem lay_map {α : Type} {f : α → PyData} (h : ∀ a, (f a).canLay0 = true) : ∀ L : List α, PyData.canLayAll0 (L.map f) = true
  | [] => by simp [PyData.canLayAll0]
  | a :: r => by simp [PyData.canLayAll0, h a, lay_map h r]
theorem depth_map {α : Type} {f : α → PyData} {n : Nat} (h : ∀ a, (f a).depth ≤ n) : ∀ L : List α, PyData.depthAll (L.map f) ≤ n
  | [] => by simp [PyData.depthAll]
  | a :: r => by
    have h1 := h a
    have h2 := depth_map h r
    simp only [List.map_cons, PyData.depthAll]
    omega
theorem eqv_map {α : Type} [DecidableEq α] {f : α → PyData} (h : ∀ a b, PyData.eqv (f a) (f b) = decide (a = b)) : ∀ L M : List α, PyData.eqvAll (L.map f) (M.map f) = decide (L = M)
  | [], [] => by simp [PyData.eqvAll]
  | [], _ :: _ => by simp [PyData.eqvAll]
  | _ :: _, [] => by simp [PyData.eqvAll]
  | a :: r, b :: t => by
    simp only [List.map_cons, PyData.eqvAll, h a b, eqv_map h r t]
    by_cases h1 : a = b <;> by_cases h2 : r = t <;> simp [h1, h2]
/-! ### a tuple, an int that stands at the top -/
end L2


set_option Elab.async false
namespace Mine
namespace Lo
end Lo

/-! ### stretches and lines, as they are told -/
namespace Ln
/-! ### the stretch in which x lies -/
end Ln
end Mine


set_option Elab.async false
set_option linter.all false
set_option maxRecDepth 100000
set_option maxHeartbeats 4000000
namespace Mine
open PySem L2
/-! ### small numbers -/
abbrev bits (x : Int) : Nat := Builtin.Int.intBits x
/-! ### items of the script -/
/-- a script as the law has it: a list of at most 63 ints, each of at most 2 ** 20 bits; it is frozen -/
structure Scr (K : PySem.W.Frag) (H : Hp) (a : Addr) (ns : List Int) : Prop where
  sq : (∃ o, H a = some (.frz o (.lst (ns.map V.int)))) ∨ ∃ (o : Obj) (its : Array Value) (n : Nat), K.lookup a = some o ∧ o.cls = .type "list" ∧ o.dict = none ∧ o.data = .seq its n ∧ its.size ≤ sizeLine ∧ Vals (ns.map V.int) its.toList
  few : ns.length ≤ 63
  bit : ∀ n ∈ ns, bits n ≤ 1048576
theorem Scr.l {K : PySem.W.Frag} {H : Hp} {a : Addr} {ns : List Int} (S : Scr K H a ns) : SqL K H a (ns.map V.int) := S.sq.elim (fun h => .inl (.inr h)) .inr
theorem Scr.ts {K : PySem.W.Frag} {H H' : Hp} {a : Addr} {ns : List Int} (S : Scr K H a ns) (e : Tst H H') : Scr K H' a ns := ⟨S.sq.elim (fun ⟨o, h⟩ => .inl ⟨o, e.f _ _ _ h⟩) .inr, S.few, S.bit⟩
theorem scr_of {K : PySem.W.Frag} {H : Hp} {a : Addr} {ns : List Int} (O : Only H) (h : SqL K H a (ns.map V.int)) (few : ns.length ≤ 63) (bit : ∀ n ∈ ns, bits n ≤ 1048576) : Scr K H a ns := by
  refine ⟨?_, few, bit⟩
  rcases h with (h | h) | h
  · exfalso
    rcases O a with z | ⟨o, xs, z⟩
    · rw [h] at z; cases z
    · rw [h] at z; cases z
  · exact .inl h
  · exact .inr h
theorem same_new {H : Hp} {p : Addr} (h : H p = none) (o : HO) : Same H (upd H p o) := fun b u q => by rw [upd_ne (ne_of_none q h)]; exact q
/-- a change at what was not there at first -/
theorem same_mut {H H' : Hp} {l : Addr} (e : Same H H') (h : H l = none) (o : HO) : Same H (upd H' l o) := fun b u q => by rw [upd_ne (ne_of_none q h)]; exact e b u q
/-! ### fractions, stretches, lines as data -/
section
variable {K : PySem.W.Frag} {H H' : Hp} {a : Addr} {v e : V} {p q m h : Int} {s : St4} {L : List St4}
end
mutual
theorem eqv_self : ∀ d : PyData, d.canLay0 = true → PyData.eqv d d = true
  | .none, _ => by simp [PyData.eqv]
  | .bool _, _ => by simp [PyData.eqv]
  | .int _, _ => by simp [PyData.eqv]
  | .str _, _ => by simp [PyData.eqv]
  | .list xs, h => by simp only [PyData.eqv]; exact eqvAll_self xs (by simpa [PyData.canLay0] using h)
  | .tuple xs, h => by simp only [PyData.eqv]; exact eqvAll_self xs (by simpa [PyData.canLay0] using h)
  | .dict _, h => by simp [PyData.canLay0] at h
theorem eqvAll_self : ∀ xs : List PyData, PyData.canLayAll0 xs = true → PyData.eqvAll xs xs = true
  | [], _ => by simp [PyData.eqvAll]
  | x :: xs, h => by
    have h' : x.canLay0 = true ∧ PyData.canLayAll0 xs = true := by simpa [PyData.canLayAll0] using h
    simp [PyData.eqvAll, eqv_self x h'.1, eqvAll_self xs h'.2]
end
theorem eqv_shaped {d : PyData} (h : SeqAt.shaped d = true) : PyData.eqv d d = true := eqv_self d (SeqAt.canLay_of_shaped h)
end Mine


set_option Elab.async false
set_option linter.all false
set_option maxRecDepth 100000
set_option maxHeartbeats 4000000
namespace Mine
open PySem L2
/-! ### what stands in the heap -/
/-- tuples and instances stay -/
def fixO : HO → Bool
  | .tup _ => true
  | .ins _ _ _ => true
  | .own _ => true
  | .frz _ _ => true
  | _ => false
def Kp (H H' : Hp) : Prop := ∀ b o, H b = some o → fixO o = true → H' b = some o
theorem Kp.trans {H H1 H2 : Hp} (a : Kp H H1) (b : Kp H1 H2) : Kp H H2 := fun c o h f => b c o (a c o h f) f
theorem Kp.of {H H' : Hp} (e : Same H H') : Kp H H' := fun b o h _ => e b o h
theorem kp_new {H : Hp} {p : Addr} (h : H p = none) (o : HO) : Kp H (upd H p o) := Kp.of (fun b u z => by rw [upd_ne (ne_of_none z h)]; exact z)
theorem kp_mut {H : Hp} {l : Addr} {o u : HO} (h : H l = some o) (f : fixO o = false) : Kp H (upd H l u) := fun b z hb fz => by
  rw [upd_ne (ne_of hb h fun e => by rw [e, f] at fz; cases fz)]
  exact hb
theorem kit_same {K : PySem.W.Frag} {t : Value} : PySem.W.kitOne K t t = some true := by unfold PySem.W.kitOne; rw [if_pos (beq_self_eq_true t)]
/-- all but c stays -/
def SB (c : V) (H H' : Hp) : Prop := ∀ b o, H b = some o → V.ref b ≠ c → H' b = some o
theorem SB.refl (c : V) (H : Hp) : SB c H H := fun _ _ h _ => h
theorem SB.trans {c : V} {H H1 H2 : Hp} (a : SB c H H1) (b : SB c H1 H2) : SB c H H2 := fun d o h n => b d o (a d o h n) n
theorem SB.of {c : V} {H H' : Hp} (e : Same H H') : SB c H H' := fun b o h _ => e b o h
theorem SB.kp {c : V} {H H' : Hp} (e : SB c H H') (hc : ∀ a o, c = .ref a → H a = some o → fixO o = false) : Kp H H' := fun b o h f => e b o h fun z => by
  rw [hc b o z.symm h] at f
  cases f
theorem sb_upd {a : Addr} (H : Hp) (u : HO) : SB (.ref a) H (upd H a u) := fun b o h n => by
  rw [upd_ne fun z => n (by rw [z])]
  exact h
/-- the law's tuples -/
inductive Tu (H : Hp) : Addr → Tr → Prop where
  | never {a} : H a = some (.tup [.str "never"]) → Tu H a .never
  | always {a} : H a = some (.tup [.str "always"]) → Tu H a .always
  | lp {a} : H a = some (.tup [.str "p"]) → Tu H a .lp
  | lq {a} : H a = some (.tup [.str "q"]) → Tu H a .lq
  | no {a b t} : H a = some (.tup [.str "not", .ref b]) → Tu H b t → Tu H a (.no t)
  | fold {a b d w x y} : H a = some (.tup [.str (W5.str w), .ref b, .ref d]) → Tu H b x → Tu H d y → Tu H a (.fold w x y)
theorem Tu.to {H H' : Hp} {a : Addr} {t : Tr} (h : Tu H a t) (e : Kp H H') : Tu H' a t := by
  induction h with
  | never h => exact .never (e _ _ h rfl)
  | always h => exact .always (e _ _ h rfl)
  | lp h => exact .lp (e _ _ h rfl)
  | lq h => exact .lq (e _ _ h rfl)
  | no h _ ih => exact .no (e _ _ h rfl) ih
  | fold h _ _ i1 i2 => exact .fold (e _ _ h rfl) i1 i2
/-- the program's classes -/
structure CCs where
  (ne al le no mo ls gr lr ld : Addr)
def CCs.fold (c : CCs) : W5 → Addr
  | .more => c.mo | .less => c.ls | .greater => c.gr | .lesser => c.lr | .leads => c.ld
def fName (x : V) : List (Str × V) := [("name", x)]
def fPart (x : V) : List (Str × V) := [("part", x)]
def fTwo (x y : V) : List (Str × V) := [("one", x), ("other", y)]
inductive Ob (c : CCs) (H : Hp) : Addr → Tr → Prop where
  | never {a dx} : H a = some (.ins c.ne dx []) → Ob c H a .never
  | always {a dx} : H a = some (.ins c.al dx []) → Ob c H a .always
  | lp {a dx} : H a = some (.ins c.le dx (fName (.str "p"))) → Ob c H a .lp
  | lq {a dx} : H a = some (.ins c.le dx (fName (.str "q"))) → Ob c H a .lq
  | no {a dx b t} : H a = some (.ins c.no dx (fPart (.ref b))) → Ob c H b t → Ob c H a (.no t)
  | fold {a dx b d w x y} : H a = some (.ins (c.fold w) dx (fTwo (.ref b) (.ref d))) → Ob c H b x → Ob c H d y → Ob c H a (.fold w x y)
theorem Ob.to {c : CCs} {H H' : Hp} {a : Addr} {t : Tr} (h : Ob c H a t) (e : Kp H H') : Ob c H' a t := by
  induction h with
  | never h => exact .never (e _ _ h rfl)
  | always h => exact .always (e _ _ h rfl)
  | lp h => exact .lp (e _ _ h rfl)
  | lq h => exact .lq (e _ _ h rfl)
  | no h _ ih => exact .no (e _ _ h rfl) ih
  | fold h _ _ i1 i2 => exact .fold (e _ _ h rfl) i1 i2
/-- things one by one -/
inductive All2 {α β : Type} (R : α → β → Prop) : List α → List β → Prop where
  | nil : All2 R [] []
  | cons {a b as bs} : R a b → All2 R as bs → All2 R (a :: as) (b :: bs)
theorem All2.imp {α β : Type} {R R' : α → β → Prop} (f : ∀ a b, R a b → R' a b) {as : List α} {bs : List β} (h : All2 R as bs) : All2 R' as bs := by
  induction h with
  | nil => exact .nil
  | cons r _ ih => exact .cons (f _ _ r) ih
theorem All2.app {α β : Type} {R : α → β → Prop} {as cs : List α} {bs ds : List β} (h : All2 R as bs) (k : All2 R cs ds) : All2 R (as ++ cs) (bs ++ ds) := by
  induction h with
  | nil => exact k
  | cons r _ ih => exact .cons r ih
theorem All2.rev {α β : Type} {R : α → β → Prop} {as : List α} {bs : List β} (h : All2 R as bs) : All2 R as.reverse bs.reverse := by
  induction h with
  | nil => exact .nil
  | cons r _ ih => rw [List.reverse_cons, List.reverse_cons]; exact ih.app (.cons r .nil)
theorem All2.len {α β : Type} {R : α → β → Prop} {as : List α} {bs : List β} (h : All2 R as bs) : as.length = bs.length := by
  induction h with
  | nil => rfl
  | cons _ _ ih => rw [List.length_cons, List.length_cons, ih]
theorem All2.get {α β : Type} {R : α → β → Prop} {as : List α} {bs : List β} (h : All2 R as bs) : ∀ (i : Nat) (a : α), as[i]? = some a → ∃ b, bs[i]? = some b ∧ R a b := by
  induction h with
  | nil => intro i a z; cases z
  | cons r _ ih =>
    intro i x z
    cases i with
    | zero => cases z; exact ⟨_, rfl, r⟩
    | succ i => exact ih i x z
/-- the last one apart -/
theorem All2.last {α β : Type} {R : α → β → Prop} {as : List α} {bs : List β} (h : All2 R as bs) (n : as ≠ []) : ∃ as' a bs' b, as = as' ++ [a] ∧ bs = bs' ++ [b] ∧ R a b ∧ All2 R as' bs' := by
  have h' := h.rev
  have n' : as.reverse ≠ [] := fun z => n (List.reverse_eq_nil_iff.mp z)
  have e1 : as = as.reverse.reverse := (List.reverse_reverse _).symm
  have e2 : bs = bs.reverse.reverse := (List.reverse_reverse _).symm
  rw [e1, e2]
  revert h' n'
  generalize as.reverse = u
  generalize bs.reverse = v
  intro h' n'
  cases h' with
  | nil => exact absurd rfl n'
  | cons r k => exact ⟨_, _, _, _, List.reverse_cons, List.reverse_cons, r, k.rev⟩
theorem snoc_last {α : Type} (ys : List α) (a : α) : (ys ++ [a])[(ys ++ [a]).length - 1]? = some a := by simp
/-- objects, each with its tree -/
abbrev ObV (c : CCs) (H : Hp) (v : V) (t : Tr) : Prop := ∃ a, v = .ref a ∧ Ob c H a t
theorem ObV.to {c : CCs} {H H' : Hp} (e : Kp H H') (v : V) (t : Tr) (h : ObV c H v t) : ObV c H' v t := by
  obtain ⟨a, r, o⟩ := h
  exact ⟨a, r, o.to e⟩
/-- what a saying is made of -/
def Tr.kids : Tr → List Tr
  | .no t => [t]
  | .fold _ a b => [a, b]
  | _ => []
def sizes (ts : List Tr) : Nat := (ts.map Tr.size).sum
theorem sizes_app (a b : List Tr) : sizes (a ++ b) = sizes a + sizes b := by simp [sizes]
theorem kids_size (t : Tr) : sizes t.kids + 1 = t.size := by cases t <;> simp [sizes, Tr.kids, Tr.size]
/-- the parts as laid_out meets them -/
theorem post_rev (t : Tr) : t.post.reverse = t :: (t.kids.reverse.flatMap fun x => x.post.reverse) := by
  cases t <;> simp [Tr.post, Tr.kids]
/-- a piece: a word or a saying -/
inductive Pc where
  | w (x : Str)
  | t (t : Tr)
def Tr.pieces : Tr → List Pc
  | .never => [.w "never"]
  | .always => [.w "always"]
  | .lp => [.w "p"]
  | .lq => [.w "q"]
  | .no t => [.w "not", .t t]
  | .fold w a b => [.w "(", .t a, .w w.str, .t b, .w ")"]
inductive PcV (c : CCs) (H : Hp) : V → Pc → Prop where
  | w (x : Str) : PcV c H (.str x) (.w x)
  | t {a : Addr} {t : Tr} : Ob c H a t → PcV c H (.ref a) (.t t)
theorem min_is (i j : Int) : (if j < i then j else i) = min i j := by
  rw [Int.min_def]; split <;> split <;> omega
theorem max_is (i j : Int) : (if j > i then j else i) = max i j := by
  rw [Int.max_def]; split <;> split <;> omega
end Mine

namespace L2
open PySem PySem.Spec PyProof.Rows
/-- the method m of the class C is the def st -/
structure MethF (K : PySem.W.Frag) (C : Addr) (m qual : Str) (st : Stmt) : Prop where
  cl : Cls K C
  ex : ∃ (f : Addr) (fd : FuncData), Meth K C m f ∧ Fun K m qual st f fd
section
variable {P : Program} {w : World} {K : PySem.W.Frag} {mg : Str → Option Value} {base : Heap}
theorem meth_of {C : Addr} {m qual : Str} {st : Stmt} {N ps : List Str} {k : Nat} {sp : Sp} (T : MethF K C m qual st) (S : FnScope N ps (defScope st))
    (bd : ∀ (kV doc pm : Value) (an : Option Addr) (cdv ct : Value) (us : List Value), us.length = ps.length → bindArgs (PySem.W.fnOf m qual (defArgs st) (defBody st) (defScope st) .none kV doc pm an cdv ct) ⟨us, []⟩ = pure (ps.zip us))
    (len : ∀ vs H Q E, sp vs H Q E → vs.length = ps.length)
    (body : ∀ (f : Addr) (cdv : Value) (A : Around) (outer : List Env) (s : Shared) (H : Hp) (vs : List V) (Q : VK) (E : XK), Room k (A.deeper (envOfC qual (defScope st) s.heap.objs.size f cdv)) → sp vs H Q E →
      ∃ t, PSs (cxOf CX0 P w K mg base N qual (defScope st) f cdv A outer s H E).nox (defBody st) t ∧ t { nx := fun _ H' => Q .non H', rt := Q } (start N vs) H) :
    MethOk P w K mg base C m (k + 1) ps sp := by
  obtain ⟨f, fd, hm, G⟩ := T.ex
  exact ⟨T.cl, f, fd, hm, G.ok S len (body f), G.binds bd⟩
/-- the class C, by the name x, is made with its __init__ -/
structure MkF (K : PySem.W.Frag) (mg : Str → Option Value) (x : Str) (C : Addr) (qual : Str) (st : Stmt) : Prop where
  cl : Cls K C
  mg_ : mg x = some (.ref C)
  ex : ∃ (f : Addr) (fd : FuncData), Mk K C f ∧ Fun K "__init__" qual st f fd
structure MkOk (P : Program) (w : World) (K : PySem.W.Frag) (mg : Str → Option Value) (base : Heap) (x : Str) (C : Addr) (k : Nat) (ps : List Str) (sp : Sp) : Prop where
  mg_ : mg x = some (.ref C)
  ex : ∃ (f : Addr) (fd : FuncData), Mk K C f ∧ FnOk P w K mg base CX0 k f fd ps sp ∧ Binds K fd ps []
theorem mk_of {C : Addr} {x qual : Str} {st : Stmt} {N ps : List Str} {k : Nat} {sp : Sp} (T : MkF K mg x C qual st) (S : FnScope N ps (defScope st))
    (bd : ∀ (kV doc pm : Value) (an : Option Addr) (cdv ct : Value) (us : List Value), us.length = ps.length → bindArgs (PySem.W.fnOf "__init__" qual (defArgs st) (defBody st) (defScope st) .none kV doc pm an cdv ct) ⟨us, []⟩ = pure (ps.zip us))
    (len : ∀ vs H Q E, sp vs H Q E → vs.length = ps.length)
    (body : ∀ (f : Addr) (cdv : Value) (A : Around) (outer : List Env) (s : Shared) (H : Hp) (vs : List V) (Q : VK) (E : XK), Room k (A.deeper (envOfC qual (defScope st) s.heap.objs.size f cdv)) → sp vs H Q E →
      ∃ t, PSs (cxOf CX0 P w K mg base N qual (defScope st) f cdv A outer s H E).nox (defBody st) t ∧ t { nx := fun _ H' => Q .non H', rt := Q } (start N vs) H) :
    MkOk P w K mg base x C (k + 1) ps sp := by
  obtain ⟨f, fd, hm, G⟩ := T.ex
  exact ⟨T.mg_, f, fd, hm, G.ok S len (body f), G.binds bd⟩
end
section
variable {X : Cx} {x : Str} {C : Addr} {k : Nat} {ps : List Str} {sp : Sp} {e : Expr} {es : List Expr} {t : TA} {p pos : Pos}
theorem pe_mk (M : MkOk X.prog X.w X.K X.mg X.base x C k ps sp) (hr : Room (k + 1) X.A) (hg : Gl X x) (ha : PA X (e :: es) t) (hdb : (x == ("__debug__" : Str)) = false := by decide)
    (he : starEach (e :: es) X.env = (false, eval e X.env) :: starEach es X.env := by rfl) (hpl : (backTo pos (starEach es X.env)).any (·.1) = false := by rfl) :
    PE X (.Call (.Name x p) (e :: es) [] pos) (tMake C sp [] E0 t) := by
  obtain ⟨f, fd, hm, G, hb⟩ := M.ex
  exact pe_make hm G hr hg M.mg_ hb .nil pass0 ha hdb he hpl
end
end L2
namespace Mine
open PySem L2
/-! ### the classes -/
def CCs.of (c : CCs) : Tr → Addr
  | .never => c.ne
  | .always => c.al
  | .lp => c.le
  | .lq => c.le
  | .no _ => c.no
  | .fold w _ _ => c.fold w
theorem look_name (x : V) : (fName x).lookup ("name" : Str) = some x := by unfold fName; rw [List.lookup_cons, beq_self_eq_true]
theorem look_part (x : V) : (fPart x).lookup ("part" : Str) = some x := by unfold fPart; rw [List.lookup_cons, beq_self_eq_true]
theorem look_one (x y : V) : (fTwo x y).lookup ("one" : Str) = some x := by unfold fTwo; rw [List.lookup_cons, beq_self_eq_true]
theorem look_other (x y : V) : (fTwo x y).lookup ("other" : Str) = some y := by
  unfold fTwo
  rw [List.lookup_cons, show (("other" : Str) == ("one" : Str)) = false by decide +kernel]
  show List.lookup ("other" : Str) [("other", y)] = some y
  rw [List.lookup_cons, beq_self_eq_true]
abbrev NoF (m : Str) : Prop := m ≠ "name" ∧ m ≠ "part" ∧ m ≠ "one" ∧ m ≠ "other"
theorem look_none {m a : Str} {x : V} {r : List (Str × V)} (h : m ≠ a) (k : r.lookup m = none) : ((a, x) :: r).lookup m = none := by
  rw [List.lookup_cons, beq_eq_false_iff_ne.mpr h]
  exact k
theorem Ob.cls {c : CCs} {H : Hp} {a : Addr} {t : Tr} (h : Ob c H a t) : ∃ dx fs, H a = some (.ins (c.of t) dx fs) ∧ ∀ m, NoF m → fs.lookup m = none := by
  cases h with
  | never h => exact ⟨_, _, h, fun m _ => rfl⟩
  | always h => exact ⟨_, _, h, fun m _ => rfl⟩
  | lp h => exact ⟨_, _, h, fun m n => look_none n.1 rfl⟩
  | lq h => exact ⟨_, _, h, fun m n => look_none n.1 rfl⟩
  | no h _ => exact ⟨_, _, h, fun m n => look_none n.2.1 rfl⟩
  | fold h _ _ => exact ⟨_, _, h, fun m n => look_none n.2.2.1 (look_none n.2.2.2 rfl)⟩
structure Fx (K : PySem.W.Frag) (c : CCs) : Prop where
  cl : ∀ t, Cls K (c.of t)
  ha : ∀ t, PySem.W.findIn K (.ref (c.of t)) "__class__" = some (some (.builtin "object.__class__"))
  hm : ∀ t, PySem.W.mroIn K (c.of t) (.type "object") = some true
  ks : ∀ t, PySem.W.kitOne K (.ref (c.of t)) (.type "str") = some false
  hn : PySem.W.specialIn K (.builtin "object.__class__") "__get__" = some (some (.builtin "getset_descriptor.__get__"))
  tk : PySem.W.takesIn K (.builtin "object.__class__") = some true
  nName : NoAttr K c.le "name"
  nPart : NoAttr K c.no "part"
  nOne : ∀ w, NoAttr K (c.fold w) "one"
  nOther : ∀ w, NoAttr K (c.fold w) "other"
/-! ### promises -/
def spMade (c : CCs) (t : Tr) : Sp := fun vs H Q _ => ∃ a, vs = [.ref a] ∧ Ob c H a t ∧ ∀ l us, H l = none → All2 (ObV c H) us t.kids → Q (.ref l) (upd H l (.lst us))
def spFolded (w : W5) : Sp := fun vs H Q _ => ∃ (a : Addr) (n x y : Int), vs = [.ref a, .int n, .int x, .int y] ∧ Q (.int (w.worth n x y)) H
def spWeigh (c : CCs) (t : Tr) : Sp := fun vs H Q _ => ∃ (a l : Addr) (n x y : Int) (R R' : List Int), vs = [.ref a, .ref l, .int n, .int x, .int y] ∧ Ob c H a t ∧ H l = some (.lst (R.reverse.map V.int)) ∧ R.length ≤ 1000 ∧ (worthAlg n x y).step R t = some R' ∧
  ∀ H', SB (.ref l) H H' → H' l = some (.lst (R'.reverse.map V.int)) → Q .non H'
def spLaid (c : CCs) (t : Tr) : Sp := fun vs H Q _ => ∃ a, vs = [.ref a] ∧ Ob c H a t ∧ t.size ≤ 1000 ∧ ∀ l us H', Same H H' → H l = none → H' l = some (.lst us) → All2 (ObV c H') us t.post → Q (.ref l) H'
def spOut (c : CCs) (t : Tr) : Sp := fun vs H Q _ => ∃ (a : Addr) (n x y : Int), vs = [.ref a, .int n, .int x, .int y] ∧ Ob c H a t ∧ t.size ≤ 1000 ∧ ∀ H', Same H H' → Q (.int (t.worth n x y)) H'
def spInit1 (C : Addr) (fl : V → List (Str × V)) : Sp := fun vs H Q _ => ∃ (a dx : Addr) (x : V), vs = [.ref a, x] ∧ H a = some (.ins C dx []) ∧ Q .non (upd H a (.ins C dx (fl x)))
def spInit2 (C : Addr) : Sp := fun vs H Q _ => ∃ (a dx : Addr) (x y : V), vs = [.ref a, x, y] ∧ H a = some (.ins C dx []) ∧ Q .non (upd H a (.ins C dx (fTwo x y)))
theorem putF_two (x y : V) : putF "other" y (putF "one" x []) = fTwo x y := by
  show (if ("one" : Str) = "other" then [(("one" : Str), y)] else (("one" : Str), x) :: putF "other" y []) = _
  rw [if_neg (by decide +kernel)]
  rfl
end Mine

namespace Mine
open PySem L2
def W5.cls : W5 → Str
  | .more => "More" | .less => "Less" | .greater => "Greater" | .lesser => "Lesser" | .leads => "Leads"
theorem is_pp : decide (V.str "p" = V.str "p") = true := decide_eq_true rfl
theorem is_qp : decide (V.str "q" = V.str "p") = false := decide_eq_false (fun z => absurd (V.str.inj z) (by decide +kernel))
theorem push_int (a : Int) (R : List Int) : R.reverse.map V.int ++ [V.int a] = (a :: R).reverse.map V.int := by rw [List.reverse_cons, List.map_append]; rfl
theorem stack_lt {R : List Int} (h : R.length ≤ 1000) : (R.reverse.map V.int).length < sizeLine := by
  rw [List.length_map, List.length_reverse]
  exact Nat.lt_of_le_of_lt h (by decide)
theorem step_leaf {α : Type} {G : Alg α} {R R' : List α} {t : Tr} (h : G.step R t = some R') (k : t.kids = []) : R' = G.leaf t :: R := by
  cases t with
  | no t => cases k
  | fold w a b => cases k
  | _ => cases R with
    | nil => exact (Option.some.inj h).symm
    | cons a R => cases R <;> exact (Option.some.inj h).symm
theorem step_no {α : Type} {G : Alg α} {R R' : List α} {t : Tr} (h : G.step R (.no t) = some R') : ∃ b R1, R = b :: R1 ∧ R' = G.no b :: R1 := by
  cases R with
  | nil => cases h
  | cons b R1 => cases R1 <;> exact ⟨b, _, rfl, (Option.some.inj h).symm⟩
theorem step_fold {α : Type} {G : Alg α} {R R' : List α} {w : W5} {t t' : Tr} (h : G.step R (.fold w t t') = some R') : ∃ b2 b1 R1, R = b2 :: b1 :: R1 ∧ R' = G.fold w b1 b2 :: R1 := by
  cases R with
  | nil => cases h
  | cons b R1 => cases R1 with
    | nil => cases h
    | cons b' R1 => exact ⟨b, b', R1, rfl, (Option.some.inj h).symm⟩
theorem upd_none {H : Hp} {l p : Addr} {o : HO} (h : upd H l o p = none) : H p = none := by
  by_cases e : p = l
  · subst e; rw [upd_same] at h; cases h
  · rw [upd_ne e] at h; exact h
/-- a new instance, its attributes stored -/
theorem same_made {H : Hp} {C z dz : Addr} {fs : List (Str × V)} (hz : H z = none) (hd : H dz = none) (ne : dz ≠ z) : Same H (upd (upd (upd H dz (.own z)) z (.ins C dz [])) z (.ins C dz fs)) := fun b o h => by
  rw [upd_ne (ne_of_none h hz), upd_ne (ne_of_none h hz), upd_ne (ne_of_none h hd)]
  exact h
theorem made_fold {c : CCs} {H : Hp} {z dz b d : Addr} {u : W5} {t t' : Tr} {Q : VK} (hz : H z = none) (hd : H dz = none) (ne : dz ≠ z) (o : Ob c H b t) (o' : Ob c H d t') (q : ∀ e H', Same H H' → Ob c H' e (.fold u t t') → Q (.ref e) H') :
    Q (.ref z) (upd (upd (upd H dz (.own z)) z (.ins (c.fold u) dz [])) z (.ins (c.fold u) dz (fTwo (.ref b) (.ref d)))) := by
  have sm := same_made (C := c.fold u) (fs := fTwo (.ref b) (.ref d)) hz hd ne
  exact q z _ sm (.fold upd_same (o.to (Kp.of sm)) (o'.to (Kp.of sm)))

end Mine
namespace Mine
open PySem L2
theorem flat_len : ∀ ts : List Tr, (ts.flatMap fun x => x.post.reverse).length = sizes ts
  | [] => rfl
  | t :: r => by
    rw [List.flatMap_cons, List.length_append, List.length_reverse, post_len, flat_len r]
    simp [sizes]
theorem sizes_rev (ts : List Tr) : sizes ts.reverse = sizes ts := by simp [sizes]
theorem len_sizes : ∀ ts : List Tr, ts.length ≤ sizes ts
  | [] => Nat.le_refl _
  | t :: r => by
    have h := len_sizes r
    have p := t.size_pos
    have e : sizes (t :: r) = t.size + sizes r := by simp [sizes]
    rw [e, List.length_cons]; omega
theorem kids_len (t : Tr) : t.kids.length ≤ 2 := by cases t <;> simp [Tr.kids]
theorem step_len {α : Type} {G : Alg α} {R R' : List α} {t : Tr} (h : G.step R t = some R') : R'.length ≤ R.length + 1 := by
  cases t with
  | no t => obtain ⟨b, R1, rfl, rfl⟩ := step_no h; simp
  | fold w x y => obtain ⟨b, b', R1, rfl, rfl⟩ := step_fold h; simp
  | _ => rw [step_leaf h rfl]; simp
theorem run_cons {α : Type} {G : Alg α} {R Z : List α} {t : Tr} {r : List Tr} (h : G.run R (t :: r) = some Z) : ∃ R', G.step R t = some R' ∧ G.run R' r = some Z := by
  unfold Alg.run at h
  cases e : G.step R t with
  | none => rw [e] at h; cases h
  | some R' => rw [e] at h; exact ⟨R', rfl, h⟩
theorem drop_at {α : Type} {xs : List α} {i : Nat} {x : α} (h : xs[i]? = some x) : xs.drop i = x :: xs.drop (i + 1) := by
  obtain ⟨hi, e⟩ := List.getElem?_eq_some_iff.mp h
  rw [List.drop_eq_getElem_cons hi, e]
end Mine


set_option Elab.async false
set_option linter.all false
set_option maxRecDepth 100000
set_option maxHeartbeats 4000000
namespace Mine
open PySem L2
theorem ite_yes {a b : Str} {A B : Prop} (h : a = b) (k : A) : if decide (V.str a = V.str b) = true then A else B := by
  rw [decide_eq_true (congrArg V.str h), if_pos rfl]
  exact k
theorem ite_no {a b : Str} {A B : Prop} (h : a ≠ b) (k : B) : if decide (V.str a = V.str b) = true then A else B := by
  rw [decide_eq_false (fun z => h (V.str.inj z)), if_neg Bool.false_ne_true]
  exact k
theorem in_yes {x : V} {xs : List V} {A B : Prop} (h : inV x xs = true) (k : A) : if (if false = true then !inV x xs else inV x xs) = true then A else B := by
  rw [if_neg Bool.false_ne_true, h, if_pos rfl]
  exact k
theorem in_no {x : V} {xs : List V} {A B : Prop} (h : inV x xs = false) (k : B) : if (if false = true then !inV x xs else inV x xs) = true then A else B := by
  rw [if_neg Bool.false_ne_true, h, if_neg Bool.false_ne_true]
  exact k
/-- a number that a script's cell may be -/
def Cel (m : Int) : Prop := 0 ≤ m ∧ Builtin.Int.intBits m ≤ 1048576
theorem cel0 : Cel 0 := ⟨Int.le_refl _, by decide⟩
theorem bits_abs (z : Int) : Builtin.Int.intBits (if z < 0 then -z else z) = Builtin.Int.intBits z := by
  unfold Builtin.Int.intBits
  by_cases h : z < 0
  · rw [if_pos h]
    simp
  · rw [if_neg h]
theorem cel_abs {z : Int} (h : Builtin.Int.intBits z ≤ 1048576) : Cel (if z < 0 then -z else z) := ⟨by split <;> omega, by rw [bits_abs]; exact h⟩
theorem cel_small {z : Int} (h0 : 0 ≤ z) (h : z < 2 ^ 64) : Cel z := ⟨h0, Nat.le_trans (intBits_le_64 (by omega) h) (by decide)⟩
theorem Scr.to {K : PySem.W.Frag} {H H' : Hp} {a : Addr} {ns : List Int} (h : Scr K H a ns) (e : Same H H') : Scr K H' a ns := h.ts e.ts
/-! ### promises of the law's own defs -/
def spMixed (K : PySem.W.Frag) : Sp := fun vs H Q _ => ∃ (a : Addr) (ns : List Int) (k : Int), vs = [.ref a, .int k] ∧ Scr K H a ns ∧ 0 ≤ k ∧ k ≤ 100 ∧ ∀ (D : Addr) (ms : List Int) (H' : Hp), Same H H' → H D = none → H' D = some (.lst (ms.map V.int)) → (∀ m ∈ ms, Cel m) → Q (.ref D) H'
def spNext : Sp := fun vs H Q _ => ∃ (l : Addr) (ms : List Int), vs = [.ref l] ∧ H l = some (.lst (ms.map V.int)) ∧ (∀ m ∈ ms, Cel m) ∧ ∀ (i : Int) (ms' : List Int) (H' : Hp), Cel i → (∀ m ∈ ms', Cel m) → SB (.ref l) H H' → H' l = some (.lst (ms'.map V.int)) → Q (.int i) H'
def spSaying (n : Nat) : Sp := fun vs H Q _ => ∃ (l : Addr) (ms : List Int) (r : Int) (b : Bool), vs = [.ref l, .int r, .bl b] ∧ H l = some (.lst (ms.map V.int)) ∧ (∀ m ∈ ms, Cel m) ∧ 1 ≤ r ∧ r ≤ n ∧
  ∀ (a : Addr) (t : Tr) (ms' : List Int) (H' : Hp), (t.size : Int) ≤ r → (∀ m ∈ ms', Cel m) → SB (.ref l) H H' → H' l = some (.lst (ms'.map V.int)) → Tu H' a t → Q (.ref a) H'
def spFoldF : Sp := fun vs H Q _ => ∃ (u : W5) (n x y : Int), vs = [.str u.str, .int n, .int x, .int y] ∧ Q (.int (u.worth n x y)) H
def spWorth (k : Nat) : Sp := fun vs H Q _ => ∃ (a : Addr) (t : Tr) (n x y : Int), vs = [.ref a, .int n, .int x, .int y] ∧ Tu H a t ∧ t.size ≤ k ∧ ∀ H', Same H H' → Q (.int (t.worth n x y)) H'
def spWholeL : Sp := fun vs H Q _ => ∃ i : Int, vs = [.int i] ∧ Q (.bl true) H
end Mine
namespace L2
open PySem PySem.Spec PyProof.Rows
/-! ### t[lo:hi], also the whole -/
namespace HT
variable {prog : Program} {w : World} {A : Around} {E : Value → Shared → Prop} {s : Shared}
end HT
section
variable {X : Cx}
end
end L2
namespace Mine
open PySem L2
theorem cut_int (ms : List Int) (lo hi : Option Int) : ∃ ms' : List Int, cutV (ms.map V.int) lo hi = ms'.map V.int ∧ ∀ m ∈ ms', m ∈ ms := by
  refine ⟨(ms.drop (_root_.HT.sIx (ms.map V.int).length 0 lo)).take (_root_.HT.sIx (ms.map V.int).length (ms.map V.int).length hi - _root_.HT.sIx (ms.map V.int).length 0 lo), ?_, fun m h => List.mem_of_mem_drop (List.mem_of_mem_take h)⟩
  unfold cutV
  rw [List.map_take, List.map_drop]
theorem mul_ok_r {a b : Int} (h : Builtin.Int.intBits b ≤ 64) : IntMulOk a b := .of_right h
theorem mul_ok_l {a b : Int} (h : Builtin.Int.intBits a ≤ 64) : IntMulOk a b := .of_left h
abbrev mixNames : List Str := ["_law_script", "_law_least", "_law_as_they_stand", "_law_made", "_law_k", "_law_cell"]
end Mine
namespace Mine
open PySem L2
abbrev sayNames : List Str := ["_law_cells", "_law_room", "_law_two", "_law_cell", "_law_turn", "_law_left", "_law_one", "_law_word"]
theorem word_at (m : Int) (h0 : 0 ≤ m) (h : m < 5) : ∃ u : W5, atI [V.str "more", .str "less", .str "greater", .str "lesser", .str "leads"] m = some (.str u.str) := by
  have hm : m = 0 ∨ m = 1 ∨ m = 2 ∨ m = 3 ∨ m = 4 := by omega
  rcases hm with rfl | rfl | rfl | rfl | rfl
  · exact ⟨.more, rfl⟩
  · exact ⟨.less, rfl⟩
  · exact ⟨.greater, rfl⟩
  · exact ⟨.lesser, rfl⟩
  · exact ⟨.leads, rfl⟩
theorem two_at {x y : V} (m : Int) (h : m = 0 ∨ m = 1) : ∃ z, atI [x, y] m = some z ∧ (z = x ∨ z = y) := by
  rcases h with rfl | rfl
  · exact ⟨x, rfl, .inl rfl⟩
  · exact ⟨y, rfl, .inr rfl⟩
theorem lst_fx {H : Hp} {l : Addr} {xs : List V} (e : H l = some (.lst xs)) : ∀ a o, V.ref l = .ref a → H a = some o → fixO o = false := fun a o z1 z2 => by cases z1; rw [e] at z2; cases z2; rfl
end Mine
namespace Mine
open PySem L2
theorem pq_p : inV (.str "p") [V.str "p", .str "q"] = true := by decide +kernel
theorem pq_q : inV (.str "q") [V.str "p", .str "q"] = true := by decide +kernel
theorem pq_not : inV (.str "not") [V.str "p", .str "q"] = false := by decide +kernel
theorem pq_w (u : W5) : inV (.str u.str) [V.str "p", .str "q"] = false := by cases u <;> decide +kernel
theorem na_ne : inV (.str "never") [V.str "never", .str "always"] = true := by decide +kernel
theorem na_al : inV (.str "always") [V.str "never", .str "always"] = true := by decide +kernel
theorem na_p : inV (.str "p") [V.str "never", .str "always"] = false := by decide +kernel
theorem na_q : inV (.str "q") [V.str "never", .str "always"] = false := by decide +kernel
theorem na_not : inV (.str "not") [V.str "never", .str "always"] = false := by decide +kernel
theorem na_w (u : W5) : inV (.str u.str) [V.str "never", .str "always"] = false := by cases u <;> decide +kernel
theorem w_ne (u : W5) : u.str ≠ "never" := by cases u <;> decide +kernel
theorem w_al (u : W5) : u.str ≠ "always" := by cases u <;> decide +kernel
theorem same_made0 {H : Hp} {C z dz : Addr} (hz : H z = none) (hd : H dz = none) : Same H (upd (upd H dz (.own z)) z (.ins C dz [])) := fun b o h => by
  rw [upd_ne (ne_of_none h hz), upd_ne (ne_of_none h hd)]
  exact h
end Mine
namespace Mine
open PySem L2
theorem tNoIf_go {σ : St} {H : Hp} {A B : Hp → Prop} (h : A H) : tNoIf σ H fun b H4 => if b = true then A H4 else B H4 := by
  show if true = true then A H else B H
  rw [if_pos rfl]
  exact h
end Mine
namespace L2
open PySem PySem.Spec PyProof.Rows
/-- o.m() within a comprehension: what is asked names no context -/
def tMethC (P : Program) (w : World) (K : PySem.W.Frag) (mg : Str → Option Value) (base : Heap) (k : Nat) (m : Str) (ta : TE) (t : TA) : TE := fun σ H Q => ta σ H fun x H1 => ∃ (a C dx : Addr) (fs : List (Str × V)) (ps : List Str) (sp : Sp), x = .ref a ∧ H1 a = some (.ins C dx fs) ∧ fs.lookup m = none ∧
  MethOk P w K mg base C m k ps sp ∧ t σ H1 fun vs H2 => sp (.ref a :: vs) H2 Q E0
end L2
namespace Mine
open PySem L2
def spLaw (K : PySem.W.Frag) : Sp := fun vs H Q _ => ∃ (a : Addr) (ns : List Int), vs = [.ref a] ∧ Scr K H a ns ∧ ∀ H', Q (.bl true) H'
/-! ### comprehensions without a test -/
theorem comp_list {K : PySem.W.Frag} {wi : TI} {te : TE} {js : List Nat} {σ : St} {H0 : Hp} {Q : VK} {xs : List V} (Src : Addr → Hp → Prop) (hwi : ∀ R : It → Hp → Prop, (∀ l H, Src l H → R (Itl K l) H) → wi σ H0 R) (hsrc : ∀ l H, Src l H → H l = some (.lst xs)) (hx : xs.length ≤ 1000)
    (Pv : Addr → Addr → Nat → List V → Hp → Prop) (h0 : ∀ l H D, Src l H → H D = none → Pv l D 0 [] (upd H D (.lst [])))
    (hs : ∀ l D i v ys H', xs[i]? = some v → l ≠ D → H' l = some (.lst xs) → H' D = some (.lst ys) → Pv l D i ys H' → ∀ N : VK, (∀ y H'', H'' l = some (.lst xs) → H'' D = some (.lst ys) → Pv l D (i + 1) (ys ++ [y]) (upd H'' D (.lst (ys ++ [y]))) → N y H'') → te (some v :: cVals js σ) H' N)
    (hd : ∀ l D ys H', H' l = some (.lst xs) → H' D = some (.lst ys) → Pv l D xs.length ys H' → Q (.ref D) H') : tComp wi tNoIf te js σ H0 Q := by
  refine hwi _ fun l H src => ?_
  intro D hD
  have e := hsrc l H src
  have nl : l ≠ D := ne_of_none e hD
  refine ⟨fun i m H' => m = xs.length - i ∧ i ≤ xs.length ∧ H' l = some (.lst xs) ∧ ∃ ys, ys.length = i ∧ H' D = some (.lst ys) ∧ Pv l D i ys H', ⟨xs.length, rfl, Nat.zero_le _, by rw [upd_ne nl]; exact e, [], rfl, upd_same, h0 l H D src hD⟩, ?_⟩
  rintro i m H2 ⟨rfl, hi, e2, ys, hy, eD, p⟩
  by_cases hlt : i < xs.length
  · refine .inr ⟨⟨xs, xs[i], SqL.of e2, by simp [hlt]⟩, fun v H3 y => ?_⟩
    obtain ⟨eh, y⟩ := y
    subst eh
    refine tNoIf_go ?_
    refine hs l D i v ys _ (y xs (SqL.of e2)) nl e2 eD p _ fun y H5 z1 z2 z3 => ?_
    exact ⟨ys, z2, Nat.lt_of_le_of_lt (show ys.length ≤ 1000 by omega) (by decide), xs.length - (i + 1), by omega, rfl, hlt, by rw [upd_ne nl]; exact z1, ys ++ [y], by rw [List.length_append, hy]; rfl, upd_same, z3⟩
  · have ei : i = xs.length := by omega
    subst ei
    exact .inl ⟨⟨xs, SqL.of e2, Nat.le_refl _⟩, hd l D ys H2 e2 eD p⟩
/-- one that tells something of each tree -/
theorem comp_map {α : Type} {K : PySem.W.Frag} {wi : TI} {te : TE} {js : List Nat} {σ : St} {H : Hp} {Q : VK} {xs : List V} {ts : List α} {R : Hp → V → α → Prop} (g : α → V) (hR : ∀ H H' v t, Same H H' → R H v t → R H' v t) (Src : Addr → Hp → Prop)
    (hwi : ∀ R : It → Hp → Prop, (∀ l H, Src l H → R (Itl K l) H) → wi σ H R) (hsrc : ∀ l H', Src l H' → H' l = some (.lst xs) ∧ Same H H') (hx : xs.length ≤ 1000) (o : All2 (R H) xs ts)
    (hs : ∀ v t H' (N : VK), t ∈ ts → R H' v t → (∀ H'', Same H' H'' → N (g t) H'') → te (some v :: cVals js σ) H' N) (hd : ∀ D H', Same H H' → H D = none → H' D = some (.lst (ts.map g)) → Q (.ref D) H') : tComp wi tNoIf te js σ H Q := by
  refine comp_list Src hwi (fun l H src => (hsrc l H src).1) hx (fun l D i ys H' => H D = none ∧ Same H H' ∧ ys = (ts.take i).map g) (fun l H' D src hD => ⟨(hsrc l H' src).2.free hD, (hsrc l H' src).2.trans (same_new hD _), rfl⟩) (fun l D i v ys H' hv nl el eD h N hN => ?_) (fun l D ys H' el eD h => ?_)
  · obtain ⟨hD, sm, rfl⟩ := h
    obtain ⟨t, ht, hr⟩ := o.get i v hv
    refine hs v t H' N (List.mem_of_getElem? ht) (hR _ _ _ _ sm hr) fun H'' s2 => hN _ _ (s2 _ _ el) (s2 _ _ eD) ⟨hD, fun d u z => ?_, ?_⟩
    · rw [upd_ne (ne_of_none z hD)]
      exact s2 _ _ (sm _ _ z)
    · rw [List.take_add_one, ht, List.map_append]
      rfl
  · obtain ⟨hD, sm, rfl⟩ := h
    refine hd D H' sm hD ?_
    rw [o.len, List.take_length] at eD
    exact eD

end Mine
namespace Mine
open PySem L2
theorem w_not (u : W5) : u.str ≠ "not" := by cases u <;> decide +kernel
end Mine


set_option Elab.async false
set_option linter.all false
set_option maxRecDepth 100000
set_option maxHeartbeats 4000000
namespace L2
open PySem PySem.Spec PyProof.Rows
variable {X : Cx}
/-! ### is True, is not True, of a truth -/
/-! ### methods of built-in things within a comprehension -/
end L2


set_option Elab.async false
set_option linter.all false
set_option maxRecDepth 100000
set_option maxHeartbeats 4000000
namespace L2
open PySem PySem.Spec PyProof.Rows
/-! ### what is never come to -/
/-! ### sum of a list of ints -/
/-! ### TABLE.get(x) of a dict at a file's top -/
end L2


set_option Elab.async false
set_option linter.all false
set_option maxRecDepth 100000
set_option maxHeartbeats 4000000
namespace L2
open PySem PySem.Spec PyProof.Rows
section
variable {X : Cx} {pins : List (Addr × Obj)} {σ : St} {H H' : Hp} {s s' : Shared} {h' : Heap}
/-- several records of ours have turned -/
theorem Inv.turnedL {t' : Nat} {fp : List Addr} (I : Inv X pins σ H s) (kp : ∀ b o, b ∉ fp → s.heap.get? b = some o → h'.get? b = some o) (hf : ∀ b ∈ fp, FpOk X pins H b) : Inv X pins σ H { s with heap := h', toks := t' } := by
  have far : ∀ b u, H b = some u → b ∉ fp := fun b u e z => by
    have := (hf b z).1
    rw [e] at this; cases this
  refine I.step (ch := fp) (g' := s.gens) (d' := s.drawn) (fun b hb => ⟨(hf b hb).2.2.2.1, (hf b hb).2.1, (hf b hb).2.2.2.2.1, (hf b hb).2.2.2.2.2⟩) (fun b o _ _ hc e _ => kp b o hc e) (fun b o _ _ hc e _ => ⟨o.slots, kp b o hc e⟩) (fun _ _ _ _ n => n)
    (fun b o hc e => ⟨o, kp b o hc e⟩) (fun _ _ e => e) (fun _ _ _ e => e) (fun b ps e => ⟨#[], by rw [e]; simp⟩) (fun m hm => ?_) (fun b u e => ?_) I.bare
  · obtain ⟨o, es, ep, ho, r⟩ := hm
    exact ⟨o, es, ep, kp _ o (fun z => (hf _ z).2.1 rfl) ho, r⟩
  · exact (I.hok b u e).stay (fun c v hc q => kp c v (hc.elim (fun z => by rw [z]; exact far b u e) fun z => far c _ z) q) (fun _ q => q) fun _ _ q => q
/-- what lies there untracked is tracked from now on -/
theorem Inv.trackO {a : Addr} {o : HO} (I : Inv X pins σ H s) (n : H a = none) (new : X.s₀.heap.get? a = none) (hL : a ≠ X.env.locals) (hc : ∀ x c, X.env.cells.lookup x = some c → c ≠ a) (hp : ∀ p ∈ X.pn ++ pins, p.1 ≠ a)
    (p : ObjOk X.prog X.w (upd H a o) s.heap a o) : Inv X pins σ (upd H a o) s :=
  ⟨I.ok, I.os, I.bare, ⟨I.base.keep, I.base.slot, fun b o e z hx => by rw [upd_ne (fun q => by rw [q, new] at e; cases e)]; exact I.base.free b o e z hx, I.base.there,
      fun b xs e => by have q := I.base.tups b xs e; rw [upd_ne (ne_of_none q n)]; exact q, fun b o u e => by have q := I.base.frzs b o u e; rw [upd_ne (ne_of_none q n)]; exact q,
      fun b ps e => by obtain ⟨m, q⟩ := I.base.tbls b ps e; exact ⟨m, by rw [upd_ne (ne_of_none q n)]; exact q⟩⟩,
    I.loc, I.cell, by rw [upd_ne (Ne.symm hL)]; exact I.free, fun x c e => by rw [upd_ne (hc x c e)]; exact I.freeC x c e,
    fun q hq => by obtain ⟨a1, a2, a3⟩ := I.pin q hq; exact ⟨a1, by rw [upd_ne (hp q hq)]; exact a2, a3⟩,
    fun b u e => by
      by_cases hb : b = a
      · subst hb
        rw [upd_same] at e
        cases e
        exact p
      · rw [upd_ne hb] at e
        exact (I.hok b u e).stay (fun _ _ _ z => z) (fun c z => by rw [upd_ne (ne_of_none z n)]; exact z) fun c xs z => by rw [upd_ne (ne_of_none z n)]; exact z,
    I.len⟩
end

/-! ### what yields a new tuple at each turn -/
/-- src: what stands in the tuple of turn i -/
def ItT (go : Nat → Hp → Prop) (src : Nat → Hp → List V → Prop) (n : Nat → Hp → Prop) : It :=
  ⟨go, fun i H v H' => ∃ (T : Addr) (vs : List V), H T = none ∧ v = .ref T ∧ H' = upd H T (.tup vs) ∧ src i H vs, n⟩
/-- one turn, by the library's walk that yields tuples -/
theorem turn_item {X : Cx} {elts : List Expr} {kk : Nat} {tpos : Pos} {I₀ : Addr} {fp' wr fp : List Addr} {n : Nat} {Pt : Nat → Array Value → Prop} {St : Nat → Heap → Prop} {Mid : Nat → Addr → Heap → Prop} (W : WalksT X.prog X.w X.A I₀ fp' wr n Pt St Mid)
    {pins : List (Addr × Obj)} {s : Shared} {σ : L2.St} {H : Hp} {E : Value → Shared → Prop} {i : Nat} {vs : List V} {src : Nat → Hp → List V → Prop} {tn : Nat → Heap → Prop} (I : Inv X pins σ H s) (hf : ∀ b ∈ fp, FpOk X pins H b) (hob : ∀ b ∈ fp, ∃ o, s.heap.get? b = some o) (hw : ∀ b ∈ wr, b ∈ fp) (hi : i < n) (st : St i s.heap)
    (hv : ∀ vals, Pt i vals → Vals vs vals.toList) (hz : vs.length ≤ sizeLine) (hsrc : src i H vs) (htn : ∀ h, St (i + 1) h → tn (i + 1) h) {gop stp : Nat → Hp → Prop} :
    wpAny (model X.prog X.w) X.A (pyNext (.ref I₀)) (fun r s1 => ∃ u, r = some u ∧
      wpAny (model X.prog X.w) X.A (letOwnedTupleGo (.Tuple elts kk tpos) (.ref I₀) u) (fun _ s2 => ∃ x H', Inv X pins σ H' s2 ∧ RelV x u ∧ (ItT gop src stp).yld i H x H' ∧ tn (i + 1) s2.heap ∧ ∀ b ∈ fp, H' b = none) E s1) E s := by
  refine W.item i s _ _ hi st fun T vals h1 tk hP hT hTup hM kp => ?_
  refine ⟨.ref T, rfl, W.go elts kk tpos i T { s with heap := h1, toks := tk } _ _ hM fun h2 hst kp2 => ?_⟩
  have I1 : Inv X pins σ H { s with heap := h2, toks := tk } := I.turnedL (fun b o hb e => kp2 b o (fun z => hb (hw b z)) (kp b o (fun z => hb (hw b z)) e)) hf
  have nT : H T = none := I.hok.fresh hT
  have tup : h2.IsTuple T vals := by
    obtain ⟨o, e, r⟩ := hTup
    exact ⟨o, kp2 T o (W.apart i T h1 hM) e, r⟩
  have new : X.s₀.heap.get? T = none := by
    cases z : X.s₀.heap.get? T with
    | none => rfl
    | some o => exact absurd (Nat.lt_of_lt_of_le (Heap.lt_size z) (Nat.le_trans I.sz hT)) (Nat.lt_irrefl _)
  refine ⟨.ref T, upd H T (.tup vs), I1.trackO nT new (Nat.ne_of_gt (Nat.lt_of_lt_of_le I.lt hT)) (fun x c e z => ?_) (fun p hp z => ?_) ⟨hz, vals.toList, hv vals hP, (by rw [Array.toArray_toList]; exact tup)⟩, rfl, ⟨T, vs, nT, rfl, rfl, hsrc⟩, htn _ hst, fun b hb => ?_⟩
  · obtain ⟨v, o, ho, _⟩ := I.cell x c e
    exact absurd (Nat.lt_of_lt_of_le (Heap.lt_size ho) (by rw [z]; exact hT)) (Nat.lt_irrefl _)
  · exact absurd (Nat.lt_of_lt_of_le (Heap.lt_size (I.pin p hp).1) (by rw [z]; exact hT)) (Nat.lt_irrefl _)
  · have e0 := (hf b hb).1
    obtain ⟨o, ho⟩ := hob b hb
    have bT : b ≠ T := fun z => absurd (Nat.lt_of_lt_of_le (Heap.lt_size ho) (by rw [z]; exact hT)) (Nat.lt_irrefl _)
    rw [upd_ne bT]
    exact e0
/-! ### enumerate of a list -/
def srcE (K : PySem.W.Frag) (a : Addr) : Nat → Hp → List V → Prop := fun i H vs => ∃ x, vs = [.int i, x] ∧ ∀ xs, SqL K H a xs → xs[i]? = some x
def ItE (K : PySem.W.Frag) (a : Addr) : It := ItT (fun i H => ∃ xs x, SqL K H a xs ∧ xs[i]? = some x) (srcE K a) fun i H => ∃ xs, SqL K H a xs ∧ xs.length ≤ i
theorem isList_ne {h : Heap} {a b : Addr} {its : Array Value} {o : Obj} {T : String} (l : h.IsList a its) (e : h.get? b = some o) (c : o.cls = .type T) (n : T ≠ "list") : a ≠ b := fun z => by
  obtain ⟨o', e', c', _⟩ := l
  rw [z, e] at e'
  cases e'
  rw [c] at c'
  exact n (Value.type.inj c')
theorem turn_enum {P : Program} {w : World} {K : PySem.W.Frag} {elts : List Expr} {kk : Nat} {tpos : Pos} (a e it : Addr) (hei : e ≠ it) :
    Turn P w K (.Tuple elts kk tpos) (ItE K a) [e, it] e (fun i h => (∃ old, IsEnum h e it i old) ∧ h.IsListIter it a i) where
  mem := by simp
  obj := fun i h st b hb => by
    obtain ⟨⟨old, he⟩, o, ho, _, hd⟩ := st
    rcases List.mem_cons.mp hb with rfl | hb
    · exact ⟨_, he, fun v z => by cases z⟩
    · rw [List.mem_singleton.mp hb]
      exact ⟨o, ho, fun v z => by rw [hd] at z; cases z⟩
  keep := fun i h h' st k => by
    obtain ⟨⟨old, he⟩, l⟩ := st
    exact ⟨⟨old, k e (by simp) _ he⟩, l.at fun o z => k it (by simp) o z⟩
  item := by
    intro X hP hw hK hc i pins s σ H E I hf st hg
    subst hP hw hK
    obtain ⟨xs, x, hq, hx⟩ := hg
    obtain ⟨its, rv, p, hz⟩ := I.list hq
    obtain ⟨u, hu, ru⟩ := rv.get hx
    obtain ⟨⟨old, he⟩, hit⟩ := st
    have hL := p.isList
    have ne1 : a ≠ e := isList_ne hL he rfl (by decide)
    have ne2 : a ≠ it := by
      obtain ⟨o, ho, hc', _⟩ := id hit
      exact isList_ne hL ho hc' (by decide)
    have W := WalksT.enumerateD (A := X.A) (Draws.list (prog := X.prog) (w := X.w) (A := X.A.in1) (I.ok.hd hc) it a ne2 its.toArray) e hei (by simp; exact ⟨hei, Ne.symm ne1⟩) (by simp)
    refine turn_item (fp := [e, it]) (vs := [.int i, x]) (src := srcE X.K a) (tn := fun i h => (∃ old, IsEnum h e it i old) ∧ h.IsListIter it a i) W I hf (fun b hb => ?_) (fun b hb => hb) (by have := (List.getElem?_eq_some_iff.mp hu).1; simpa using this) ⟨⟨old, he⟩, hit, hL⟩ (fun vals hP => ?_) (by show 2 ≤ sizeLine; decide) ⟨x, rfl, fun ys hy => by rw [I.list_inj hy hq]; exact hx⟩ fun h st => ⟨?_, st.2.1⟩
    · rcases List.mem_cons.mp hb with rfl | hb
      · exact ⟨_, he⟩
      · rw [List.mem_singleton.mp hb]
        obtain ⟨o, ho, _⟩ := id hit
        exact ⟨o, ho⟩
    · obtain ⟨t, y, hy, rfl⟩ := hP
      have ey : y = u := by
        have : its[i]? = some y := by simpa using hy
        rw [hu] at this
        exact (Option.some.inj this).symm
      subst ey
      exact .cons ⟨t, rfl⟩ (.cons ru .nil)
    · obtain ⟨old', z⟩ := st.1
      exact ⟨old', z⟩
  done := by
    intro X hP hw hK hc i pins s σ H E I hf st hg
    subst hP hw hK
    obtain ⟨xs, hq, hx⟩ := hg
    obtain ⟨its, rv, p, hz⟩ := I.list hq
    obtain ⟨⟨old, he⟩, hit⟩ := st
    have hl := rv.length
    obtain ⟨f0, f1, f2, f3, f4, f5⟩ := hf it (by simp)
    exact wpAny_pyNext_enum_end (I.ok.hd hc) he hit p.isList (by simp; omega) fun h' eb => ⟨rfl, I.turned (t' := s.toks) (fun b o hb e => eb b o hb e) f0 f1 f3 f4 f5⟩
  self := fun _ _ _ _ _ st h => by
    obtain ⟨⟨old, he⟩, _⟩ := st
    exact wpAny_pyIter_enum he h
section
variable {X : Cx}
def iEnum (K : PySem.W.Frag) (tl : TE) : TI := fun σ H R => tl σ H fun x H1 => ∃ a, x = .ref a ∧ (∃ xs, SqL K H1 a xs) ∧ R (ItE K a) H1
theorem pi_enum {elts : List Expr} {kk : Nat} {tpos p pos : Pos} {e : Expr} {te : TE} (hg : Gl X "enumerate") (hm : X.mg "enumerate" = none) (he : PE X e te)
    (hs : starEach [e] X.env = [(false, eval e X.env)] := by rfl) : PI X (.Tuple elts kk tpos) (.Call (.Name "enumerate" p) [e] [] pos) (iEnum X.K te) := by
  intro pins s σ H R I h
  have b1 : bootBuiltins "enumerate" = some (.type "enumerate") := by decide +kernel
  refine wpAny_Call_Name_kw (ld_blt I hg hm b1 ?_ (by decide) (by decide))
  refine PyProof.Rows.callWith_type1 ?_ hs (by rfl)
  rw [hs]
  refine Calls.spliced_cons (thn (he pins s σ H _ I h) fun u s1 ⟨y, H1, I1, ry, a, ey, ⟨xs, hq⟩, q⟩ => ?_)
  subst ey
  have eu : u = Value.ref a := ry
  subst eu
  refine Calls.spliced_nil ?_
  obtain ⟨its, rv, pl, hz⟩ := I1.list hq
  refine call_enumerate_list pl.isList fun h' e1 e2 e3 kp => ?_
  have I2 : Inv X pins σ H1 { s1 with heap := h' } := I1.kept (t' := s1.toks) kp
  refine wpAny_pyIter_enum (s := { s1 with heap := h' }) e1 ?_
  refine ⟨_, [s1.heap.objs.size + 1, s1.heap.objs.size], _, ItE X.K a, H1, rfl, I2, turn_enum a _ _ (Nat.ne_of_gt (Nat.lt_succ_self _)), ⟨⟨_, e1⟩, e2⟩, fun b hb => ?_, q⟩
  have nb : s1.heap.objs.size ≤ b := by
    rcases List.mem_cons.mp hb with rfl | hb
    · exact Nat.le_succ _
    · rw [List.mem_singleton.mp hb]; exact Nat.le_refl _
  exact I1.fpOk nb (I1.hok.fresh nb)
end
/-- over a list that the body leaves as it is, with the turns' numbers -/
theorem for_enum {K : PySem.W.Frag} {a : Addr} {xs : List V} {g : TG} {tb : TS} {D : Ends} {σ : St} {H : Hp} (Pv : Nat → St → Hp → Prop) (h0 : Pv 0 σ H) (hl : ∀ i σ H, i ≤ xs.length → Pv i σ H → SqL K H a xs)
    (hs : ∀ i x T σ H, xs[i]? = some x → Pv i σ H → H T = none → g (.ref T) σ (upd H T (.tup [.int i, x])) fun σ2 H2 => tb { D with nx := Pv (i + 1), ct := Pv (i + 1), bk := D.nx } σ2 H2) (hd : ∀ σ H, Pv xs.length σ H → D.nx σ H) :
    ∃ W : Nat → Nat → St → Hp → Prop, (∃ m, W 0 m σ H) ∧ ∀ i m σ H, W i m σ H →
      ((ItE K a).stop i H ∧ D.nx σ H) ∨ ((ItE K a).go i H ∧ ∃ N : St → Hp → Prop, (∀ σ' H', N σ' H' → ∃ m', m' < m ∧ W (i + 1) m' σ' H') ∧ ∀ x H', (ItE K a).yld i H x H' → g x σ H' fun σ2 H2 => tb { D with nx := N, ct := N, bk := D.nx } σ2 H2) := by
  refine ⟨fun i m σ H => m = xs.length - i ∧ i ≤ xs.length ∧ Pv i σ H, ⟨xs.length, by simp, Nat.zero_le _, h0⟩, ?_⟩
  rintro i m σ H ⟨rfl, hi, p⟩
  have q := hl i σ H hi p
  by_cases hlt : i < xs.length
  · refine .inr ⟨⟨xs, xs[i], q, by simp [hlt]⟩, Pv (i + 1), fun σ' H' p' => ⟨xs.length - (i + 1), by omega, rfl, hlt, p'⟩, fun x H' y => ?_⟩
    obtain ⟨T, vs, nT, rfl, rfl, x, rfl, hx⟩ := y
    exact hs i x T σ H (hx xs q) p nT
  · have e : i = xs.length := by omega
    subst e
    exact .inl ⟨⟨xs, q, Nat.le_refl _⟩, hd σ H p⟩
end L2


set_option Elab.async false
set_option linter.all false
set_option maxRecDepth 100000
set_option maxHeartbeats 4000000
namespace PySem.SeqAt
open AutoSeq1 (wpAny_loadPart')
open MeetsSeq MeetsSeq2 MeetsSeq3 SeqRoads2
/-! ### t < u of tuples: by the first pair that differs -/
def LtAt (A : Around) (s : Shared) (y x : Value) (b : Bool) : Prop :=
  ∀ (prog : Program) (w : World) (E : Value → Shared → Prop) (Q : Value → Shared → Prop), Q (.bool b) s → wpAny (model prog w) A (richCompare .Lt y x) Q E s
def lexB (e r : Nat → Bool) (z : Bool) : List Nat → Bool
  | [] => z
  | i :: t => if e i = true then lexB e r z t else r i
theorem tuple_ltAt (l b : Addr) (items items2 : Array Value) (n n2 : Nat) (dd dd2 : Option Addr) (sl sl2 : Array (Option Value)) (e r : Nat → Bool) :
    Meets (Builtin.«tuple.__lt__» ⟨[.ref l, .ref b], []⟩)
      (fun A R s => s.heap.get? l = some { cls := .type "tuple", dict := dd, data := .seq items n, slots := sl } ∧ s.heap.get? b = some { cls := .type "tuple", dict := dd2, data := .seq items2 n2, slots := sl2 } ∧
        (∀ j (h1 : j < items.size) (h2 : j < items2.size), EqAt A.in1 s items[j] items2[j] (e j) ∧ (e j = false → LtAt A.in1 s items[j] items2[j] (r j))) ∧
        R (.ok (.ret (.bool (lexB e r (decide (items.size < items2.size)) (List.range (min items.size items2.size)))))) s) :=
  .of_wp fun prog w A R s h => by
    obtain ⟨hp, g, d, tk, os⟩ := s; obtain ⟨hl, hb, he, h⟩ := h
    have f2 := AutoSeq1.sub_tuple_tuple
    have hZ : (items.toList.zip items2.toList).length = min items.size items2.size := by simp
    wp_walk using wpAny_loadPart' hl, wpAny_loadPart' hb, wpAny_forIn_list _ (fun rest b s' => b.1 = none ∧ s' = ⟨hp, g, d, tk, os⟩ ∧ ∃ i, rest = (items.toList.zip items2.toList).drop i ∧
      R (.ok (.ret (.bool (lexB e r (decide (items.size < items2.size)) ((List.range (min items.size items2.size)).drop i))))) ⟨hp, g, d, tk, os⟩) _
    case turn =>
      rintro ⟨y, x⟩ rest b s' ⟨hb', rfl, i, hz, hR⟩
      have hlt : i < (items.toList.zip items2.toList).length := by
        rcases Nat.lt_or_ge i (items.toList.zip items2.toList).length with h' | h'
        · exact h'
        · rw [List.drop_of_length_le h'] at hz; cases hz
      have hm : i < min items.size items2.size := hZ ▸ hlt
      have h1 : i < items.size := Nat.lt_of_lt_of_le hm (Nat.min_le_left _ _)
      have h2 : i < items2.size := Nat.lt_of_lt_of_le hm (Nat.min_le_right _ _)
      rw [List.drop_eq_getElem_cons hlt] at hz
      injection hz with hyx hrest
      have hy : y = items[i] := by have := congrArg Prod.fst hyx; simpa using this
      have hx : x = items2[i] := by have := congrArg Prod.snd hyx; simpa using this
      subst hy hx
      have hd : (List.range (min items.size items2.size)).drop i = i :: (List.range (min items.size items2.size)).drop (i + 1) := by simp [List.drop_eq_getElem_cons, hm]
      rw [hd] at hR
      refine wpAny_bind ((he i h1 h2).1 prog w _ _ ?_)
      cases hy : e i with
      | true =>
        rw [lexB, if_pos hy] at hR
        wp_walk
        exact ⟨rfl, rfl, i + 1, hrest, hR⟩
      | false =>
        rw [lexB, if_neg (by rw [hy]; exact Bool.false_ne_true)] at hR
        have hc := (he i h1 h2).2 hy prog w
        generalize richCompare .Lt items[i] items2[i] = rc at hc ⊢
        wp_walk using hc _ _
        exact ⟨_, rfl, hR⟩
    case fin =>
      rintro ⟨b1, b2⟩ s' ⟨hb', rfl, i, hz, hR⟩
      simp only at hb'
      subst hb'
      have hge : min items.size items2.size ≤ i := by
        rcases Nat.lt_or_ge i (items.toList.zip items2.toList).length with h' | h'
        · rw [List.drop_eq_getElem_cons h'] at hz; cases hz
        · exact hZ ▸ h'
      rw [List.drop_of_length_le (by simpa using hge)] at hR
      wp_walk
      exact ⟨_, rfl, by simpa [Builtin.Tuple.tupleCompareSizes, lexB] using hR⟩
    case h =>
      exact ⟨rfl, rfl, 0, rfl, by simpa using h⟩
section
variable {A : Around} {s : Shared}
theorem LtAt.tuples {l b : Addr} {items items2 : Array Value} {e r : Nat → Bool} (hl : s.heap.IsTuple l items) (hb : s.heap.IsTuple b items2) (hu : A.units < cLine)
    (he : ∀ j (h1 : j < items.size) (h2 : j < items2.size), EqAt A.in1 s items[j] items2[j] (e j) ∧ (e j = false → LtAt A.in1 s items[j] items2[j] (r j))) : LtAt A s (.ref l) (.ref b) (lexB e r (decide (items.size < items2.size)) (List.range (min items.size items2.size))) := fun prog w E Q h => by
  obtain ⟨⟨cls, dd, data, sl⟩, ho, hc, n, hd⟩ := id hl
  obtain ⟨⟨cls2, dd2, data2, sl2⟩, ho2, hc2, n2, hd2⟩ := id hb
  simp only at hc hd hc2 hd2
  subst hc hd hc2 hd2
  exact richCompare_meets_room (op := .Lt) ⟨_, ho, rfl⟩ ⟨_, ho2, rfl⟩ F.slot_tuple_lt F.entry_tuple_lt (F.args_tuple_lt_2 _ _) (tuple_ltAt l b items items2 n n2 dd dd2 sl sl2 e r)
    ⟨ho, ho2, he, ⟨(fun x => nomatch x), h⟩⟩ hu
end
end PySem.SeqAt


set_option Elab.async false
set_option linter.all false
set_option maxRecDepth 100000
set_option maxHeartbeats 4000000
namespace PySem.SeqAt
/-! ### min(t, u) where how they compare is known of the heap: two turns of the loop, then its end -/
section
variable {prog : Program} {w : World} {A : Around} {R : Result → Shared → Prop} {I S : Addr} {fp wr : List Addr} {P : Nat → Value → Prop} {St : Nat → Heap → Prop}
abbrev Keeps (wr : List Addr) (S : Addr) (h h' : Heap) : Prop := ∀ b o, b ∉ wr → b ≠ S → h.get? b = some o → h'.get? b = some o
abbrev loopAt (I S : Addr) : Code := .builtin "min.loop" ⟨[.ref I, .none, .ref S], []⟩
theorem name_min : (toString "min" ++ toString ".loop" : String) = "min.loop" := by decide
theorem min2_end (W : Walks prog w A.in1 I fp wr 2 P St) (hSf : S ∉ fp) {s : Shared} {v : Value} {c : Nat} (hst : St 2 s.heap) (hS : s.heap.get? S = some { cls := .type "list", dict := none, data := .seq #[v, v] c, slots := #[] })
    (hR : ∀ h' tk, Keeps wr S s.heap h' → R (.ok (.ret v)) { s with heap := h', toks := tk }) : codeAny (model prog w) A (loopAt I S) R s := by
  refine codeAny_builtin F.entry_min_loop ?_
  rw [Around.under_plainId F.plain_min_loop _]
  show wpAny _ A.in1 (seqItems? (.ref S) >>= _) _ _ s
  refine wpAny_bind (wpAny_seqItems hS rfl ?_)
  show wpAny _ A.in1 (tryCatch (pyNext (.ref I)) _ >>= _) _ _ s
  refine wpAny_bind (wpAny_tryCatch (W.done s _ _ hst fun h' tk k => ?_))
  show wpAny _ A.in1 (updateSeq S (fun _ => #[]) >>= _) _ _ _
  refine wpAny_bind (wpAny_updateSeq (k S _ (fun z => hSf (W.sub _ z)) hS) rfl (wpAny_bind (wpAny_letGo (wpAny_pure ?_))))
  exact hR _ tk fun b o n1 n2 e => (Heap.get?_update_other _ _ (Ne.symm n2)).trans (k b o n1 e)
theorem min2_next (W : Walks prog w A.in1 I fp wr 2 P St) (hSf : S ∉ fp) {s : Shared} {v u : Value} {c : Nat} {z : Bool} (hst : St 1 s.heap) (hS : s.heap.get? S = some { cls := .type "list", dict := none, data := .seq #[v, v] c, slots := #[] })
    (hu : ∀ x, P 1 x → x = u) (lt : ∀ h' tk, Keeps wr S s.heap h' → LtAt A.in1 { s with heap := h', toks := tk } u v z)
    (hR : ∀ h' tk, Keeps wr S s.heap h' → R (.ok (.ret (if z = true then u else v))) { s with heap := h', toks := tk }) : codeAny (model prog w) A (loopAt I S) R s := by
  refine codeAny_builtin F.entry_min_loop ?_
  rw [Around.under_plainId F.plain_min_loop _]
  show wpAny _ A.in1 (seqItems? (.ref S) >>= _) _ _ s
  refine wpAny_bind (wpAny_seqItems hS rfl ?_)
  show wpAny _ A.in1 (tryCatch (pyNext (.ref I)) _ >>= _) _ _ s
  refine wpAny_bind (wpAny_tryCatch (W.item 1 s _ _ (by decide) hst fun x h' tk hP hst' k => ?_))
  cases hu x hP
  have hS' := k S _ (fun z => hSf (W.sub _ z)) hS
  have k' : Keeps wr S s.heap h' := fun b o n1 _ e => k b o n1 e
  show wpAny _ A.in1 (tryCatch (holding [u, u] (richCompare .Lt u v >>= _)) _ >>= _) _ _ _
  refine wpAny_bind (wpAny_tryCatch (wpAny_holding (wpAny_bind (lt h' tk k' prog w _ _ ?_))))
  refine wpAny_bind (wpAny_holding (wpAny_truthy_bool ?_))
  refine wpAny_bind (wpAny_letGo (wpAny_pure ?_))
  cases z with
  | true =>
    simp only [if_true]
    refine wpAny_bind (wpAny_updateSeq hS' rfl (wpAny_bind (wpAny_letGo ?_)))
    rw [name_min]
    refine wpAny_pure ⟨plainId_quiet F.plain_min_loop _, min2_end W hSf (W.frame _ _ _ hst' fun b hb o e => ?_) (Heap.get?_update_self _ hS' rfl) fun h2 tk2 k2 => ?_⟩
    · exact (Heap.get?_update_other _ _ (fun y : S = b => hSf (by rw [y]; exact hb))).trans e
    · exact hR h2 tk2 fun b o n1 n2 e => k2 b o n1 n2 ((Heap.get?_update_other _ _ (Ne.symm n2)).trans (k b o n1 e))
  | false =>
    simp only [Bool.false_eq_true, if_false]
    refine wpAny_bind (wpAny_letGo ?_)
    rw [name_min]
    exact wpAny_pure ⟨plainId_quiet F.plain_min_loop _, min2_end W hSf hst' hS' fun h2 tk2 k2 => hR h2 tk2 fun b o n1 n2 e => k2 b o n1 n2 (k b o n1 e)⟩
theorem min2_first (W : Walks prog w A.in1 I fp wr 2 P St) (hSf : S ∉ fp) {s : Shared} {v u : Value} {c : Nat} {z : Bool} (hst : St 0 s.heap) (hS : s.heap.get? S = some { cls := .type "list", dict := none, data := .seq #[] c, slots := #[] })
    (hv : ∀ x, P 0 x → x = v) (hu : ∀ x, P 1 x → x = u) (lt : ∀ h' tk, Keeps wr S s.heap h' → LtAt A.in1 { s with heap := h', toks := tk } u v z)
    (hR : ∀ h' tk, Keeps wr S s.heap h' → R (.ok (.ret (if z = true then u else v))) { s with heap := h', toks := tk }) : codeAny (model prog w) A (loopAt I S) R s := by
  refine codeAny_builtin F.entry_min_loop ?_
  rw [Around.under_plainId F.plain_min_loop _]
  show wpAny _ A.in1 (seqItems? (.ref S) >>= _) _ _ s
  refine wpAny_bind (wpAny_seqItems hS rfl ?_)
  show wpAny _ A.in1 (tryCatch (pyNext (.ref I)) _ >>= _) _ _ s
  refine wpAny_bind (wpAny_tryCatch (W.item 0 s _ _ (by decide) hst fun x h' tk hP hst' k => ?_))
  cases hv x hP
  have hS' := k S _ (fun z => hSf (W.sub _ z)) hS
  show wpAny _ A.in1 (updateSeq S (fun _ => #[v, v]) >>= _) _ _ _
  refine wpAny_bind (wpAny_updateSeq hS' rfl ?_)
  rw [name_min]
  refine wpAny_pure ⟨plainId_quiet F.plain_min_loop _, min2_next (z := z) W hSf (W.frame _ _ _ hst' fun b hb o e => ?_) (Heap.get?_update_self _ hS' rfl) hu (fun h2 tk2 k2 => ?_) fun h2 tk2 k2 => ?_⟩
  · exact (Heap.get?_update_other _ _ (fun y : S = b => hSf (by rw [y]; exact hb))).trans e
  · exact lt h2 tk2 fun b o n1 n2 e => k2 b o n1 n2 ((Heap.get?_update_other _ _ (Ne.symm n2)).trans (k b o n1 e))
  · exact hR h2 tk2 fun b o n1 n2 e => k2 b o n1 n2 ((Heap.get?_update_other _ _ (Ne.symm n2)).trans (k b o n1 e))
end
section
variable {prog : Program} {w : World} {A : Around} {E : Value → Shared → Prop} {s : Shared}
theorem min_two_at {v u : Value} {z : Bool} {Q : Value → Shared → Prop} (hh : A.handled = none) (lt : ∀ h' tk, (∀ c o, s.heap.get? c = some o → h'.get? c = some o) → LtAt A.in1 { s with heap := h', toks := tk } u v z)
    (h : ∀ h' tk, (∀ c o, s.heap.get? c = some o → h'.get? c = some o) → Q (if z = true then u else v) { s with heap := h', toks := tk }) : wpAny (model prog w) A (call (.builtin "min") [v, u]) Q E s := by
  have hT : (s.heap.push { cls := .type "tuple", data := .seq #[v, u] }).IsTuple s.heap.objs.size #[v, u] := ⟨_, Heap.get?_push_size _ rfl, rfl, 0, rfl⟩
  have hsz : (s.heap.push { cls := .type "tuple", data := .seq #[v, u] }).objs.size = s.heap.objs.size + 1 := Heap.size_push ..
  refine call_function_tree F.kind_min F.plain_min F.entry_min (F.args_min2 _ _) ?_
  show wpAny _ A.in1 (Builtin.Builtins.bindParams "min" ["key", "default"] 0 ⟨[], []⟩ >>= _) _ _ s
  refine wpAny_bind (wpAny_of_eq (show Builtin.Builtins.bindParams "min" ["key", "default"] 0 ⟨[], []⟩ = pure [none, none] from rfl) ?_)
  show wpAny _ A.in1 (newTuple [v, u] >>= _) _ _ s
  refine wpAny_bind (wpAny_newObj_type (wpAny_bind (wpAny_pyIter_tuple hT ?_)))
  refine wpAny_bind (wpAny_newObj_type ?_)
  rw [name_min]
  have ne : s.heap.objs.size ≠ (s.heap.push { cls := .type "tuple", data := .seq #[v, u] }).objs.size := by rw [hsz]; exact Nat.ne_of_lt (Nat.lt_succ_self _)
  have W : Walks prog w A.in1 (s.heap.push { cls := .type "tuple", data := .seq #[v, u] }).objs.size [(s.heap.push { cls := .type "tuple", data := .seq #[v, u] }).objs.size, s.heap.objs.size] [(s.heap.push { cls := .type "tuple", data := .seq #[v, u] }).objs.size] 2 _ _ := Walks.tuple (A := A.in1) hh _ s.heap.objs.size ne #[v, u]
  refine wpAny_pure ⟨plainId_quiet F.plain_min_loop _, min2_first (z := z) (v := v) (u := u) W (fun hm => ?_) ⟨?_, ?_⟩ (Heap.get?_push_size _ rfl) (fun x e => (Option.some.inj e).symm) (fun x e => (Option.some.inj e).symm) (fun h' tk k => lt h' tk fun c o e => ?_) fun h' tk k => h h' tk fun c o e => ?_⟩
  · have e1 : s.heap.objs.size + 2 ∈ [s.heap.objs.size + 1, s.heap.objs.size] := by
      have := hm
      simp only [Heap.size_push] at this
      exact this
    rcases List.mem_cons.mp e1 with e | e
    · omega
    · rcases List.mem_cons.mp e with e | e
      · omega
      · cases e
  · exact ⟨_, Heap.get?_push_of_some _ (Heap.get?_push_size _ rfl), rfl, rfl⟩
  · exact (hT.push _).push _
  · skip
    refine k c o (fun hm => ?_) ?_ (Heap.get?_push_of_some _ (Heap.get?_push_of_some _ (Heap.get?_push_of_some _ e)))
    · have h1 := Heap.lt_size e
      have h2 := List.mem_singleton.mp hm
      rw [h2, hsz] at h1
      exact absurd h1 (Nat.not_lt.mpr (Nat.le_succ _))
    · have h1 := Heap.lt_size e
      intro h2
      rw [h2] at h1
      simp only [Heap.size_push] at h1
      exact absurd h1 (Nat.not_lt.mpr (Nat.le_trans (Nat.le_succ _) (Nat.le_succ _)))
  · skip
    refine k c o (fun hm => ?_) ?_ (Heap.get?_push_of_some _ (Heap.get?_push_of_some _ (Heap.get?_push_of_some _ e)))
    · have h1 := Heap.lt_size e
      have h2 := List.mem_singleton.mp hm
      rw [h2, hsz] at h1
      exact absurd h1 (Nat.not_lt.mpr (Nat.le_succ _))
    · have h1 := Heap.lt_size e
      intro h2
      rw [h2] at h1
      simp only [Heap.size_push] at h1
      exact absurd h1 (Nat.not_lt.mpr (Nat.le_trans (Nat.le_succ _) (Nat.le_succ _)))
end
end PySem.SeqAt


set_option Elab.async false
set_option linter.all false
set_option maxRecDepth 100000
set_option maxHeartbeats 4000000
namespace L2
open PySem PySem.Spec PyProof.Rows PySem.SeqAt
/-- t < u of tuples of ints -/
def ltL : List Int → List Int → Bool
  | [], [] => false
  | [], _ :: _ => true
  | _ :: _, [] => false
  | a :: r, b :: t => if a = b then ltL r t else decide (a < b)
theorem LtAt.int {A : Around} {s : Shared} {i j : Int} {t u : Tok} : LtAt A s (.int i t) (.int j u) (decide (i < j)) := fun prog w E Q h => lt_int h
theorem lexB_shift (e r : Nat → Bool) (z : Bool) : ∀ (m k : Nat), lexB e r z ((List.range m).map (· + k)) = lexB (fun i => e (i + k)) (fun i => r (i + k)) z (List.range m) := by
  intro m k
  generalize List.range m = l
  induction l with
  | nil => rfl
  | cons a t ih =>
    show (if e (a + k) = true then lexB e r z (t.map (· + k)) else r (a + k)) = (if e (a + k) = true then lexB _ _ z t else r (a + k))
    rw [ih]
theorem lexB_ltL : ∀ (xs ys : List Int), lexB (fun i => decide (xs.getD i 0 = ys.getD i 0)) (fun i => decide (xs.getD i 0 < ys.getD i 0)) (decide (xs.length < ys.length)) (List.range (min xs.length ys.length)) = ltL xs ys
  | [], [] => rfl
  | [], b :: t => by
    rw [show min ([] : List Int).length (b :: t).length = 0 from Nat.zero_min _]
    show decide (0 < t.length + 1) = true
    exact decide_eq_true (Nat.succ_pos _)
  | a :: r, [] => by
    rw [show min (a :: r).length ([] : List Int).length = 0 from Nat.min_zero _]
    rfl
  | a :: r, b :: t => by
    rw [show min (a :: r).length (b :: t).length = min r.length t.length + 1 from Nat.succ_min_succ _ _, List.range_succ_eq_map]
    show (if decide (a = b) = true then lexB _ _ _ ((List.range (min r.length t.length)).map (· + 1)) else decide (a < b)) = if a = b then ltL r t else decide (a < b)
    rw [lexB_shift]
    by_cases z : a = b
    · rw [if_pos (decide_eq_true z), if_pos z, ← lexB_ltL r t]
      congr 1
      exact decide_eq_decide.mpr Nat.succ_lt_succ_iff
    · rw [if_neg (by rw [decide_eq_false z]; exact Bool.false_ne_true), if_neg z]
section
variable {X : Cx}
theorem ints_at {ns : List Int} {us : List Value} (h : Vals (ns.map V.int) us) : us.length = ns.length ∧ ∀ (j : Nat) (hj : j < us.length), ∃ t, us[j] = .int (ns.getD j 0) t := by
  refine ⟨by rw [← h.length, List.length_map], ?_⟩
  induction ns generalizing us with
  | nil => cases h; intro j hj; exact absurd hj (Nat.not_lt_zero _)
  | cons n r ih =>
    rw [List.map_cons] at h
    cases h with
    | cons a b =>
      obtain ⟨t, rfl⟩ := a
      intro j hj
      cases j with
      | zero => exact ⟨t, rfl⟩
      | succ j => exact ih b j (Nat.lt_of_succ_lt_succ hj)
theorem ltL_irr : ∀ l : List Int, ltL l l = false
  | [] => rfl
  | a :: r => by show (if a = a then ltL r r else _) = false; rw [if_pos rfl]; exact ltL_irr r
theorem int_eqv (i j : Int) : PyData.eqv (.int i) (.int j) = decide (i = j) := by rw [show PyData.eqv (.int i) (.int j) = (i == j) by simp [PyData.eqv]]; rfl
def tuI (ns : List Int) : PyData := .tuple (ns.map .int)
theorem tuI_eqv (ns ms : List Int) : PyData.eqv (tuI ns) (tuI ms) = decide (ns = ms) := by
  show PyData.eqvAll _ _ = _
  exact eqv_map int_eqv ns ms
theorem tuI_lay (ns : List Int) : (tuI ns).canLay0 = true := lay_map (f := PyData.int) (fun _ => rfl) ns
theorem tuI_depth (ns : List Int) : (tuI ns).depth ≤ 1 := by
  show PyData.depthAll (ns.map .int) + 1 ≤ 1
  have := depth_map (f := PyData.int) (n := 0) (fun _ => Nat.le_refl _) ns
  omega
theorem dat_ints {K : PySem.W.Frag} {H : Hp} : ∀ ns : List Int, DatAll K H (ns.map PyData.int) (ns.map V.int)
  | [] => rfl
  | n :: r => ⟨_, _, rfl, rfl, dat_ints r⟩
theorem lt_ints {pins : List (Addr × Obj)} {σ : St} {H : Hp} {s : Shared} {A : Around} {a b : Addr} {ns ms : List Int} (I : Inv X pins σ H s) (ea : SqT X.K H a (ns.map V.int)) (eb : SqT X.K H b (ms.map V.int)) (hu : A.units < cLine) : LtAt A s (.ref a) (.ref b) (ltL ns ms) := by
  obtain ⟨us, ru, ta, _⟩ := I.tuple ea
  obtain ⟨ws, rw', tb, _⟩ := I.tuple eb
  obtain ⟨lu, gu⟩ := ints_at ru
  obtain ⟨lw, gw⟩ := ints_at rw'
  have z := LtAt.tuples (A := A) (s := s) (e := fun i => decide (ns.getD i 0 = ms.getD i 0)) (r := fun i => decide (ns.getD i 0 < ms.getD i 0)) ta tb hu fun j h1 h2 => by
    have h1' : j < us.length := by simpa using h1
    have h2' : j < ws.length := by simpa using h2
    obtain ⟨t, e1⟩ := gu j h1'
    obtain ⟨t', e2⟩ := gw j h2'
    have e1' : us.toArray[j] = .int (ns.getD j 0) t := by simpa using e1
    have e2' : ws.toArray[j] = .int (ms.getD j 0) t' := by simpa using e2
    rw [e1', e2']
    refine ⟨?_, fun _ => LtAt.int⟩
    rw [← int_eqv]
    exact EqAt.int_int _ _ _ _
  rw [show us.toArray.size = ns.length by simpa using lu, show ws.toArray.size = ms.length by simpa using lw, lexB_ltL] at z
  exact z
def ltP (i : Int) (ns : List Int) (j : Int) (ms : List Int) : Bool := if i = j then ltL ns ms else decide (i < j)
theorem lt_pair {pins : List (Addr × Obj)} {σ : St} {H : Hp} {s : Shared} {A : Around} {a b p q : Addr} {i j : Int} {ns ms : List Int} (I : Inv X pins σ H s) (ea : SqT X.K H a [.int i, .ref p]) (ep : SqT X.K H p (ns.map V.int)) (eb : SqT X.K H b [.int j, .ref q]) (eq : SqT X.K H q (ms.map V.int)) (hu : A.in1.units + 64 < cLine) (hu' : A.units < cLine) : LtAt A s (.ref a) (.ref b) (ltP i ns j ms) := by
  obtain ⟨us, ru, ta, _⟩ := I.tuple ea
  obtain ⟨ws, rw', tb, _⟩ := I.tuple eb
  obtain ⟨u0, u1, rfl, ⟨t, rfl⟩, r1⟩ := vals2 ru
  obtain ⟨w0, w1, rfl, ⟨t', rfl⟩, r2⟩ := vals2 rw'
  cases (show u1 = Value.ref p from r1)
  cases (show w1 = Value.ref q from r2)
  obtain ⟨as, ra⟩ := Dat.reads I (tuI ns) (v := .ref p) (u := .ref p) ⟨p, _, rfl, ep, dat_ints ns⟩ rfl
  obtain ⟨bs, rb⟩ := Dat.reads I (tuI ms) (v := .ref q) (u := .ref q) ⟨q, _, rfl, eq, dat_ints ms⟩ rfl
  have z := LtAt.tuples (A := A) (s := s) (e := fun k => if k = 0 then decide (i = j) else decide (ns = ms)) (r := fun k => if k = 0 then decide (i < j) else ltL ns ms) ta tb hu' fun k h1 h2 => by
    have hk : k = 0 ∨ k = 1 := by have : k < 2 := h1; omega
    rcases hk with rfl | rfl
    · refine ⟨?_, fun _ => LtAt.int⟩
      show EqAt A.in1 s (.int i t) (.int j t') (decide (i = j))
      rw [← int_eqv]
      exact EqAt.int_int _ _ _ _
    · refine ⟨?_, fun _ => lt_ints I ep eq (by omega)⟩
      show EqAt A.in1 s (.ref p) (.ref q) (decide (ns = ms))
      rw [← tuI_eqv]
      have d1 := tuI_depth ns
      exact eqAt_reads _ _ _ _ _ _ _ _ ra rb (tuI_lay _) (tuI_lay _) (by omega)
  have e : lexB (fun k => if k = 0 then decide (i = j) else decide (ns = ms)) (fun k => if k = 0 then decide (i < j) else ltL ns ms) (decide (2 < 2)) (List.range (min 2 2)) = ltP i ns j ms := by
    show (if decide (i = j) = true then (if decide (ns = ms) = true then decide (2 < 2) else ltL ns ms) else decide (i < j)) = _
    unfold ltP
    by_cases h1 : i = j
    · rw [if_pos (decide_eq_true h1), if_pos h1]
      by_cases h2 : ns = ms
      · rw [if_pos (decide_eq_true h2), h2, ltL_irr]; rfl
      · rw [if_neg (by rw [decide_eq_false h2]; exact Bool.false_ne_true)]
    · rw [if_neg (by rw [decide_eq_false h1]; exact Bool.false_ne_true), if_neg h1]
  rw [← e]
  exact z
/-- min of two pairs of an int and a tuple of ints -/
theorem call_minP (hc : X.calm = true) (hu : X.A.units + 66 < cLine) : CallR X (.builtin "min") (fun xs H Q => ∃ (a b p q : Addr) (i j : Int) (ns ms : List Int), xs = [.ref a, .ref b] ∧ SqT X.K H a [.int i, .ref p] ∧ SqT X.K H p (ns.map V.int) ∧ SqT X.K H b [.int j, .ref q] ∧ SqT X.K H q (ms.map V.int) ∧ Q (.ref (if ltP j ms i ns = true then b else a)) H) := by
  intro pins s σ H xs us Q I r h
  obtain ⟨a, b, p, q, i, j, ns, ms, rfl, ea, ep, eb, eq, z⟩ := h
  obtain ⟨u, w', rfl, r1, r2⟩ := vals2 r
  cases (show u = Value.ref a from r1)
  cases (show w' = Value.ref b from r2)
  refine min_two_at (z := ltP j ms i ns) (I.ok.hd hc) (fun h' tk k => lt_pair (I.kept k) eb eq ea ep ?_ ?_) fun h' tk k => ⟨_, H, I.kept k, ?_, z⟩
  · show X.A.units + 1 + 1 + 64 < cLine
    omega
  · show X.A.units + 1 < cLine
    omega
  · by_cases y : ltP j ms i ns = true
    · rw [if_pos y, if_pos y]; rfl
    · rw [if_neg y, if_neg y]; rfl
end
end L2


set_option Elab.async false
set_option linter.all false
set_option maxRecDepth 100000
set_option maxHeartbeats 4000000
namespace L2
open PySem PySem.Spec PyProof.Rows
/-- o.m(..) within a comprehension -/
theorem pe_methC {X : Cx} {P : Program} {w : World} {K : PySem.W.Frag} {mg : Str → Option Value} {base : Heap} {k : Nat} {m : Str} {o e : Expr} {es : List Expr} {ta : TE} {t : TA} {apos pos : Pos} {pl : Sem Bool} (eP : X.prog = P) (ew : X.w = w) (eK : X.K = K) (em : X.mg = mg) (eb : X.base = base) (he : PE X o ta) (hr : Room k X.A) (ha : PA X (e :: es) t)
    (hst : starEach (e :: es) X.env = (false, eval e X.env) :: starEach es X.env := by rfl) (hpl : (backTo pos (starEach es X.env)).any (·.1) = false := by rfl)
    (ht : eval (.Call (.Attribute o m apos) (e :: es) [] pos) X.env = (do
      let ov ← eval o X.env
      standAt apos.atName
      let (f, first) ← holding [ov] (getMethod ov m pl)
      callWith pos f first (backTo pos (starEach (e :: es) X.env)) (backToKw pos (keywordEach [] X.env))) := by rfl) :
    PE X (.Call (.Attribute o m apos) (e :: es) [] pos) (tMethC P w K mg base k m ta t) := by
  subst eP ew eK em eb
  exact pe_methD he hr ha hst hpl ht
end L2
namespace Mine
open PySem L2
/-! ### a comprehension over range, without a test -/
theorem comp_range {wi : TI} {te : TE} {js : List Nat} {σ : St} {H0 : Hp} {Q : VK} {lo : Int} {n : Nat} (Src : Hp → Prop) (hwi : ∀ R : It → Hp → Prop, (∀ H, Src H → R (Itr lo n) H) → wi σ H0 R) (hx : n ≤ 1000)
    (Pv : Addr → Nat → List V → Hp → Prop) (h0 : ∀ H D, Src H → H D = none → Pv D 0 [] (upd H D (.lst [])))
    (hs : ∀ D i ys H', i < n → H' D = some (.lst ys) → Pv D i ys H' → ∀ N : VK, (∀ y H'', H'' D = some (.lst ys) → Pv D (i + 1) (ys ++ [y]) (upd H'' D (.lst (ys ++ [y]))) → N y H'') → te (some (.int (lo + i)) :: cVals js σ) H' N)
    (hd : ∀ D ys H', H' D = some (.lst ys) → Pv D n ys H' → Q (.ref D) H') : tComp wi tNoIf te js σ H0 Q := by
  refine hwi _ fun H src => ?_
  intro D hD
  refine ⟨fun i m H' => m = n - i ∧ i ≤ n ∧ ∃ ys, ys.length = i ∧ H' D = some (.lst ys) ∧ Pv D i ys H', ⟨n, rfl, Nat.zero_le _, [], rfl, upd_same, h0 H D src hD⟩, ?_⟩
  rintro i m H2 ⟨rfl, hi, ys, hy, eD, p⟩
  by_cases hlt : i < n
  · refine .inr ⟨hlt, fun v H3 y => ?_⟩
    obtain ⟨eh, ev⟩ := y
    subst eh ev
    refine tNoIf_go ?_
    refine hs D i ys _ hlt eD p _ fun y H5 z2 z3 => ?_
    exact ⟨ys, z2, Nat.lt_of_le_of_lt (show ys.length ≤ 1000 by omega) (by decide), n - (i + 1), by omega, rfl, hlt, ys ++ [y], by rw [List.length_append, hy]; rfl, upd_same, z3⟩
  · have ei : i = n := by omega
    subst ei
    exact .inl ⟨Nat.le_refl _, hd D ys H2 eD p⟩
theorem All2.mem {α : Type} {R R' : V → α → Prop} {us : List V} {ts : List α} (h : All2 R us ts) (k : ∀ v ∈ us, ∀ t, R v t → R' v t) : All2 R' us ts := by
  induction h with
  | nil => exact .nil
  | cons r _ ih => exact .cons (k _ List.mem_cons_self _ r) (ih fun v hv => k v (List.mem_cons_of_mem _ hv))
/-- one that makes something new of each number, all that stood stays -/
theorem comp_rangeM {wi : TI} {te : TE} {js : List Nat} {σ : St} {H : Hp} {Q : VK} {lo : Int} {n : Nat} (R : Hp → V → Nat → Prop) (hR : ∀ D H H' v i, SB (.ref D) H H' → v ≠ .ref D → R H v i → R H' v i) (Src : Hp → Prop) (hwi : ∀ R : It → Hp → Prop, (∀ H, Src H → R (Itr lo n) H) → wi σ H R) (hsrc : ∀ H', Src H' → Same H H') (hx : n ≤ 1000)
    (hs : ∀ i H' (N : VK), i < n → Same H H' → (∀ v H'', Same H' H'' → (∀ a, v = .ref a → H' a = none) → R H'' v i → N v H'') → te (some (.int (lo + i)) :: cVals js σ) H' N)
    (hd : ∀ D ys H', Same H H' → H D = none → H' D = some (.lst ys) → All2 (R H') ys (List.range n) → Q (.ref D) H') : tComp wi tNoIf te js σ H Q := by
  refine comp_range Src hwi hx (fun D i ys H' => H D = none ∧ Same H H' ∧ (∀ v ∈ ys, v ≠ .ref D) ∧ All2 (R H') ys (List.range i)) (fun H' D src hD => ⟨(hsrc H' src).free hD, (hsrc H' src).trans (same_new hD _), (fun _ z => nomatch z), .nil⟩) (fun D i ys H' hi eD h N hN => ?_) (fun D ys H' eD h => hd D ys H' h.2.1 h.1 eD h.2.2.2)
  obtain ⟨hD, sm, nD, al⟩ := h
  refine hs i H' N hi sm fun v H'' s2 fr r => ?_
  have eD2 := s2 _ _ eD
  have nv : v ≠ .ref D := fun z => by have := fr D z; rw [eD] at this; cases this
  have sb1 : SB (.ref D) H' (upd H'' D (.lst (ys ++ [v]))) := (SB.of s2).trans (sb_upd _ _)
  refine hN v H'' eD2 ⟨hD, same_mut (sm.trans s2) hD _, fun u hu => ?_, ?_⟩
  · rcases List.mem_append.mp hu with hu | hu
    · exact nD u hu
    · rw [List.mem_singleton.mp hu]; exact nv
  · rw [List.range_succ]
    exact (al.mem fun u hu t ru => hR D _ _ _ _ sb1 (nD u hu) ru).app (.cons (hR D _ _ _ _ (sb_upd _ _) nv r) .nil)
end Mine


set_option Elab.async false
set_option linter.all false
set_option maxRecDepth 100000
set_option maxHeartbeats 4000000
namespace Mine
open PySem L2
def top (i : Nat) : Stmt := PySem.Challenge.pw_leansay_k06_steps_and_the_least.main.body.getD i (.Pass ⟨0, 0, 0, 0⟩)
abbrev s_Saying_made_of : Stmt := inClass (top 6) 0
abbrev s_Saying_laid_out : Stmt := inClass (top 6) 2
abbrev s_Saying_out_of : Stmt := inClass (top 6) 4
abbrev s_Never_weigh : Stmt := inClass (top 7) 1
abbrev s_Always_weigh : Stmt := inClass (top 8) 1
abbrev s_Letter_init : Stmt := inClass (top 9) 0
abbrev s_Letter_weigh : Stmt := inClass (top 9) 2
abbrev s_Not_init : Stmt := inClass (top 10) 0
abbrev s_Not_made_of : Stmt := inClass (top 10) 1
abbrev s_Not_weigh : Stmt := inClass (top 10) 4
abbrev s_Fold_init : Stmt := inClass (top 11) 0
abbrev s_Fold_made_of : Stmt := inClass (top 11) 1
abbrev s_Fold_weigh : Stmt := inClass (top 11) 3
abbrev s_More_folded : Stmt := inClass (top 12) 1
abbrev s_Less_folded : Stmt := inClass (top 13) 1
abbrev s_Greater_folded : Stmt := inClass (top 14) 1
abbrev s_Lesser_folded : Stmt := inClass (top 15) 1
abbrev s_Leads_folded : Stmt := inClass (top 16) 1
abbrev sLaid : Stmt := s_Saying_laid_out
abbrev sOut : Stmt := s_Saying_out_of
abbrev s_on_step : Stmt := top 2
abbrev s_on_steps : Stmt := top 3
abbrev s_least_on_steps : Stmt := top 4
abbrev s_l_mixed : Stmt := top 18
abbrev sMixed : Stmt := top 18
abbrev s_l_next : Stmt := top 19
abbrev sNext : Stmt := top 19
abbrev s_l_saying : Stmt := top 20
abbrev sSaying : Stmt := top 20
abbrev s_l_object : Stmt := top 21
abbrev sObject : Stmt := top 21
abbrev s_l_fold : Stmt := top 22
abbrev sFoldF : Stmt := top 22
abbrev s_l_worth : Stmt := top 23
abbrev sWorth : Stmt := top 23
abbrev s_l_whole : Stmt := top 24
abbrev sWhole : Stmt := top 24
abbrev s_law : Stmt := top 25
abbrev sLaw : Stmt := top 25
end Mine

namespace Mine
open PySem L2
section
variable {P : Program} {w : World} {K : PySem.W.Frag} {mg : Str → Option Value} {base : Heap}
theorem sc_iLetter : FnScope ["self", "name"] ["self", "name"] (defScope s_Letter_init) := ⟨rfl, rfl, rfl, by decide +kernel, rfl, by decide +kernel, by decide +kernel⟩
theorem ok_iLetter {x : Str} {C : Addr} (T : MkF K mg x C "Letter.__init__" s_Letter_init) (n : NoAttr K C "name") : MkOk P w K mg base x C 1 ["self", "name"] (spInit1 C fName) := by
  refine mk_of T sc_iLetter (fun _ _ _ _ _ _ us hl => match us, hl with | [_, _], _ => rfl) (fun vs H Q E h => ?_) (fun f cdv A outer s H vs Q E hr h => ?_)
  · obtain ⟨a, dx, y, rfl, e, q⟩ := h
    rfl
  obtain ⟨a, dx, y, rfl, e, q⟩ := h
  have nd := sc_iLetter.nd
  refine ⟨_, (pss_one (ps_fld (pv 0) (pv 1) rfl)), ?_⟩
  exact ⟨_, rfl, _, rfl, a, C, dx, [], rfl, e, T.cl, n, (by show 0 < 1000; decide), q⟩
theorem sc_iNot : FnScope ["self", "part"] ["self", "part"] (defScope s_Not_init) := ⟨rfl, rfl, rfl, by decide +kernel, rfl, by decide +kernel, by decide +kernel⟩
theorem ok_iNot {x : Str} {C : Addr} (T : MkF K mg x C "Not.__init__" s_Not_init) (n : NoAttr K C "part") : MkOk P w K mg base x C 1 ["self", "part"] (spInit1 C fPart) := by
  refine mk_of T sc_iNot (fun _ _ _ _ _ _ us hl => match us, hl with | [_, _], _ => rfl) (fun vs H Q E h => ?_) (fun f cdv A outer s H vs Q E hr h => ?_)
  · obtain ⟨a, dx, y, rfl, e, q⟩ := h
    rfl
  obtain ⟨a, dx, y, rfl, e, q⟩ := h
  have nd := sc_iNot.nd
  refine ⟨_, (pss_one (ps_fld (pv 0) (pv 1) rfl)), ?_⟩
  exact ⟨_, rfl, _, rfl, a, C, dx, [], rfl, e, T.cl, n, (by show 0 < 1000; decide), q⟩
theorem sc_iFold : FnScope ["self", "one", "other"] ["self", "one", "other"] (defScope s_Fold_init) := ⟨rfl, rfl, rfl, by decide +kernel, rfl, by decide +kernel, by decide +kernel⟩
theorem ok_iFold {x : Str} {C : Addr} (T : MkF K mg x C "Fold.__init__" s_Fold_init) (n : NoAttr K C "one") (n' : NoAttr K C "other") : MkOk P w K mg base x C 1 ["self", "one", "other"] (spInit2 C) := by
  refine mk_of T sc_iFold (fun _ _ _ _ _ _ us hl => match us, hl with | [_, _, _], _ => rfl) (fun vs H Q E h => ?_) (fun f cdv A outer s H vs Q E hr h => ?_)
  · obtain ⟨a, dx, y, z, rfl, e, q⟩ := h
    rfl
  obtain ⟨a, dx, y, z, rfl, e, q⟩ := h
  have nd := sc_iFold.nd
  refine ⟨_, (pss_cons (ps_fld (pv 0) (pv 1) rfl)
    (pss_one (ps_fld (pv 0) (pv 2) rfl))), ?_⟩
  refine ⟨_, rfl, _, rfl, a, C, dx, [], rfl, e, T.cl, n, (by show 0 < 1000; decide), ?_⟩
  refine ⟨_, rfl, _, rfl, a, C, dx, _, rfl, upd_same, T.cl, n', (by show 1 < 1000; decide), ?_⟩
  rw [putF_two, upd_upd]
  exact q
theorem sc_mS : FnScope ["self"] ["self"] (defScope s_Saying_made_of) := ⟨rfl, rfl, rfl, by decide +kernel, rfl, by decide +kernel, by decide +kernel⟩
theorem ok_mS {c : CCs} {C : Addr} {t : Tr} (T : MethF K C "made_of" "Saying.made_of" s_Saying_made_of) (ht : t.kids = []) : MethOk P w K mg base C "made_of" 1 ["self"] (spMade c t) := by
  refine meth_of T sc_mS (fun _ _ _ _ _ _ us hl => match us, hl with | [_], _ => rfl) (fun vs H Q E h => ?_) (fun f cdv A outer s H vs Q E hr h => ?_)
  · obtain ⟨a, rfl, o, q⟩ := h
    rfl
  obtain ⟨a, rfl, o, q⟩ := h
  have nd := sc_mS.nd
  refine ⟨_, (pss_one (ps_ret (pe_lst pa_nil))), ?_⟩
  refine ⟨(by show 0 ≤ sizeLine; decide), fun l hl => q l [] hl ?_⟩
  rw [ht]
  exact .nil
theorem sc_mNot : FnScope ["self"] ["self"] (defScope s_Not_made_of) := ⟨rfl, rfl, rfl, by decide +kernel, rfl, by decide +kernel, by decide +kernel⟩
theorem ok_mNot {c : CCs} {t : Tr} (T : MethF K c.no "made_of" "Not.made_of" s_Not_made_of) (F : Fx K c) : MethOk P w K mg base c.no "made_of" 1 ["self"] (spMade c (.no t)) := by
  refine meth_of T sc_mNot (fun _ _ _ _ _ _ us hl => match us, hl with | [_], _ => rfl) (fun vs H Q E h => ?_) (fun f cdv A outer s H vs Q E hr h => ?_)
  · obtain ⟨a, rfl, o, q⟩ := h
    rfl
  obtain ⟨a, rfl, o, q⟩ := h
  have nd := sc_mNot.nd
  refine ⟨_, (pss_one (ps_ret (pe_lst (pa_cons (pe_fld (pv 0) rfl) pa_nil)))), ?_⟩
  cases o with
  | no e o =>
    refine ⟨_, rfl, a, c.no, _, _, _, rfl, e, T.cl, F.nPart, look_part _, (by show 1 ≤ sizeLine; decide), fun l hl => q l _ hl ?_⟩
    exact .cons ⟨_, rfl, o⟩ .nil
theorem sc_mFold : FnScope ["self"] ["self"] (defScope s_Fold_made_of) := ⟨rfl, rfl, rfl, by decide +kernel, rfl, by decide +kernel, by decide +kernel⟩
theorem ok_mFold {c : CCs} {u : W5} {t t' : Tr} (T : MethF K (c.fold u) "made_of" "Fold.made_of" s_Fold_made_of) (F : Fx K c) : MethOk P w K mg base (c.fold u) "made_of" 1 ["self"] (spMade c (.fold u t t')) := by
  refine meth_of T sc_mFold (fun _ _ _ _ _ _ us hl => match us, hl with | [_], _ => rfl) (fun vs H Q E h => ?_) (fun f cdv A outer s H vs Q E hr h => ?_)
  · obtain ⟨a, rfl, o, q⟩ := h
    rfl
  obtain ⟨a, rfl, o, q⟩ := h
  have nd := sc_mFold.nd
  refine ⟨_, (pss_one (ps_ret (pe_lst (pa_cons (pe_fld (pv 0) rfl) (pa_cons (pe_fld (pv 0) rfl) pa_nil))))), ?_⟩
  cases o with
  | fold e o o' =>
    refine ⟨_, rfl, a, _, _, _, _, rfl, e, T.cl, F.nOne u, look_one _ _, _, rfl, a, _, _, _, _, rfl, e, T.cl, F.nOther u, look_other _ _, (by show 2 ≤ sizeLine; decide), fun l hl => q l _ hl ?_⟩
    exact .cons ⟨_, rfl, o⟩ (.cons ⟨_, rfl, o'⟩ .nil)
theorem sc_fMore : FnScope ["self", "n", "first", "second"] ["self", "n", "first", "second"] (defScope s_More_folded) := ⟨rfl, rfl, rfl, by decide +kernel, rfl, by decide +kernel, by decide +kernel⟩
theorem ok_fMore {C : Addr} (T : MethF K C "folded" "More.folded" s_More_folded) (Z_min : mg "min" = none) : MethOk P w K mg base C "folded" 1 ["self", "n", "first", "second"] (spFolded .more) := by
  refine meth_of T sc_fMore (fun _ _ _ _ _ _ us hl => match us, hl with | [_, _, _, _], _ => rfl) (fun vs H Q E h => ?_) (fun f cdv A outer s H vs Q E hr h => ?_)
  · obtain ⟨a, n, i, j, rfl, q⟩ := h
    rfl
  obtain ⟨a, n, i, j, rfl, q⟩ := h
  have nd := sc_fMore.nd
  refine ⟨_, (pss_one (ps_ret (pe_callB (call_min2 rfl) rfl Z_min (by decide +kernel) (pa_cons (pe_op op_add (pv 2) (pv 3)) (pa_cons (pv 1) pa_nil))))), ?_⟩
  refine ⟨_, rfl, _, rfl, _, _, rfl, rfl, _, rfl, _, _, rfl, ?_⟩
  rw [min_is]
  exact q
theorem sc_fLess : FnScope ["self", "n", "first", "second"] ["self", "n", "first", "second"] (defScope s_Less_folded) := ⟨rfl, rfl, rfl, by decide +kernel, rfl, by decide +kernel, by decide +kernel⟩
theorem ok_fLess {C : Addr} (T : MethF K C "folded" "Less.folded" s_Less_folded) (Z_max : mg "max" = none) : MethOk P w K mg base C "folded" 1 ["self", "n", "first", "second"] (spFolded .less) := by
  refine meth_of T sc_fLess (fun _ _ _ _ _ _ us hl => match us, hl with | [_, _, _, _], _ => rfl) (fun vs H Q E h => ?_) (fun f cdv A outer s H vs Q E hr h => ?_)
  · obtain ⟨a, n, i, j, rfl, q⟩ := h
    rfl
  obtain ⟨a, n, i, j, rfl, q⟩ := h
  have nd := sc_fLess.nd
  refine ⟨_, (pss_one (ps_ret (pe_callB (call_max2 rfl) rfl Z_max (by decide +kernel) (pa_cons (pe_op op_sub (pe_op op_add (pv 2) (pv 3)) (pv 1)) (pa_cons pe_int pa_nil))))), ?_⟩
  refine ⟨_, rfl, _, rfl, _, _, rfl, rfl, _, rfl, _, _, rfl, rfl, _, _, rfl, ?_⟩
  rw [max_is]
  exact q
theorem sc_fGreater : FnScope ["self", "n", "first", "second"] ["self", "n", "first", "second"] (defScope s_Greater_folded) := ⟨rfl, rfl, rfl, by decide +kernel, rfl, by decide +kernel, by decide +kernel⟩
theorem ok_fGreater {C : Addr} (T : MethF K C "folded" "Greater.folded" s_Greater_folded) (Z_max : mg "max" = none) : MethOk P w K mg base C "folded" 1 ["self", "n", "first", "second"] (spFolded .greater) := by
  refine meth_of T sc_fGreater (fun _ _ _ _ _ _ us hl => match us, hl with | [_, _, _, _], _ => rfl) (fun vs H Q E h => ?_) (fun f cdv A outer s H vs Q E hr h => ?_)
  · obtain ⟨a, n, i, j, rfl, q⟩ := h
    rfl
  obtain ⟨a, n, i, j, rfl, q⟩ := h
  have nd := sc_fGreater.nd
  refine ⟨_, (pss_one (ps_ret (pe_callB (call_max2 rfl) rfl Z_max (by decide +kernel) (pa_cons (pv 2) (pa_cons (pv 3) pa_nil))))), ?_⟩
  refine ⟨_, rfl, _, rfl, _, _, rfl, ?_⟩
  rw [max_is]
  exact q
theorem sc_fLesser : FnScope ["self", "n", "first", "second"] ["self", "n", "first", "second"] (defScope s_Lesser_folded) := ⟨rfl, rfl, rfl, by decide +kernel, rfl, by decide +kernel, by decide +kernel⟩
theorem ok_fLesser {C : Addr} (T : MethF K C "folded" "Lesser.folded" s_Lesser_folded) (Z_min : mg "min" = none) : MethOk P w K mg base C "folded" 1 ["self", "n", "first", "second"] (spFolded .lesser) := by
  refine meth_of T sc_fLesser (fun _ _ _ _ _ _ us hl => match us, hl with | [_, _, _, _], _ => rfl) (fun vs H Q E h => ?_) (fun f cdv A outer s H vs Q E hr h => ?_)
  · obtain ⟨a, n, i, j, rfl, q⟩ := h
    rfl
  obtain ⟨a, n, i, j, rfl, q⟩ := h
  have nd := sc_fLesser.nd
  refine ⟨_, (pss_one (ps_ret (pe_callB (call_min2 rfl) rfl Z_min (by decide +kernel) (pa_cons (pv 2) (pa_cons (pv 3) pa_nil))))), ?_⟩
  refine ⟨_, rfl, _, rfl, _, _, rfl, ?_⟩
  rw [min_is]
  exact q
theorem sc_fLeads : FnScope ["self", "n", "first", "second"] ["self", "n", "first", "second"] (defScope s_Leads_folded) := ⟨rfl, rfl, rfl, by decide +kernel, rfl, by decide +kernel, by decide +kernel⟩
theorem ok_fLeads {C : Addr} (T : MethF K C "folded" "Leads.folded" s_Leads_folded) (Z_min : mg "min" = none) : MethOk P w K mg base C "folded" 1 ["self", "n", "first", "second"] (spFolded .leads) := by
  refine meth_of T sc_fLeads (fun _ _ _ _ _ _ us hl => match us, hl with | [_, _, _, _], _ => rfl) (fun vs H Q E h => ?_) (fun f cdv A outer s H vs Q E hr h => ?_)
  · obtain ⟨a, n, i, j, rfl, q⟩ := h
    rfl
  obtain ⟨a, n, i, j, rfl, q⟩ := h
  have nd := sc_fLeads.nd
  refine ⟨_, (pss_one (ps_ret (pe_callB (call_min2 rfl) rfl Z_min (by decide +kernel) (pa_cons (pe_op op_add (pe_op op_sub (pv 1) (pv 2)) (pv 3)) (pa_cons (pv 1) pa_nil))))), ?_⟩
  refine ⟨_, rfl, _, rfl, _, _, rfl, rfl, _, rfl, _, _, rfl, rfl, _, rfl, _, _, rfl, ?_⟩
  rw [min_is]
  exact q
theorem sc_wgNever : FnScope ["self", "worths", "n", "x", "y"] ["self", "worths", "n", "x", "y"] (defScope s_Never_weigh) := ⟨rfl, rfl, rfl, by decide +kernel, rfl, by decide +kernel, by decide +kernel⟩
theorem ok_wgNever {c : CCs} {C : Addr} (T : MethF K C "weigh" "Never.weigh" s_Never_weigh) : MethOk P w K mg base C "weigh" 2 ["self", "worths", "n", "x", "y"] (spWeigh c .never) := by
  refine meth_of T sc_wgNever (fun _ _ _ _ _ _ us hl => match us, hl with | [_, _, _, _, _], _ => rfl) (fun vs H Q E h => ?_) (fun f cdv A outer s H vs Q E hr h => ?_)
  · obtain ⟨a, l, n, i, j, R, R', rfl, o, e, hz, hs, q⟩ := h
    rfl
  obtain ⟨a, l, n, i, j, R, R', rfl, o, e, hz, hs, q⟩ := h
  have nd := sc_wgNever.nd
  refine ⟨_, (pss_one (ps_expr (pe_bm PySem.F.plainAttrs_list PySem.F.slot_list_append PySem.F.type_list_append mt_append (pv 1) (pa_cons pe_int pa_nil)))), ?_⟩
  have es : R' = (worthAlg n i j).leaf .never :: R := step_leaf hs rfl
  subst es
  refine ⟨_, rfl, .inl ⟨rfl, _, SqL.of e⟩, l, _, _, rfl, rfl, e, stack_lt hz, ?_⟩
  exact q _ (sb_upd _ _) (by rw [upd_same]; exact congrArg _ (congrArg _ (push_int _ _)))
theorem sc_wgAlways : FnScope ["self", "worths", "n", "x", "y"] ["self", "worths", "n", "x", "y"] (defScope s_Always_weigh) := ⟨rfl, rfl, rfl, by decide +kernel, rfl, by decide +kernel, by decide +kernel⟩
theorem ok_wgAlways {c : CCs} {C : Addr} (T : MethF K C "weigh" "Always.weigh" s_Always_weigh) : MethOk P w K mg base C "weigh" 2 ["self", "worths", "n", "x", "y"] (spWeigh c .always) := by
  refine meth_of T sc_wgAlways (fun _ _ _ _ _ _ us hl => match us, hl with | [_, _, _, _, _], _ => rfl) (fun vs H Q E h => ?_) (fun f cdv A outer s H vs Q E hr h => ?_)
  · obtain ⟨a, l, n, i, j, R, R', rfl, o, e, hz, hs, q⟩ := h
    rfl
  obtain ⟨a, l, n, i, j, R, R', rfl, o, e, hz, hs, q⟩ := h
  have nd := sc_wgAlways.nd
  refine ⟨_, (pss_one (ps_expr (pe_bm PySem.F.plainAttrs_list PySem.F.slot_list_append PySem.F.type_list_append mt_append (pv 1) (pa_cons (pv 2) pa_nil)))), ?_⟩
  have es : R' = (worthAlg n i j).leaf .always :: R := step_leaf hs rfl
  subst es
  refine ⟨_, rfl, .inl ⟨rfl, _, SqL.of e⟩, _, rfl, l, _, _, rfl, rfl, e, stack_lt hz, ?_⟩
  exact q _ (sb_upd _ _) (by rw [upd_same]; exact congrArg _ (congrArg _ (push_int _ _)))
theorem sc_wgLp : FnScope ["self", "worths", "n", "x", "y"] ["self", "worths", "n", "x", "y"] (defScope s_Letter_weigh) := ⟨rfl, rfl, rfl, by decide +kernel, rfl, by decide +kernel, by decide +kernel⟩
theorem ok_wgLp {c : CCs} (T : MethF K c.le "weigh" "Letter.weigh" s_Letter_weigh) (F : Fx K c) : MethOk P w K mg base c.le "weigh" 2 ["self", "worths", "n", "x", "y"] (spWeigh c .lp) := by
  refine meth_of T sc_wgLp (fun _ _ _ _ _ _ us hl => match us, hl with | [_, _, _, _, _], _ => rfl) (fun vs H Q E h => ?_) (fun f cdv A outer s H vs Q E hr h => ?_)
  · obtain ⟨a, l, n, i, j, R, R', rfl, o, e, hz, hs, q⟩ := h
    rfl
  obtain ⟨a, l, n, i, j, R, R', rfl, o, e, hz, hs, q⟩ := h
  have nd := sc_wgLp.nd
  refine ⟨_, (pss_one (ps_expr (pe_bm PySem.F.plainAttrs_list PySem.F.slot_list_append PySem.F.type_list_append mt_append (pv 1) (pa_cons (pe_ifExp (pt_cmpR op_eq (pe_fld (pv 0) rfl) pe_str (nomark _)) (pv 3) (pv 4)) pa_nil)))), ?_⟩
  have es : R' = (worthAlg n i j).leaf .lp :: R := step_leaf hs rfl
  subst es
  cases o with
  | lp eo =>
    refine ⟨_, rfl, .inl ⟨rfl, _, SqL.of e⟩, _, rfl, a, _, _, _, _, rfl, eo, T.cl, F.nName, look_name _, rfl, _, rfl, ?_⟩
    rw [is_pp]
    refine iteT ⟨_, rfl, l, _, _, rfl, rfl, e, stack_lt hz, ?_⟩
    exact q _ (sb_upd _ _) (by rw [upd_same]; exact congrArg _ (congrArg _ (push_int _ _)))
theorem sc_wgLq : FnScope ["self", "worths", "n", "x", "y"] ["self", "worths", "n", "x", "y"] (defScope s_Letter_weigh) := ⟨rfl, rfl, rfl, by decide +kernel, rfl, by decide +kernel, by decide +kernel⟩
theorem ok_wgLq {c : CCs} (T : MethF K c.le "weigh" "Letter.weigh" s_Letter_weigh) (F : Fx K c) : MethOk P w K mg base c.le "weigh" 2 ["self", "worths", "n", "x", "y"] (spWeigh c .lq) := by
  refine meth_of T sc_wgLq (fun _ _ _ _ _ _ us hl => match us, hl with | [_, _, _, _, _], _ => rfl) (fun vs H Q E h => ?_) (fun f cdv A outer s H vs Q E hr h => ?_)
  · obtain ⟨a, l, n, i, j, R, R', rfl, o, e, hz, hs, q⟩ := h
    rfl
  obtain ⟨a, l, n, i, j, R, R', rfl, o, e, hz, hs, q⟩ := h
  have nd := sc_wgLq.nd
  refine ⟨_, (pss_one (ps_expr (pe_bm PySem.F.plainAttrs_list PySem.F.slot_list_append PySem.F.type_list_append mt_append (pv 1) (pa_cons (pe_ifExp (pt_cmpR op_eq (pe_fld (pv 0) rfl) pe_str (nomark _)) (pv 3) (pv 4)) pa_nil)))), ?_⟩
  have es : R' = (worthAlg n i j).leaf .lq :: R := step_leaf hs rfl
  subst es
  cases o with
  | lq eo =>
    refine ⟨_, rfl, .inl ⟨rfl, _, SqL.of e⟩, _, rfl, a, _, _, _, _, rfl, eo, T.cl, F.nName, look_name _, rfl, _, rfl, ?_⟩
    rw [is_qp]
    refine iteF ⟨_, rfl, l, _, _, rfl, rfl, e, stack_lt hz, ?_⟩
    exact q _ (sb_upd _ _) (by rw [upd_same]; exact congrArg _ (congrArg _ (push_int _ _)))
theorem sc_wgNot : FnScope ["self", "worths", "n", "x", "y"] ["self", "worths", "n", "x", "y"] (defScope s_Not_weigh) := ⟨rfl, rfl, rfl, by decide +kernel, rfl, by decide +kernel, by decide +kernel⟩
theorem ok_wgNot {c : CCs} {C : Addr} {t : Tr} (T : MethF K C "weigh" "Not.weigh" s_Not_weigh) : MethOk P w K mg base C "weigh" 2 ["self", "worths", "n", "x", "y"] (spWeigh c (.no t)) := by
  refine meth_of T sc_wgNot (fun _ _ _ _ _ _ us hl => match us, hl with | [_, _, _, _, _], _ => rfl) (fun vs H Q E h => ?_) (fun f cdv A outer s H vs Q E hr h => ?_)
  · obtain ⟨a, l, n, i, j, R, R', rfl, o, e, hz, hs, q⟩ := h
    rfl
  obtain ⟨a, l, n, i, j, R, R', rfl, o, e, hz, hs, q⟩ := h
  have nd := sc_wgNot.nd
  refine ⟨_, (pss_one (ps_expr (pe_bm PySem.F.plainAttrs_list PySem.F.slot_list_append PySem.F.type_list_append mt_append (pv 1) (pa_cons (pe_op op_sub (pv 2) (pe_bm0 PySem.F.plainAttrs_list PySem.F.slot_list_pop PySem.F.type_list_pop mt_pop (pv 1))) pa_nil)))), ?_⟩
  obtain ⟨b, R1, rfl, rfl⟩ := step_no hs
  have hz' : R1.length < 1000 := hz
  have el : H l = some (.lst (R1.reverse.map V.int ++ [V.int b])) := by rw [e]; exact congrArg _ (congrArg _ (push_int b R1).symm)
  refine ⟨_, rfl, .inl ⟨rfl, _, SqL.of el⟩, _, rfl, _, rfl, .inl ⟨rfl, _, SqL.of el⟩, l, _, _, rfl, rfl, el, snoc_last _ _, ?_⟩
  rw [List.dropLast_concat]
  refine ⟨_, _, rfl, rfl, l, _, _, rfl, rfl, upd_same, by rw [List.length_map, List.length_reverse]; exact Nat.lt_trans hz' (by decide), ?_⟩
  rw [upd_upd]
  exact q _ (sb_upd _ _) (by rw [upd_same]; exact congrArg _ (congrArg _ (push_int _ _)))
theorem sc_wgFold : FnScope ["self", "worths", "n", "x", "y", "second", "first"] ["self", "worths", "n", "x", "y"] (defScope s_Fold_weigh) := ⟨rfl, rfl, rfl, by decide +kernel, rfl, by decide +kernel, by decide +kernel⟩
theorem ok_wgFold {c : CCs} {u : W5} {t t' : Tr} (T : MethF K (c.fold u) "weigh" "Fold.weigh" s_Fold_weigh) (G : MethOk P w K mg base (c.fold u) "folded" 1 ["self", "n", "first", "second"] (spFolded u)) : MethOk P w K mg base (c.fold u) "weigh" 2 ["self", "worths", "n", "x", "y"] (spWeigh c (.fold u t t')) := by
  refine meth_of T sc_wgFold (fun _ _ _ _ _ _ us hl => match us, hl with | [_, _, _, _, _], _ => rfl) (fun vs H Q E h => ?_) (fun f cdv A outer s H vs Q E hr h => ?_)
  · obtain ⟨a, l, n, i, j, R, R', rfl, o, e, hz, hs, q⟩ := h
    rfl
  obtain ⟨a, l, n, i, j, R, R', rfl, o, e, hz, hs, q⟩ := h
  have nd := sc_wgFold.nd
  refine ⟨_, (pss_cons (ps_set (i := 5) nd rfl (Or.inl rfl) (pe_bm0 PySem.F.plainAttrs_list PySem.F.slot_list_pop PySem.F.type_list_pop mt_pop (pv 1)))
    (pss_cons (ps_set (i := 6) nd rfl (Or.inl rfl) (pe_bm0 PySem.F.plainAttrs_list PySem.F.slot_list_pop PySem.F.type_list_pop mt_pop (pv 1)))
    (pss_one (ps_expr (pe_bm PySem.F.plainAttrs_list PySem.F.slot_list_append PySem.F.type_list_append mt_append (pv 1) (pa_cons (pe_methD (k := 1) (pv 0) (hr.mono (by decide)) (pa_cons (pv 2) (pa_cons (pv 6) (pa_cons (pv 5) pa_nil)))) pa_nil)))))), ?_⟩
  obtain ⟨b2, b1, R1, rfl, rfl⟩ := step_fold hs
  have hz' : R1.length + 1 < 1000 := hz
  have el : H l = some (.lst (R1.reverse.map V.int ++ [V.int b1] ++ [V.int b2])) := by rw [e, push_int, push_int]
  obtain ⟨dx, fs, ea, nf⟩ := o.cls
  have nal : a ≠ l := ne_of ea e (by intro z; cases z)
  refine ⟨_, rfl, .inl ⟨rfl, _, SqL.of el⟩, l, _, _, rfl, rfl, el, snoc_last _ _, ?_⟩
  rw [List.dropLast_concat]
  refine ⟨_, rfl, .inl ⟨rfl, _, SqL.of upd_same⟩, l, _, _, rfl, rfl, upd_same, snoc_last _ _, ?_⟩
  rw [List.dropLast_concat, upd_upd]
  refine ⟨_, rfl, .inl ⟨rfl, _, SqL.of upd_same⟩, _, rfl, a, _, _, _, _, _, rfl, by rw [upd_ne nal]; exact ea, nf _ (by decide +kernel), G, _, rfl, _, rfl, _, rfl, a, n, b1, b2, rfl, ?_⟩
  refine ⟨l, _, _, rfl, rfl, upd_same, by rw [List.length_map, List.length_reverse]; exact Nat.lt_trans (Nat.lt_of_succ_lt hz') (by decide), ?_⟩
  rw [upd_upd]
  exact q _ (sb_upd _ _) (by rw [upd_same]; exact congrArg _ (congrArg _ (push_int _ _)))
end
end Mine




set_option Elab.async false
set_option linter.all false
set_option maxRecDepth 100000
set_option maxHeartbeats 4000000
namespace Mine
open PySem L2
structure Ms (P : Program) (w : World) (K : PySem.W.Frag) (mg : Str → Option Value) (base : Heap) (c : CCs) : Prop where
  made : ∀ t, MethOk P w K mg base (c.of t) "made_of" 1 ["self"] (spMade c t)
  weigh : ∀ t, MethOk P w K mg base (c.of t) "weigh" 2 ["self", "worths", "n", "x", "y"] (spWeigh c t)
end Mine

namespace Mine
open PySem L2
section
variable {P : Program} {w : World} {K : PySem.W.Frag} {mg : Str → Option Value} {base : Heap} {c : CCs}
theorem sc_laid : FnScope ["self", "laid", "waiting", "part"] ["self"] (defScope sLaid) := ⟨rfl, rfl, rfl, by decide +kernel, rfl, by decide +kernel, by decide +kernel⟩
theorem ok_laid {C : Addr} {t : Tr} (T : MethF K C "laid_out" "Saying.laid_out" sLaid) (M : Ms P w K mg base c) : MethOk P w K mg base C "laid_out" 2 ["self"] (spLaid c t) := by
  refine meth_of T sc_laid (fun _ _ _ _ _ _ us hl => match us, hl with | [_], _ => rfl) (fun vs H Q E h => ?_) (fun f cdv A outer s H vs Q E hr h => ?_)
  · obtain ⟨a, rfl, _⟩ := h
    rfl
  obtain ⟨a, rfl, oa, ht, q⟩ := h
  have nd := sc_laid.nd
  refine ⟨_, (pss_cons (ps_set (i := 1) nd rfl (Or.inl rfl) (pe_lst pa_nil))
    (pss_cons (ps_set (i := 2) nd rfl (Or.inl rfl) (pe_lst (pa_cons (pv 0) pa_nil)))
    (pss_cons (ps_while PassesOwn.never (pt_truth (pv 2) (fun _ => rfl)) (pss_cons (ps_set (i := 3) nd rfl (Or.inl rfl) (pe_bm0 PySem.F.plainAttrs_list PySem.F.slot_list_pop PySem.F.type_list_pop mt_pop (pv 2)))
    (pss_cons (ps_expr (pe_bm PySem.F.plainAttrs_list PySem.F.slot_list_append PySem.F.type_list_append mt_append (pv 1) (pa_cons (pv 3) pa_nil)))
    (pss_one (ps_expr (pe_bm PySem.F.plainAttrs_list PySem.F.slot_list_extend PySem.F.type_list_extend mt_extend (pv 2) (pa_cons (pe_methD0 (k := 1) (pv 3) (hr.mono (by decide))) pa_nil)))))))
    (pss_cons (ps_expr (pe_bm0 PySem.F.plainAttrs_list PySem.F.slot_list_reverse PySem.F.type_list_reverse mt_reverse (pv 1)))
    (pss_one (ps_ret (pv 1))))))), ?_⟩
  refine ⟨(by show 0 ≤ sizeLine; decide), fun l1 h1 => ?_⟩
  refine ⟨_, rfl, (by show 1 ≤ sizeLine; decide), fun l2 h2' => ?_⟩
  have h2 : H l2 = none := upd_none h2'
  have n12 : l1 ≠ l2 := fun e => by subst e; rw [upd_same] at h2'; cases h2'
  have smI : Same H (upd (upd H l1 (.lst [])) l2 (.lst [.ref a])) := fun b o e => by rw [upd_ne (ne_of_none e h2), upd_ne (ne_of_none e h1)]; exact e
  refine ⟨fun m σ H' => ∃ (L W : List V) (Lt Wt : List Tr) (o : Option V), σ = [some (.ref a), some (.ref l1), some (.ref l2), o] ∧ Same H H' ∧ H' l1 = some (.lst L) ∧ H' l2 = some (.lst W) ∧ All2 (ObV c H') L Lt ∧ All2 (ObV c H') W Wt ∧
      Lt ++ (Wt.reverse.flatMap fun x => x.post.reverse) = t.post.reverse ∧ m = sizes Wt,
    ⟨_, [], [.ref a], [], [t], _, rfl, smI, by rw [upd_ne n12, upd_same], upd_same, .nil, .cons ⟨a, rfl, oa.to (Kp.of smI)⟩ .nil, by simp, rfl⟩, ?_⟩
  rintro m σ H' ⟨L, W, Lt, Wt, o, rfl, sm, e1, e2, oL, oW, hp, rfl⟩
  have hlen : Lt.length + sizes Wt = t.size := by
    have z := congrArg List.length hp
    rw [List.length_append, flat_len, sizes_rev, List.length_reverse, post_len] at z
    exact z
  have hLl := oL.len
  by_cases hw : W = []
  · subst hw
    cases oW
    refine ⟨_, rfl, false, .inl ⟨[], SqL.of e2, rfl⟩, iteF ?_⟩
    refine ⟨_, rfl, .inl ⟨rfl, _, SqL.of e1⟩, l1, _, rfl, rfl, e1, ?_⟩
    have eL : Lt = t.post.reverse := by simpa using hp
    have kp := kp_mut (u := .lst L.reverse) e1 rfl
    refine ⟨_, rfl, q l1 L.reverse _ (fun b o z => ?_) h1 upd_same ?_⟩
    · rw [upd_ne (ne_of_none z h1)]; exact sm b o z
    · have := (oL.imp (ObV.to kp)).rev
      rw [eL, List.reverse_reverse] at this
      exact this
  · obtain ⟨W', v, Wt', x, rfl, rfl, ⟨b, rfl, ob⟩, oW'⟩ := oW.last hw
    refine ⟨_, rfl, true, .inl ⟨_, SqL.of e2, by cases W' <;> rfl⟩, iteT ?_⟩
    have sz : sizes (Wt' ++ [x]) = sizes Wt' + x.size := by rw [sizes_app]; simp [sizes]
    refine ⟨fun σ' H'' => ∃ m', m' < sizes (Wt' ++ [x]) ∧ ∃ (L W : List V) (Lt Wt : List Tr) (o : Option V), σ' = [some (.ref a), some (.ref l1), some (.ref l2), o] ∧ Same H H'' ∧ H'' l1 = some (.lst L) ∧ H'' l2 = some (.lst W) ∧ All2 (ObV c H'') L Lt ∧ All2 (ObV c H'') W Wt ∧
      Lt ++ (Wt.reverse.flatMap fun x => x.post.reverse) = t.post.reverse ∧ m' = sizes Wt, fun _ _ z => z, ?_⟩
    refine ⟨_, rfl, .inl ⟨rfl, _, SqL.of e2⟩, l2, _, _, rfl, rfl, e2, snoc_last _ _, ?_⟩
    rw [List.dropLast_concat]
    have e1' : upd H' l2 (.lst W') l1 = some (.lst L) := by rw [upd_ne n12]; exact e1
    refine ⟨_, rfl, .inl ⟨rfl, _, SqL.of e1'⟩, _, rfl, l1, _, _, rfl, rfl, e1', by rw [hLl]; exact Nat.lt_of_le_of_lt (show Lt.length ≤ 1000 by omega) (by decide), ?_⟩
    have k1 : Kp H' (upd (upd H' l2 (.lst W')) l1 (.lst (L ++ [.ref b]))) := (kp_mut e2 rfl).trans (kp_mut e1' rfl)
    have e2' : upd (upd H' l2 (.lst W')) l1 (.lst (L ++ [.ref b])) l2 = some (.lst W') := by rw [upd_ne n12.symm, upd_same]
    have ob1 := ob.to k1
    obtain ⟨dx, fs, eb, nf⟩ := ob1.cls
    refine ⟨_, rfl, .inl ⟨rfl, _, SqL.of e2'⟩, _, rfl, b, _, _, _, _, _, rfl, eb, nf _ (by decide +kernel), M.made x, b, rfl, ob1, fun l us hl ou => ?_⟩
    have nl2 : l2 ≠ l := ne_of_none e2' hl
    have nl1 : l1 ≠ l := ne_of_none (upd_same (H := upd H' l2 (.lst W'))) hl
    have e2'' : upd (upd (upd H' l2 (.lst W')) l1 (.lst (L ++ [.ref b]))) l (.lst us) l2 = some (.lst W') := by rw [upd_ne nl2]; exact e2'
    have hWl := oW'.len
    have hul := ou.len
    have hkl := kids_len x
    have hWs := len_sizes Wt'
    refine ⟨l2, l, _, _, rfl, rfl, e2'', upd_same, by rw [hWl, hul]; exact Nat.le_trans (show _ ≤ 1002 by omega) (by decide), ?_⟩
    have k2 : Kp (upd (upd H' l2 (.lst W')) l1 (.lst (L ++ [.ref b]))) (upd (upd (upd (upd H' l2 (.lst W')) l1 (.lst (L ++ [.ref b]))) l (.lst us)) l2 (.lst (W' ++ us))) := (kp_new hl _).trans (kp_mut e2'' rfl)
    have k3 := k1.trans k2
    have ks := kids_size x
    refine ⟨sizes (Wt' ++ x.kids), by rw [sz, sizes_app]; omega, L ++ [.ref b], W' ++ us, Lt ++ [x], Wt' ++ x.kids, _, rfl, fun d o z => ?_, by rw [upd_ne n12, upd_ne nl1, upd_same], upd_same, (oL.imp (ObV.to k3)).app (.cons ⟨b, rfl, ob.to k3⟩ .nil), (oW'.imp (ObV.to k3)).app (ou.imp (ObV.to k2)), ?_, rfl⟩
    · have z1 : upd (upd H' l2 (.lst W')) l1 (.lst (L ++ [.ref b])) d = some o := by rw [upd_ne (ne_of_none z h1), upd_ne (ne_of_none z h2)]; exact sm d o z
      rw [upd_ne (ne_of_none z h2), upd_ne (ne_of_none z1 hl)]
      exact z1
    · rw [← hp]
      simp only [List.reverse_append, List.flatMap_append, List.reverse_cons, List.reverse_nil, List.nil_append, List.append_assoc, List.flatMap_cons, List.flatMap_nil, List.append_nil, List.singleton_append, post_rev x, List.cons_append]
end
end Mine

namespace Mine
open PySem L2
section
variable {P : Program} {w : World} {K : PySem.W.Frag} {mg : Str → Option Value} {base : Heap} {c : CCs}
theorem sc_out : FnScope ["self", "n", "x", "y", "worths", "part"] ["self", "n", "x", "y"] (defScope sOut) := ⟨rfl, rfl, rfl, by decide +kernel, rfl, by decide +kernel, by decide +kernel⟩
theorem ok_out {C : Addr} {t : Tr} (T : MethF K C "out_of" "Saying.out_of" sOut) (M : Ms P w K mg base c) (G : ∀ t, MethOk P w K mg base (c.of t) "laid_out" 2 ["self"] (spLaid c t)) : MethOk P w K mg base C "out_of" 3 ["self", "n", "x", "y"] (spOut c t) := by
  refine meth_of T sc_out (fun _ _ _ _ _ _ us hl => match us, hl with | [_, _, _, _], _ => rfl) (fun vs H Q E h => ?_) (fun f cdv A outer s H vs Q E hr h => ?_)
  · obtain ⟨a, n, x, y, rfl, _⟩ := h
    rfl
  obtain ⟨a, n, x, y, rfl, oa, ht, q⟩ := h
  have nd := sc_out.nd
  refine ⟨_, (pss_cons (ps_set (i := 4) nd rfl (Or.inl rfl) (pe_lst pa_nil))
    (pss_cons (ps_for PassesOwn.never rfl (pi_list (pe_methD0 (k := 2) (pv 0) (hr.mono (by omega)))) (pg_name (i := 5) nd rfl (Or.inl rfl)) (pss_one (ps_expr (pe_methD (k := 2) (pv 5) (hr.mono (by decide)) (pa_cons (pv 4) (pa_cons (pv 1) (pa_cons (pv 2) (pa_cons (pv 3) pa_nil))))))))
    (pss_one (ps_ret (pe_bm0 PySem.F.plainAttrs_list PySem.F.slot_list_pop PySem.F.type_list_pop mt_pop (pv 4)))))), ?_⟩
  refine ⟨(by show 0 ≤ sizeLine; decide), fun l1 h1 => ?_⟩
  have sm1 : Same H (upd H l1 (.lst [])) := same_new h1 _
  have oa1 := oa.to (Kp.of sm1)
  obtain ⟨dx, fs, ea, nf⟩ := oa1.cls
  refine ⟨_, rfl, a, _, _, _, _, _, rfl, ea, nf _ (by decide +kernel), G t, a, rfl, oa1, ht, fun l us H' sm hl el ou => ⟨l, rfl, ⟨_, SqL.of el⟩, ?_⟩⟩
  have nl : l ≠ l1 := fun e => by subst e; rw [upd_same] at hl; cases hl
  refine for_list (xs := us) (fun i σ H2 => ∃ (o : Option V) (R : List Int), σ = [some (.ref a), some (.int n), some (.int x), some (.int y), some (.ref l1), o] ∧ SB (.ref l1) H' H2 ∧ H2 l1 = some (.lst (R.reverse.map V.int)) ∧ R.length ≤ i ∧ (worthAlg n x y).run R (t.post.drop i) = some [t.worth n x y])
    ⟨none, [], rfl, SB.refl _ _, sm _ _ upd_same, Nat.le_refl _, run_all _ t⟩ (fun i σ H2 _ h => ?_) (fun i v σ H2 hi h => ?_) (fun σ H2 h => ?_)
  · obtain ⟨o, R, _, sb, _⟩ := h
    exact SqL.of (sb _ _ el fun z => nl (V.ref.inj z))
  · obtain ⟨o, R, rfl, sb, e, hR, hrun⟩ := h
    obtain ⟨z, hz, b, rfl, ob⟩ := ou.get i v hi
    rw [drop_at hz] at hrun
    obtain ⟨R', hs, hrun'⟩ := run_cons hrun
    have kp : Kp H' H2 := sb.kp fun a' o' z1 z2 => by cases z1; rw [sm _ _ upd_same] at z2; cases z2; rfl
    have ob2 := ob.to kp
    obtain ⟨dx', fs', eb, nf'⟩ := ob2.cls
    have hil : i < t.post.length := (List.getElem?_eq_some_iff.mp hz).1
    rw [post_len] at hil
    refine ⟨_, rfl, b, _, _, _, _, _, rfl, eb, nf' _ (by decide +kernel), M.weigh z, _, rfl, _, rfl, _, rfl, _, rfl, b, l1, n, x, y, R, R', rfl, ob2, e, by omega, hs, fun H3 sb3 e3 => ?_⟩
    exact ⟨_, R', rfl, sb.trans sb3, e3, Nat.le_trans (step_len hs) (Nat.succ_le_succ hR), hrun'⟩
  · obtain ⟨o, R, rfl, sb, e, hR, hrun⟩ := h
    have ul := ou.len
    rw [ul, List.drop_length] at hrun
    have eR : R = [t.worth n x y] := Option.some.inj hrun
    subst eR
    refine ⟨_, rfl, .inl ⟨rfl, _, SqL.of e⟩, l1, _, _, rfl, rfl, e, rfl, q _ fun b o z => ?_⟩
    rw [upd_ne (ne_of_none z h1)]
    exact sb b o (sm b o (sm1 b o z)) fun z1 => (ne_of_none z h1) (V.ref.inj z1)
end
end Mine




set_option Elab.async false
set_option linter.all false
set_option maxRecDepth 100000
set_option maxHeartbeats 4000000
namespace Mine
open PySem L2
def rowW (t : Tr) (n x : Int) : List Int := (List.range (n + 1).toNat).map fun y : Nat => t.worth n x (y : Int)
def spStep (c : CCs) : Sp := fun vs H Q _ => ∃ (a : Addr) (t : Tr) (n x : Int), vs = [.ref a, .int n, .int x] ∧ Ob c H a t ∧ t.size ≤ 1000 ∧ 0 ≤ n ∧ n ≤ 100 ∧ ∀ D H', Same H H' → H D = none → H' D = some (.lst ((rowW t n x).map V.int)) → Q (.ref D) H'
section
variable {P : Program} {w : World} {K : PySem.W.Frag} {mg : Str → Option Value} {base : Heap} {c : CCs}
theorem all2_ints {H : Hp} {f : Nat → Int} : ∀ {ys : List V} {is : List Nat}, All2 (fun v i => v = V.int (f i)) ys is → ys = (is.map f).map V.int
  | _, [], h => by cases h; rfl
  | _, i :: r, h => by cases h with | cons a b => rw [a, all2_ints (H := H) b]; rfl
theorem sc_onStep : FnScope ["saying", "n", "x"] ["saying", "n", "x"] (defScope s_on_step) := ⟨rfl, rfl, rfl, by decide +kernel, rfl, by decide +kernel, by decide +kernel⟩
theorem ok_onStep (T : TopDef K mg "on_step" s_on_step) (Z_range : mg "range" = none) (M : ∀ t, MethOk P w K mg base (c.of t) "out_of" 3 ["self", "n", "x", "y"] (spOut c t)) : Def P w K mg base 4 "on_step" ["saying", "n", "x"] (spStep c) := by
  refine def_of T sc_onStep (fun _ _ _ _ _ _ us hl => match us, hl with | [_, _, _], _ => rfl) (fun vs H Q E h => ?_) (fun f cdv A outer s H vs Q E hr h => ?_)
  · obtain ⟨a, t, n, x, rfl, _⟩ := h
    rfl
  obtain ⟨a, t, n, x, rfl, o, hz, h0, h1, q⟩ := h
  have nd := sc_onStep.nd
  refine ⟨_, (pss_one (ps_ret (pe_compF rfl (pi_range1 rfl Z_range (pa_cons (pe_op op_add (pv 1) pe_int) pa_nil)) rfl (by decide +kernel) (by decide +kernel) rfl (show ∀ p ∈ Scope.names _, p.2 = NameKind.free → List.lookup p.1 (defScope s_on_step).names = some .cell ∨ List.lookup p.1 (defScope s_on_step).names = some .free by decide +kernel) (fa_cons (j := 0) rfl (Or.inl rfl) (by decide +kernel) (Or.inl rfl) (fa_cons (j := 1) rfl (Or.inl rfl) (by decide +kernel) (Or.inl rfl) (fa_cons (j := 2) rfl (Or.inl rfl) (by decide +kernel) (Or.inl rfl) fa_nil))) (show (["y", "saying", "n", "x"] : List Str).Nodup by decide +kernel) (fun _ _ _ _ => pif_nil) (fun _ _ _ _ => (pe_methC (P := P) (w := w) (K := K) (mg := mg) (base := base) (k := 3) rfl rfl rfl rfl rfl (pv 1) (hr.mono (by omega)) (pa_cons (pv 2) (pa_cons (pv 3) (pa_cons (pv 0) pa_nil)))))))), ?_⟩
  refine comp_rangeM (lo := 0) (n := (n + 1).toNat) (fun H' v i => v = V.int (t.worth n x (i : Int))) (fun _ _ _ _ _ _ _ h => h) (fun H' => H' = H) (fun R h => ⟨_, rfl, _, _, rfl, rfl, _, rfl, by omega, by omega, ?_⟩) (fun H' e => by rw [e]; exact Same.refl _) (by omega) (fun i H' N hi s1 hN => ?_) (fun D ys H' s1 hD eD al => ?_)
  · exact h H rfl
  · have o1 := o.to (Kp.of s1)
    obtain ⟨dx, fs, ea, nf⟩ := o1.cls
    refine ⟨_, rfl, a, _, _, _, _, _, rfl, ea, nf _ (by decide +kernel), M t, _, rfl, _, rfl, _, rfl, a, n, x, (i : Int), ?_, o1, hz, fun H2 s2 => hN _ H2 s2 (fun _ z => by cases z) rfl⟩
    rw [Int.zero_add]
  · refine q D H' s1 hD ?_
    rw [eD, all2_ints (H := H') al]
    rfl
end
end Mine




set_option Elab.async false
set_option linter.all false
set_option maxRecDepth 100000
set_option maxHeartbeats 4000000
namespace Mine
open PySem L2
/-- the rows of on_steps: new lists -/
def RowV (H0 : Hp) (t : Tr) (n : Int) (H : Hp) (v : V) (x : Nat) : Prop := ∃ l, v = .ref l ∧ H0 l = none ∧ H l = some (.lst ((rowW t n (x : Int)).map V.int))
def spSteps (c : CCs) : Sp := fun vs H Q _ => ∃ (a : Addr) (t : Tr) (n : Int), vs = [.ref a, .int n] ∧ Ob c H a t ∧ t.size ≤ 1000 ∧ 0 ≤ n ∧ n ≤ 100 ∧ ∀ D ys H', Same H H' → H D = none → H' D = some (.lst ys) → All2 (RowV H t n H') ys (List.range (n + 1).toNat) → Q (.ref D) H'
def stepL (o : Option (Int × Nat × Nat)) (w : Int) (x y : Nat) : Option (Int × Nat × Nat) := match o with
  | none => some (w, x, y)
  | some p => if w < p.1 then some (w, x, y) else some p
def rowL (f : Nat → Int) (x : Nat) (o : Option (Int × Nat × Nat)) : Nat → Option (Int × Nat × Nat)
  | 0 => o
  | k + 1 => stepL (rowL f x o k) (f k) x k
def allL (f : Nat → Nat → Int) (m : Nat) : Nat → Option (Int × Nat × Nat)
  | 0 => none
  | k + 1 => rowL (f k) k (allL f m k) m
def LeV (H : Hp) (n : Int) (o : Option (Int × Nat × Nat)) (v : V) : Prop := match o with
  | none => v = .non
  | some (w, x, y) => ∃ a p, v = .ref a ∧ H a = some (.tup [.int w, .ref p]) ∧ H p = some (.tup [.int n, .int (x : Int), .int (y : Int)])
theorem LeV.same {H H' : Hp} {n : Int} {o : Option (Int × Nat × Nat)} {v : V} (h : LeV H n o v) (s : Same H H') : LeV H' n o v := by
  cases o with
  | none => exact h
  | some z =>
    obtain ⟨a, p, e, e1, e2⟩ := h
    exact ⟨a, p, e, s _ _ e1, s _ _ e2⟩
def spLeast (c : CCs) : Sp := fun vs H Q _ => ∃ (a : Addr) (t : Tr) (n : Int), vs = [.ref a, .int n] ∧ Ob c H a t ∧ t.size ≤ 1000 ∧ 0 ≤ n ∧ n ≤ 100 ∧ ∀ v H', Same H H' → LeV H' n (allL (fun x y => t.worth n (x : Int) (y : Int)) (n + 1).toNat (n + 1).toNat) v → Q v H'
theorem iteY {a b : V} {A B : Prop} (h : a = b) (k : A) : if decide (a = b) = true then A else B := by rw [decide_eq_true h, if_pos rfl]; exact k
theorem iteN {a b : V} {A B : Prop} (h : a ≠ b) (k : B) : if decide (a = b) = true then A else B := by rw [decide_eq_false h, if_neg Bool.false_ne_true]; exact k
abbrev lsN : List Str := ["saying", "n", "least", "x", "worths", "y", "found"]
section
variable {P : Program} {w : World} {K : PySem.W.Frag} {mg : Str → Option Value} {base : Heap} {c : CCs}
theorem sc_onSteps : FnScope ["saying", "n"] ["saying", "n"] (defScope s_on_steps) := ⟨rfl, rfl, rfl, by decide +kernel, rfl, by decide +kernel, by decide +kernel⟩
theorem ok_onSteps (T : TopDef K mg "on_steps" s_on_steps) (Z_range : mg "range" = none) (D_on_step : Def P w K mg base 4 "on_step" ["saying", "n", "x"] (spStep c)) : Def P w K mg base 5 "on_steps" ["saying", "n"] (spSteps c) := by
  refine def_of T sc_onSteps (fun _ _ _ _ _ _ us hl => match us, hl with | [_, _], _ => rfl) (fun vs H Q E h => ?_) (fun f cdv A outer s H vs Q E hr h => ?_)
  · obtain ⟨a, t, n, rfl, _⟩ := h
    rfl
  obtain ⟨a, t, n, rfl, o, hz, h0, h1, q⟩ := h
  have nd := sc_onSteps.nd
  refine ⟨_, (pss_one (ps_ret (pe_compF rfl (pi_range1 rfl Z_range (pa_cons (pe_op op_add (pv 1) pe_int) pa_nil)) rfl (by decide +kernel) (by decide +kernel) rfl (show ∀ p ∈ Scope.names _, p.2 = NameKind.free → List.lookup p.1 (defScope s_on_steps).names = some .cell ∨ List.lookup p.1 (defScope s_on_steps).names = some .free by decide +kernel) (fa_cons (j := 0) rfl (Or.inl rfl) (by decide +kernel) (Or.inl rfl) (fa_cons (j := 1) rfl (Or.inl rfl) (by decide +kernel) (Or.inl rfl) fa_nil)) (show (["x", "saying", "n"] : List Str).Nodup by decide +kernel) (fun _ _ _ _ => pif_nil) (fun _ _ _ _ => (pe_def D_on_step (hr.mono (by decide)) rfl (pa_cons (pv 1) (pa_cons (pv 2) (pa_cons (pv 0) pa_nil)))))))), ?_⟩
  refine comp_rangeM (lo := 0) (n := (n + 1).toNat) (RowV H t n) (fun D H1 H2 v i sb nv h => ?_) (fun H' => H' = H) (fun R h => ⟨_, rfl, _, _, rfl, rfl, _, rfl, by omega, by omega, h H rfl⟩) (fun H' e => by rw [e]; exact Same.refl _) (by omega) (fun i H' N hi s1 hN => ?_) (fun D ys H' s1 hD eD al => q D ys H' s1 hD eD al)
  · obtain ⟨l, rfl, hl, e⟩ := h
    exact ⟨l, rfl, hl, sb _ _ e nv⟩
  · refine ⟨_, rfl, _, rfl, _, rfl, a, t, n, (i : Int), ?_, o.to (Kp.of s1), hz, h0, h1, fun D H2 s2 hD eD => hN _ H2 s2 (fun b z => by cases z; exact hD) ⟨D, rfl, s1.free hD, eD⟩⟩
    rw [Int.zero_add]
    rfl
theorem sc_leastOn : FnScope lsN ["saying", "n"] (defScope s_least_on_steps) := ⟨rfl, rfl, rfl, by decide +kernel, rfl, by decide +kernel, by decide +kernel⟩
theorem ok_leastOn (T : TopDef K mg "least_on_steps" s_least_on_steps) (Z_enumerate : mg "enumerate" = none) (D_on_steps : Def P w K mg base 5 "on_steps" ["saying", "n"] (spSteps c)) : Def P w K mg base 6 "least_on_steps" ["saying", "n"] (spLeast c) := by
  refine def_of T sc_leastOn (fun _ _ _ _ _ _ us hl => match us, hl with | [_, _], _ => rfl) (fun vs H Q E h => ?_) (fun f cdv A outer s H vs Q E hr h => ?_)
  · obtain ⟨a, t, n, rfl, _⟩ := h
    rfl
  obtain ⟨a, t, n, rfl, o, hz, h0, h1, q⟩ := h
  have nd := sc_leastOn.nd
  refine ⟨_, (pss_cons (ps_set (i := 2) nd rfl (Or.inl rfl) pe_non)
    (pss_cons (ps_for PassesOwn.never rfl (pi_enum rfl Z_enumerate (pe_def D_on_steps (hr.mono (by decide)) rfl (pa_cons (pv 0) (pa_cons (pv 1) pa_nil)))) (pg_tup rfl (pgs_cons (pg_name (i := 3) nd rfl (Or.inl rfl)) (pgs_cons (pg_name (i := 4) nd rfl (Or.inl rfl)) pgs_nil))) (pss_one (ps_for PassesOwn.never rfl (pi_enum rfl Z_enumerate (pv 4)) (pg_tup rfl (pgs_cons (pg_name (i := 5) nd rfl (Or.inl rfl)) (pgs_cons (pg_name (i := 6) nd rfl (Or.inl rfl)) pgs_nil))) (pss_one (ps_if (PW.pt (pw_or (pt_cmpR op_isN (pv 2) pe_non (nomark _)) (pw_or1 (pt_cmpR op_lt (pv 6) (pe_ix ix_tup (pv 2) pe_int (fun _ _ => rfl)) (nomark _))))) (pss_one (ps_set (i := 2) nd rfl (Or.inl rfl) (pe_tup (pa_cons (pv 6) (pa_cons (pe_tup (pa_cons (pv 1) (pa_cons (pv 3) (pa_cons (pv 5) pa_nil)))) pa_nil))))) pss_nil)))))
    (pss_one (ps_ret (pv 2))))), ?_⟩
  refine ⟨_, rfl, _, rfl, a, t, n, rfl, o, hz, h0, h1, fun D ys H1 s1 hD eD al => ⟨D, rfl, ⟨ys, SqL.of eD⟩, ?_⟩⟩
  have lu := al.len
  rw [List.length_range] at lu
  refine for_enum (xs := ys) (fun i σ H' => Same H1 H' ∧ ∃ v o3 o4 o5 o6, σ = [some (.ref a), some (.int n), some v, o3, o4, o5, o6] ∧ LeV H' n (allL (fun x y => t.worth n (x : Int) (y : Int)) (n + 1).toNat i) v) ⟨Same.refl _, _, _, _, _, _, rfl, rfl⟩ (fun i σ H' _ z => SqL.of (z.1 _ _ eD)) (fun i v T' σ H' hv z hT => ?_) (fun σ H' z => ?_)
  · obtain ⟨sm, u, o3, o4, o5, o6, rfl, le⟩ := z
    have uT := same_new hT (.tup [.int i, v])
    have s2 := sm.trans uT
    obtain ⟨x, hx, l, rfl, hl, el⟩ := al.get i v hv
    have hi : i < ys.length := (List.getElem?_eq_some_iff.mp hv).1
    have ex : x = i := by
      rw [List.getElem?_range (by omega)] at hx
      exact (Option.some.inj hx).symm
    subst ex
    refine ⟨T', _, rfl, SqT.of upd_same, rfl, _, _, rfl, _, _, rfl, rfl, ?_⟩
    have el2 := s2 _ _ el
    refine ⟨_, rfl, l, rfl, ⟨_, SqL.of el2⟩, ?_⟩
    have hrw : (rowW t n (x : Int)).length = (n + 1).toNat := by unfold rowW; rw [List.length_map, List.length_range]
    refine for_enum (xs := (rowW t n (x : Int)).map V.int) (fun k σ H3 => Same (upd H' T' (.tup [.int x, .ref l])) H3 ∧ ∃ v o5 o6, σ = [some (.ref a), some (.int n), some v, some (.int x), some (.ref l), o5, o6] ∧ LeV H3 n (rowL (fun y => t.worth n (x : Int) (y : Int)) x (allL (fun x y => t.worth n (x : Int) (y : Int)) (n + 1).toNat x) k) v) ⟨Same.refl _, _, _, _, rfl, le.same uT⟩ (fun k σ H3 _ z => SqL.of (z.1 _ _ el2)) (fun k v T2 σ H3 hk z hT2 => ?_) (fun σ H3 z => ?_)
    · obtain ⟨s3, u, o5, o6, rfl, le3⟩ := z
      have uT2 := same_new hT2 (.tup [.int k, v])
      have hkl : k < (n + 1).toNat := by
        have := (List.getElem?_eq_some_iff.mp hk).1
        rw [List.length_map, hrw] at this
        exact this
      have ev : v = .int (t.worth n (x : Int) (k : Int)) := by
        rw [List.getElem?_map] at hk
        unfold rowW at hk
        rw [List.getElem?_map, List.getElem?_range hkl] at hk
        exact (Option.some.inj hk).symm
      subst ev
      refine ⟨T2, _, rfl, SqT.of upd_same, rfl, _, _, rfl, _, _, rfl, rfl, ?_⟩
      have le4 := le3.same uT2
      have s4 := s3.trans uT2
      generalize ho : rowL (fun y => t.worth n (x : Int) (y : Int)) x (allL (fun x y => t.worth n (x : Int) (y : Int)) (n + 1).toNat x) k = oo at le4
      have hstep : rowL (fun y => t.worth n (x : Int) (y : Int)) x (allL (fun x y => t.worth n (x : Int) (y : Int)) (n + 1).toNat x) (k + 1) = stepL oo (t.worth n (x : Int) (k : Int)) x k := by rw [← ho]; rfl
      rw [hstep]
      generalize upd H3 T2 (.tup [.int k, .int (t.worth n (x : Int) (k : Int))]) = H4 at le4 s4 ⊢
      generalize t.worth n (x : Int) (k : Int) = ww at *
      have new : ∀ (p b : Addr), H4 p = none → upd H4 p (.tup [.int n, .int (x : Int), .int (k : Int)]) b = none → Same (upd H' T' (.tup [.int x, .ref l])) (upd (upd H4 p (.tup [.int n, .int (x : Int), .int (k : Int)])) b (.tup [.int ww, .ref p])) ∧ LeV (upd (upd H4 p (.tup [.int n, .int (x : Int), .int (k : Int)])) b (.tup [.int ww, .ref p])) n (some (ww, x, k)) (.ref b) := fun p b hp hb => by
        have sp := same_new hp (.tup [.int n, .int (x : Int), .int (k : Int)])
        have sb := same_new hb (.tup [.int ww, .ref p])
        exact ⟨(s4.trans sp).trans sb, b, p, rfl, upd_same, sb _ _ upd_same⟩
      cases oo with
      | none =>
        cases (show u = V.non from le4)
        refine ⟨_, rfl, rfl, _, rfl, iteY rfl ?_⟩
        refine ⟨_, rfl, _, rfl, _, rfl, _, rfl, (by show 3 ≤ sizeLine; decide), fun p hp => ⟨(by show 2 ≤ sizeLine; decide), fun b hb => ?_⟩⟩
        obtain ⟨sA, lA⟩ := new p b hp hb
        exact ⟨sA, _, _, _, rfl, lA⟩
      | some z =>
        obtain ⟨w0, x0, y0⟩ := z
        obtain ⟨a0, p0, rfl, e1, e2⟩ := le4
        refine ⟨_, rfl, rfl, _, rfl, iteN (fun z => by cases z) ?_⟩
        refine ⟨_, rfl, _, rfl, _, _, _, _, rfl, rfl, SqT.of e1, rfl, _, _, rfl, rfl, _, rfl, ?_⟩
        refine ite2 (fun g => ?_) (fun g => ?_)
        · have g' : ww < w0 := of_decide_eq_true g
          refine ⟨_, rfl, _, rfl, _, rfl, _, rfl, (by show 3 ≤ sizeLine; decide), fun p hp => ⟨(by show 2 ≤ sizeLine; decide), fun b hb => ?_⟩⟩
          obtain ⟨sA, lA⟩ := new p b hp hb
          refine ⟨sA, _, _, _, rfl, ?_⟩
          show LeV _ n (if ww < w0 then some (ww, x, k) else some (w0, x0, y0)) _
          rw [if_pos g']
          exact lA
        · have g' : ¬ ww < w0 := fun z => g (decide_eq_true z)
          refine ⟨s4, _, _, _, rfl, ?_⟩
          show LeV _ n (if ww < w0 then some (ww, x, k) else some (w0, x0, y0)) _
          rw [if_neg g']
          exact ⟨a0, p0, rfl, e1, e2⟩
    · obtain ⟨s3, u, o5, o6, rfl, le3⟩ := z
      rw [List.length_map, hrw] at le3
      exact ⟨s2.trans s3, _, _, _, _, _, rfl, le3⟩
  · obtain ⟨sm, u, o3, o4, o5, o6, rfl, le⟩ := z
    rw [lu] at le
    exact ⟨_, rfl, q u H' (s1.trans sm) le⟩
end
end Mine




set_option Elab.async false
set_option linter.all false
set_option maxRecDepth 100000
set_option maxHeartbeats 4000000
namespace Mine
open PySem L2
/-- the least so far, as the law has it -/
def leP (n : Int) (o : Option (Int × Nat × Nat)) : Int × List Int := match o with
  | none => (n + 1, [0, 0, 0])
  | some (w, x, y) => (w, [n, (x : Int), (y : Int)])
def LeM (H : Hp) (n : Int) (o : Option (Int × Nat × Nat)) (v : V) : Prop := ∃ a p, v = .ref a ∧ H a = some (.tup [.int (leP n o).1, .ref p]) ∧ H p = some (.tup ((leP n o).2.map V.int))
theorem LeM.same {H H' : Hp} {n : Int} {o : Option (Int × Nat × Nat)} {v : V} (h : LeM H n o v) (s : Same H H') : LeM H' n o v := by
  obtain ⟨a, p, e, e1, e2⟩ := h
  exact ⟨a, p, e, s _ _ e1, s _ _ e2⟩
/-- all that was looked at lies ahead of (x, y) -/
def Ahead (o : Option (Int × Nat × Nat)) (x y : Nat) : Prop := match o with
  | none => True
  | some (_, x0, y0) => x0 < x ∨ (x0 = x ∧ y0 < y)
theorem ltL3 {n a b : Int} {x y x0 y0 : Nat} (h : x0 < x ∨ (x0 = x ∧ y0 < y)) : ltL [n, (x : Int), (y : Int)] [n, (x0 : Int), (y0 : Int)] = false := by
  show (if n = n then (if (x : Int) = (x0 : Int) then (if (y : Int) = (y0 : Int) then false else decide ((y : Int) < (y0 : Int))) else decide ((x : Int) < (x0 : Int))) else _) = false
  rw [if_pos rfl]
  rcases h with h | ⟨rfl, h⟩
  · rw [if_neg (by omega)]
    exact decide_eq_false (by omega)
  · rw [if_pos rfl, if_neg (by omega)]
    exact decide_eq_false (by omega)
/-- min of the least and a new pair: the least with the new one looked at -/
theorem step_min {n w : Int} {x y : Nat} {o : Option (Int × Nat × Nat)} (hw : w ≤ n) (h : Ahead o x y) : leP n (stepL o w x y) = if ltP w [n, (x : Int), (y : Int)] (leP n o).1 (leP n o).2 = true then (w, [n, (x : Int), (y : Int)]) else leP n o := by
  cases o with
  | none =>
    show (w, [n, (x : Int), (y : Int)]) = if ltP w [n, (x : Int), (y : Int)] (n + 1) [0, 0, 0] = true then _ else _
    unfold ltP
    rw [if_neg (show ¬ w = n + 1 by omega), if_pos (decide_eq_true (show w < n + 1 by omega))]
  | some z =>
    obtain ⟨w0, x0, y0⟩ := z
    show leP n (if w < w0 then some (w, x, y) else some (w0, x0, y0)) = if ltP w [n, (x : Int), (y : Int)] w0 [n, (x0 : Int), (y0 : Int)] = true then _ else (w0, [n, (x0 : Int), (y0 : Int)])
    unfold ltP
    by_cases e : w = w0
    · rw [if_neg (show ¬ w < w0 by omega), if_pos e, ltL3 (a := 0) (b := 0) h, if_neg Bool.false_ne_true]
      rfl
    · rw [if_neg e]
      by_cases g : w < w0
      · rw [if_pos g, if_pos (decide_eq_true g)]
        rfl
      · rw [if_neg g, if_neg (by rw [decide_eq_false g]; exact Bool.false_ne_true)]
        rfl
theorem step_ahead {w : Int} {x y : Nat} {o : Option (Int × Nat × Nat)} (h : Ahead o x y) : Ahead (stepL o w x y) x (y + 1) := by
  cases o with
  | none => exact .inr ⟨rfl, Nat.lt_succ_self _⟩
  | some z =>
    obtain ⟨w0, x0, y0⟩ := z
    show Ahead (if w < w0 then some (w, x, y) else some (w0, x0, y0)) x (y + 1)
    by_cases g : w < w0
    · rw [if_pos g]; exact .inr ⟨rfl, Nat.lt_succ_self _⟩
    · rw [if_neg g]
      rcases h with h | ⟨h1, h2⟩
      · exact .inl h
      · exact .inr ⟨h1, Nat.lt_succ_of_lt h2⟩
theorem row_ahead {f : Nat → Int} {x : Nat} {o : Option (Int × Nat × Nat)} (h : Ahead o x 0) : ∀ k, Ahead (rowL f x o k) x k
  | 0 => h
  | k + 1 => step_ahead (row_ahead h k)
theorem all_ahead {f : Nat → Nat → Int} {m : Nat} : ∀ k, Ahead (allL f m k) k 0
  | 0 => trivial
  | k + 1 => by
    have h := row_ahead (f := f k) (all_ahead (f := f) (m := m) k) m
    show Ahead (rowL (f k) k (allL f m k) m) (k + 1) 0
    cases z : rowL (f k) k (allL f m k) m with
    | none => trivial
    | some p =>
      rw [z] at h
      obtain ⟨w0, x0, y0⟩ := p
      rcases h with h | ⟨h1, _⟩
      · exact .inl (Nat.lt_succ_of_lt h)
      · exact .inl (by omega)
end Mine




set_option Elab.async false
set_option linter.all false
set_option maxRecDepth 100000
set_option maxHeartbeats 4000000
namespace Mine
open PySem L2
section
variable {P : Program} {w : World} {K : PySem.W.Frag} {mg : Str → Option Value} {base : Heap} {c : CCs}
theorem sc_next : FnScope ["_law_cells"] ["_law_cells"] (defScope sNext) := ⟨rfl, rfl, rfl, by decide +kernel, rfl, by decide +kernel, by decide +kernel⟩
theorem ok_next (T : TopDef K mg "_law_next" sNext) (Z_len : mg "len" = none) : Def P w K mg base 1 "_law_next" ["_law_cells"] spNext := by
  refine def_of T sc_next (fun _ _ _ _ _ _ us hl => match us, hl with | [_], _ => rfl) (fun vs H Q E h => ?_) (fun f cdv A outer s H vs Q E hr h => ?_)
  · obtain ⟨l, ms, rfl, _⟩ := h
    rfl
  obtain ⟨l, ms, rfl, e, hc, q⟩ := h
  have nd := sc_next.nd
  refine ⟨_, (pss_cons (ps_if (pt_cmpR op_eq (pe_callB call_len rfl Z_len (by decide +kernel) (pa_cons (pv 0) pa_nil)) pe_int (nomark _)) (pss_one (ps_ret pe_int)) pss_nil)
    (pss_one (ps_ret (pe_bm PySem.F.plainAttrs_list PySem.F.slot_list_pop PySem.F.type_list_pop mt_popAt (pv 0) (pa_cons pe_int pa_nil))))), ?_⟩
  refine ⟨_, rfl, _, _, rfl, .inl ⟨_, SqL.of e, rfl⟩, rfl, _, rfl, ?_⟩
  refine ite2 (fun z => ?_) (fun z => ?_)
  · exact q 0 ms H cel0 hc (SB.refl _ _) e
  · cases ms with
    | nil => exact absurd (decide_eq_true rfl) z
    | cons m r =>
      refine ⟨_, rfl, .inl ⟨rfl, _, SqL.of e⟩, l, _, 0, 0, V.int m, rfl, rfl, e, by decide, by decide, seqIndex_of (Int.le_refl 0) (by rw [List.length_map, List.length_cons]; omega), rfl, ?_⟩
      exact q m r _ (hc m (by simp)) (fun n hn => hc n (List.mem_cons_of_mem _ hn)) (sb_upd _ _) upd_same
end
end Mine

namespace Mine
open PySem L2
section
variable {P : Program} {w : World} {K : PySem.W.Frag} {mg : Str → Option Value} {base : Heap} {c : CCs}
theorem sc_foldF : FnScope ["_law_word", "_law_n", "_law_one", "_law_other"] ["_law_word", "_law_n", "_law_one", "_law_other"] (defScope sFoldF) := ⟨rfl, rfl, rfl, by decide +kernel, rfl, by decide +kernel, by decide +kernel⟩
theorem ok_foldF (T : TopDef K mg "_law_fold" sFoldF) (Z_min : mg "min" = none) (Z_max : mg "max" = none) : Def P w K mg base 1 "_law_fold" ["_law_word", "_law_n", "_law_one", "_law_other"] spFoldF := by
  refine def_of T sc_foldF (fun _ _ _ _ _ _ us hl => match us, hl with | [_, _, _, _], _ => rfl) (fun vs H Q E h => ?_) (fun f cdv A outer s H vs Q E hr h => ?_)
  · obtain ⟨u, n, x, y, rfl, _⟩ := h
    rfl
  obtain ⟨u, n, x, y, rfl, q⟩ := h
  have nd := sc_foldF.nd
  refine ⟨_, (pss_cons (ps_if (pt_cmpR op_eq (pv 0) pe_str (nomark _)) (pss_one (ps_ret (pe_callB (call_min2 rfl) rfl Z_min (by decide +kernel) (pa_cons (pv 1) (pa_cons (pe_op op_add (pv 2) (pv 3)) pa_nil))))) pss_nil)
    (pss_cons (ps_if (pt_cmpR op_eq (pv 0) pe_str (nomark _)) (pss_one (ps_ret (pe_callB (call_max2 rfl) rfl Z_max (by decide +kernel) (pa_cons pe_int (pa_cons (pe_op op_sub (pe_op op_add (pv 2) (pv 3)) (pv 1)) pa_nil))))) pss_nil)
    (pss_cons (ps_if (pt_cmpR op_eq (pv 0) pe_str (nomark _)) (pss_one (ps_ret (pe_callB (call_max2 rfl) rfl Z_max (by decide +kernel) (pa_cons (pv 2) (pa_cons (pv 3) pa_nil))))) pss_nil)
    (pss_cons (ps_if (pt_cmpR op_eq (pv 0) pe_str (nomark _)) (pss_one (ps_ret (pe_callB (call_min2 rfl) rfl Z_min (by decide +kernel) (pa_cons (pv 2) (pa_cons (pv 3) pa_nil))))) pss_nil)
    (pss_one (ps_ret (pe_callB (call_min2 rfl) rfl Z_min (by decide +kernel) (pa_cons (pv 1) (pa_cons (pe_op op_add (pe_op op_sub (pv 1) (pv 2)) (pv 3)) pa_nil))))))))), ?_⟩
  cases u with
  | more =>
    refine ⟨_, rfl, rfl, _, rfl, ite_yes rfl ⟨_, rfl, _, rfl, _, rfl, _, _, rfl, rfl, _, _, rfl, ?_⟩⟩
    rw [min_is, Int.min_comm]
    exact q
  | less =>
    refine ⟨_, rfl, rfl, _, rfl, ite_no (by decide +kernel) ⟨_, rfl, rfl, _, rfl, ite_yes rfl ⟨_, rfl, _, rfl, _, _, rfl, rfl, _, rfl, _, _, rfl, rfl, _, _, rfl, ?_⟩⟩⟩
    rw [max_is, Int.max_comm]
    exact q
  | greater =>
    refine ⟨_, rfl, rfl, _, rfl, ite_no (by decide +kernel) ⟨_, rfl, rfl, _, rfl, ite_no (by decide +kernel) ⟨_, rfl, rfl, _, rfl, ite_yes rfl ⟨_, rfl, _, rfl, _, _, rfl, ?_⟩⟩⟩⟩
    rw [max_is]
    exact q
  | lesser =>
    refine ⟨_, rfl, rfl, _, rfl, ite_no (by decide +kernel) ⟨_, rfl, rfl, _, rfl, ite_no (by decide +kernel) ⟨_, rfl, rfl, _, rfl, ite_no (by decide +kernel) ⟨_, rfl, rfl, _, rfl, ite_yes rfl ⟨_, rfl, _, rfl, _, _, rfl, ?_⟩⟩⟩⟩⟩
    rw [min_is]
    exact q
  | leads =>
    refine ⟨_, rfl, rfl, _, rfl, ite_no (by decide +kernel) ⟨_, rfl, rfl, _, rfl, ite_no (by decide +kernel) ⟨_, rfl, rfl, _, rfl, ite_no (by decide +kernel) ⟨_, rfl, rfl, _, rfl, ite_no (by decide +kernel) ⟨_, rfl, _, rfl, _, rfl, _, _, rfl, rfl, _, rfl, _, _, rfl, rfl, _, _, rfl, ?_⟩⟩⟩⟩⟩
    rw [min_is, Int.min_comm]
    exact q
end
end Mine

namespace Mine
open PySem L2
section
variable {P : Program} {w : World} {K : PySem.W.Frag} {mg : Str → Option Value} {base : Heap} {c : CCs}
theorem sc_mixed : FnScope mixNames ["_law_script", "_law_least"] (defScope sMixed) := ⟨rfl, rfl, rfl, by decide +kernel, rfl, by decide +kernel, by decide +kernel⟩
theorem ok_mixed (T : TopDef K mg "_law_mixed" sMixed) (Z_len : mg "len" = none) (Z_max : mg "max" = none) (Z_min : mg "min" = none) (Z_range : mg "range" = none) (Z_abs : mg "abs" = none) (Z_int : mg "int" = none) : Def P w K mg base 1 "_law_mixed" ["_law_script", "_law_least"] (spMixed K) := by
  refine def_of T sc_mixed (fun _ _ _ _ _ _ us hl => match us, hl with | [_, _], _ => rfl) (fun vs H Q E h => ?_) (fun f cdv A outer s H vs Q E hr h => ?_)
  · obtain ⟨a, ns, k, rfl, _⟩ := h
    rfl
  obtain ⟨a, ns, k, rfl, S, k0, k1, q⟩ := h
  have nd := sc_mixed.nd
  have hlen := S.few
  have tail : ∃ t, PSs (cxOf CX0 P w K mg base mixNames "_law_mixed" (defScope sMixed) f cdv A outer s H E).nox ((defBody sMixed).drop 1) t ∧ ∀ b : Bool, t { nx := fun _ H' => Q .non H', rt := Q } [some (.ref a), some (.int k), some (.bl b), none, none, none] H := by
    refine ⟨_, (pss_cons (ps_set (i := 3) nd rfl (Or.inl rfl) (pe_lst pa_nil))
    (pss_cons (ps_for PassesOwn.never rfl (pi_range1 rfl Z_range (pa_cons (pe_callB (call_max2 rfl) rfl Z_max (by decide +kernel) (pa_cons (pe_op op_add (pv 1) pe_int) (pa_cons (pe_callB (call_min2 rfl) rfl Z_min (by decide +kernel) (pa_cons pe_int (pa_cons (pe_callB call_len rfl Z_len (by decide +kernel) (pa_cons (pv 0) pa_nil)) pa_nil))) pa_nil))) pa_nil)) (pg_name (i := 4) nd rfl (Or.inl rfl)) (pss_cons (ps_set (i := 5) nd rfl (Or.inl rfl) pe_int)
    (pss_cons (ps_if (pt_cmpR op_lt (pv 4) (pe_callB call_len rfl Z_len (by decide +kernel) (pa_cons (pv 0) pa_nil)) (nomark _)) (pss_one (ps_set (i := 5) nd rfl (Or.inl rfl) (pe_ix ix_list (pv 0) (pv 4) (fun _ _ => rfl)))) pss_nil)
    (pss_one (ps_if (PW.pt (pw_and (pt_truth (pv 2) (fun _ => rfl)) (pw_and1 (pt_chain op_lt op_lt pe_int (pv 4) (pe_callB call_len rfl Z_len (by decide +kernel) (pa_cons (pv 0) pa_nil)))))) (pss_one (ps_expr (pe_bm PySem.F.plainAttrs_list PySem.F.slot_list_append PySem.F.type_list_append mt_append (pv 3) (pa_cons (pe_callB call_abs rfl Z_abs (by decide +kernel) (pa_cons (pv 5) pa_nil)) pa_nil)))) (pss_one (ps_expr (pe_bm PySem.F.plainAttrs_list PySem.F.slot_list_append PySem.F.type_list_append mt_append (pv 3) (pa_cons (pe_op op_mod (pe_op op_mulK (pe_op op_mod (pe_op op_add (pe_op op_mulK (pe_op op_mod (pv 5) (pe_op op_pow pe_int pe_int)) pe_int) (pe_op op_mulK pe_int (pe_op op_add (pv 4) pe_int))) pe_int) pe_int) pe_int) pa_nil)))))))))
    (pss_one (ps_ret (pe_slice sl_list (pv 3) (po_some (pe_callTy call_int1 rfl Z_int (by decide +kernel) (pa_cons (pv 2) pa_nil))) po_none))))), ?_⟩
    intro b
    refine ⟨(by show 0 ≤ sizeLine; decide), fun D hD => ?_⟩
    refine ⟨_, rfl, _, _, rfl, rfl, _, rfl, _, _, rfl, .inl ⟨_, (same_new hD _).seq S.l, rfl⟩, _, _, rfl, _, _, rfl, _, rfl, ?_, ?_, ?_⟩
    · rw [min_is, max_is, List.length_map]; omega
    · rw [min_is, max_is, List.length_map]; omega
    rw [min_is, max_is, List.length_map]
    have hN : (max (k + 1) (min 63 (ns.length : Int))).toNat ≤ 1000 := by omega
    refine for_range (fun i σ H2 => ∃ (ms : List Int) (o4 o5 : Option V), σ = [some (.ref a), some (.int k), some (.bl b), some (.ref D), o4, o5] ∧ Same H H2 ∧ H2 D = some (.lst (ms.map V.int)) ∧ ms.length = i ∧ ∀ m ∈ ms, Cel m)
      ⟨[], _, _, rfl, same_new hD _, upd_same, rfl, fun _ h => nomatch h⟩ (fun i σ H2 hi h => ?_) (fun σ H2 h => ?_)
    · obtain ⟨ms, o4, o5, rfl, sm, e, hm, hc⟩ := h
      have S2 := S.to sm
      have next : ∀ v : Int, Cel v → ∀ z : Int, ∃ (ms' : List Int) (o4 o5 : Option V), [some (V.ref a), some (.int k), some (.bl b), some (.ref D), some (.int (0 + (i : Int))), some (.int z)] = [some (V.ref a), some (.int k), some (.bl b), some (.ref D), o4, o5] ∧ Same H (upd H2 D (.lst (ms.map V.int ++ [V.int v]))) ∧
          upd H2 D (.lst (ms.map V.int ++ [V.int v])) D = some (.lst (ms'.map V.int)) ∧ ms'.length = i + 1 ∧ ∀ m ∈ ms', Cel m := fun v cv z => by
        refine ⟨ms ++ [v], _, _, rfl, fun d o zz => ?_, by rw [upd_same, List.map_append]; rfl, by rw [List.length_append, hm]; rfl, fun m hm' => ?_⟩
        · rw [upd_ne (ne_of_none zz hD)]; exact sm d o zz
        · rcases List.mem_append.mp hm' with zz | zz
          · exact hc m zz
          · have : m = v := by simpa using zz
            rw [this]; exact cv
      have ml : (ms.map V.int).length < sizeLine := by rw [List.length_map, hm]; exact Nat.lt_of_lt_of_le hi (Nat.le_trans hN (by decide))
      have lenV : ∃ xs, SqL K H2 a xs ∧ (ns.length : Nat) = xs.length := ⟨_, S2.l, (List.length_map _).symm⟩
      refine ⟨_, rfl, _, rfl, _, ns.length, rfl, .inl lenV, _, _, rfl, rfl, _, rfl, ?_⟩
      have cellOk : ∃ z : Int, Builtin.Int.intBits z ≤ 1048576 ∧ (decide ((0 + (i : Int)) < (ns.length : Int)) = true → atI (ns.map V.int) (0 + (i : Int)) = some (V.int z)) ∧ (¬ decide ((0 + (i : Int)) < (ns.length : Int)) = true → z = 0) := by
        by_cases hlt : i < ns.length
        · refine ⟨ns[i], S.bit _ (List.getElem_mem hlt), fun _ => ?_, fun z => absurd (decide_eq_true (by omega)) z⟩
          rw [Int.zero_add]
          exact atI_nat (by rw [List.getElem?_map, List.getElem?_eq_getElem hlt]; rfl)
        · exact ⟨0, by decide, fun z => absurd (of_decide_eq_true z) (by omega), fun _ => rfl⟩
      obtain ⟨z, hz, hz1, hz2⟩ := cellOk
      refine ite2 (fun g => ?a) (fun g => ?b)
      case' a => refine ⟨_, rfl, _, rfl, _, _, _, _, rfl, rfl, S2.l, hz1 g, ?_⟩
      case' b => have ez := hz2 g; subst ez
      all_goals
        cases b with
        | false =>
          refine ⟨_, rfl, false, rfl, iteF (iteF ?_)⟩
          refine ⟨_, rfl, .inl ⟨rfl, _, SqL.of e⟩, _, rfl, _, _, rfl, rfl, ⟨by decide, by decide, by decide⟩, _, _, rfl, rfl, (show (0 : Int) < 10 ^ (Int.toNat 18) by decide +kernel), _, _, rfl, rfl, mul_ok_r (by decide +kernel), _, rfl, _, _, rfl, rfl, _, _, rfl, rfl, mul_ok_l (by decide +kernel), _, _, rfl, rfl, _, _, rfl, rfl, (show (0 : Int) < 2147483647 by decide), _, _, rfl, rfl, mul_ok_r (by decide +kernel), _, _, rfl, rfl, (show (0 : Int) < 2147483629 by decide), D, _, _, rfl, rfl, e, ml, ?_⟩
          exact next _ (cel_small (Int.emod_nonneg _ (by decide)) (Int.lt_trans (Int.emod_lt_of_pos _ (by decide)) (by decide))) _
        | true =>
          refine ⟨_, rfl, true, rfl, iteT ?_⟩
          refine ⟨_, rfl, _, _, rfl, rfl, _, rfl, ?_⟩
          refine ite2 (fun g1 => ?_) (fun g1 => ?_)
          · refine ⟨_, rfl, _, ns.length, rfl, .inl lenV, _, _, rfl, rfl, _, rfl, ?_⟩
            refine ite2 (fun g2 => ?_) (fun g2 => ?_)
            · refine ⟨_, rfl, .inl ⟨rfl, _, SqL.of e⟩, _, rfl, _, rfl, D, _, _, rfl, rfl, e, ml, ?_⟩
              exact next _ (cel_abs hz) _
            · refine ⟨_, rfl, .inl ⟨rfl, _, SqL.of e⟩, _, rfl, _, _, rfl, rfl, ⟨by decide, by decide, by decide⟩, _, _, rfl, rfl, (show (0 : Int) < 10 ^ (Int.toNat 18) by decide +kernel), _, _, rfl, rfl, mul_ok_r (by decide +kernel), _, rfl, _, _, rfl, rfl, _, _, rfl, rfl, mul_ok_l (by decide +kernel), _, _, rfl, rfl, _, _, rfl, rfl, (show (0 : Int) < 2147483647 by decide), _, _, rfl, rfl, mul_ok_r (by decide +kernel), _, _, rfl, rfl, (show (0 : Int) < 2147483629 by decide), D, _, _, rfl, rfl, e, ml, ?_⟩
              exact next _ (cel_small (Int.emod_nonneg _ (by decide)) (Int.lt_trans (Int.emod_lt_of_pos _ (by decide)) (by decide))) _
          · refine ⟨_, rfl, iteF ?_⟩
            refine ⟨_, rfl, .inl ⟨rfl, _, SqL.of e⟩, _, rfl, _, _, rfl, rfl, ⟨by decide, by decide, by decide⟩, _, _, rfl, rfl, (show (0 : Int) < 10 ^ (Int.toNat 18) by decide +kernel), _, _, rfl, rfl, mul_ok_r (by decide +kernel), _, rfl, _, _, rfl, rfl, _, _, rfl, rfl, mul_ok_l (by decide +kernel), _, _, rfl, rfl, _, _, rfl, rfl, (show (0 : Int) < 2147483647 by decide), _, _, rfl, rfl, mul_ok_r (by decide +kernel), _, _, rfl, rfl, (show (0 : Int) < 2147483629 by decide), D, _, _, rfl, rfl, e, ml, ?_⟩
            exact next _ (cel_small (Int.emod_nonneg _ (by decide)) (Int.lt_trans (Int.emod_lt_of_pos _ (by decide)) (by decide))) _
    · obtain ⟨ms, o4, o5, rfl, sm, e, hm, hc⟩ := h
      refine ⟨_, rfl, _, rfl, .inr ⟨b, rfl, _, rfl, D, _, rfl, SqL.of e, fun p hp => ?_⟩⟩
      obtain ⟨ms', em, hm'⟩ := cut_int ms (some (if b then 1 else 0)) none
      rw [em]
      have np : H p = none := sm.free hp
      exact q p ms' _ (fun d o zz => by rw [upd_ne (ne_of_none zz np)]; exact sm d o zz) np upd_same fun m h => hc m (hm' m h)
  obtain ⟨t1, ht1, hq1⟩ := tail
  refine ⟨_, pss_cons (ps_set (i := 2) nd rfl (Or.inl rfl) (pe_and (pe_cmpR op_gt (pe_callB call_len rfl Z_len (by decide +kernel) (pa_cons (pv 0) pa_nil)) pe_int (nomark _)) (pe_one (pe_cmpR op_eq (pe_op op_mod (pe_ix ix_list (pv 0) pe_int (fun _ _ => rfl)) pe_int) pe_int (nomark _))))) ht1, ?_⟩
  refine ⟨_, rfl, _, ns.length, rfl, .inl ⟨_, S.l, (List.length_map _).symm⟩, _, _, rfl, rfl, _, rfl, ?_⟩
  refine ite2 (fun g => ?_) (fun g => ?_)
  · cases ns with
    | nil => exact absurd (of_decide_eq_true g) (by decide)
    | cons n r => exact ⟨_, rfl, _, _, _, _, rfl, rfl, S.l, atI_nat (j := 0) rfl, _, _, rfl, rfl, (show (0 : Int) < 2 by decide), rfl, hq1 _⟩
  · exact hq1 false

end
end Mine




set_option Elab.async false
set_option linter.all false
set_option maxRecDepth 100000
set_option maxHeartbeats 4000000
namespace Mine
open PySem L2
section
variable {P : Program} {w : World} {K : PySem.W.Frag} {mg : Str → Option Value} {base : Heap} {c : CCs}
theorem sc_worth : FnScope ["_law_tree", "_law_n", "_law_x", "_law_y"] ["_law_tree", "_law_n", "_law_x", "_law_y"] (defScope sWorth) := ⟨rfl, rfl, rfl, by decide +kernel, rfl, by decide +kernel, by decide +kernel⟩
theorem ok_worth (T : TopDef K mg "_law_worth" sWorth) (Z_int : mg "int" = none) (D_law_fold : Def P w K mg base 1 "_law_fold" ["_law_word", "_law_n", "_law_one", "_law_other"] spFoldF) : ∀ k : Nat, Def P w K mg base (k + 2) "_law_worth" ["_law_tree", "_law_n", "_law_x", "_law_y"] (spWorth k) := by
  intro k
  induction k with
  | zero =>
    refine def_of T sc_worth (fun _ _ _ _ _ _ us hl => match us, hl with | [_, _, _, _], _ => rfl) (fun vs H Q E h => ?_) (fun f cdv A outer s H vs Q E hr h => ?_)
    · obtain ⟨a, t, n, x, y, rfl, _⟩ := h
      rfl
    · obtain ⟨a, t, n, x, y, rfl, _, z, _⟩ := h
      have := t.size_pos
      omega
  | succ k D_law_worth =>
    refine def_of T sc_worth (fun _ _ _ _ _ _ us hl => match us, hl with | [_, _, _, _], _ => rfl) (fun vs H Q E h => ?_) (fun f cdv A outer s H vs Q E hr h => ?_)
    · obtain ⟨a, t, n, x, y, rfl, _⟩ := h
      rfl
    obtain ⟨a, t, n, x, y, rfl, tu, hz, q⟩ := h
    have nd := sc_worth.nd
    refine ⟨_, (pss_cons (ps_if (pt_cmpR op_in_seq (pe_ix ix_tup (pv 0) pe_int (fun _ _ => rfl)) (pe_tup (pa_cons pe_str (pa_cons pe_str pa_nil))) rfl) (pss_one (ps_ret (pe_op op_mulK (pv 1) (pe_callTy call_int1 rfl Z_int (by decide +kernel) (pa_cons (pe_cmpR op_eq (pe_ix ix_tup (pv 0) pe_int (fun _ _ => rfl)) pe_str (nomark _)) pa_nil))))) pss_nil)
    (pss_cons (ps_if (pt_cmpR op_in_seq (pe_ix ix_tup (pv 0) pe_int (fun _ _ => rfl)) (pe_tup (pa_cons pe_str (pa_cons pe_str pa_nil))) rfl) (pss_one (ps_ret (pe_ix ix_list (pe_lst (pa_cons (pv 2) (pa_cons (pv 3) pa_nil))) (pe_callTy call_int1 rfl Z_int (by decide +kernel) (pa_cons (pe_cmpR op_eq (pe_ix ix_tup (pv 0) pe_int (fun _ _ => rfl)) pe_str (nomark _)) pa_nil)) (fun _ _ => rfl)))) pss_nil)
    (pss_cons (ps_if (pt_cmpR op_eq (pe_ix ix_tup (pv 0) pe_int (fun _ _ => rfl)) pe_str (nomark _)) (pss_one (ps_ret (pe_op op_sub (pv 1) (pe_def D_law_worth (hr.mono (by omega)) rfl (pa_cons (pe_ix ix_tup (pv 0) pe_int (fun _ _ => rfl)) (pa_cons (pv 1) (pa_cons (pv 2) (pa_cons (pv 3) pa_nil)))))))) pss_nil)
    (pss_one (ps_ret (pe_def D_law_fold (hr.mono (by omega)) rfl (pa_cons (pe_ix ix_tup (pv 0) pe_int (fun _ _ => rfl)) (pa_cons (pv 1) (pa_cons (pe_def D_law_worth (hr.mono (by omega)) rfl (pa_cons (pe_ix ix_tup (pv 0) pe_int (fun _ _ => rfl)) (pa_cons (pv 1) (pa_cons (pv 2) (pa_cons (pv 3) pa_nil))))) (pa_cons (pe_def D_law_worth (hr.mono (by omega)) rfl (pa_cons (pe_ix ix_tup (pv 0) pe_int (fun _ _ => rfl)) (pa_cons (pv 1) (pa_cons (pv 2) (pa_cons (pv 3) pa_nil))))) pa_nil)))))))))), ?_⟩
    cases tu with
    | never e =>
      refine ⟨_, rfl, _, _, _, _, rfl, rfl, SqT.of e, rfl, (by show 2 ≤ sizeLine; decide), fun p hp => ⟨p, _, rfl, .inr (SqT.of upd_same), rfl, rfl, _, rfl, in_yes na_ne ?_⟩⟩
      have s0 := same_new hp (.tup [V.str "never", .str "always"])
      refine ⟨_, rfl, _, rfl, _, _, _, _, rfl, rfl, SqT.of (s0 _ _ e), rfl, rfl, .inr ⟨_, rfl, _, _, rfl, rfl, ?_⟩⟩
      rw [decide_eq_false (fun z : V.str "never" = V.str "always" => absurd (V.str.inj z) (by decide +kernel))]
      refine ⟨mul_ok_r (by decide +kernel), ?_⟩
      have z : n * (if false = true then 1 else 0) = Tr.worth n x y .never := by show n * 0 = 0; omega
      exact (show Q (V.int (n * (if false = true then 1 else 0))) _ from by rw [z]; exact q _ s0)
    | always e =>
      refine ⟨_, rfl, _, _, _, _, rfl, rfl, SqT.of e, rfl, (by show 2 ≤ sizeLine; decide), fun p hp => ⟨p, _, rfl, .inr (SqT.of upd_same), rfl, rfl, _, rfl, in_yes na_al ?_⟩⟩
      have s0 := same_new hp (.tup [V.str "never", .str "always"])
      refine ⟨_, rfl, _, rfl, _, _, _, _, rfl, rfl, SqT.of (s0 _ _ e), rfl, rfl, .inr ⟨_, rfl, _, _, rfl, rfl, ?_⟩⟩
      rw [decide_eq_true (rfl : V.str "always" = V.str "always")]
      refine ⟨mul_ok_r (by decide +kernel), ?_⟩
      have z : n * (if true = true then 1 else 0) = Tr.worth n x y .always := by show n * 1 = n; omega
      exact (show Q (V.int (n * (if true = true then 1 else 0))) _ from by rw [z]; exact q _ s0)
    | lp e =>
      refine ⟨_, rfl, _, _, _, _, rfl, rfl, SqT.of e, rfl, (by show 2 ≤ sizeLine; decide), fun p hp => ⟨p, _, rfl, .inr (SqT.of upd_same), rfl, rfl, _, rfl, in_no na_p ?_⟩⟩
      have s0 := same_new hp (.tup [V.str "never", .str "always"])
      refine ⟨_, rfl, _, _, _, _, rfl, rfl, SqT.of (s0 _ _ e), rfl, (by show 2 ≤ sizeLine; decide), fun p1 hp1 => ⟨p1, _, rfl, .inr (SqT.of upd_same), rfl, rfl, _, rfl, in_yes pq_p ?_⟩⟩
      have s1 := s0.trans (same_new hp1 (.tup [V.str "p", .str "q"]))
      refine ⟨_, rfl, _, rfl, (by show 2 ≤ sizeLine; decide), fun l hl => ?_⟩
      have s2 := s1.trans (same_new hl (.lst [V.int x, .int y]))
      refine ⟨_, rfl, _, _, _, _, rfl, rfl, SqT.of (s2 _ _ e), rfl, rfl, .inr ⟨_, rfl, l, _, _, _, rfl, rfl, SqL.of upd_same, ?_, q _ s2⟩⟩
      rw [decide_eq_false (fun z : V.str "p" = V.str "q" => absurd (V.str.inj z) (by decide +kernel))]
      rfl
    | lq e =>
      refine ⟨_, rfl, _, _, _, _, rfl, rfl, SqT.of e, rfl, (by show 2 ≤ sizeLine; decide), fun p hp => ⟨p, _, rfl, .inr (SqT.of upd_same), rfl, rfl, _, rfl, in_no na_q ?_⟩⟩
      have s0 := same_new hp (.tup [V.str "never", .str "always"])
      refine ⟨_, rfl, _, _, _, _, rfl, rfl, SqT.of (s0 _ _ e), rfl, (by show 2 ≤ sizeLine; decide), fun p1 hp1 => ⟨p1, _, rfl, .inr (SqT.of upd_same), rfl, rfl, _, rfl, in_yes pq_q ?_⟩⟩
      have s1 := s0.trans (same_new hp1 (.tup [V.str "p", .str "q"]))
      refine ⟨_, rfl, _, rfl, (by show 2 ≤ sizeLine; decide), fun l hl => ?_⟩
      have s2 := s1.trans (same_new hl (.lst [V.int x, .int y]))
      refine ⟨_, rfl, _, _, _, _, rfl, rfl, SqT.of (s2 _ _ e), rfl, rfl, .inr ⟨_, rfl, l, _, _, _, rfl, rfl, SqL.of upd_same, ?_, q _ s2⟩⟩
      rw [decide_eq_true (rfl : V.str "q" = V.str "q")]
      rfl
    | @no _ b t e tb =>
      have hz' : t.size + 1 ≤ k + 1 := hz
      refine ⟨_, rfl, _, _, _, _, rfl, rfl, SqT.of e, rfl, (by show 2 ≤ sizeLine; decide), fun p hp => ⟨p, _, rfl, .inr (SqT.of upd_same), rfl, rfl, _, rfl, in_no na_not ?_⟩⟩
      have s0 := same_new hp (.tup [V.str "never", .str "always"])
      refine ⟨_, rfl, _, _, _, _, rfl, rfl, SqT.of (s0 _ _ e), rfl, (by show 2 ≤ sizeLine; decide), fun p1 hp1 => ⟨p1, _, rfl, .inr (SqT.of upd_same), rfl, rfl, _, rfl, in_no pq_not ?_⟩⟩
      have s1 := s0.trans (same_new hp1 (.tup [V.str "p", .str "q"]))
      refine ⟨_, rfl, _, _, _, _, rfl, rfl, SqT.of (s1 _ _ e), rfl, rfl, _, rfl, ite_yes rfl ?_⟩
      refine ⟨_, rfl, _, rfl, _, _, _, _, rfl, rfl, SqT.of (s1 _ _ e), rfl, _, rfl, _, rfl, _, rfl, b, t, n, x, y, rfl, tb.to (Kp.of s1), by omega, fun H2 s2 => ⟨_, _, rfl, rfl, q _ (s1.trans s2)⟩⟩
    | @fold _ b d u t t' e tb td =>
      have hz' : t.size + t'.size + 1 ≤ k + 1 := hz
      refine ⟨_, rfl, _, _, _, _, rfl, rfl, SqT.of e, rfl, (by show 2 ≤ sizeLine; decide), fun p hp => ⟨p, _, rfl, .inr (SqT.of upd_same), rfl, rfl, _, rfl, in_no (na_w u) ?_⟩⟩
      have s0 := same_new hp (.tup [V.str "never", .str "always"])
      refine ⟨_, rfl, _, _, _, _, rfl, rfl, SqT.of (s0 _ _ e), rfl, (by show 2 ≤ sizeLine; decide), fun p1 hp1 => ⟨p1, _, rfl, .inr (SqT.of upd_same), rfl, rfl, _, rfl, in_no (pq_w u) ?_⟩⟩
      have s1 := s0.trans (same_new hp1 (.tup [V.str "p", .str "q"]))
      refine ⟨_, rfl, _, _, _, _, rfl, rfl, SqT.of (s1 _ _ e), rfl, rfl, _, rfl, ite_no (w_not u) ?_⟩
      refine ⟨_, rfl, _, _, _, _, rfl, rfl, SqT.of (s1 _ _ e), rfl, _, rfl, _, rfl, _, _, _, _, rfl, rfl, SqT.of (s1 _ _ e), rfl, _, rfl, _, rfl, _, rfl, b, t, n, x, y, rfl, tb.to (Kp.of s1), by omega, fun H2 s2 => ?_⟩
      have s12 := s1.trans s2
      refine ⟨_, rfl, _, _, _, _, rfl, rfl, SqT.of (s12 _ _ e), rfl, _, rfl, _, rfl, _, rfl, d, t', n, x, y, rfl, td.to (Kp.of s12), by omega, fun H3 s3 => ?_⟩
      exact ⟨u, n, _, _, rfl, q _ (s12.trans s3)⟩
end
end Mine




set_option Elab.async false
set_option linter.all false
set_option maxRecDepth 100000
set_option maxHeartbeats 4000000
namespace Mine
open PySem L2
theorem w5_bd {u : W5} {n i j : Int} (hn : 0 ≤ n) (a : 0 ≤ i ∧ i ≤ n) (b : 0 ≤ j ∧ j ≤ n) : 0 ≤ u.worth n i j ∧ u.worth n i j ≤ n := by
  cases u with
  | more => show 0 ≤ min (i + j) n ∧ min (i + j) n ≤ n; omega
  | less => show 0 ≤ max (i + j - n) 0 ∧ max (i + j - n) 0 ≤ n; omega
  | greater => show 0 ≤ max i j ∧ max i j ≤ n; omega
  | lesser => show 0 ≤ min i j ∧ min i j ≤ n; omega
  | leads => show 0 ≤ min (n - i + j) n ∧ min (n - i + j) n ≤ n; omega
theorem worth_bd {n x y : Int} (hn : 0 ≤ n) (a : 0 ≤ x ∧ x ≤ n) (b : 0 ≤ y ∧ y ≤ n) : ∀ t : Tr, 0 ≤ t.worth n x y ∧ t.worth n x y ≤ n
  | .no t => by
    have := worth_bd hn a b t
    show 0 ≤ n - t.worth n x y ∧ n - t.worth n x y ≤ n
    omega
  | .fold w u v => w5_bd hn (worth_bd hn a b u) (worth_bd hn a b v)
  | .never => ⟨Int.le_refl _, hn⟩
  | .always => ⟨hn, Int.le_refl _⟩
  | .lp => a
  | .lq => b
abbrev lawN6 : List Str := ["_law_script", "_law_cells", "_law_cell", "_law_n", "_law_tree", "_law_saying_here", "_law_due", "_law_least", "_law_x", "_law_y", "_law_found", "_law_told"]
abbrev loopB : Stmt := match (defBody sLaw).getD 7 (.Pass ⟨0, 0, 0, 0⟩) with
  | .For _ _ b _ _ => b.getD 0 (.Pass ⟨0, 0, 0, 0⟩)
  | _ => .Pass ⟨0, 0, 0, 0⟩
section
variable {P : Program} {w : World} {K : PySem.W.Frag} {mg : Str → Option Value} {base : Heap} {c : CCs}
theorem sc_law : FnScope lawN6 ["_law_script"] (defScope sLaw) := ⟨rfl, rfl, rfl, by decide +kernel, rfl, by decide +kernel, by decide +kernel⟩
/-- due.append([worth(..) for y in range(n + 1)]) -/
theorem dueIn {f : Addr} {cdv : Value} {A : Around} {outer : List Env} {s : Shared} {H : Hp} {E : XK} (Z_range : mg "range" = none) (D_law_worth : Def P w K mg base 22 "_law_worth" ["_law_tree", "_law_n", "_law_x", "_law_y"] (spWorth 20)) (hr : Room 39 (A.deeper (PyProof.Rows.envOfC "law" (defScope sLaw) s.heap.objs.size f cdv))) :
    ∃ ts, PS (cxOf CX0 P w K mg base lawN6 "law" (defScope sLaw) f cdv A outer s H E).nox loopB ts ∧ ∀ (D : Ends) (o0 o1 o2 o5 o7 o9 o10 o11 : Option V) (tr du : Addr) (n : Int) (x : Nat) (t : Tr) (ys : List V) (H1 : Hp), 0 ≤ n → n ≤ 100 → Tu H1 tr t → t.size ≤ 20 → H1 du = some (.lst ys) → ys.length ≤ 100 →
      (∀ l H2, Same H1 H2 → H1 l = none → H2 l = some (.lst ((rowW t n (x : Int)).map V.int)) → D.nx [o0, o1, o2, some (.int n), some (.ref tr), o5, some (.ref du), o7, some (.int (x : Int)), o9, o10, o11] (upd H2 du (.lst (ys ++ [.ref l])))) →
      ts D [o0, o1, o2, some (.int n), some (.ref tr), o5, some (.ref du), o7, some (.int (x : Int)), o9, o10, o11] H1 := by
  have nd := sc_law.nd
  refine ⟨_, (ps_expr (pe_bm PySem.F.plainAttrs_list PySem.F.slot_list_append PySem.F.type_list_append mt_append (pv 6) (pa_cons (pe_compF rfl (pi_range1 rfl Z_range (pa_cons (pe_op op_add (pv 3) pe_int) pa_nil)) rfl (by decide +kernel) (by decide +kernel) rfl (show ∀ p ∈ Scope.names _, p.2 = NameKind.free → List.lookup p.1 (defScope sLaw).names = some .cell ∨ List.lookup p.1 (defScope sLaw).names = some .free by decide +kernel) (fa_cons (j := 4) rfl (Or.inl rfl) (by decide +kernel) (Or.inl rfl) (fa_cons (j := 3) rfl (Or.inl rfl) (by decide +kernel) (Or.inl rfl) (fa_cons (j := 8) rfl (Or.inl rfl) (by decide +kernel) (Or.inl rfl) fa_nil))) (show (["_law_y", "_law_tree", "_law_n", "_law_x"] : List Str).Nodup by decide +kernel) (fun _ _ _ _ => pif_nil) (fun _ _ _ _ => (pe_def D_law_worth (hr.mono (by omega)) rfl (pa_cons (pv 1) (pa_cons (pv 2) (pa_cons (pv 3) (pa_cons (pv 0) pa_nil))))))) pa_nil))), ?_⟩
  intro D o0 o1 o2 o5 o7 o9 o10 o11 tr du n x t ys H1 h0 h1 tu hz ed few fin
  refine ⟨_, rfl, .inl ⟨rfl, _, SqL.of ed⟩, ?_⟩
  refine comp_rangeM (lo := 0) (n := (n + 1).toNat) (fun H' v i => v = V.int (t.worth n (x : Int) (i : Int))) (fun _ _ _ _ _ _ _ h => h) (fun H' => H' = H1) (fun R h => ⟨_, rfl, _, _, rfl, rfl, _, rfl, by omega, by omega, h H1 rfl⟩) (fun H' e => by rw [e]; exact Same.refl _) (by omega) (fun i H' N hi s1 hN => ?_) (fun l zs H' s1 hl el al => ?_)
  · refine ⟨_, rfl, _, rfl, _, rfl, _, rfl, tr, t, n, (x : Int), (i : Int), ?_, tu.to (Kp.of s1), hz, fun H2 s2 => hN _ H2 s2 (fun _ z => by cases z) rfl⟩
    rw [Int.zero_add]
    rfl
  · have ed2 := s1 _ _ ed
    rw [all2_ints (H := H') al] at el
    refine ⟨du, _, _, rfl, rfl, ed2, Nat.lt_of_le_of_lt few (by decide), fin l H' s1 hl el⟩
end
end Mine




set_option Elab.async false
set_option linter.all false
set_option maxRecDepth 100000
set_option maxHeartbeats 4000000
namespace Mine
open PySem L2
abbrev fW (t : Tr) (n : Int) : Nat → Nat → Int := fun x y => t.worth n (x : Int) (y : Int)
section
variable {P : Program} {w : World} {K : PySem.W.Frag} {mg : Str → Option Value} {base : Heap} {c : CCs}
/-- the law's loop: the worths that are due, the least of them -/
theorem loop7 {f : Addr} {cdv : Value} {A : Around} {outer : List Env} {s : Shared} {H : Hp} {E : XK} (Z_range : mg "range" = none) (Z_min : mg "min" = none) (D_law_worth : Def P w K mg base 22 "_law_worth" ["_law_tree", "_law_n", "_law_x", "_law_y"] (spWorth 20)) (hr : Room 39 (A.deeper (PyProof.Rows.envOfC "law" (defScope sLaw) s.heap.objs.size f cdv))) :
    ∃ ts, PS (cxOf CX0 P w K mg base lawN6 "law" (defScope sLaw) f cdv A outer s H E).nox ((defBody sLaw).getD 7 (.Pass ⟨0, 0, 0, 0⟩)) ts ∧ ∀ (D : Ends) (o0 o1 o2 o5 o8 o9 o10 o11 : Option V) (tr du : Addr) (v : V) (n : Int) (t : Tr) (H1 : Hp), 0 ≤ n → n ≤ 40 → Tu H1 tr t → t.size ≤ 20 → H1 du = some (.lst []) → LeM H1 n none v →
      (∀ v2 ys p8 p9 H2, SB (.ref du) H1 H2 → H2 du = some (.lst ys) → All2 (RowV H1 t n H2) ys (List.range (n + 1).toNat) → LeM H2 n (allL (fW t n) (n + 1).toNat (n + 1).toNat) v2 → D.nx [o0, o1, o2, some (.int n), some (.ref tr), o5, some (.ref du), some v2, p8, p9, o10, o11] H2) →
      ts D [o0, o1, o2, some (.int n), some (.ref tr), o5, some (.ref du), some v, o8, o9, o10, o11] H1 := by
  have nd := sc_law.nd
  have hu6 : (A.deeper (PyProof.Rows.envOfC "law" (defScope sLaw) s.heap.objs.size f cdv)).units + 66 < cLine := by have := hr.un; omega
  obtain ⟨tB, hB, qB⟩ := dueIn (P := P) (w := w) (K := K) (base := base) (outer := outer) (H := H) (E := E) Z_range D_law_worth hr
  refine ⟨_, (ps_for PassesOwn.never rfl (pi_range1 rfl Z_range (pa_cons (pe_op op_add (pv 3) pe_int) pa_nil)) (pg_name (i := 8) nd rfl (Or.inr rfl)) (pss_cons hB (pss_one (ps_for PassesOwn.never rfl (pi_range1 rfl Z_range (pa_cons (pe_op op_add (pv 3) pe_int) pa_nil)) (pg_name (i := 9) nd rfl (Or.inl rfl)) (pss_one (ps_set (i := 7) nd rfl (Or.inl rfl) (pe_callB (call_minP rfl hu6) rfl Z_min (by decide +kernel) (pa_cons (pv 7) (pa_cons (pe_tup (pa_cons (pe_ix ix_list (pe_ix ix_list (pv 6) (pv 8) (fun _ _ => rfl)) (pv 9) (fun _ _ => rfl)) (pa_cons (pe_tup (pa_cons (pv 3) (pa_cons (pv 8) (pa_cons (pv 9) pa_nil)))) pa_nil))) pa_nil))))))))), ?_⟩
  intro D o0 o1 o2 o5 o8 o9 o10 o11 tr du v n t H1 h0 h1 tu hz ed le fin
  refine ⟨_, rfl, _, _, rfl, rfl, _, rfl, by omega, by omega, ?_⟩
  have ktu : ∀ H2, SB (.ref du) H1 H2 → Tu H2 tr t := fun H2 sb => tu.to (sb.kp (lst_fx ed))
  refine for_range (n := (n + 1).toNat) (fun i σ H2 => ∃ (u : V) (o8 o9 : Option V) (ys : List V), σ = [o0, o1, o2, some (.int n), some (.ref tr), o5, some (.ref du), some u, o8, o9, o10, o11] ∧ SB (.ref du) H1 H2 ∧ H2 du = some (.lst ys) ∧ ys.length = i ∧ (∀ v ∈ ys, v ≠ .ref du) ∧ All2 (RowV H1 t n H2) ys (List.range i) ∧ LeM H2 n (allL (fW t n) (n + 1).toNat i) u)
    ⟨v, _, _, [], rfl, SB.refl _ _, ed, rfl, (fun _ z => nomatch z), .nil, le⟩ (fun i σ H2 hi z => ?_) (fun σ H2 z => ?_)
  · obtain ⟨u, o8, o9, ys, rfl, sb, ed2, yl, nD, al, le2⟩ := z
    rw [Int.zero_add]
    refine qB _ _ _ _ _ _ _ _ _ tr du n i t ys H2 h0 (by omega) (ktu H2 sb) hz ed2 (by omega) fun l H3 s3 hl el => ?_
    have nl : l ≠ du := fun z => by subst z; rw [ed2] at hl; cases hl
    have hl1 : H1 l = none := by
      cases z : H1 l with
      | none => rfl
      | some o => rw [sb l o z fun y => nl (V.ref.inj y)] at hl; cases hl
    have sb4 : SB (.ref du) H2 (upd H3 du (.lst (ys ++ [.ref l]))) := (SB.of s3).trans (sb_upd _ _)
    have ed4 : upd H3 du (.lst (ys ++ [.ref l])) du = some (.lst (ys ++ [.ref l])) := upd_same
    have el4 : upd H3 du (.lst (ys ++ [.ref l])) l = some (.lst ((rowW t n (i : Int)).map V.int)) := by rw [upd_ne nl]; exact el
    have le4 : LeM (upd H3 du (.lst (ys ++ [.ref l]))) n (allL (fW t n) (n + 1).toNat i) u := by
      obtain ⟨b, p, e, e1, e2⟩ := le2
      have kp := sb4.kp (lst_fx ed2)
      exact ⟨b, p, e, kp _ _ e1 rfl, kp _ _ e2 rfl⟩
    have al4 : All2 (RowV H1 t n (upd H3 du (.lst (ys ++ [.ref l])))) (ys ++ [.ref l]) (List.range (i + 1)) := by
      rw [List.range_succ]
      refine (al.mem fun u hu x r => ?_).app (.cons ⟨l, rfl, hl1, el4⟩ .nil)
      obtain ⟨b, rfl, hb, eb⟩ := r
      exact ⟨b, rfl, hb, sb4 _ _ eb (nD _ hu)⟩
    have sb14 := sb.trans sb4
    generalize upd H3 du (.lst (ys ++ [.ref l])) = H4 at sb4 ed4 el4 le4 al4 sb14 ⊢
    refine ⟨_, rfl, _, _, rfl, rfl, _, rfl, by omega, by omega, ?_⟩
    refine for_range (n := (n + 1).toNat) (fun k σ H5 => ∃ (u : V) (o9 : Option V), σ = [o0, o1, o2, some (.int n), some (.ref tr), o5, some (.ref du), some u, some (.int (i : Int)), o9, o10, o11] ∧ Same H4 H5 ∧ LeM H5 n (rowL (fW t n i) i (allL (fW t n) (n + 1).toNat i) k) u)
      ⟨u, _, rfl, Same.refl _, le4⟩ (fun k σ H5 hk z => ?_) (fun σ H5 z => ?_)
    · obtain ⟨u, o9, rfl, s5, le5⟩ := z
      rw [Int.zero_add]
      obtain ⟨b, p, rfl, e1, e2⟩ := le5
      have ed5 := s5 _ _ ed4
      have el5 := s5 _ _ el4
      have hix : atI (ys ++ [V.ref l]) (i : Int) = some (.ref l) := atI_nat (by rw [← yl, List.getElem?_concat_length])
      have hiy : atI ((rowW t n (i : Int)).map V.int) (k : Int) = some (.int (fW t n i k)) := atI_nat (by rw [List.getElem?_map]; unfold rowW; rw [List.getElem?_map, List.getElem?_range hk]; rfl)
      refine ⟨_, rfl, _, rfl, _, rfl, _, _, _, _, rfl, rfl, SqL.of ed5, hix, _, rfl, _, _, _, _, rfl, rfl, SqL.of el5, hiy, _, rfl, _, rfl, _, rfl, (by show 3 ≤ sizeLine; decide), fun q hq => ⟨(by show 2 ≤ sizeLine; decide), fun d hd => ?_⟩⟩
      have sq := same_new hq (.tup [V.int n, .int (i : Int), .int (k : Int)])
      have sd := same_new hd (.tup [V.int (fW t n i k), .ref q])
      have s6 := sq.trans sd
      refine ⟨b, d, p, q, (leP n (rowL (fW t n i) i (allL (fW t n) (n + 1).toNat i) k)).1, fW t n i k, _, [n, (i : Int), (k : Int)], rfl, SqT.of (s6 _ _ e1), SqT.of (s6 _ _ e2), SqT.of upd_same, SqT.of (sd _ _ upd_same), ?_⟩
      have bd := worth_bd h0 (x := (i : Int)) (y := (k : Int)) ⟨by omega, by omega⟩ ⟨by omega, by omega⟩ t
      have sm := step_min (n := n) (w := fW t n i k) (x := i) (y := k) (o := rowL (fW t n i) i (allL (fW t n) (n + 1).toNat i) k) bd.2 (row_ahead (all_ahead i) k)
      refine ⟨_, _, rfl, s5.trans s6, ?_⟩
      unfold LeM
      rw [show rowL (fW t n i) i (allL (fW t n) (n + 1).toNat i) (k + 1) = stepL (rowL (fW t n i) i (allL (fW t n) (n + 1).toNat i) k) (fW t n i k) i k from rfl, sm]
      by_cases g : ltP (fW t n i k) [n, (i : Int), (k : Int)] (leP n (rowL (fW t n i) i (allL (fW t n) (n + 1).toNat i) k)).1 (leP n (rowL (fW t n i) i (allL (fW t n) (n + 1).toNat i) k)).2 = true
      · rw [if_pos g, if_pos g]
        exact ⟨d, q, rfl, upd_same, sd _ _ upd_same⟩
      · rw [if_neg g, if_neg g]
        exact ⟨b, p, rfl, s6 _ _ e1, s6 _ _ e2⟩
    · obtain ⟨u, o9, rfl, s5, le5⟩ := z
      refine ⟨u, _, _, ys ++ [.ref l], rfl, sb14.trans (SB.of s5), s5 _ _ ed4, by rw [List.length_append, yl]; rfl, fun v hv => ?_, al4.imp fun _ _ r => ?_, le5⟩
      · rcases List.mem_append.mp hv with hv | hv
        · exact nD v hv
        · rw [List.mem_singleton.mp hv]; exact fun z => nl (V.ref.inj z)
      · obtain ⟨b, e, hb, eb⟩ := r
        exact ⟨b, e, hb, s5 _ _ eb⟩
  · obtain ⟨u, o8, o9, ys, rfl, sb, ed2, yl, nD, al, le2⟩ := z
    exact fin u ys _ _ H2 sb ed2 al le2
end
end Mine




set_option Elab.async false
set_option linter.all false
set_option maxRecDepth 100000
set_option maxHeartbeats 4000000
namespace L2
open PySem PySem.Spec PyProof.Rows
/-! ### data in which lists stand too, at any place -/
mutual
def DatM (K : PySem.W.Frag) (H : Hp) : PyData → V → Prop
  | .none, v => v = .non
  | .bool b, v => v = .bl b
  | .int i, v => v = .int i
  | .str x, v => v = .str x
  | .tuple ds, v => ∃ a xs, v = .ref a ∧ SqT K H a xs ∧ DatMAll K H ds xs
  | .list ds, v => ∃ a xs, v = .ref a ∧ SqL K H a xs ∧ DatMAll K H ds xs
  | .dict _, _ => False
def DatMAll (K : PySem.W.Frag) (H : Hp) : List PyData → List V → Prop
  | [], xs => xs = []
  | d :: ds, xs => ∃ x r, xs = x :: r ∧ DatM K H d x ∧ DatMAll K H ds r
end
mutual
theorem Dat.m {K : PySem.W.Frag} {H : Hp} : ∀ {d : PyData} {v : V}, Dat K H d v → DatM K H d v
  | .none, _, h => h
  | .bool _, _, h => h
  | .int _, _, h => h
  | .str _, _, h => h
  | .tuple _, _, ⟨a, xs, h1, h2, h3⟩ => ⟨a, xs, h1, h2, DatAll.m h3⟩
  | .list _, _, h => False.elim h
  | .dict _, _, h => h
theorem DatAll.m {K : PySem.W.Frag} {H : Hp} : ∀ {ds : List PyData} {xs : List V}, DatAll K H ds xs → DatMAll K H ds xs
  | [], _, h => h
  | _ :: _, _, ⟨x, r, h1, h2, h3⟩ => ⟨x, r, h1, Dat.m h2, DatAll.m h3⟩
end
mutual
theorem DatM.reads {X : Cx} {pins : List (Addr × Obj)} {σ : St} {H : Hp} {s : Shared} (I : Inv X pins σ H s) : ∀ (d : PyData) {v : V} {u : Value}, DatM X.K H d v → RelV v u → ∃ as, Reads s.heap u d as
  | .none, _, _, h, r => Dat.reads I .none h r
  | .bool b, _, _, h, r => Dat.reads I (.bool b) h r
  | .int i, _, _, h, r => Dat.reads I (.int i) h r
  | .str x, _, _, h, r => Dat.reads I (.str x) h r
  | .tuple ds, _, _, ⟨a, xs, h1, h2, h3⟩, r => by
    cases h1
    cases (show _ = Value.ref a from r)
    obtain ⟨its, rv, ⟨o, ho, hc, n, hd⟩, _⟩ := I.tuple h2
    obtain ⟨as, ra⟩ := DatMAll.reads I ds h3 rv
    exact ⟨as, .tuple ho hc hd (by simpa using ra)⟩
  | .list ds, _, _, ⟨a, xs, h1, h2, h3⟩, r => by
    cases h1
    cases (show _ = Value.ref a from r)
    obtain ⟨its, rv, ⟨o, n, ho, hc, _, hd⟩, _⟩ := I.list h2
    obtain ⟨as, ra⟩ := DatMAll.reads I ds h3 rv
    exact ⟨a :: as, .list ho hc hd (by simpa using ra)⟩
  | .dict _, _, _, h, _ => False.elim h
theorem DatMAll.reads {X : Cx} {pins : List (Addr × Obj)} {σ : St} {H : Hp} {s : Shared} (I : Inv X pins σ H s) : ∀ (ds : List PyData) {xs : List V} {us : List Value}, DatMAll X.K H ds xs → Vals xs us → ∃ as, ReadsAll s.heap us ds as
  | [], _, _, h, r => by
    cases (show _ = ([] : List V) from h)
    cases r
    exact ⟨[], .nil⟩
  | d :: ds, _, _, ⟨x, t, h1, h2, h3⟩, r => by
    cases h1
    cases r with
    | cons r1 r2 =>
      obtain ⟨as, a1⟩ := DatM.reads I d h2 r1
      obtain ⟨bs, b1⟩ := DatMAll.reads I ds h3 r2
      exact ⟨as ++ bs, .cons a1 b1⟩
end
section
variable {X : Cx}
def rNeM (K : PySem.W.Frag) : R2 := fun x y H Q => ∃ d e, DatM K H d x ∧ DatM K H e y ∧ SeqAt.shaped d = true ∧ SeqAt.shaped e = true ∧ Q (.bl (!PyData.eqv d e)) H
theorem op_neM (hu : X.A.units + 64 < cLine) : OpR X (compareOp .NotEq) (rNeM X.K) := by
  intro pins s σ H x y v u Q I rx ry h
  obtain ⟨d, e, hd, he, sd, se, q⟩ := h
  obtain ⟨as, ra⟩ := hd.reads I d rx
  obtain ⟨bs, rb⟩ := he.reads I e ry
  exact ne_dataH ra rb sd se hu ⟨.bl _, H, I, rfl, q⟩
end
end L2


set_option Elab.async false
set_option linter.all false
set_option maxRecDepth 100000
set_option maxHeartbeats 4000000
namespace Mine
open PySem L2
abbrev rowsD (t : Tr) (n : Int) : PyData := .list ((List.range (n + 1).toNat).map fun x : Nat => .list ((rowW t n (x : Int)).map .int))
theorem rows_m {K : PySem.W.Frag} {H0 H : Hp} {t : Tr} {n : Int} : ∀ {ys : List V} {is : List Nat}, All2 (RowV H0 t n H) ys is → DatMAll K H (is.map fun x : Nat => .list ((rowW t n (x : Int)).map .int)) ys
  | _, [], h => by cases h; rfl
  | _, i :: r, h => by
    cases h with
    | cons a b =>
      obtain ⟨l, rfl, _, e⟩ := a
      exact ⟨_, _, rfl, ⟨l, _, rfl, SqL.of e, DatAll.m (dat_ints _)⟩, rows_m b⟩
theorem rows_dat {K : PySem.W.Frag} {H0 H : Hp} {t : Tr} {n : Int} {l : Addr} {ys : List V} (e : H l = some (.lst ys)) (h : All2 (RowV H0 t n H) ys (List.range (n + 1).toNat)) : DatM K H (rowsD t n) (.ref l) := ⟨l, ys, rfl, SqL.of e, rows_m h⟩
theorem rowsD_sh (t : Tr) (n : Int) : SeqAt.shaped (rowsD t n) = true := by
  have l1 : ∀ ns : List Int, (PyData.list (ns.map .int)).canLay0 = true := fun ns => lay_map (f := PyData.int) (fun _ => rfl) ns
  have d1 : ∀ ns : List Int, (PyData.list (ns.map .int)).depth ≤ 1 := fun ns => by
    show PyData.depthAll (ns.map .int) + 1 ≤ 1
    have := depth_map (f := PyData.int) (n := 0) (fun _ => Nat.le_refl _) ns
    omega
  have l2 : (rowsD t n).canLay0 = true := lay_map (f := fun x : Nat => PyData.list ((rowW t n (x : Int)).map .int)) (fun x => l1 _) _
  have d2 : (rowsD t n).depth ≤ 64 := by
    show PyData.depthAll _ + 1 ≤ 64
    have := depth_map (f := fun x : Nat => PyData.list ((rowW t n (x : Int)).map .int)) (n := 1) (fun x => d1 _) (List.range (n + 1).toNat)
    omega
  unfold SeqAt.shaped
  rw [l2, decide_eq_true d2]
  rfl
theorem rowsD_eq (t : Tr) (n : Int) : PyData.eqv (rowsD t n) (rowsD t n) = true := eqv_shaped (rowsD_sh t n)
end Mine




set_option Elab.async false
set_option linter.all false
set_option maxRecDepth 100000
set_option maxHeartbeats 4000000
namespace Mine
open PySem L2
theorem stepL_some (o : Option (Int × Nat × Nat)) (w : Int) (x y : Nat) : ∃ p, stepL o w x y = some p := by
  cases o with
  | none => exact ⟨_, rfl⟩
  | some z =>
    show ∃ p, (if w < z.1 then some (w, x, y) else some z) = some p
    by_cases g : w < z.1
    · exact ⟨_, if_pos g⟩
    · exact ⟨_, if_neg g⟩
theorem allL_some {f : Nat → Nat → Int} {m k : Nat} (hm : 0 < m) (hk : 0 < k) : ∃ p, allL f m k = some p := by
  cases k with
  | zero => exact absurd hk (Nat.lt_irrefl _)
  | succ k =>
    cases m with
    | zero => exact absurd hm (Nat.lt_irrefl _)
    | succ m => exact stepL_some _ _ _ _
abbrev pairD (w n x y : Int) : PyData := .tuple [.int w, .tuple [.int n, .int x, .int y]]
theorem pair_sh (w n x y : Int) : SeqAt.shaped (pairD w n x y) = true := by simp [SeqAt.shaped, PyData.canLay0, PyData.canLayAll0, PyData.depth, PyData.depthAll]
theorem pair_dat {K : PySem.W.Frag} {H : Hp} {a p : Addr} {w n x y : Int} (e : H a = some (.tup [.int w, .ref p])) (e2 : H p = some (.tup [.int n, .int x, .int y])) : DatX K H (pairD w n x y) (.ref a) := .inl ⟨a, _, rfl, SqT.of e, ⟨_, _, rfl, rfl, _, _, rfl, ⟨p, _, rfl, SqT.of e2, ⟨_, _, rfl, rfl, _, _, rfl, rfl, _, _, rfl, rfl, rfl⟩⟩, rfl⟩⟩
section
variable {P : Program} {w : World} {K : PySem.W.Frag} {mg : Str → Option Value} {base : Heap} {c : CCs}
theorem tail13 {f : Addr} {cdv : Value} {A : Around} {outer : List Env} {s : Shared} {H : Hp} {E : XK} {Q : VK} (Z_isinstance : mg "isinstance" = none) (Z_tuple : mg "tuple" = none) (D_on_steps : Def P w K mg base 5 "on_steps" ["saying", "n"] (spSteps c)) (D_least_on_steps : Def P w K mg base 6 "least_on_steps" ["saying", "n"] (spLeast c)) (D_law_whole : Def P w K mg base 1 "_law_whole" ["_law_found"] spWholeL) (hr : Room 39 (A.deeper (PyProof.Rows.envOfC "law" (defScope sLaw) s.heap.objs.size f cdv))) :
    ∃ ts, PSs (cxOf CX0 P w K mg base lawN6 "law" (defScope sLaw) f cdv A outer s H E).nox ((defBody sLaw).drop 13) ts ∧ ∀ (o0 o1 o2 o4 o8 o9 o10 o11 : Option V) (ob du : Addr) (v : V) (n : Int) (t : Tr) (ys : List V) (H0 H1 : Hp), 0 ≤ n → n ≤ 40 → Ob c H1 ob t → t.size ≤ 20 → H1 du = some (.lst ys) → All2 (RowV H0 t n H1) ys (List.range (n + 1).toNat) → LeM H1 n (allL (fW t n) (n + 1).toNat (n + 1).toNat) v → (∀ H', Q (.bl true) H') →
      ts { nx := fun _ H' => Q .non H', rt := Q } [o0, o1, o2, some (.int n), o4, some (.ref ob), some (.ref du), some v, o8, o9, o10, o11] H1 := by
  have nd := sc_law.nd
  have hu := hr.units
  refine ⟨_, (pss_cons (ps_if (pt_cmpR (op_neM hu) (pe_def D_on_steps (hr.mono (by decide)) rfl (pa_cons (pv 5) (pa_cons (pv 3) pa_nil))) (pv 6) (nomark _)) (pss_one (ps_ret pe_bl)) pss_nil)
    (pss_cons (ps_set (i := 11) nd rfl (Or.inl rfl) (pe_def D_least_on_steps (hr.mono (by decide)) rfl (pa_cons (pv 5) (pa_cons (pv 3) pa_nil))))
    (pss_one (ps_ret (pe_and (pe_callB call_isiT rfl Z_isinstance (by decide +kernel) (pa_cons (pv 11) (pa_cons (pe_bltn (v := V.ty "tuple") rfl Z_tuple (by decide +kernel) rfl) pa_nil))) (pe_and (pe_cmpR (op_eqD hu) (pv 11) (pv 7) (nomark _)) (pe_one (pe_def D_law_whole (hr.mono (by omega)) rfl (pa_cons (pe_ix ix_tup (pv 11) pe_int (fun _ _ => rfl)) pa_nil))))))))), ?_⟩
  intro o0 o1 o2 o4 o8 o9 o10 o11 ob du v n t ys H0 H1 h0 h1 oo hz ed al le q
  refine ⟨_, rfl, _, rfl, ob, t, n, rfl, oo, by omega, h0, by omega, fun D ys2 H2 s2 hD eD al2 => ?_⟩
  refine ⟨_, rfl, rowsD t n, rowsD t n, rows_dat eD al2, rows_dat (H0 := H0) (s2 _ _ ed) (al.imp fun _ _ r => ?_), rowsD_sh t n, rowsD_sh t n, _, rfl, ?_⟩
  · obtain ⟨b, e, hb, eb⟩ := r
    exact ⟨b, e, hb, s2 _ _ eb⟩
  rw [rowsD_eq]
  refine iteF ?_
  refine ⟨_, rfl, _, rfl, ob, t, n, rfl, oo.to (Kp.of s2), by omega, h0, by omega, fun v2 H3 s3 le2 => ?_⟩
  obtain ⟨⟨w0, x0, y0⟩, hp⟩ := allL_some (f := fW t n) (m := (n + 1).toNat) (k := (n + 1).toNat) (by omega) (by omega)
  have le3 := (le.same s2).same s3
  rw [hp] at le3
  rw [show (fun x y : Nat => t.worth n (x : Int) (y : Int)) = fW t n from rfl, hp] at le2
  obtain ⟨a1, p1, rfl, e1, e2⟩ := le2
  obtain ⟨a2, p2, rfl, e3, e4⟩ := le3
  refine ⟨_, rfl, a1, _, _, _, true, rfl, (fun _ h => h), SqT.of e1, kit_same, _, rfl, iteT ?_⟩
  refine ⟨_, rfl, _, rfl, pairD w0 n x0 y0, pairD w0 n x0 y0, pair_dat e1 e2, pair_dat e3 e4, pair_sh _ _ _ _, pair_sh _ _ _ _, _, rfl, ?_⟩
  rw [eqv_shaped (pair_sh _ _ _ _)]
  exact iteT ⟨_, rfl, _, _, _, _, rfl, rfl, SqT.of e1, rfl, w0, rfl, q _⟩
end
end Mine




set_option Elab.async false
set_option linter.all false
set_option maxRecDepth 100000
set_option maxHeartbeats 4000000
namespace Mine
open PySem L2
section
variable {P : Program} {w : World} {K : PySem.W.Frag} {mg : Str → Option Value} {base : Heap} {c : CCs}
theorem tail11 {f : Addr} {cdv : Value} {A : Around} {outer : List Env} {s : Shared} {H : Hp} {E : XK} {Q : VK} (Z_isinstance : mg "isinstance" = none) (Z_tuple : mg "tuple" = none) (D_on_steps : Def P w K mg base 5 "on_steps" ["saying", "n"] (spSteps c)) (D_least_on_steps : Def P w K mg base 6 "least_on_steps" ["saying", "n"] (spLeast c)) (D_law_whole : Def P w K mg base 1 "_law_whole" ["_law_found"] spWholeL) (hr : Room 39 (A.deeper (PyProof.Rows.envOfC "law" (defScope sLaw) s.heap.objs.size f cdv))) :
    ∃ ts, PSs (cxOf CX0 P w K mg base lawN6 "law" (defScope sLaw) f cdv A outer s H E).nox ((defBody sLaw).drop 11) ts ∧ ∀ (o0 o1 o2 o4 o8 o9 o11 : Option V) (ob du fd : Addr) (v : V) (n : Int) (t : Tr) (ys zs : List V) (H0 Hs H1 : Hp), 0 ≤ n → n ≤ 40 → Ob c Hs ob t → t.size ≤ 20 → Hs du = some (.lst ys) → All2 (RowV H0 t n Hs) ys (List.range (n + 1).toNat) → LeM Hs n (allL (fW t n) (n + 1).toNat (n + 1).toNat) v → Same Hs H1 → Hs fd = none → H1 fd = some (.lst zs) → All2 (RowV Hs t n H1) zs (List.range (n + 1).toNat) → (∀ H', Q (.bl true) H') →
      ts { nx := fun _ H' => Q .non H', rt := Q } [o0, o1, o2, some (.int n), o4, some (.ref ob), some (.ref du), some v, o8, o9, some (.ref fd), o11] H1 := by
  have nd := sc_law.nd
  obtain ⟨t13, h13, q13⟩ := tail13 (P := P) (w := w) (K := K) (base := base) (outer := outer) (H := H) (E := E) (Q := Q) Z_isinstance Z_tuple D_on_steps D_least_on_steps D_law_whole hr
  refine ⟨_, pss_cons (ps_asg pe_int (pg_sub (pe_ix ix_list (pv 10) pe_int (fun _ _ => rfl)) pe_int set_list)) (pss_cons (ps_expr (pe_bm PySem.F.plainAttrs_list PySem.F.slot_list_append PySem.F.type_list_append mt_append (pv 10) (pa_cons (pe_lst pa_nil) pa_nil))) h13), ?_⟩
  intro o0 o1 o2 o4 o8 o9 o11 ob du fd v n t ys zs H0 Hs H1 h0 h1 oo hz ed al le sm hfd ef alf q
  have lz := alf.len
  rw [List.length_range] at lz
  obtain ⟨v0, hv0⟩ : ∃ v0, zs[0]? = some v0 := ⟨zs[0]'(by omega), List.getElem?_eq_getElem (by omega)⟩
  obtain ⟨x0, hx0, l0, rfl, hl0, el0⟩ := alf.get 0 v0 hv0
  have lr : ((rowW t n (x0 : Int)).map V.int).length = (n + 1).toNat := by unfold rowW; rw [List.length_map, List.length_map, List.length_range]
  have ix0 : ixN ((rowW t n (x0 : Int)).map V.int).length 0 = some 0 := by unfold ixN; rw [if_pos (by decide), if_pos (by rw [lr]; omega)]; rfl
  refine ⟨_, rfl, _, _, _, _, rfl, rfl, SqL.of ef, atI_nat (j := 0) hv0, l0, _, _, 0, rfl, rfl, el0, ix0, ?_⟩
  have nfl : fd ≠ l0 := fun z => by
    subst z
    rw [ef] at el0
    cases el0
    rw [List.getElem?_map] at hv0
    cases y : (rowW t n (x0 : Int))[0]? with
    | none => rw [y] at hv0; cases hv0
    | some k => rw [y] at hv0; cases hv0
  have s2 := same_mut sm hl0 (.lst (((rowW t n (x0 : Int)).map V.int).set 0 (.int 99)))
  have ef2 : upd H1 l0 (.lst (((rowW t n (x0 : Int)).map V.int).set 0 (.int 99))) fd = some (.lst zs) := by rw [upd_ne nfl]; exact ef
  generalize upd H1 l0 (.lst (((rowW t n (x0 : Int)).map V.int).set 0 (.int 99))) = H2 at s2 ef2 ⊢
  refine ⟨_, rfl, .inl ⟨rfl, _, SqL.of ef2⟩, (by show 0 ≤ sizeLine; decide), fun le' hle => ?_⟩
  have s3 := s2.trans (same_new hle (.lst []))
  have ef3 := same_new hle (.lst []) _ _ ef2
  refine ⟨fd, _, _, rfl, rfl, ef3, Nat.lt_of_le_of_lt (show zs.length ≤ 1000 by omega) (by decide), ?_⟩
  have s4 := same_mut s3 hfd (.lst (zs ++ [.ref le']))
  exact q13 _ _ _ _ _ _ _ _ ob du v n t ys H0 _ h0 h1 (oo.to (Kp.of s4)) hz (s4 _ _ ed) (al.imp fun _ _ r => by obtain ⟨b, e, hb, eb⟩ := r; exact ⟨b, e, hb, s4 _ _ eb⟩) (le.same s4) q
end
end Mine




set_option Elab.async false
set_option linter.all false
set_option maxRecDepth 100000
set_option maxHeartbeats 4000000
namespace L2
open PySem PySem.Spec PyProof.Rows
/-! ### a list comprehension whose own name is a cell (a comprehension within it reads it) -/
section
variable {X : Cx} {pins : List (Addr × Obj)} {σ : St} {H : Hp} {s : Shared} {scope : Scope} {cl : List (Str × Addr)} {x : Str} {js : List Nat} {fp : List Addr}

end
section
variable {X : Cx} {elt iter : Expr} {x : Str} {px pos : Pos} {ifs : List Expr} {scope : Scope} {cl : List (Str × Addr)} {wi : TI} {tc : TT} {te : TE} {js : List Nat}

end
end L2


set_option Elab.async false
set_option linter.all false
set_option maxRecDepth 100000
set_option maxHeartbeats 4000000
namespace L2
open PySem PySem.Spec PyProof.Rows
theorem call_allK {X : Cx} {K : PySem.W.Frag} (e : X.K = K) (hc : X.calm = true) : CallR X (.builtin "all") (fun xs H Q => ∃ (l : Addr) (bs : List Bool), xs = [.ref l] ∧ SqL K H l (bs.map V.bl) ∧ Q (.bl (bs.all id)) H) := by
  subst e
  exact call_all hc
theorem pi_listK {X : Cx} {K : PySem.W.Frag} {tg e : Expr} {te : TE} (q : X.K = K) (he : PE X e te) : PI X tg e (iList K te) := by
  subst q
  exact pi_list he
end L2
namespace Mine
open PySem L2
def cmpSc (e : Expr) : Scope := match e with
  | .ListComp _ _ s _ => s
  | _ => default
def cmpElt (e : Expr) : Expr := match e with
  | .ListComp x _ _ _ => x
  | _ => e
section
variable {P : Program} {w : World} {K : PySem.W.Frag} {mg : Str → Option Value} {base : Heap} {c : CCs}
def argOf (s : Stmt) : Expr := match s with
  | .If (.UnaryOp _ (.Call _ [e] _ _) _) _ _ _ => e
  | _ => .Constant .none 0 ⟨0, 0, 0, 0⟩
abbrev st10 : Expr := argOf ((defBody sLaw).getD 10 (.Pass ⟨0, 0, 0, 0⟩))
theorem allIn {f : Addr} {cdv : Value} {A : Around} {outer : List Env} {s : Shared} {H : Hp} {E : XK} (Z_all : mg "all" = none) (D_law_whole : Def P w K mg base 1 "_law_whole" ["_law_found"] spWholeL) (hr : Room 39 (A.deeper (PyProof.Rows.envOfC "law" (defScope sLaw) s.heap.objs.size f cdv))) :
    ∃ te, (∀ cl s' H' fp, PE (cxComp (cxOf CX0 P w K mg base lawN6 "law" (defScope sLaw) f cdv A outer s H E).nox (cmpSc st10) cl (cNames (cxOf CX0 P w K mg base lawN6 "law" (defScope sLaw) f cdv A outer s H E).nox "_law_row" []) s' H' fp) (cmpElt st10) te) ∧
      ∀ (H2 : Hp) (l : Addr) (ns : List Int) (kk : VK), H2 l = some (.lst (ns.map V.int)) → ns.length ≤ 1000 → (∀ H3, Same H2 H3 → kk (.bl true) H3) → te [some (.ref l)] H2 kk := by
  refine ⟨_, (fun cl s' H' fp => (pe_callB (call_allK (K := K) rfl rfl) rfl Z_all (by decide +kernel) (pa_cons (pe_compF rfl (pi_listK (K := K) rfl (pv 0)) rfl (by decide +kernel) (by decide +kernel) rfl
      (show ∀ p ∈ ([(".0", .local), ("_law_one", .local), ("_law_whole", .globalImplicit)] : List (Str × NameKind)), p.2 = NameKind.free → List.lookup p.1 ([(".0", .local), ("_law_row", .local), ("all", .globalImplicit)] : List (Str × NameKind)) = some .cell ∨ List.lookup p.1 ([(".0", .local), ("_law_row", .local), ("all", .globalImplicit)] : List (Str × NameKind)) = some .free by decide +kernel)
      fa_nil (show (["_law_one"] : List Str).Nodup by decide +kernel) (fun _ _ _ _ => pif_nil) (fun _ _ _ _ => (pe_def D_law_whole (hr.mono (by omega)) rfl (pa_cons (pv 0) pa_nil)))) pa_nil))), ?_⟩
  intro H2 l ns kk el few fin
  dsimp only [tCB, tCons]
  refine comp_map (K := K) (ts := ns) (R := fun _ v i => v = V.int i) (xs := ns.map V.int) (fun _ => .bl true) (fun _ _ v t _ h => h) (fun l' H' => l' = l ∧ H' = H2) (fun R h => ⟨_, rfl, l, rfl, ⟨_, SqL.of el⟩, h l _ ⟨rfl, rfl⟩⟩) (fun l' H' h => by obtain ⟨rfl, rfl⟩ := h; exact ⟨el, Same.refl _⟩) (by rw [List.length_map]; exact few)
      ?_ (fun v i H' N hi hv hN => ?_) (fun D H4 s4 hD eD => ?_)
  · clear el few
    induction ns with
    | nil => exact .nil
    | cons i r ih => exact .cons rfl ih
  · subst hv
    exact ⟨_, rfl, i, rfl, hN _ (Same.refl _)⟩
  · refine ⟨D, ns.map fun _ => true, rfl, SqL.of (by rw [List.map_map]; exact eD), ?_⟩
    rw [show (ns.map fun _ => true).all id = true by simp]
    exact fin _ s4
end
end Mine

namespace Mine
open PySem L2
section
variable {P : Program} {w : World} {K : PySem.W.Frag} {mg : Str → Option Value} {base : Heap} {c : CCs}
theorem comp10 {f : Addr} {cdv : Value} {A : Around} {outer : List Env} {s : Shared} {H : Hp} {E : XK} (Z_all : mg "all" = none) (D_law_whole : Def P w K mg base 1 "_law_whole" ["_law_found"] spWholeL) (hr : Room 39 (A.deeper (PyProof.Rows.envOfC "law" (defScope sLaw) s.heap.objs.size f cdv))) :
    ∃ te, PE (cxOf CX0 P w K mg base lawN6 "law" (defScope sLaw) f cdv A outer s H E).nox st10 te ∧ ∀ (o0 o1 o2 o3 o4 o5 o6 o7 o8 o9 o11 : Option V) (fd : Addr) (n : Int) (t : Tr) (zs : List V) (Hs H1 : Hp) (kk : VK), 0 ≤ n → n ≤ 40 → H1 fd = some (.lst zs) → All2 (RowV Hs t n H1) zs (List.range (n + 1).toNat) → (∀ D H2, Same H1 H2 → H2 D = some (.lst (((List.range (n + 1).toNat).map fun _ => true).map V.bl)) → kk (.ref D) H2) →
      te [o0, o1, o2, o3, o4, o5, o6, o7, o8, o9, some (.ref fd), o11] H1 kk := by
  have nd := sc_law.nd
  obtain ⟨tI, hI, qI⟩ := allIn (P := P) (w := w) (K := K) (base := base) (outer := outer) (H := H) (E := E) Z_all D_law_whole hr
  refine ⟨_, (pe_compF rfl (pi_list (pv 10)) rfl (by decide +kernel) (by decide +kernel) rfl (show ∀ p ∈ Scope.names _, p.2 = NameKind.free → List.lookup p.1 (defScope sLaw).names = some .cell ∨ List.lookup p.1 (defScope sLaw).names = some .free by decide +kernel) fa_nil (show (["_law_row"] : List Str).Nodup by decide +kernel) (fun _ _ _ _ => pif_nil) (fun cl s' H' fp => hI cl s' H' fp)), ?_⟩
  intro o0 o1 o2 o3 o4 o5 o6 o7 o8 o9 o11 fd n t zs Hs H1 kk h0 h1 ef al fin
  have lz := al.len
  rw [List.length_range] at lz
  refine comp_map (K := K) (ts := List.range (n + 1).toNat) (R := fun H v x => RowV Hs t n H v x) (xs := zs) (fun _ => .bl true) (fun _ _ v x sm h => by obtain ⟨l, e, hl, el⟩ := h; exact ⟨l, e, hl, sm _ _ el⟩) (fun l' H' => l' = fd ∧ H' = H1) (fun R h => ⟨_, rfl, fd, rfl, ⟨_, SqL.of ef⟩, h fd _ ⟨rfl, rfl⟩⟩) (fun l' H' h => by obtain ⟨rfl, rfl⟩ := h; exact ⟨ef, Same.refl _⟩) (by omega)
      al (fun v x H' N hx hv hN => ?_) (fun D H4 s4 hD eD => fin D H4 s4 (by rw [List.map_map]; exact eD))
  obtain ⟨l, rfl, hl, el⟩ := hv
  exact qI H' l _ N el (by unfold rowW; rw [List.length_map, List.length_range]; omega) fun H3 s3 => hN _ s3
end
end Mine




set_option Elab.async false
set_option linter.all false
set_option maxRecDepth 100000
set_option maxHeartbeats 4000000
namespace Mine
open PySem L2
section
variable {P : Program} {w : World} {K : PySem.W.Frag} {mg : Str → Option Value} {base : Heap} {c : CCs}
theorem tail9 {f : Addr} {cdv : Value} {A : Around} {outer : List Env} {s : Shared} {H : Hp} {E : XK} {Q : VK} (Z_isinstance : mg "isinstance" = none) (Z_tuple : mg "tuple" = none) (Z_list : mg "list" = none) (Z_all : mg "all" = none) (D_on_steps : Def P w K mg base 5 "on_steps" ["saying", "n"] (spSteps c)) (D_least_on_steps : Def P w K mg base 6 "least_on_steps" ["saying", "n"] (spLeast c)) (D_law_whole : Def P w K mg base 1 "_law_whole" ["_law_found"] spWholeL) (hr : Room 39 (A.deeper (PyProof.Rows.envOfC "law" (defScope sLaw) s.heap.objs.size f cdv))) :
    ∃ ts, PSs (cxOf CX0 P w K mg base lawN6 "law" (defScope sLaw) f cdv A outer s H E).nox ((defBody sLaw).drop 9) ts ∧ ∀ (o0 o1 o2 o4 o8 o9 o11 : Option V) (ob du fd : Addr) (v : V) (n : Int) (t : Tr) (ys zs : List V) (H0 Hs H1 : Hp), 0 ≤ n → n ≤ 40 → Ob c Hs ob t → t.size ≤ 20 → Hs du = some (.lst ys) → All2 (RowV H0 t n Hs) ys (List.range (n + 1).toNat) → LeM Hs n (allL (fW t n) (n + 1).toNat (n + 1).toNat) v → Same Hs H1 → Hs fd = none → H1 fd = some (.lst zs) → All2 (RowV Hs t n H1) zs (List.range (n + 1).toNat) → (∀ H', Q (.bl true) H') →
      ts { nx := fun _ H' => Q .non H', rt := Q } [o0, o1, o2, some (.int n), o4, some (.ref ob), some (.ref du), some v, o8, o9, some (.ref fd), o11] H1 := by
  have nd := sc_law.nd
  have hu := hr.units
  obtain ⟨t11, h11, q11⟩ := tail11 (P := P) (w := w) (K := K) (base := base) (outer := outer) (H := H) (E := E) (Q := Q) Z_isinstance Z_tuple D_on_steps D_least_on_steps D_law_whole hr
  obtain ⟨tA, htA, qA⟩ := comp10 (P := P) (w := w) (K := K) (base := base) (outer := outer) (H := H) (E := E) Z_all D_law_whole hr
  refine ⟨_, pss_cons (ps_if (PW.pt (pw_or (pt_not (pt_val (pe_callB call_isiL rfl Z_isinstance (by decide +kernel) (pa_cons (pv 10) (pa_cons (pe_bltn (v := V.ty "list") rfl Z_list (by decide +kernel) rfl) pa_nil))))) (pw_or (pt_cmpR (op_neM hu) (pv 10) (pv 6) (nomark _)) (pw_or1 (pt_not (pt_val (pe_callB (call_all rfl) rfl Z_all (by decide +kernel) (pa_cons (pe_compF rfl (pi_list (pv 10)) rfl (by decide +kernel) (by decide +kernel) rfl (show ∀ p ∈ Scope.names _, p.2 = NameKind.free → List.lookup p.1 (defScope sLaw).names = some .cell ∨ List.lookup p.1 (defScope sLaw).names = some .free by decide +kernel) fa_nil (show (["_law_row"] : List Str).Nodup by decide +kernel) (fun _ _ _ _ => pif_nil) (fun _ _ _ _ => (pe_callB (call_isiK (K := K) rfl) rfl Z_isinstance (by decide +kernel) (pa_cons (pv 0) (pa_cons (pe_bltn (v := V.ty "list") rfl Z_list (by decide +kernel) rfl) pa_nil))))) pa_nil)))))))) (pss_one (ps_ret pe_bl)) pss_nil) (pss_cons (ps_if (pt_not (pt_val (pe_callB (call_all rfl) rfl Z_all (by decide +kernel) (pa_cons htA pa_nil)))) (pss_one (ps_ret pe_bl)) pss_nil) h11), ?_⟩
  intro o0 o1 o2 o4 o8 o9 o11 ob du fd v n t ys zs H0 Hs H1 h0 h1 oo hz ed al le sm hfd ef alf q
  have lz := alf.len
  rw [List.length_range] at lz
  have tr1 : ∀ (H2 : Hp), Same Hs H2 → All2 (RowV H0 t n H2) ys (List.range (n + 1).toNat) := fun H2 s2 => al.imp fun _ _ r => by obtain ⟨b, e, hb, eb⟩ := r; exact ⟨b, e, hb, s2 _ _ eb⟩
  have tr2 : ∀ (H2 : Hp), Same H1 H2 → All2 (RowV Hs t n H2) zs (List.range (n + 1).toNat) := fun H2 s2 => alf.imp fun _ _ r => by obtain ⟨b, e, hb, eb⟩ := r; exact ⟨b, e, hb, s2 _ _ eb⟩
  refine ⟨_, rfl, fd, _, _, _, true, rfl, (fun _ h => h), SqL.of ef, kit_same, _, rfl, iteF ?_⟩
  refine ⟨_, rfl, _, rfl, rowsD t n, rowsD t n, rows_dat ef alf, rows_dat (sm _ _ ed) (tr1 H1 sm), rowsD_sh t n, rowsD_sh t n, _, rfl, ?_⟩
  rw [rowsD_eq]
  refine iteF ?_
  dsimp only [tNot, tB, tCB, tCons, tNil]
  refine comp_map (K := K) (ts := List.range (n + 1).toNat) (R := fun H v x => RowV Hs t n H v x) (xs := zs) (fun _ => .bl true) (fun _ _ v x sm h => by obtain ⟨l, e, hl, el⟩ := h; exact ⟨l, e, hl, sm _ _ el⟩) (fun l' H' => l' = fd ∧ H' = H1) (fun R h => ⟨_, rfl, fd, rfl, ⟨_, SqL.of ef⟩, h fd _ ⟨rfl, rfl⟩⟩) (fun l' H' h => by obtain ⟨rfl, rfl⟩ := h; exact ⟨ef, Same.refl _⟩) (by omega)
      alf (fun v x H' N hx hv hN => ?_) (fun D H4 s4 hD eD => ?_)
  · obtain ⟨l, rfl, hl, el⟩ := hv
    exact ⟨_, rfl, _, _, _, _, true, rfl, (fun _ h => h), TyOf.lst el, kit_same, hN _ (Same.refl _)⟩
  · refine ⟨D, (List.range (n + 1).toNat).map fun _ => true, rfl, SqL.of (by rw [List.map_map]; exact eD), _, rfl, ?_⟩
    rw [show ((List.range (n + 1).toNat).map fun _ => true).all id = true by simp]
    refine iteF ?_
    refine qA _ _ _ _ _ _ _ _ _ _ _ fd n t zs Hs H4 _ h0 h1 (s4 _ _ ef) (tr2 H4 s4) fun D2 H5 s5 eD2 => ?_
    refine ⟨D2, (List.range (n + 1).toNat).map fun _ => true, rfl, SqL.of eD2, _, rfl, ?_⟩
    rw [show ((List.range (n + 1).toNat).map fun _ => true).all id = true by simp]
    refine iteF ?_
    have s15 := s4.trans s5
    exact q11 _ _ _ _ _ _ _ ob du fd v n t ys zs H0 Hs H5 h0 h1 oo hz ed al le (sm.trans s15) hfd (s15 _ _ ef) (tr2 H5 s15) q
end
end Mine




set_option Elab.async false
set_option linter.all false
set_option maxRecDepth 100000
set_option maxHeartbeats 4000000
namespace Mine
open PySem L2
section
variable {P : Program} {w : World} {K : PySem.W.Frag} {mg : Str → Option Value} {base : Heap} {c : CCs}
theorem sc_saying : FnScope sayNames ["_law_cells", "_law_room", "_law_two"] (defScope sSaying) := ⟨rfl, rfl, rfl, by decide +kernel, rfl, by decide +kernel, by decide +kernel⟩
theorem ok_saying (T : TopDef K mg "_law_saying" sSaying) (Z_int : mg "int" = none) (D_law_next : Def P w K mg base 1 "_law_next" ["_law_cells"] spNext) : ∀ n : Nat, Def P w K mg base (n + 2) "_law_saying" ["_law_cells", "_law_room", "_law_two"] (spSaying n) := by
  intro n
  induction n with
  | zero =>
    refine def_of T sc_saying (fun _ _ _ _ _ _ us hl => match us, hl with | [_, _, _], _ => rfl) (fun vs H Q E h => ?_) (fun f cdv A outer s H vs Q E hr h => ?_)
    · obtain ⟨l, ms, r, b, rfl, _⟩ := h
      rfl
    · obtain ⟨l, ms, r, b, rfl, _, _, z1, z2, _⟩ := h
      have : (r : Int) ≤ ((0 : Nat) : Int) := z2
      omega
  | succ n D_law_saying =>
    refine def_of T sc_saying (fun _ _ _ _ _ _ us hl => match us, hl with | [_, _, _], _ => rfl) (fun vs H Q E h => ?_) (fun f cdv A outer s H vs Q E hr h => ?_)
    · obtain ⟨l, ms, r, b, rfl, _⟩ := h
      rfl
    obtain ⟨l, ms, r, b, rfl, e, hc, r1, r2, q⟩ := h
    have nd := sc_saying.nd
    have r2' : r ≤ (n : Int) + 1 := by exact_mod_cast r2
    -- a leaf
    have tail4 : ∃ t, PSs (cxOf CX0 P w K mg base sayNames "_law_saying" (defScope sSaying) f cdv A outer s H E).nox ((defBody sSaying).drop 4) t ∧ ∀ (i : Int) (ms1 : List Int) (H1 : Hp), (∀ m ∈ ms1, Cel m) → SB (.ref l) H H1 → H1 l = some (.lst (ms1.map V.int)) →
        t { nx := fun _ H' => Q .non H', rt := Q } [some (.ref l), some (.int r), some (.bl b), some (.int i), some (.int (i / 16)), none, none, none] H1 := by
      refine ⟨_, (pss_cons (ps_if (pt_cmpR op_gt (pe_op op_mod (pv 4) pe_int) pe_int (nomark _)) (pss_one (ps_ret (pe_tup (pa_cons (pe_ix ix_tup (pe_tup (pa_cons pe_str (pa_cons pe_str pa_nil))) (pe_op op_sub (pe_op op_mod (pv 4) pe_int) pe_int) (fun _ _ => rfl)) pa_nil)))) pss_nil)
    (pss_one (ps_ret (pe_tup (pa_cons (pe_ix ix_tup (pe_tup (pa_cons pe_str (pa_cons pe_str pa_nil))) (pe_op op_mulK (pe_op op_mod (pv 4) pe_int) (pe_callTy call_int1 rfl Z_int (by decide +kernel) (pa_cons (pv 2) pa_nil))) (fun _ _ => rfl)) pa_nil))))), ?_⟩
      intro i ms1 H1 hc1 sb1 e1
      have fin : ∀ (p p2 : Addr) (xs : List V) (x : Str) (t : Tr), t.size = 1 → H1 p = none → upd H1 p (.tup xs) p2 = none → Tu (upd (upd H1 p (.tup xs)) p2 (.tup [V.str x])) p2 t → Q (.ref p2) (upd (upd H1 p (.tup xs)) p2 (.tup [V.str x])) := fun p p2 xs x t ht hp hp2 tu => by
        have s1 := same_new hp (.tup xs)
        have s2 := same_new hp2 (.tup [V.str x])
        exact q p2 t ms1 _ (by rw [ht]; exact r1) hc1 (sb1.trans (SB.of (s1.trans s2))) (s2 _ _ (s1 _ _ e1)) tu
      refine ⟨_, rfl, _, _, rfl, rfl, (show (0 : Int) < 9 by decide), _, _, rfl, rfl, _, rfl, ?_⟩
      refine ite2 (fun g => ?_) (fun g => ?_)
      · have g1 : 6 < i / 16 % 9 := of_decide_eq_true g
        have g2 : i / 16 % 9 < 9 := Int.emod_lt_of_pos _ (by decide)
        refine ⟨(by show 2 ≤ sizeLine; decide), fun p hp => ?_⟩
        obtain ⟨z, hz, hzz⟩ := two_at (x := V.str "never") (y := V.str "always") (i / 16 % 9 - 7) (by omega)
        refine ⟨_, rfl, _, _, rfl, rfl, (show (0 : Int) < 9 by decide), _, _, rfl, rfl, _, _, _, _, rfl, rfl, SqT.of upd_same, hz, (by show 1 ≤ sizeLine; decide), fun p2 hp2 => ?_⟩
        rcases hzz with rfl | rfl
        · exact fin p p2 _ _ .never rfl hp hp2 (.never upd_same)
        · exact fin p p2 _ _ .always rfl hp hp2 (.always upd_same)
      · have g2 : i / 16 % 2 < 2 := Int.emod_lt_of_pos _ (by decide)
        have g3 : 0 ≤ i / 16 % 2 := Int.emod_nonneg _ (by decide)
        refine ⟨(by show 2 ≤ sizeLine; decide), fun p hp => ?_⟩
        have hi : i / 16 % 2 * (if b then 1 else 0) = 0 ∨ i / 16 % 2 * (if b then 1 else 0) = 1 := by cases b <;> simp <;> omega
        obtain ⟨z, hz, hzz⟩ := two_at (x := V.str "p") (y := V.str "q") (i / 16 % 2 * (if b then 1 else 0)) hi
        refine ⟨_, rfl, _, _, rfl, rfl, (show (0 : Int) < 2 by decide), _, rfl, .inr ⟨b, rfl, _, _, rfl, rfl, mul_ok_r (by cases b <;> decide +kernel), _, _, _, _, rfl, rfl, SqT.of upd_same, hz, (by show 1 ≤ sizeLine; decide), fun p2 hp2 => ?_⟩⟩
        rcases hzz with rfl | rfl
        · exact fin p p2 _ _ .lp rfl hp hp2 (.lp upd_same)
        · exact fin p p2 _ _ .lq rfl hp hp2 (.lq upd_same)
    obtain ⟨t4, ht4, hq4⟩ := tail4
    have tail3 : ∃ t, PSs (cxOf CX0 P w K mg base sayNames "_law_saying" (defScope sSaying) f cdv A outer s H E).nox ((defBody sSaying).drop 3) t ∧ ∀ (i : Int) (ms1 : List Int) (H1 : Hp), (∀ m ∈ ms1, Cel m) → SB (.ref l) H H1 → H1 l = some (.lst (ms1.map V.int)) →
        t { nx := fun _ H' => Q .non H', rt := Q } [some (.ref l), some (.int r), some (.bl b), some (.int i), some (.int (i / 16)), none, none, none] H1 := by
      refine ⟨_, pss_cons (ps_if (PW.pt (pw_and (pt_cmpR op_gt (pv 1) pe_int (nomark _)) (pw_and1 (pt_cmpR op_lt (pe_op op_mod (pv 3) pe_int) pe_int (nomark _))))) (pss_one (ps_ret (pe_tup (pa_cons pe_str (pa_cons (pe_def D_law_saying (hr.mono (by omega)) rfl (pa_cons (pv 0) (pa_cons (pe_op op_sub (pv 1) pe_int) (pa_cons (pv 2) pa_nil)))) pa_nil))))) pss_nil) ht4, ?_⟩
      intro i ms1 H1 hc1 sb1 e1
      refine ⟨_, rfl, _, _, rfl, rfl, _, rfl, ?_⟩
      refine ite2 (fun g => ?_) (fun g => ?_)
      · have g1 : 1 < r := of_decide_eq_true g
        refine ⟨_, rfl, _, _, rfl, rfl, (show (0 : Int) < 16 by decide), _, _, rfl, rfl, _, rfl, ?_⟩
        refine ite2 (fun g' => ?_) (fun g' => hq4 i ms1 H1 hc1 sb1 e1)
        refine ⟨_, rfl, _, rfl, _, _, rfl, rfl, _, rfl, l, ms1, r - 1, b, rfl, e1, hc1, by omega, by omega, fun a1 t1 ms2 H2 z1 hc2 sb2 e2 tu => ?_⟩
        refine ⟨(by show 2 ≤ sizeLine; decide), fun p hp => ?_⟩
        have s3 := same_new hp (.tup [V.str "not", .ref a1])
        exact q p (.no t1) ms2 _ (by show ((t1.size + 1 : Nat) : Int) ≤ r; omega) hc2 ((sb1.trans sb2).trans (SB.of s3)) (s3 _ _ e2) (.no upd_same (tu.to (Kp.of s3)))
      · exact iteF (hq4 i ms1 H1 hc1 sb1 e1)
    obtain ⟨t3, ht3, hq3⟩ := tail3
    refine ⟨_, pss_cons (ps_set (i := 3) nd rfl (Or.inl rfl) (pe_def D_law_next (hr.mono (by omega)) rfl (pa_cons (pv 0) pa_nil))) (pss_cons (ps_set (i := 4) nd rfl (Or.inl rfl) (pe_op op_fdiv (pv 3) pe_int)) (pss_cons (ps_if (PW.pt (pw_and (pt_cmpR op_gt (pv 1) pe_int (nomark _)) (pw_and1 (pt_cmpR op_gt (pe_op op_mod (pv 3) pe_int) pe_int (nomark _))))) (pss_cons (ps_set (i := 5) nd rfl (Or.inl rfl) (pe_op op_add pe_int (pe_op op_mod (pe_op op_fdiv (pv 4) pe_int) (pe_op op_sub (pv 1) pe_int))))
    (pss_cons (ps_set (i := 6) nd rfl (Or.inl rfl) (pe_def D_law_saying (hr.mono (by omega)) rfl (pa_cons (pv 0) (pa_cons (pv 5) (pa_cons (pv 2) pa_nil)))))
    (pss_cons (ps_set (i := 7) nd rfl (Or.inl rfl) (pe_ix ix_tup (pe_tup (pa_cons pe_str (pa_cons pe_str (pa_cons pe_str (pa_cons pe_str (pa_cons pe_str pa_nil)))))) (pe_op op_mod (pv 4) pe_int) (fun _ _ => rfl)))
    (pss_one (ps_ret (pe_tup (pa_cons (pv 7) (pa_cons (pv 6) (pa_cons (pe_def D_law_saying (hr.mono (by omega)) rfl (pa_cons (pv 0) (pa_cons (pe_op op_sub (pe_op op_sub (pv 1) pe_int) (pv 5)) (pa_cons (pv 2) pa_nil)))) pa_nil))))))))) pss_nil) ht3)), ?_⟩
    refine ⟨_, rfl, l, ms, rfl, e, hc, fun i ms1 H1 ci hc1 sb1 e1 => ?_⟩
    refine ⟨_, rfl, _, _, rfl, rfl, ⟨by decide, by decide⟩, ?_⟩
    refine ⟨_, rfl, _, _, rfl, rfl, _, rfl, ?_⟩
    refine ite2 (fun g => ?_) (fun g => iteF (hq3 i ms1 H1 hc1 sb1 e1))
    have g1 : 2 < r := of_decide_eq_true g
    refine ⟨_, rfl, _, _, rfl, rfl, (show (0 : Int) < 16 by decide), _, _, rfl, rfl, _, rfl, ?_⟩
    refine ite2 (fun g' => ?_) (fun g' => hq3 i ms1 H1 hc1 sb1 e1)
    have b1 : 0 ≤ i / 16 / 5 % (r - 2) := Int.emod_nonneg _ (by omega)
    have b2 : i / 16 / 5 % (r - 2) < r - 2 := Int.emod_lt_of_pos _ (by omega)
    refine ⟨_, rfl, _, _, rfl, rfl, ⟨by decide, by decide⟩, _, rfl, _, _, rfl, rfl, _, _, rfl, rfl, (show (0 : Int) < r - 2 by omega), _, _, rfl, rfl, ?_⟩
    refine ⟨_, rfl, _, rfl, _, rfl, l, ms1, _, b, rfl, e1, hc1, by omega, by omega, fun a1 x1 ms2 H2 z1 hc2 sb2 e2 tu1 => ?_⟩
    refine ⟨(by show 5 ≤ sizeLine; decide), fun p hp => ?_⟩
    obtain ⟨u, hu⟩ := word_at (i / 16 % 5) (Int.emod_nonneg _ (by decide)) (Int.emod_lt_of_pos _ (by decide))
    refine ⟨_, rfl, _, _, rfl, rfl, (show (0 : Int) < 5 by decide), _, _, _, _, rfl, rfl, SqT.of upd_same, hu, ?_⟩
    have s2 := same_new hp (.tup [V.str "more", .str "less", .str "greater", .str "lesser", .str "leads"])
    refine ⟨_, rfl, _, rfl, _, rfl, _, rfl, _, _, rfl, rfl, _, rfl, _, _, rfl, rfl, _, rfl, l, ms2, _, b, rfl, s2 _ _ e2, hc2, by omega, by omega, fun a2 x2 ms3 H3 z2 hc3 sb3 e3 tu2 => ?_⟩
    refine ⟨(by show 3 ≤ sizeLine; decide), fun p2 hp2 => ?_⟩
    have s4 := same_new hp2 (.tup [V.str u.str, .ref a1, .ref a2])
    have k3 : Kp (upd H2 p (.tup [V.str "more", .str "less", .str "greater", .str "lesser", .str "leads"])) H3 := sb3.kp (lst_fx (s2 _ _ e2))
    exact q p2 (.fold u x1 x2) ms3 _ (by show ((x1.size + x2.size + 1 : Nat) : Int) ≤ r; omega) hc3 ((((sb1.trans sb2).trans (SB.of s2)).trans sb3).trans (SB.of s4)) (s4 _ _ e3) (.fold upd_same (tu1.to (((Kp.of s2).trans k3).trans (Kp.of s4))) (tu2.to (Kp.of s4)))
end
end Mine




set_option Elab.async false
set_option linter.all false
set_option maxRecDepth 100000
set_option maxHeartbeats 4000000
namespace Mine
open PySem L2
def spObj1 (c : CCs) (n : Nat) : Sp := fun vs H Q _ => ∃ (a : Addr) (t : Tr), vs = [.ref a] ∧ Tu H a t ∧ t.size ≤ n ∧ ∀ x H', Same H H' → Ob c H' x t → Q (.ref x) H'
section
variable {P : Program} {w : World} {K : PySem.W.Frag} {mg : Str → Option Value} {base : Heap} {c : CCs}
theorem sc_obj06 : FnScope ["_law_tree", "_law_one", "_law_other"] ["_law_tree"] (defScope sObject) := ⟨rfl, rfl, rfl, by decide +kernel, rfl, by decide +kernel, by decide +kernel⟩
theorem ok_obj06 (T : TopDef K mg "_law_object" sObject) (N_never : Mk0 K c.ne) (M_never : mg "Never" = some (.ref c.ne)) (N_always : Mk0 K c.al) (M_always : mg "Always" = some (.ref c.al)) (K_letter : MkOk P w K mg base "Letter" c.le 1 ["self", "name"] (spInit1 c.le fName)) (K_not : MkOk P w K mg base "Not" c.no 1 ["self", "part"] (spInit1 c.no fPart)) (K_fold : ∀ u : W5, MkOk P w K mg base u.cls (c.fold u) 1 ["self", "one", "other"] (spInit2 (c.fold u))) : ∀ n : Nat, Def P w K mg base (n + 3) "_law_object" ["_law_tree"] (spObj1 c n) := by
  intro n
  induction n with
  | zero =>
    refine def_of T sc_obj06 (fun _ _ _ _ _ _ us hl => match us, hl with | [_], _ => rfl) (fun vs H Q E h => ?_) (fun f cdv A outer s H vs Q E hr h => ?_)
    · obtain ⟨a, t, rfl, _⟩ := h
      rfl
    · obtain ⟨a, t, rfl, _, z, _⟩ := h
      have := t.size_pos
      omega
  | succ n D_law_object =>
    refine def_of T sc_obj06 (fun _ _ _ _ _ _ us hl => match us, hl with | [_], _ => rfl) (fun vs H Q E h => ?_) (fun f cdv A outer s H vs Q E hr h => ?_)
    · obtain ⟨a, t, rfl, _⟩ := h
      rfl
    obtain ⟨a, t, rfl, tu, hz, q⟩ := h
    have nd := sc_obj06.nd
    refine ⟨_, (pss_cons (ps_if (pt_cmpR op_eq (pe_ix ix_tup (pv 0) pe_int (fun _ _ => rfl)) pe_str (nomark _)) (pss_one (ps_ret (pe_makeN N_never rfl M_never))) pss_nil)
    (pss_cons (ps_if (pt_cmpR op_eq (pe_ix ix_tup (pv 0) pe_int (fun _ _ => rfl)) pe_str (nomark _)) (pss_one (ps_ret (pe_makeN N_always rfl M_always))) pss_nil)
    (pss_cons (ps_if (pt_cmpR op_in_seq (pe_ix ix_tup (pv 0) pe_int (fun _ _ => rfl)) (pe_tup (pa_cons pe_str (pa_cons pe_str pa_nil))) rfl) (pss_one (ps_ret (pe_mk K_letter (hr.mono (by omega)) rfl (pa_cons (pe_ix ix_tup (pv 0) pe_int (fun _ _ => rfl)) pa_nil)))) pss_nil)
    (pss_cons (ps_if (pt_cmpR op_eq (pe_ix ix_tup (pv 0) pe_int (fun _ _ => rfl)) pe_str (nomark _)) (pss_one (ps_ret (pe_mk K_not (hr.mono (by omega)) rfl (pa_cons (pe_def D_law_object (hr.mono (by omega)) rfl (pa_cons (pe_ix ix_tup (pv 0) pe_int (fun _ _ => rfl)) pa_nil)) pa_nil)))) pss_nil)
    (pss_cons (ps_set (i := 1) nd rfl (Or.inl rfl) (pe_def D_law_object (hr.mono (by omega)) rfl (pa_cons (pe_ix ix_tup (pv 0) pe_int (fun _ _ => rfl)) pa_nil)))
    (pss_cons (ps_set (i := 2) nd rfl (Or.inl rfl) (pe_def D_law_object (hr.mono (by omega)) rfl (pa_cons (pe_ix ix_tup (pv 0) pe_int (fun _ _ => rfl)) pa_nil)))
    (pss_cons (ps_if (pt_cmpR op_eq (pe_ix ix_tup (pv 0) pe_int (fun _ _ => rfl)) pe_str (nomark _)) (pss_one (ps_ret (pe_mk (K_fold .more) (hr.mono (by omega)) rfl (pa_cons (pv 1) (pa_cons (pv 2) pa_nil))))) pss_nil)
    (pss_cons (ps_if (pt_cmpR op_eq (pe_ix ix_tup (pv 0) pe_int (fun _ _ => rfl)) pe_str (nomark _)) (pss_one (ps_ret (pe_mk (K_fold .less) (hr.mono (by omega)) rfl (pa_cons (pv 1) (pa_cons (pv 2) pa_nil))))) pss_nil)
    (pss_cons (ps_if (pt_cmpR op_eq (pe_ix ix_tup (pv 0) pe_int (fun _ _ => rfl)) pe_str (nomark _)) (pss_one (ps_ret (pe_mk (K_fold .greater) (hr.mono (by omega)) rfl (pa_cons (pv 1) (pa_cons (pv 2) pa_nil))))) pss_nil)
    (pss_cons (ps_if (pt_cmpR op_eq (pe_ix ix_tup (pv 0) pe_int (fun _ _ => rfl)) pe_str (nomark _)) (pss_one (ps_ret (pe_mk (K_fold .lesser) (hr.mono (by omega)) rfl (pa_cons (pv 1) (pa_cons (pv 2) pa_nil))))) pss_nil)
    (pss_one (ps_ret (pe_mk (K_fold .leads) (hr.mono (by omega)) rfl (pa_cons (pv 1) (pa_cons (pv 2) pa_nil))))))))))))))), ?_⟩
    cases tu with
    | never e =>
      refine ⟨_, rfl, _, _, _, _, rfl, rfl, SqT.of e, rfl, rfl, _, rfl, ite_yes rfl (fun z dz h1 h2 ne => ?_)⟩
      exact q z _ (same_made0 (C := c.ne) h1 h2) (.never upd_same)
    | always e =>
      refine ⟨_, rfl, _, _, _, _, rfl, rfl, SqT.of e, rfl, rfl, _, rfl, ite_no (by decide +kernel) ?_⟩
      refine ⟨_, rfl, _, _, _, _, rfl, rfl, SqT.of e, rfl, rfl, _, rfl, ite_yes rfl (fun z dz h1 h2 ne => ?_)⟩
      exact q z _ (same_made0 (C := c.al) h1 h2) (.always upd_same)
    | lp e =>
      refine ⟨_, rfl, _, _, _, _, rfl, rfl, SqT.of e, rfl, rfl, _, rfl, ite_no (by decide +kernel) ?_⟩
      refine ⟨_, rfl, _, _, _, _, rfl, rfl, SqT.of e, rfl, rfl, _, rfl, ite_no (by decide +kernel) ?_⟩
      refine ⟨_, rfl, _, _, _, _, rfl, rfl, SqT.of e, rfl, (by show 2 ≤ sizeLine; decide), fun p hp => ⟨p, _, rfl, .inr (SqT.of upd_same), rfl, rfl, _, rfl, in_yes pq_p ?_⟩⟩
      have s0 := same_new hp (.tup [V.str "p", .str "q"])
      refine ⟨_, rfl, _, _, _, _, rfl, rfl, SqT.of (s0 _ _ e), rfl, fun z dz h1 h2 ne => ⟨z, dz, _, rfl, upd_same, rfl, ?_⟩⟩
      exact q z _ (s0.trans (same_made (C := c.le) (fs := fName (.str "p")) h1 h2 ne)) (.lp upd_same)
    | lq e =>
      refine ⟨_, rfl, _, _, _, _, rfl, rfl, SqT.of e, rfl, rfl, _, rfl, ite_no (by decide +kernel) ?_⟩
      refine ⟨_, rfl, _, _, _, _, rfl, rfl, SqT.of e, rfl, rfl, _, rfl, ite_no (by decide +kernel) ?_⟩
      refine ⟨_, rfl, _, _, _, _, rfl, rfl, SqT.of e, rfl, (by show 2 ≤ sizeLine; decide), fun p hp => ⟨p, _, rfl, .inr (SqT.of upd_same), rfl, rfl, _, rfl, in_yes pq_q ?_⟩⟩
      have s0 := same_new hp (.tup [V.str "p", .str "q"])
      refine ⟨_, rfl, _, _, _, _, rfl, rfl, SqT.of (s0 _ _ e), rfl, fun z dz h1 h2 ne => ⟨z, dz, _, rfl, upd_same, rfl, ?_⟩⟩
      exact q z _ (s0.trans (same_made (C := c.le) (fs := fName (.str "q")) h1 h2 ne)) (.lq upd_same)
    | @no _ b x e tb =>
      have hz' : x.size + 1 ≤ n + 1 := hz
      refine ⟨_, rfl, _, _, _, _, rfl, rfl, SqT.of e, rfl, rfl, _, rfl, ite_no (by decide +kernel) ?_⟩
      refine ⟨_, rfl, _, _, _, _, rfl, rfl, SqT.of e, rfl, rfl, _, rfl, ite_no (by decide +kernel) ?_⟩
      refine ⟨_, rfl, _, _, _, _, rfl, rfl, SqT.of e, rfl, (by show 2 ≤ sizeLine; decide), fun p hp => ⟨p, _, rfl, .inr (SqT.of upd_same), rfl, rfl, _, rfl, in_no pq_not ?_⟩⟩
      have s0 := same_new hp (.tup [V.str "p", .str "q"])
      refine ⟨_, rfl, _, _, _, _, rfl, rfl, SqT.of (s0 _ _ e), rfl, rfl, _, rfl, ite_yes rfl ?_⟩
      refine ⟨_, rfl, _, _, _, _, rfl, rfl, SqT.of (s0 _ _ e), rfl, b, x, rfl, tb.to (Kp.of s0), by omega, fun y H2 s2 oy => ?_⟩
      have s02 := s0.trans s2
      refine fun z dz h1 h2 ne => ⟨z, dz, _, rfl, upd_same, rfl, ?_⟩
      have sm := same_made (C := c.no) (fs := fPart (.ref y)) h1 h2 ne
      exact q z _ (s02.trans sm) (.no upd_same (oy.to (Kp.of sm)))
    | @fold _ b d u x y e tb td =>
      have hz' : x.size + y.size + 1 ≤ n + 1 := hz
      refine ⟨_, rfl, _, _, _, _, rfl, rfl, SqT.of e, rfl, rfl, _, rfl, ite_no (w_ne u) ?_⟩
      refine ⟨_, rfl, _, _, _, _, rfl, rfl, SqT.of e, rfl, rfl, _, rfl, ite_no (w_al u) ?_⟩
      refine ⟨_, rfl, _, _, _, _, rfl, rfl, SqT.of e, rfl, (by show 2 ≤ sizeLine; decide), fun p hp => ⟨p, _, rfl, .inr (SqT.of upd_same), rfl, rfl, _, rfl, in_no (pq_w u) ?_⟩⟩
      have s0 := same_new hp (.tup [V.str "p", .str "q"])
      refine ⟨_, rfl, _, _, _, _, rfl, rfl, SqT.of (s0 _ _ e), rfl, rfl, _, rfl, ite_no (w_not u) ?_⟩
      refine ⟨_, rfl, _, _, _, _, rfl, rfl, SqT.of (s0 _ _ e), rfl, b, x, rfl, tb.to (Kp.of s0), by omega, fun v1 H2 s2 o1 => ?_⟩
      have s02 := s0.trans s2
      refine ⟨_, rfl, _, _, _, _, rfl, rfl, SqT.of (s02 _ _ e), rfl, d, y, rfl, td.to (Kp.of s02), by omega, fun v2 H3 s3 o2 => ?_⟩
      have s03 := s02.trans s3
      have o1' := o1.to (Kp.of s3)
      have e3 := s03 _ _ e
      have fin : ∀ (z dz : Addr), H3 z = none → H3 dz = none → dz ≠ z → Q (.ref z) (upd (upd (upd H3 dz (.own z)) z (.ins (c.fold u) dz [])) z (.ins (c.fold u) dz (fTwo (.ref v1) (.ref v2)))) := fun z dz h1 h2 ne => made_fold (Q := Q) h1 h2 ne o1' o2 fun e' H' s' o' => q e' H' (s03.trans s') o'
      cases u
      · refine ⟨_, rfl, _, _, _, _, rfl, rfl, SqT.of e3, rfl, rfl, _, rfl, ite_yes rfl ?_⟩
        exact ⟨_, rfl, _, rfl, fun z dz h1 h2 ne => ⟨z, dz, _, _, rfl, upd_same, rfl, fin z dz h1 h2 ne⟩⟩
      · refine ⟨_, rfl, _, _, _, _, rfl, rfl, SqT.of e3, rfl, rfl, _, rfl, ite_no (by decide +kernel) ?_⟩
        refine ⟨_, rfl, _, _, _, _, rfl, rfl, SqT.of e3, rfl, rfl, _, rfl, ite_yes rfl ?_⟩
        exact ⟨_, rfl, _, rfl, fun z dz h1 h2 ne => ⟨z, dz, _, _, rfl, upd_same, rfl, fin z dz h1 h2 ne⟩⟩
      · refine ⟨_, rfl, _, _, _, _, rfl, rfl, SqT.of e3, rfl, rfl, _, rfl, ite_no (by decide +kernel) ?_⟩
        refine ⟨_, rfl, _, _, _, _, rfl, rfl, SqT.of e3, rfl, rfl, _, rfl, ite_no (by decide +kernel) ?_⟩
        refine ⟨_, rfl, _, _, _, _, rfl, rfl, SqT.of e3, rfl, rfl, _, rfl, ite_yes rfl ?_⟩
        exact ⟨_, rfl, _, rfl, fun z dz h1 h2 ne => ⟨z, dz, _, _, rfl, upd_same, rfl, fin z dz h1 h2 ne⟩⟩
      · refine ⟨_, rfl, _, _, _, _, rfl, rfl, SqT.of e3, rfl, rfl, _, rfl, ite_no (by decide +kernel) ?_⟩
        refine ⟨_, rfl, _, _, _, _, rfl, rfl, SqT.of e3, rfl, rfl, _, rfl, ite_no (by decide +kernel) ?_⟩
        refine ⟨_, rfl, _, _, _, _, rfl, rfl, SqT.of e3, rfl, rfl, _, rfl, ite_no (by decide +kernel) ?_⟩
        refine ⟨_, rfl, _, _, _, _, rfl, rfl, SqT.of e3, rfl, rfl, _, rfl, ite_yes rfl ?_⟩
        exact ⟨_, rfl, _, rfl, fun z dz h1 h2 ne => ⟨z, dz, _, _, rfl, upd_same, rfl, fin z dz h1 h2 ne⟩⟩
      · refine ⟨_, rfl, _, _, _, _, rfl, rfl, SqT.of e3, rfl, rfl, _, rfl, ite_no (by decide +kernel) ?_⟩
        refine ⟨_, rfl, _, _, _, _, rfl, rfl, SqT.of e3, rfl, rfl, _, rfl, ite_no (by decide +kernel) ?_⟩
        refine ⟨_, rfl, _, _, _, _, rfl, rfl, SqT.of e3, rfl, rfl, _, rfl, ite_no (by decide +kernel) ?_⟩
        refine ⟨_, rfl, _, _, _, _, rfl, rfl, SqT.of e3, rfl, rfl, _, rfl, ite_no (by decide +kernel) ?_⟩
        exact ⟨_, rfl, _, rfl, fun z dz h1 h2 ne => ⟨z, dz, _, _, rfl, upd_same, rfl, fin z dz h1 h2 ne⟩⟩
end
end Mine




set_option Elab.async false
set_option linter.all false
set_option maxRecDepth 100000
set_option maxHeartbeats 4000000
namespace Mine
open PySem L2
theorem five_at (j : Int) (h0 : 0 ≤ j) (h1 : j < 5) : ∃ m : Int, atI [V.int 12, .int 12, .int 12, .int 12, .int 40] j = some (.int m) ∧ (m = 12 ∨ m = 40) := by
  have : j = 0 ∨ j = 1 ∨ j = 2 ∨ j = 3 ∨ j = 4 := by omega
  rcases this with rfl | rfl | rfl | rfl | rfl
  · exact ⟨12, rfl, .inl rfl⟩
  · exact ⟨12, rfl, .inl rfl⟩
  · exact ⟨12, rfl, .inl rfl⟩
  · exact ⟨12, rfl, .inl rfl⟩
  · exact ⟨40, rfl, .inr rfl⟩
theorem two_of (b : Bool) : ∃ m : Int, atI [V.int 20, .int 3] (if b = true then 1 else 0) = some (.int m) ∧ (m = 20 ∨ m = 3) := by
  cases b
  · exact ⟨20, rfl, .inl rfl⟩
  · exact ⟨3, rfl, .inr rfl⟩
section
variable {P : Program} {w : World} {K : PySem.W.Frag} {mg : Str → Option Value} {base : Heap} {c : CCs}
theorem ok_law {f : Addr} {fd : FuncData} (F : Fun K "law" "law" sLaw f fd) (Z_range : mg "range" = none) (Z_min : mg "min" = none) (Z_int : mg "int" = none) (Z_isinstance : mg "isinstance" = none) (Z_tuple : mg "tuple" = none) (Z_list : mg "list" = none) (Z_all : mg "all" = none) (D_law_mixed : Def P w K mg base 1 "_law_mixed" ["_law_script", "_law_least"] (spMixed K)) (D_law_next : Def P w K mg base 1 "_law_next" ["_law_cells"] spNext)
    (D_law_saying : Def P w K mg base 22 "_law_saying" ["_law_cells", "_law_room", "_law_two"] (spSaying 20)) (D_law_object : Def P w K mg base 23 "_law_object" ["_law_tree"] (spObj1 c 20)) (D_law_worth : Def P w K mg base 22 "_law_worth" ["_law_tree", "_law_n", "_law_x", "_law_y"] (spWorth 20)) (D_law_whole : Def P w K mg base 1 "_law_whole" ["_law_found"] spWholeL) (D_on_steps : Def P w K mg base 5 "on_steps" ["saying", "n"] (spSteps c)) (D_least_on_steps : Def P w K mg base 6 "least_on_steps" ["saying", "n"] (spLeast c)) : FnOk P w K mg base CX0 40 f fd ["_law_script"] (spLaw K) := by
  refine F.ok sc_law (fun vs H Q E h => ?_) (fun cdv A outer s H vs Q E hr h => ?_)
  · obtain ⟨a, ns, rfl, _⟩ := h
    rfl
  obtain ⟨a, ns, rfl, S, q⟩ := h
  have nd := sc_law.nd
  obtain ⟨t9, h9, q9⟩ := tail9 (P := P) (w := w) (K := K) (base := base) (outer := outer) (H := H) (E := E) (Q := Q) Z_isinstance Z_tuple Z_list Z_all D_on_steps D_least_on_steps D_law_whole hr
  obtain ⟨t7, h7, q7⟩ := loop7 (P := P) (w := w) (K := K) (base := base) (outer := outer) (H := H) (E := E) Z_range Z_min D_law_worth hr
  refine ⟨_, pss_cons (ps_set (i := 1) nd rfl (Or.inl rfl) (pe_def D_law_mixed (hr.mono (by omega)) rfl (pa_cons (pv 0) (pa_cons pe_int pa_nil)))) (pss_cons (ps_set (i := 2) nd rfl (Or.inl rfl) (pe_def D_law_next (hr.mono (by omega)) rfl (pa_cons (pv 1) pa_nil))) (pss_cons (ps_set (i := 3) nd rfl (Or.inr rfl) (pe_op op_add pe_int (pe_op op_modN (pe_op op_fdiv (pv 2) pe_int) (pe_ix ix_list (pe_lst (pa_cons pe_int (pa_cons pe_int (pa_cons pe_int (pa_cons pe_int (pa_cons pe_int pa_nil)))))) (pe_op op_mod (pv 2) pe_int) (fun _ _ => rfl))))) (pss_cons (ps_set (i := 4) nd rfl (Or.inr rfl) (pe_def D_law_saying (hr.mono (by omega)) rfl (pa_cons (pv 1) (pa_cons (pe_op op_add pe_int (pe_op op_modN (pe_def D_law_next (hr.mono (by omega)) rfl (pa_cons (pv 1) pa_nil)) (pe_ix ix_list (pe_lst (pa_cons pe_int (pa_cons pe_int pa_nil))) (pe_callTy call_int1 rfl Z_int (by decide +kernel) (pa_cons (pe_cmpR op_gt (pv 3) pe_int (nomark _)) pa_nil)) (fun _ _ => rfl)))) (pa_cons pe_bl pa_nil))))) (pss_cons (ps_set (i := 5) nd rfl (Or.inl rfl) (pe_def D_law_object (hr.mono (by omega)) rfl (pa_cons (pv 4) pa_nil))) (pss_cons (ps_set (i := 6) nd rfl (Or.inl rfl) (pe_lst pa_nil)) (pss_cons (ps_set (i := 7) nd rfl (Or.inl rfl) (pe_tup (pa_cons (pe_op op_add (pv 3) pe_int) (pa_cons (pe_tup (pa_cons pe_int (pa_cons pe_int (pa_cons pe_int pa_nil)))) pa_nil)))) (pss_cons h7 (pss_cons (ps_set (i := 10) nd rfl (Or.inl rfl) (pe_def D_on_steps (hr.mono (by decide)) rfl (pa_cons (pv 5) (pa_cons (pv 3) pa_nil)))) h9)))))))), ?_⟩
  refine ⟨_, rfl, a, ns, 40, rfl, S, by decide, by decide, fun C ms H1 s1 hC e1 hc1 => ?_⟩
  refine ⟨_, rfl, C, ms, rfl, e1, hc1, fun i ms2 H2 ci hc2 sb2 e2 => ?_⟩
  obtain ⟨m, hm, hmm⟩ := five_at (i % 5) (Int.emod_nonneg _ (by decide)) (Int.emod_lt_of_pos _ (by decide))
  have f0 := Int.fmod_nonneg_of_pos (i / 5) (show (0 : Int) < m by omega)
  have f1 := Int.fmod_lt_of_pos (i / 5) (show (0 : Int) < m by omega)
  refine ⟨_, rfl, _, _, rfl, rfl, ⟨by decide, by decide⟩, (by show 5 ≤ sizeLine; decide), fun l1 hl1 => ⟨_, rfl, _, _, rfl, rfl, (show (0 : Int) < 5 by decide), _, _, _, _, rfl, rfl, SqL.of upd_same, hm, _, _, rfl, rfl, (show m ≠ 0 by omega), _, _, rfl, rfl, ?_⟩⟩
  have e2' := same_new hl1 (.lst [V.int 12, .int 12, .int 12, .int 12, .int 40]) _ _ e2
  dsimp only
  generalize hn : 1 + (i / 5).fmod m = n
  have n0 : 0 ≤ n := by omega
  have n1 : n ≤ 40 := by omega
  refine ⟨_, rfl, _, rfl, C, ms2, rfl, e2', hc2, fun j ms3 H4 cj hc3 sb3 e3 => ⟨(by show 2 ≤ sizeLine; decide), fun l2 hl2 => ?_⟩⟩
  obtain ⟨m2, hm2, hmm2⟩ := two_of (decide (12 < n))
  have g0 := Int.fmod_nonneg_of_pos j (show (0 : Int) < m2 by omega)
  have g1 := Int.fmod_lt_of_pos j (show (0 : Int) < m2 by omega)
  have e3' := same_new hl2 (.lst [V.int 20, .int 3]) _ _ e3
  refine ⟨_, rfl, _, _, rfl, rfl, .inr ⟨_, rfl, l2, _, _, _, rfl, rfl, SqL.of upd_same, hm2, _, _, rfl, rfl, (show m2 ≠ 0 by omega), _, _, rfl, rfl, C, ms3, 1 + j.fmod m2, true, rfl, e3', hc3, by omega, by omega, fun tr t0 ms7 H7 hz hc7 sb7 e7 u0 => ?_⟩⟩
  have hz0 : t0.size ≤ 20 := by omega
  refine ⟨_, rfl, tr, t0, rfl, u0, hz0, fun ob H8 s8 oo => ?_⟩
  refine ⟨(by show 0 ≤ sizeLine; decide), fun du hdu => ?_⟩
  have sd := same_new hdu (.lst [])
  refine ⟨_, rfl, _, _, rfl, rfl, (by show 3 ≤ sizeLine; decide), fun p hp => ⟨(by show 2 ≤ sizeLine; decide), fun b hb => ?_⟩⟩
  have sp := same_new hp (.tup [V.int 0, .int 0, .int 0])
  have sb := same_new hb (.tup [V.int (n + 1), .ref p])
  have spb := sp.trans sb
  refine q7 _ _ _ _ _ _ _ _ _ tr du (.ref b) n t0 _ n0 n1 ((u0.to (Kp.of s8)).to (Kp.of (sd.trans spb))) hz0 (spb _ _ upd_same) ⟨b, p, rfl, upd_same, sb _ _ upd_same⟩ fun v2 ys p8 p9 H9 sb9 ed9 al9 le9 => ?_
  have o9 : Ob c H9 ob t0 := (oo.to (Kp.of (sd.trans spb))).to (sb9.kp (lst_fx (spb _ _ upd_same)))
  refine ⟨_, rfl, _, rfl, ob, t0, n, rfl, o9, by omega, n0, by omega, fun D zs H10 s10 hD eD alD => ?_⟩
  exact q9 _ _ _ _ _ _ _ ob du D v2 n t0 ys zs _ H9 H10 n0 n1 o9 hz0 ed9 al9 le9 s10 hD eD alD q
end
end Mine




set_option Elab.async false
set_option linter.all false
set_option maxRecDepth 100000
set_option maxHeartbeats 4000000
namespace Mine
open PySem L2
section
variable {P : Program} {w : World} {K : PySem.W.Frag} {mg : Str → Option Value} {base : Heap} {c : CCs}
theorem sc_wholeL : FnScope ["_law_found"] ["_law_found"] (defScope sWhole) := ⟨rfl, rfl, rfl, by decide +kernel, rfl, by decide +kernel, by decide +kernel⟩
theorem ok_wholeL (T : TopDef K mg "_law_whole" sWhole) (Z_isinstance : mg "isinstance" = none) (Z_int : mg "int" = none) (Z_bool : mg "bool" = none) (kb : PySem.W.kitOne K (.type "int") (.type "bool") = some false) : Def P w K mg base 1 "_law_whole" ["_law_found"] spWholeL := by
  refine def_of T sc_wholeL (fun _ _ _ _ _ _ us hl => match us, hl with | [_], _ => rfl) (fun vs H Q E h => ?_) (fun f cdv A outer s H vs Q E hr h => ?_)
  · obtain ⟨i, rfl, _⟩ := h
    rfl
  obtain ⟨i, rfl, q⟩ := h
  have nd := sc_wholeL.nd
  refine ⟨_, (pss_one (ps_ret (pe_and (pe_callB call_isi rfl Z_isinstance (by decide +kernel) (pa_cons (pv 0) (pa_cons (pe_bltn (v := V.ty "int") rfl Z_int (by decide +kernel) rfl) pa_nil))) (pe_one (pe_not (pe_callB call_isi rfl Z_isinstance (by decide +kernel) (pa_cons (pv 0) (pa_cons (pe_bltn (v := V.ty "bool") rfl Z_bool (by decide +kernel) rfl) pa_nil)))))))), ?_⟩
  exact ⟨_, rfl, _, _, _, _, true, rfl, (fun _ h => h), TyOf.int _, kit_same, _, rfl, iteT ⟨_, rfl, _, _, _, _, false, rfl, (fun _ h => h), TyOf.int _, kb, _, rfl, q⟩⟩

end
end Mine

namespace L2
open PySem PySem.Spec PyProof.Rows
structure FunE (K : PySem.W.Frag) (x qual : Str) (st : Stmt) (f : Addr) : Prop where
  ex : ∃ fd : FuncData, Fun K x qual st f fd
  fn : PySem.W.isFn K (.ref f) = true
theorem funE_mk {K : PySem.W.Frag} {x qual : Str} {st : Stmt} {f : Addr} {oc kV doc pm cdv ct : Value} {od an : Option Addr} {osl : Array (Option Value)} (l : K.lookup f = some ⟨oc, od, .func (PySem.W.fnOf x qual (defArgs st) (defBody st) (defScope st) .none kV doc pm an cdv ct), osl⟩)
    (c : PySem.W.codeIn K cdv qual = true) (k : PySem.W.keepIn K (.ref f) = true) (fn : PySem.W.isFn K (.ref f) = true) : FunE K x qual st f := ⟨⟨_, fun_mk l c k⟩, fn⟩
theorem FunE.meth {K : PySem.W.Frag} {x qual : Str} {st : Stmt} {f C : Addr} (e : FunE K x qual st f) (cl : Cls K C) (g : PySem.W.findIn K (.ref C) x = some (some (.ref f))) : MethF K C x qual st := by
  obtain ⟨fd, F⟩ := e.ex
  exact ⟨cl, f, fd, ⟨g, e.fn, F.kp⟩, F⟩
theorem FunE.made {K : PySem.W.Frag} {mg : Str → Option Value} {x qual : Str} {st : Stmt} {f C : Addr} (e : FunE K "__init__" qual st f) (cl : Cls K C) (g : PySem.W.findIn K (.ref C) "__init__" = some (some (.ref f))) (m : mg x = some (.ref C)) (y : PySem.W.makesIn K C = true) (z : PySem.W.keepIn K (.ref C) = true) : MkF K mg x C qual st := by
  obtain ⟨fd, F⟩ := e.ex
  exact ⟨cl, m, f, fd, ⟨y, g, e.fn, z⟩, F⟩
end L2
open PySem PySem.W PyProof.Rows

structure Mine.AllF (K : Frag) (mg : Str → Option Value) (c : Mine.CCs) : Prop where
  fx : Mine.Fx K c
  madeS_ne : L2.MethF K c.ne "made_of" "Saying.made_of" Mine.s_Saying_made_of
  madeS_al : L2.MethF K c.al "made_of" "Saying.made_of" Mine.s_Saying_made_of
  madeS_le : L2.MethF K c.le "made_of" "Saying.made_of" Mine.s_Saying_made_of
  laid : ∀ t, L2.MethF K (c.of t) "laid_out" "Saying.laid_out" Mine.s_Saying_laid_out
  out : ∀ t, L2.MethF K (c.of t) "out_of" "Saying.out_of" Mine.s_Saying_out_of
  Wne_ne : L2.MethF K c.ne "weigh" "Never.weigh" Mine.s_Never_weigh
  Wal_al : L2.MethF K c.al "weigh" "Always.weigh" Mine.s_Always_weigh
  Wle_le : L2.MethF K c.le "weigh" "Letter.weigh" Mine.s_Letter_weigh
  Wno_no : L2.MethF K c.no "weigh" "Not.weigh" Mine.s_Not_weigh
  Mno_no : L2.MethF K c.no "made_of" "Not.made_of" Mine.s_Not_made_of
  Mfo : ∀ u, L2.MethF K (c.fold u) "made_of" "Fold.made_of" Mine.s_Fold_made_of
  Wfo : ∀ u, L2.MethF K (c.fold u) "weigh" "Fold.weigh" Mine.s_Fold_weigh
  F1mo_mo : L2.MethF K c.mo "folded" "More.folded" Mine.s_More_folded
  F1ls_ls : L2.MethF K c.ls "folded" "Less.folded" Mine.s_Less_folded
  F1gr_gr : L2.MethF K c.gr "folded" "Greater.folded" Mine.s_Greater_folded
  F1lr_lr : L2.MethF K c.lr "folded" "Lesser.folded" Mine.s_Lesser_folded
  F1ld_ld : L2.MethF K c.ld "folded" "Leads.folded" Mine.s_Leads_folded
  ile : L2.MkF K mg "Letter" c.le "Letter.__init__" Mine.s_Letter_init
  ino : L2.MkF K mg "Not" c.no "Not.__init__" Mine.s_Not_init
  ifo : ∀ u, L2.MkF K mg (Mine.W5.cls u) (c.fold u) "Fold.__init__" Mine.s_Fold_init
  o_ne : L2.Mk0 K c.ne
  r_ne : mg "Never" = some (.ref c.ne)
  o_al : L2.Mk0 K c.al
  r_al : mg "Always" = some (.ref c.al)
theorem Mine.all_mk {K : Frag} {h : Heap} {mg : Str → Option Value} {ne al le no mo ls gr lr ld f_madeS f_laid f_out f_Wne f_Wal f_Wle f_Wno f_Mno f_Mfo f_Wfo f_F1mo f_F1ls f_F1gr f_F1lr f_F1ld f_ile f_ino f_ifo : Addr} (X : K.In h) (G : h.Ns mainGlobals mg)
    (n_ne : nsIn K mainGlobals "Never" = some (some (.ref ne)))
    (n_al : nsIn K mainGlobals "Always" = some (some (.ref al)))
    (n_le : nsIn K mainGlobals "Letter" = some (some (.ref le)))
    (n_no : nsIn K mainGlobals "Not" = some (some (.ref no)))
    (n_mo : nsIn K mainGlobals "More" = some (some (.ref mo)))
    (n_ls : nsIn K mainGlobals "Less" = some (some (.ref ls)))
    (n_gr : nsIn K mainGlobals "Greater" = some (some (.ref gr)))
    (n_lr : nsIn K mainGlobals "Lesser" = some (some (.ref lr)))
    (n_ld : nsIn K mainGlobals "Leads" = some (some (.ref ld)))
    (c_ne : L2.Cls K ne)
    (c_al : L2.Cls K al)
    (c_le : L2.Cls K le)
    (c_no : L2.Cls K no)
    (c_mo : L2.Cls K mo)
    (c_ls : L2.Cls K ls)
    (c_gr : L2.Cls K gr)
    (c_lr : L2.Cls K lr)
    (c_ld : L2.Cls K ld)
    (h_ne : findIn K (.ref ne) "__class__" = some (some (.builtin "object.__class__")))
    (h_al : findIn K (.ref al) "__class__" = some (some (.builtin "object.__class__")))
    (h_le : findIn K (.ref le) "__class__" = some (some (.builtin "object.__class__")))
    (h_no : findIn K (.ref no) "__class__" = some (some (.builtin "object.__class__")))
    (h_mo : findIn K (.ref mo) "__class__" = some (some (.builtin "object.__class__")))
    (h_ls : findIn K (.ref ls) "__class__" = some (some (.builtin "object.__class__")))
    (h_gr : findIn K (.ref gr) "__class__" = some (some (.builtin "object.__class__")))
    (h_lr : findIn K (.ref lr) "__class__" = some (some (.builtin "object.__class__")))
    (h_ld : findIn K (.ref ld) "__class__" = some (some (.builtin "object.__class__")))
    (m_ne : mroIn K ne (.type "object") = some true)
    (m_al : mroIn K al (.type "object") = some true)
    (m_le : mroIn K le (.type "object") = some true)
    (m_no : mroIn K no (.type "object") = some true)
    (m_mo : mroIn K mo (.type "object") = some true)
    (m_ls : mroIn K ls (.type "object") = some true)
    (m_gr : mroIn K gr (.type "object") = some true)
    (m_lr : mroIn K lr (.type "object") = some true)
    (m_ld : mroIn K ld (.type "object") = some true)
    (s_ne : kitOne K (.ref ne) (.type "str") = some false)
    (s_al : kitOne K (.ref al) (.type "str") = some false)
    (s_le : kitOne K (.ref le) (.type "str") = some false)
    (s_no : kitOne K (.ref no) (.type "str") = some false)
    (s_mo : kitOne K (.ref mo) (.type "str") = some false)
    (s_ls : kitOne K (.ref ls) (.type "str") = some false)
    (s_gr : kitOne K (.ref gr) (.type "str") = some false)
    (s_lr : kitOne K (.ref lr) (.type "str") = some false)
    (s_ld : kitOne K (.ref ld) (.type "str") = some false)
    (hn : specialIn K (.builtin "object.__class__") "__get__" = some (some (.builtin "getset_descriptor.__get__")))
    (tk : takesIn K (.builtin "object.__class__") = some true)
    (a_name : findIn K (.ref le) "name" = some none)
    (a_part : findIn K (.ref no) "part" = some none)
    (a_one_mo : findIn K (.ref mo) "one" = some none)
    (a_one_ls : findIn K (.ref ls) "one" = some none)
    (a_one_gr : findIn K (.ref gr) "one" = some none)
    (a_one_lr : findIn K (.ref lr) "one" = some none)
    (a_one_ld : findIn K (.ref ld) "one" = some none)
    (a_other_mo : findIn K (.ref mo) "other" = some none)
    (a_other_ls : findIn K (.ref ls) "other" = some none)
    (a_other_gr : findIn K (.ref gr) "other" = some none)
    (a_other_lr : findIn K (.ref lr) "other" = some none)
    (a_other_ld : findIn K (.ref ld) "other" = some none)
    (g_madeS_ne : findIn K (.ref ne) "made_of" = some (some (.ref f_madeS)))
    (g_madeS_al : findIn K (.ref al) "made_of" = some (some (.ref f_madeS)))
    (g_madeS_le : findIn K (.ref le) "made_of" = some (some (.ref f_madeS)))
    (e_madeS : L2.FunE K "made_of" "Saying.made_of" Mine.s_Saying_made_of f_madeS)
    (g_laid_ne : findIn K (.ref ne) "laid_out" = some (some (.ref f_laid)))
    (g_laid_al : findIn K (.ref al) "laid_out" = some (some (.ref f_laid)))
    (g_laid_le : findIn K (.ref le) "laid_out" = some (some (.ref f_laid)))
    (g_laid_no : findIn K (.ref no) "laid_out" = some (some (.ref f_laid)))
    (g_laid_mo : findIn K (.ref mo) "laid_out" = some (some (.ref f_laid)))
    (g_laid_ls : findIn K (.ref ls) "laid_out" = some (some (.ref f_laid)))
    (g_laid_gr : findIn K (.ref gr) "laid_out" = some (some (.ref f_laid)))
    (g_laid_lr : findIn K (.ref lr) "laid_out" = some (some (.ref f_laid)))
    (g_laid_ld : findIn K (.ref ld) "laid_out" = some (some (.ref f_laid)))
    (e_laid : L2.FunE K "laid_out" "Saying.laid_out" Mine.s_Saying_laid_out f_laid)
    (g_out_ne : findIn K (.ref ne) "out_of" = some (some (.ref f_out)))
    (g_out_al : findIn K (.ref al) "out_of" = some (some (.ref f_out)))
    (g_out_le : findIn K (.ref le) "out_of" = some (some (.ref f_out)))
    (g_out_no : findIn K (.ref no) "out_of" = some (some (.ref f_out)))
    (g_out_mo : findIn K (.ref mo) "out_of" = some (some (.ref f_out)))
    (g_out_ls : findIn K (.ref ls) "out_of" = some (some (.ref f_out)))
    (g_out_gr : findIn K (.ref gr) "out_of" = some (some (.ref f_out)))
    (g_out_lr : findIn K (.ref lr) "out_of" = some (some (.ref f_out)))
    (g_out_ld : findIn K (.ref ld) "out_of" = some (some (.ref f_out)))
    (e_out : L2.FunE K "out_of" "Saying.out_of" Mine.s_Saying_out_of f_out)
    (g_Wne_ne : findIn K (.ref ne) "weigh" = some (some (.ref f_Wne)))
    (e_Wne : L2.FunE K "weigh" "Never.weigh" Mine.s_Never_weigh f_Wne)
    (g_Wal_al : findIn K (.ref al) "weigh" = some (some (.ref f_Wal)))
    (e_Wal : L2.FunE K "weigh" "Always.weigh" Mine.s_Always_weigh f_Wal)
    (g_Wle_le : findIn K (.ref le) "weigh" = some (some (.ref f_Wle)))
    (e_Wle : L2.FunE K "weigh" "Letter.weigh" Mine.s_Letter_weigh f_Wle)
    (g_Wno_no : findIn K (.ref no) "weigh" = some (some (.ref f_Wno)))
    (e_Wno : L2.FunE K "weigh" "Not.weigh" Mine.s_Not_weigh f_Wno)
    (g_Mno_no : findIn K (.ref no) "made_of" = some (some (.ref f_Mno)))
    (e_Mno : L2.FunE K "made_of" "Not.made_of" Mine.s_Not_made_of f_Mno)
    (g_Mfo_mo : findIn K (.ref mo) "made_of" = some (some (.ref f_Mfo)))
    (g_Mfo_ls : findIn K (.ref ls) "made_of" = some (some (.ref f_Mfo)))
    (g_Mfo_gr : findIn K (.ref gr) "made_of" = some (some (.ref f_Mfo)))
    (g_Mfo_lr : findIn K (.ref lr) "made_of" = some (some (.ref f_Mfo)))
    (g_Mfo_ld : findIn K (.ref ld) "made_of" = some (some (.ref f_Mfo)))
    (e_Mfo : L2.FunE K "made_of" "Fold.made_of" Mine.s_Fold_made_of f_Mfo)
    (g_Wfo_mo : findIn K (.ref mo) "weigh" = some (some (.ref f_Wfo)))
    (g_Wfo_ls : findIn K (.ref ls) "weigh" = some (some (.ref f_Wfo)))
    (g_Wfo_gr : findIn K (.ref gr) "weigh" = some (some (.ref f_Wfo)))
    (g_Wfo_lr : findIn K (.ref lr) "weigh" = some (some (.ref f_Wfo)))
    (g_Wfo_ld : findIn K (.ref ld) "weigh" = some (some (.ref f_Wfo)))
    (e_Wfo : L2.FunE K "weigh" "Fold.weigh" Mine.s_Fold_weigh f_Wfo)
    (g_F1mo_mo : findIn K (.ref mo) "folded" = some (some (.ref f_F1mo)))
    (e_F1mo : L2.FunE K "folded" "More.folded" Mine.s_More_folded f_F1mo)
    (g_F1ls_ls : findIn K (.ref ls) "folded" = some (some (.ref f_F1ls)))
    (e_F1ls : L2.FunE K "folded" "Less.folded" Mine.s_Less_folded f_F1ls)
    (g_F1gr_gr : findIn K (.ref gr) "folded" = some (some (.ref f_F1gr)))
    (e_F1gr : L2.FunE K "folded" "Greater.folded" Mine.s_Greater_folded f_F1gr)
    (g_F1lr_lr : findIn K (.ref lr) "folded" = some (some (.ref f_F1lr)))
    (e_F1lr : L2.FunE K "folded" "Lesser.folded" Mine.s_Lesser_folded f_F1lr)
    (g_F1ld_ld : findIn K (.ref ld) "folded" = some (some (.ref f_F1ld)))
    (e_F1ld : L2.FunE K "folded" "Leads.folded" Mine.s_Leads_folded f_F1ld)
    (g_ile_le : findIn K (.ref le) "__init__" = some (some (.ref f_ile)))
    (e_ile : L2.FunE K "__init__" "Letter.__init__" Mine.s_Letter_init f_ile)
    (g_ino_no : findIn K (.ref no) "__init__" = some (some (.ref f_ino)))
    (e_ino : L2.FunE K "__init__" "Not.__init__" Mine.s_Not_init f_ino)
    (g_ifo_mo : findIn K (.ref mo) "__init__" = some (some (.ref f_ifo)))
    (g_ifo_ls : findIn K (.ref ls) "__init__" = some (some (.ref f_ifo)))
    (g_ifo_gr : findIn K (.ref gr) "__init__" = some (some (.ref f_ifo)))
    (g_ifo_lr : findIn K (.ref lr) "__init__" = some (some (.ref f_ifo)))
    (g_ifo_ld : findIn K (.ref ld) "__init__" = some (some (.ref f_ifo)))
    (e_ifo : L2.FunE K "__init__" "Fold.__init__" Mine.s_Fold_init f_ifo)
    (i_ne : findIn K (.ref ne) "__init__" = some (some (.builtin "object.__init__")))
    (i_al : findIn K (.ref al) "__init__" = some (some (.builtin "object.__init__")))
    (y_ne : makesIn K ne = true)
    (y_al : makesIn K al = true)
    (y_le : makesIn K le = true)
    (y_no : makesIn K no = true)
    (y_mo : makesIn K mo = true)
    (y_ls : makesIn K ls = true)
    (y_gr : makesIn K gr = true)
    (y_lr : makesIn K lr = true)
    (y_ld : makesIn K ld = true)
    (z_ne : keepIn K (.ref ne) = true)
    (z_al : keepIn K (.ref al) = true)
    (z_le : keepIn K (.ref le) = true)
    (z_no : keepIn K (.ref no) = true)
    (z_mo : keepIn K (.ref mo) = true)
    (z_ls : keepIn K (.ref ls) = true)
    (z_gr : keepIn K (.ref gr) = true)
    (z_lr : keepIn K (.ref lr) = true)
    (z_ld : keepIn K (.ref ld) = true) :
    ∃ c, Mine.AllF K mg c := by
  refine ⟨⟨ne, al, le, no, mo, ls, gr, lr, ld⟩, ?_⟩
  refine ⟨?_,
    ?_,
    ?_,
    ?_,
    ?_,
    ?_,
    ?_,
    ?_,
    ?_,
    ?_,
    ?_,
    ?_,
    ?_,
    ?_,
    ?_,
    ?_,
    ?_,
    ?_,
    ?_,
    ?_,
    ?_,
    ?_,
    ?_,
    ?_,
    ?_⟩
  · exact ⟨by intro t; cases t <;> first | exact c_ne | exact c_al | exact c_le | exact c_no | (rename_i u _ _; cases u <;> assumption), by intro t; cases t <;> first | exact h_ne | exact h_al | exact h_le | exact h_no | (rename_i u _ _; cases u <;> assumption), by intro t; cases t <;> first | exact m_ne | exact m_al | exact m_le | exact m_no | (rename_i u _ _; cases u <;> assumption), by intro t; cases t <;> first | exact s_ne | exact s_al | exact s_le | exact s_no | (rename_i u _ _; cases u <;> assumption), hn, tk, a_name, a_part, by intro u; cases u <;> assumption, by intro u; cases u <;> assumption⟩
  · exact e_madeS.meth c_ne g_madeS_ne
  · exact e_madeS.meth c_al g_madeS_al
  · exact e_madeS.meth c_le g_madeS_le
  · intro t; cases t <;> first | exact e_laid.meth c_ne g_laid_ne | exact e_laid.meth c_al g_laid_al | exact e_laid.meth c_le g_laid_le | exact e_laid.meth c_no g_laid_no | (rename_i u _ _; cases u <;> first | exact e_laid.meth c_mo g_laid_mo | exact e_laid.meth c_ls g_laid_ls | exact e_laid.meth c_gr g_laid_gr | exact e_laid.meth c_lr g_laid_lr | exact e_laid.meth c_ld g_laid_ld)
  · intro t; cases t <;> first | exact e_out.meth c_ne g_out_ne | exact e_out.meth c_al g_out_al | exact e_out.meth c_le g_out_le | exact e_out.meth c_no g_out_no | (rename_i u _ _; cases u <;> first | exact e_out.meth c_mo g_out_mo | exact e_out.meth c_ls g_out_ls | exact e_out.meth c_gr g_out_gr | exact e_out.meth c_lr g_out_lr | exact e_out.meth c_ld g_out_ld)
  · exact e_Wne.meth c_ne g_Wne_ne
  · exact e_Wal.meth c_al g_Wal_al
  · exact e_Wle.meth c_le g_Wle_le
  · exact e_Wno.meth c_no g_Wno_no
  · exact e_Mno.meth c_no g_Mno_no
  · intro u; cases u <;> first | exact e_Mfo.meth c_mo g_Mfo_mo | exact e_Mfo.meth c_ls g_Mfo_ls | exact e_Mfo.meth c_gr g_Mfo_gr | exact e_Mfo.meth c_lr g_Mfo_lr | exact e_Mfo.meth c_ld g_Mfo_ld
  · intro u; cases u <;> first | exact e_Wfo.meth c_mo g_Wfo_mo | exact e_Wfo.meth c_ls g_Wfo_ls | exact e_Wfo.meth c_gr g_Wfo_gr | exact e_Wfo.meth c_lr g_Wfo_lr | exact e_Wfo.meth c_ld g_Wfo_ld
  · exact e_F1mo.meth c_mo g_F1mo_mo
  · exact e_F1ls.meth c_ls g_F1ls_ls
  · exact e_F1gr.meth c_gr g_F1gr_gr
  · exact e_F1lr.meth c_lr g_F1lr_lr
  · exact e_F1ld.meth c_ld g_F1ld_ld
  · exact e_ile.made c_le g_ile_le (mg_of X G n_le) y_le z_le
  · exact e_ino.made c_no g_ino_no (mg_of X G n_no) y_no z_no
  · intro u; cases u <;> first | exact e_ifo.made c_mo g_ifo_mo (mg_of X G n_mo) y_mo z_mo | exact e_ifo.made c_ls g_ifo_ls (mg_of X G n_ls) y_ls z_ls | exact e_ifo.made c_gr g_ifo_gr (mg_of X G n_gr) y_gr z_gr | exact e_ifo.made c_lr g_ifo_lr (mg_of X G n_lr) y_lr z_lr | exact e_ifo.made c_ld g_ifo_ld (mg_of X G n_ld) y_ld z_ld
  · exact ⟨y_ne, i_ne, z_ne⟩
  · exact mg_of X G n_ne
  · exact ⟨y_al, i_al, z_al⟩
  · exact mg_of X G n_al
section
variable {P : Program} {w : World} {K : Frag} {mg : Str → Option Value} {base : Heap} {c : Mine.CCs}
open Mine L2
theorem Mine.mks (A : AllF K mg c) : MkOk P w K mg base "Letter" c.le 1 ["self", "name"] (spInit1 c.le fName) ∧ MkOk P w K mg base "Not" c.no 1 ["self", "part"] (spInit1 c.no fPart) ∧ ∀ u : W5, MkOk P w K mg base u.cls (c.fold u) 1 ["self", "one", "other"] (spInit2 (c.fold u)) :=
  ⟨ok_iLetter A.ile A.fx.nName, ok_iNot A.ino A.fx.nPart, fun u => ok_iFold (A.ifo u) (A.fx.nOne u) (A.fx.nOther u)⟩
theorem Mine.ms (A : AllF K mg c) (Z_min : mg "min" = none) (Z_max : mg "max" = none) : Ms P w K mg base c := by
  obtain ⟨kl, kn, kf⟩ := mks (P := P) (w := w) (base := base) A
  have folded : ∀ u, MethOk P w K mg base (c.fold u) "folded" 1 ["self", "n", "first", "second"] (spFolded u) := by
    intro u
    cases u
    · exact ok_fMore A.F1mo_mo Z_min
    · exact ok_fLess A.F1ls_ls Z_max
    · exact ok_fGreater A.F1gr_gr Z_max
    · exact ok_fLesser A.F1lr_lr Z_min
    · exact ok_fLeads A.F1ld_ld Z_min
  refine ⟨fun t => ?_, fun t => ?_⟩
  · cases t with
    | never => exact ok_mS A.madeS_ne rfl
    | always => exact ok_mS A.madeS_al rfl
    | lp => exact ok_mS A.madeS_le rfl
    | lq => exact ok_mS A.madeS_le rfl
    | no t => exact ok_mNot A.Mno_no A.fx
    | fold u a b => exact ok_mFold (A.Mfo u) A.fx
  · cases t with
    | never => exact ok_wgNever A.Wne_ne
    | always => exact ok_wgAlways A.Wal_al
    | lp => exact ok_wgLp A.Wle_le A.fx
    | lq => exact ok_wgLq A.Wle_le A.fx
    | no t => exact ok_wgNot A.Wno_no
    | fold u a b => exact ok_wgFold (A.Wfo u) (folded u)
end




set_option Elab.async false
set_option linter.all false
set_option maxRecDepth 100000
set_option maxHeartbeats 4000000
theorem PySem.W.Fast.tw6369316076599069728 : True := .intro
theorem PySem.W.Fast.tw9127080090107990080 : True := .intro
theorem PySem.W.Fast.tw12999751314604211296 : True := .intro
theorem PySem.W.Fast.tw14117488122272654624 : True := .intro
theorem PySem.W.Fast.tw5145942377261535584 : True := .intro
theorem PySem.W.Fast.tw6209756622643009024 : True := .intro
theorem PySem.W.Fast.tw8746768548190463520 : True := .intro
theorem PySem.W.Fast.tw8790710871813695072 : True := .intro
theorem PySem.W.Fast.tw9360943018660916928 : True := .intro
theorem PySem.W.Fast.tw11809249959177434816 : True := .intro
theorem PySem.W.Fast.tw1417871867711941376 : True := .intro
theorem PySem.W.Fast.tw14270011090652511008 : True := .intro
theorem PySem.W.Fast.tw5286234366038892480 : True := .intro
theorem PySem.W.Fast.tw12176637088815691777 : True := .intro
theorem PySem.W.Fast.tw7546103089399022593 : True := .intro
theorem PySem.W.Fast.tw18084828374135261185 : True := .intro
theorem PySem.W.Fast.tw7812686244280819745 : True := .intro
theorem PySem.W.Fast.tw2378619252353729633 : True := .intro
theorem PySem.W.Fast.tw9507441079235066209 : True := .intro
theorem PySem.W.Fast.tw1481824629960811905 : True := .intro
theorem PySem.W.Fast.tw16394620076852502913 : True := .intro
theorem PySem.W.Fast.tw4275724302409722305 : True := .intro
theorem PySem.W.Fast.tw7804624095349696993 : True := .intro
theorem PySem.W.Fast.tw17361597542067488289 : True := .intro
theorem PySem.W.Fast.tw4344516672527034945 : True := .intro
theorem PySem.W.Fast.tw4213956367253939777 : True := .intro
theorem PySem.W.Fast.tw504204613626688129 : True := .intro
theorem PySem.W.Fast.tw2742160869405103969 : True := .intro
theorem PySem.W.Fast.tw14360389345976293249 : True := .intro
theorem PySem.W.Fast.tw15837849656745785217 : True := .intro
theorem PySem.W.Fast.tw13459254621141674210 : True := .intro
theorem PySem.W.Fast.tw10368535487437395170 : True := .intro
theorem PySem.W.Fast.tw3648111159114175810 : True := .intro
theorem PySem.W.Fast.tw5316244341926085026 : True := .intro
theorem PySem.W.Fast.tw4818422918430880322 : True := .intro
theorem PySem.W.Fast.tw10131447876673258178 : True := .intro
theorem PySem.W.Fast.tw13794451420210761442 : True := .intro
theorem PySem.W.Fast.tw5955130232323863266 : True := .intro
theorem PySem.W.Fast.tw2172385469645895426 : True := .intro
theorem PySem.W.Fast.tw3956545066305656770 : True := .intro
theorem PySem.W.Fast.tw5644914381002834947 : True := .intro
theorem PySem.W.Fast.tw209929393790563363 : True := .intro
theorem PySem.W.Fast.tw3423299800937868355 : True := .intro
theorem PySem.W.Fast.tw17847302986401011907 : True := .intro
theorem PySem.W.Fast.tw1105714715898104035 : True := .intro
theorem PySem.W.Fast.tw8000853852576919843 : True := .intro
theorem PySem.W.Fast.tw7056505989478751811 : True := .intro
theorem PySem.W.Fast.tw1751498428287276675 : True := .intro
theorem PySem.W.Fast.tw14278566989261204195 : True := .intro
theorem PySem.W.Fast.tw10330904784401539843 : True := .intro
theorem PySem.W.Fast.tw1642150874933694211 : True := .intro
theorem PySem.W.Fast.tw14037546214268721955 : True := .intro
theorem PySem.W.Fast.tw4224766977347671907 : True := .intro
theorem PySem.W.Fast.tw16930548179653482371 : True := .intro
theorem PySem.W.Fast.tw13839170802651984964 : True := .intro
theorem PySem.W.Fast.tw17875657292218629220 : True := .intro
theorem PySem.W.Fast.tw16057693655073049732 : True := .intro
theorem PySem.W.Fast.tw14774396575497184452 : True := .intro
theorem PySem.W.Fast.tw3804887407733604580 : True := .intro
theorem PySem.W.Fast.tw151087160755492132 : True := .intro
theorem PySem.W.Fast.tw16615665050403085636 : True := .intro
theorem PySem.W.Fast.tw5055179544364800356 : True := .intro
theorem PySem.W.Fast.tw13692725437353300420 : True := .intro
theorem PySem.W.Fast.tw17704723782173529604 : True := .intro
theorem PySem.W.Fast.tw13274195328948200036 : True := .intro
theorem PySem.W.Fast.tw10995222168596804484 : True := .intro
theorem PySem.W.Fast.tw3338487407464863684 : True := .intro
theorem PySem.W.Fast.tw2169419345361576005 : True := .intro
theorem PySem.W.Fast.tw11373054571016489189 : True := .intro
theorem PySem.W.Fast.tw6945175380700242181 : True := .intro
theorem PySem.W.Fast.tw6865464614326334821 : True := .intro
theorem PySem.W.Fast.tw4275583117807050149 : True := .intro
theorem PySem.W.Fast.tw12096941250403951045 : True := .intro
theorem PySem.W.Fast.tw14222548525151171045 : True := .intro
theorem PySem.W.Fast.tw2315339844018159077 : True := .intro
theorem PySem.W.Fast.tw11097097771094567461 : True := .intro
theorem PySem.W.Fast.tw15867449582703010405 : True := .intro
theorem PySem.W.Fast.tw12598194801054106405 : True := .intro
theorem PySem.W.Fast.tw871255752783062853 : True := .intro
theorem PySem.W.Fast.tw4155100723307129701 : True := .intro
theorem PySem.W.Fast.tw1415932034942184421 : True := .intro
theorem PySem.W.Fast.tw17950587263932170310 : True := .intro
theorem PySem.W.Fast.tw3730831243800240294 : True := .intro
theorem PySem.W.Fast.tw17290207464094745798 : True := .intro
theorem PySem.W.Fast.tw348294865655118054 : True := .intro
theorem PySem.W.Fast.tw7567988109547767206 : True := .intro
theorem PySem.W.Fast.tw3882366777963558310 : True := .intro
theorem PySem.W.Fast.tw18190234064316675526 : True := .intro
theorem PySem.W.Fast.tw5406443496448247238 : True := .intro
theorem PySem.W.Fast.tw8060366983891216966 : True := .intro
theorem PySem.W.Fast.tw10644328776795416294 : True := .intro
theorem PySem.W.Fast.tw18244835439845140198 : True := .intro
theorem PySem.W.Fast.tw11230251628737191878 : True := .intro
theorem PySem.W.Fast.tw3938498775384463399 : True := .intro
theorem PySem.W.Fast.tw18159412719159593191 : True := .intro
theorem PySem.W.Fast.tw16156499217760886023 : True := .intro
theorem PySem.W.Fast.tw2788100415401214343 : True := .intro
theorem PySem.W.Fast.tw10632694513491333511 : True := .intro
theorem PySem.W.Fast.tw16335620731665860071 : True := .intro
theorem PySem.W.Fast.tw1262150899987520071 : True := .intro
theorem PySem.W.Fast.tw4254505106523155239 : True := .intro
theorem PySem.W.Fast.tw110398193141314439 : True := .intro
theorem PySem.W.Fast.tw7467809383852745832 : True := .intro
theorem PySem.W.Fast.tw11573706230410051720 : True := .intro
theorem PySem.W.Fast.tw16929652268663431400 : True := .intro
theorem PySem.W.Fast.tw11532153199139671304 : True := .intro
theorem PySem.W.Fast.tw14791320514257547656 : True := .intro
theorem PySem.W.Fast.tw14318307205680277992 : True := .intro
theorem PySem.W.Fast.tw1651493528120799752 : True := .intro
theorem PySem.W.Fast.tw6096355674173881864 : True := .intro
theorem PySem.W.Fast.tw18007356765069130280 : True := .intro
theorem PySem.W.Fast.tw472523493577402984 : True := .intro
theorem PySem.W.Fast.tw14443275562651277928 : True := .intro
theorem PySem.W.Fast.tw14151635583107526440 : True := .intro
theorem PySem.W.Fast.tw4139105855702195016 : True := .intro
theorem PySem.W.Fast.tw13572724308344092488 : True := .intro
theorem PySem.W.Fast.tw2226054773648982888 : True := .intro
theorem PySem.W.Fast.tw14630242802544482377 : True := .intro
theorem PySem.W.Fast.tw16267839840282130505 : True := .intro
theorem PySem.W.Fast.tw4831478931929529801 : True := .intro
theorem PySem.W.Fast.tw10250766782937509321 : True := .intro
theorem PySem.W.Fast.tw3003152401829677545 : True := .intro
theorem PySem.W.Fast.tw16566467621653851785 : True := .intro
theorem PySem.W.Fast.tw17414646561866187529 : True := .intro
theorem PySem.W.Fast.tw4361032517969107721 : True := .intro
theorem PySem.W.Fast.tw14583458091101574250 : True := .intro
theorem PySem.W.Fast.tw16546823932710306922 : True := .intro
theorem PySem.W.Fast.tw16923704676763341994 : True := .intro
theorem PySem.W.Fast.tw10764186580158719178 : True := .intro
theorem PySem.W.Fast.tw9671959965892445546 : True := .intro
theorem PySem.W.Fast.tw526532595207037290 : True := .intro
theorem PySem.W.Fast.tw6534978614880217514 : True := .intro
theorem PySem.W.Fast.tw9492052771454428586 : True := .intro
theorem PySem.W.Fast.tw7234117973722110410 : True := .intro
theorem PySem.W.Fast.tw1428284555202821610 : True := .intro
theorem PySem.W.Fast.tw17698641929137468042 : True := .intro
theorem PySem.W.Fast.tw13263493779355430730 : True := .intro
theorem PySem.W.Fast.tw10060675185057034090 : True := .intro
theorem PySem.W.Fast.tw17966364917126005610 : True := .intro
theorem PySem.W.Fast.tw1827576507025670058 : True := .intro
theorem PySem.W.Fast.tw7301225573053117354 : True := .intro
theorem PySem.W.Fast.tw7943477820875681770 : True := .intro
theorem PySem.W.Fast.tw7023548972314871915 : True := .intro
theorem PySem.W.Fast.tw2481043229459541099 : True := .intro
theorem PySem.W.Fast.tw14915519353622193323 : True := .intro
theorem PySem.W.Fast.tw7434381653959699723 : True := .intro
theorem PySem.W.Fast.tw7368276245482410347 : True := .intro
theorem PySem.W.Fast.tw5584557844867780971 : True := .intro
theorem PySem.W.Fast.tw1821807807787062667 : True := .intro
theorem PySem.W.Fast.tw15199069281834084875 : True := .intro
theorem PySem.W.Fast.tw17946359689686118955 : True := .intro
theorem PySem.W.Fast.tw13820532572059294283 : True := .intro
theorem PySem.W.Fast.tw14139292030091327083 : True := .intro
theorem PySem.W.Fast.tw13626184247362905771 : True := .intro
theorem PySem.W.Fast.tw17032880514333396683 : True := .intro
theorem PySem.W.Fast.tw15078480809798348523 : True := .intro
theorem PySem.W.Fast.tw5493536975695125323 : True := .intro
theorem PySem.W.Fast.tw13299830790863601483 : True := .intro
theorem PySem.W.Fast.tw2840971875303871371 : True := .intro
theorem PySem.W.Fast.tw2849628874419836907 : True := .intro
theorem PySem.W.Fast.tw7496578052474176524 : True := .intro
theorem PySem.W.Fast.tw680429234365822028 : True := .intro
theorem PySem.W.Fast.tw5020360422509924524 : True := .intro
theorem PySem.W.Fast.tw863095628720839852 : True := .intro
theorem PySem.W.Fast.tw9243181176645427404 : True := .intro
theorem PySem.W.Fast.tw5814155175168247116 : True := .intro
theorem PySem.W.Fast.tw18165571143052281196 : True := .intro
theorem PySem.W.Fast.tw15239975969177519564 : True := .intro
theorem PySem.W.Fast.tw5527229855638197708 : True := .intro
theorem PySem.W.Fast.tw3030845205220106764 : True := .intro
theorem PySem.W.Fast.tw1467845233113346604 : True := .intro
theorem PySem.W.Fast.tw7048306639077838540 : True := .intro
theorem PySem.W.Fast.tw284813440273264556 : True := .intro
theorem PySem.W.Fast.tw1712000162057928652 : True := .intro
theorem PySem.W.Fast.tw3292245589065376748 : True := .intro
theorem PySem.W.Fast.tw16322127443609755661 : True := .intro
theorem PySem.W.Fast.tw461229251483308141 : True := .intro
theorem PySem.W.Fast.tw11315249069136075917 : True := .intro
theorem PySem.W.Fast.tw4114196381845779661 : True := .intro
theorem PySem.W.Fast.tw16514239663419184333 : True := .intro
theorem PySem.W.Fast.tw15508218244141855053 : True := .intro
theorem PySem.W.Fast.tw8359357540254634381 : True := .intro
theorem PySem.W.Fast.tw4917763933743378893 : True := .intro
theorem PySem.W.Fast.tw7505748928145848781 : True := .intro
theorem PySem.W.Fast.tw4062212985596914157 : True := .intro
theorem PySem.W.Fast.tw6064316529717510701 : True := .intro
theorem PySem.W.Fast.tw6657493255460065901 : True := .intro
theorem PySem.W.Fast.tw14635225417655335533 : True := .intro
theorem PySem.W.Fast.tw7326831967832084205 : True := .intro
theorem PySem.W.Fast.tw11685098827137853229 : True := .intro
theorem PySem.W.Fast.tw4708519784750702413 : True := .intro
theorem PySem.W.Fast.tw6564575154542904173 : True := .intro
theorem PySem.W.Fast.tw10861350582726578029 : True := .intro
theorem PySem.W.Fast.tw12397576640852720493 : True := .intro
theorem PySem.W.Fast.tw17103625352661996429 : True := .intro
theorem PySem.W.Fast.tw12182785341373151117 : True := .intro
theorem PySem.W.Fast.tw11080989758218735533 : True := .intro
theorem PySem.W.Fast.tw5789525150899108781 : True := .intro
theorem PySem.W.Fast.tw12449987134612621293 : True := .intro
theorem PySem.W.Fast.tw6213315947277497325 : True := .intro
theorem PySem.W.Fast.tw449106369964487661 : True := .intro
theorem PySem.W.Fast.tw1485999322146669646 : True := .intro
theorem PySem.W.Fast.tw10785142236103638126 : True := .intro
theorem PySem.W.Fast.tw4658117452837399662 : True := .intro
theorem PySem.W.Fast.tw11757126561823800462 : True := .intro
theorem PySem.W.Fast.tw3752597989793974414 : True := .intro
theorem PySem.W.Fast.tw11154051888058445998 : True := .intro
theorem PySem.W.Fast.tw1074461002303019246 : True := .intro
theorem PySem.W.Fast.tw18087414677225592174 : True := .intro
theorem PySem.W.Fast.tw1030765359440227118 : True := .intro
theorem PySem.W.Fast.tw8510421576757824430 : True := .intro
theorem PySem.W.Fast.tw6572958918020897742 : True := .intro
theorem PySem.W.Fast.tw3842736821778652239 : True := .intro
theorem PySem.W.Fast.tw3169721492938406031 : True := .intro
theorem PySem.W.Fast.tw1537306794698564751 : True := .intro
theorem PySem.W.Fast.tw3351319866592252079 : True := .intro
theorem PySem.W.Fast.tw3562104719125649647 : True := .intro
theorem PySem.W.Fast.tw5554522177698632943 : True := .intro
theorem PySem.W.Fast.tw139835495486425327 : True := .intro
theorem PySem.W.Fast.tw8443423664504645903 : True := .intro
theorem PySem.W.Fast.tw11164821197371099759 : True := .intro
theorem PySem.W.Fast.tw11585138755426845455 : True := .intro
theorem PySem.W.Fast.tw2011040011598141295 : True := .intro
theorem PySem.W.Fast.tw12706680029928188815 : True := .intro
theorem PySem.W.Fast.tw16227703884525170671 : True := .intro
theorem PySem.W.Fast.tw12839658064608052240 : True := .intro
theorem PySem.W.Fast.tw9280117579772095568 : True := .intro
theorem PySem.W.Fast.tw2045447798279390352 : True := .intro
theorem PySem.W.Fast.tw2677055351478783120 : True := .intro
theorem PySem.W.Fast.tw16579940448842273008 : True := .intro
theorem PySem.W.Fast.tw16562034464576613648 : True := .intro
theorem PySem.W.Fast.tw2442308826319412592 : True := .intro
theorem PySem.W.Fast.tw974183297820002672 : True := .intro
theorem PySem.W.Fast.tw15299486230981392912 : True := .intro
theorem PySem.W.Fast.tw11648511961443485232 : True := .intro
theorem PySem.W.Fast.tw9386088469910194768 : True := .intro
theorem PySem.W.Fast.tw10585990422840669808 : True := .intro
theorem PySem.W.Fast.tw16116571089067495056 : True := .intro
theorem PySem.W.Fast.tw3546085088525463184 : True := .intro
theorem PySem.W.Fast.tw9942488010520922832 : True := .intro
theorem PySem.W.Fast.tw13324254114033193712 : True := .intro
theorem PySem.W.Fast.tw6712126091659792144 : True := .intro
theorem PySem.W.Fast.tw1083047352735070096 : True := .intro
theorem PySem.W.Fast.tw11485634042544139313 : True := .intro
theorem PySem.W.Fast.tw5290605597298169041 : True := .intro
theorem PySem.W.Fast.tw5738877022109635825 : True := .intro
theorem PySem.W.Fast.tw4063485637023216913 : True := .intro
theorem PySem.W.Fast.tw6913449539511426513 : True := .intro
theorem PySem.W.Fast.tw15573104710292893297 : True := .intro
theorem PySem.W.Fast.tw16504884339304897137 : True := .intro
theorem PySem.W.Fast.tw997734206879493041 : True := .intro
theorem PySem.W.Fast.tw14413697634434294866 : True := .intro
theorem PySem.W.Fast.tw1752249046247328850 : True := .intro
theorem PySem.W.Fast.tw15295628935792998546 : True := .intro
theorem PySem.W.Fast.tw7426751687501047954 : True := .intro
theorem PySem.W.Fast.tw3328336284825092338 : True := .intro
theorem PySem.W.Fast.tw1013526116827393330 : True := .intro
theorem PySem.W.Fast.tw343321681318957362 : True := .intro
theorem PySem.W.Fast.tw17452379461679480146 : True := .intro
theorem PySem.W.Fast.tw4939750202029321650 : True := .intro
theorem PySem.W.Fast.tw8870952719396766258 : True := .intro
theorem PySem.W.Fast.tw7280158173807712882 : True := .intro
theorem PySem.W.Fast.tw8041875222356117106 : True := .intro
theorem PySem.W.Fast.tw7478683988506181490 : True := .intro
theorem PySem.W.Fast.tw7427291586054653842 : True := .intro
theorem PySem.W.Fast.tw4725874733138983858 : True := .intro
theorem PySem.W.Fast.tw16467898122410919858 : True := .intro
theorem PySem.W.Fast.tw17115719931568456690 : True := .intro
theorem PySem.W.Fast.tw6378870275464929523 : True := .intro
theorem PySem.W.Fast.tw5275835357726445811 : True := .intro
theorem PySem.W.Fast.tw14405073485752310035 : True := .intro
theorem PySem.W.Fast.tw16473569544205298995 : True := .intro
theorem PySem.W.Fast.tw13359742424758177139 : True := .intro
theorem PySem.W.Fast.tw18303960495738971571 : True := .intro
theorem PySem.W.Fast.tw383635715647762899 : True := .intro
theorem PySem.W.Fast.tw3568352235453181651 : True := .intro
theorem PySem.W.Fast.tw11261128492250237683 : True := .intro
theorem PySem.W.Fast.tw15543496922588426003 : True := .intro
theorem PySem.W.Fast.tw8954926754786117459 : True := .intro
theorem PySem.W.Fast.tw5094800585024823155 : True := .intro
theorem PySem.W.Fast.tw11165491245964335027 : True := .intro
theorem PySem.W.Fast.tw3871482494253765555 : True := .intro
theorem PySem.W.Fast.tw16328608947420153876 : True := .intro
theorem PySem.W.Fast.tw15138065705627373588 : True := .intro
theorem PySem.W.Fast.tw597078547918533780 : True := .intro
theorem PySem.W.Fast.tw14874299221598157972 : True := .intro
theorem PySem.W.Fast.tw15139581578367999156 : True := .intro
theorem PySem.W.Fast.tw9348173013221400020 : True := .intro
theorem PySem.W.Fast.tw1403955737304134132 : True := .intro
theorem PySem.W.Fast.tw12412031393893787124 : True := .intro
theorem PySem.W.Fast.tw18194229447094986260 : True := .intro
theorem PySem.W.Fast.tw14712404046754737684 : True := .intro
theorem PySem.W.Fast.tw6258035292017677972 : True := .intro
theorem PySem.W.Fast.tw5095789005133444884 : True := .intro
theorem PySem.W.Fast.tw17732613417722221460 : True := .intro
theorem PySem.W.Fast.tw5054300860287948724 : True := .intro
theorem PySem.W.Fast.tw17445521617793722292 : True := .intro
theorem PySem.W.Fast.tw16740790397667232821 : True := .intro
theorem PySem.W.Fast.tw11106045367299077173 : True := .intro
theorem PySem.W.Fast.tw5850039177798217877 : True := .intro
theorem PySem.W.Fast.tw7640195032474339509 : True := .intro
theorem PySem.W.Fast.tw9594291885800390869 : True := .intro
theorem PySem.W.Fast.tw7681156128148773109 : True := .intro
theorem PySem.W.Fast.tw950315748694168853 : True := .intro
theorem PySem.W.Fast.tw2696952725350058357 : True := .intro
theorem PySem.W.Fast.tw48486507715372533 : True := .intro
theorem PySem.W.Fast.tw11882532875938620917 : True := .intro
theorem PySem.W.Fast.tw3909135488150812245 : True := .intro
theorem PySem.W.Fast.tw10374195860047389301 : True := .intro
theorem PySem.W.Fast.tw2390091927959263861 : True := .intro
theorem PySem.W.Fast.tw16990948447385498325 : True := .intro
theorem PySem.W.Fast.tw512857257345179413 : True := .intro
theorem PySem.W.Fast.tw16686772332045770517 : True := .intro
theorem PySem.W.Fast.tw6245438639631021845 : True := .intro
theorem PySem.W.Fast.tw15604231453401429813 : True := .intro
theorem PySem.W.Fast.tw1316796713385457653 : True := .intro
theorem PySem.W.Fast.tw12380684340562552854 : True := .intro
theorem PySem.W.Fast.tw9229263767132977270 : True := .intro
theorem PySem.W.Fast.tw6184870287182850198 : True := .intro
theorem PySem.W.Fast.tw1333127716323352726 : True := .intro
theorem PySem.W.Fast.tw15055767442107177174 : True := .intro
theorem PySem.W.Fast.tw6135663278920883414 : True := .intro
theorem PySem.W.Fast.tw12136708203144982774 : True := .intro
theorem PySem.W.Fast.tw11765798415248948502 : True := .intro
theorem PySem.W.Fast.tw7665377452122191190 : True := .intro
theorem PySem.W.Fast.tw1242737640591346102 : True := .intro
theorem PySem.W.Fast.tw16570803721251095062 : True := .intro
theorem PySem.W.Fast.tw9191770210262421046 : True := .intro
theorem PySem.W.Fast.tw11129531337548185206 : True := .intro
theorem PySem.W.Fast.tw9652783654499270294 : True := .intro
theorem PySem.W.Fast.tw17188595853898000182 : True := .intro
theorem PySem.W.Fast.tw5577544391607877462 : True := .intro
theorem PySem.W.Fast.tw6525173340701624278 : True := .intro
theorem PySem.W.Fast.tw11969862423055362038 : True := .intro
theorem PySem.W.Fast.tw15808356748800815094 : True := .intro
theorem PySem.W.Fast.tw7043010926121819159 : True := .intro
theorem PySem.W.Fast.tw11103649024886209719 : True := .intro
theorem PySem.W.Fast.tw1050083778280704247 : True := .intro
theorem PySem.W.Fast.tw3474597754466203031 : True := .intro
theorem PySem.W.Fast.tw16571610698483035575 : True := .intro
theorem PySem.W.Fast.tw4835874283448926647 : True := .intro
theorem PySem.W.Fast.tw6476505885311611479 : True := .intro
theorem PySem.W.Fast.tw5050895497438708343 : True := .intro
theorem PySem.W.Fast.tw16425117491899054935 : True := .intro
theorem PySem.W.Fast.tw3170285884045788023 : True := .intro
theorem PySem.W.Fast.tw3127415523710302167 : True := .intro
theorem PySem.W.Fast.tw13690703370125382647 : True := .intro
theorem PySem.W.Fast.tw3747794667088779352 : True := .intro
theorem PySem.W.Fast.tw6532967939959253144 : True := .intro
theorem PySem.W.Fast.tw15886654669794512152 : True := .intro
theorem PySem.W.Fast.tw17185603775006103864 : True := .intro
theorem PySem.W.Fast.tw12713012294503044504 : True := .intro
theorem PySem.W.Fast.tw7993699944504236504 : True := .intro
theorem PySem.W.Fast.tw13497714556503590360 : True := .intro
theorem PySem.W.Fast.tw17191146818149943800 : True := .intro
theorem PySem.W.Fast.tw11085589042362628600 : True := .intro
theorem PySem.W.Fast.tw729045527773939224 : True := .intro
theorem PySem.W.Fast.tw5945490769300948568 : True := .intro
theorem PySem.W.Fast.tw6490619302594964056 : True := .intro
theorem PySem.W.Fast.tw16722334855415604856 : True := .intro
theorem PySem.W.Fast.tw2055243526533354296 : True := .intro
theorem PySem.W.Fast.tw2571474759067077464 : True := .intro
theorem PySem.W.Fast.tw16428980570127901560 : True := .intro
theorem PySem.W.Fast.tw15102629728962480056 : True := .intro
theorem PySem.W.Fast.tw9279580888623953848 : True := .intro
theorem PySem.W.Fast.tw8394756478301063128 : True := .intro
theorem PySem.W.Fast.tw15569538608390911992 : True := .intro
theorem PySem.W.Fast.tw16236039136823702520 : True := .intro
theorem PySem.W.Fast.tw11647545461487089689 : True := .intro
theorem PySem.W.Fast.tw16357335101549818041 : True := .intro
theorem PySem.W.Fast.tw15767469935802970329 : True := .intro
theorem PySem.W.Fast.tw581754847769457913 : True := .intro
theorem PySem.W.Fast.tw11136885305322312089 : True := .intro
theorem PySem.W.Fast.tw16349351373866790425 : True := .intro
theorem PySem.W.Fast.tw10904991115972411961 : True := .intro
theorem PySem.W.Fast.tw11162056355966829145 : True := .intro
theorem PySem.W.Fast.tw13653869523801150073 : True := .intro
theorem PySem.W.Fast.tw4411508984241712857 : True := .intro
theorem PySem.W.Fast.tw3882514216616973049 : True := .intro
theorem PySem.W.Fast.tw14469366354281717818 : True := .intro
theorem PySem.W.Fast.tw6563264382251397242 : True := .intro
theorem PySem.W.Fast.tw8108474021433096698 : True := .intro
theorem PySem.W.Fast.tw2832990105361712634 : True := .intro
theorem PySem.W.Fast.tw5712017051662984730 : True := .intro
theorem PySem.W.Fast.tw17342003334400033306 : True := .intro
theorem PySem.W.Fast.tw7436625286928164378 : True := .intro
theorem PySem.W.Fast.tw15682496495581533818 : True := .intro
theorem PySem.W.Fast.tw2785170181452650106 : True := .intro
theorem PySem.W.Fast.tw9878329211757912698 : True := .intro
theorem PySem.W.Fast.tw1333804433602234 : True := .intro
theorem PySem.W.Fast.tw1267258209875967770 : True := .intro
theorem PySem.W.Fast.tw2624939534233919354 : True := .intro
theorem PySem.W.Fast.tw16551999719002104826 : True := .intro
theorem PySem.W.Fast.tw14552121455472336923 : True := .intro
theorem PySem.W.Fast.tw7740281468954515547 : True := .intro
theorem PySem.W.Fast.tw18398648969499708571 : True := .intro
theorem PySem.W.Fast.tw9240838311082967227 : True := .intro
theorem PySem.W.Fast.tw8053707786534307163 : True := .intro
theorem PySem.W.Fast.tw1145123962199376283 : True := .intro
theorem PySem.W.Fast.tw5460221678792041883 : True := .intro
theorem PySem.W.Fast.tw1933213843177575899 : True := .intro
theorem PySem.W.Fast.tw16997843355333128731 : True := .intro
theorem PySem.W.Fast.tw13367636294175880763 : True := .intro
theorem PySem.W.Fast.tw10892363753103374907 : True := .intro
theorem PySem.W.Fast.tw7795438326537833051 : True := .intro
theorem PySem.W.Fast.tw12460254275329948251 : True := .intro
theorem PySem.W.Fast.tw2572810299024581275 : True := .intro
theorem PySem.W.Fast.tw6703357407806229211 : True := .intro
theorem PySem.W.Fast.tw5918897686694867739 : True := .intro
theorem PySem.W.Fast.tw7875726658905052987 : True := .intro
theorem PySem.W.Fast.tw1580391075023355835 : True := .intro
theorem PySem.W.Fast.tw13684527943467295804 : True := .intro
theorem PySem.W.Fast.tw3344419362340796508 : True := .intro
theorem PySem.W.Fast.tw14674552419311612060 : True := .intro
theorem PySem.W.Fast.tw4298764147507068092 : True := .intro
theorem PySem.W.Fast.tw10033131133964399868 : True := .intro
theorem PySem.W.Fast.tw5327923226771203420 : True := .intro
theorem PySem.W.Fast.tw5592741897283311964 : True := .intro
theorem PySem.W.Fast.tw534030369021975932 : True := .intro
theorem PySem.W.Fast.tw5320365984198911356 : True := .intro
theorem PySem.W.Fast.tw8919637574805107228 : True := .intro
theorem PySem.W.Fast.tw15340519117941504540 : True := .intro
theorem PySem.W.Fast.tw999444801386066524 : True := .intro
theorem PySem.W.Fast.tw13551575941486674620 : True := .intro
theorem PySem.W.Fast.tw4431031953538659036 : True := .intro
theorem PySem.W.Fast.tw863435547331975900 : True := .intro
theorem PySem.W.Fast.tw16621742536360623996 : True := .intro
theorem PySem.W.Fast.tw4160644365574712220 : True := .intro
theorem PySem.W.Fast.tw1316878042267091932 : True := .intro
theorem PySem.W.Fast.tw10927503070407313437 : True := .intro
theorem PySem.W.Fast.tw15419329741046868061 : True := .intro
theorem PySem.W.Fast.tw3536314531314606205 : True := .intro
theorem PySem.W.Fast.tw16210448746000654461 : True := .intro
theorem PySem.W.Fast.tw9925824027645124957 : True := .intro
theorem PySem.W.Fast.tw11023864427883819357 : True := .intro
theorem PySem.W.Fast.tw10393603944242289245 : True := .intro
theorem PySem.W.Fast.tw3167768932968130173 : True := .intro
theorem PySem.W.Fast.tw17968492489106277053 : True := .intro
theorem PySem.W.Fast.tw17813586468932568861 : True := .intro
theorem PySem.W.Fast.tw5194981435774075741 : True := .intro
theorem PySem.W.Fast.tw16064050029047678845 : True := .intro
theorem PySem.W.Fast.tw3724374317865801597 : True := .intro
theorem PySem.W.Fast.tw14735064011721681853 : True := .intro
theorem PySem.W.Fast.tw11355337090878598206 : True := .intro
theorem PySem.W.Fast.tw4651588190515840222 : True := .intro
theorem PySem.W.Fast.tw976113053789400318 : True := .intro
theorem PySem.W.Fast.tw8454012108187423006 : True := .intro
theorem PySem.W.Fast.tw1083021996512548158 : True := .intro
theorem PySem.W.Fast.tw14585656505018049982 : True := .intro
theorem PySem.W.Fast.tw2841357024306797182 : True := .intro
theorem PySem.W.Fast.tw4619938865090431646 : True := .intro
theorem PySem.W.Fast.tw5588433272294406846 : True := .intro
theorem PySem.W.Fast.tw14911479528465079998 : True := .intro
theorem PySem.W.Fast.tw15533486955374535390 : True := .intro
theorem PySem.W.Fast.tw12143999032068908830 : True := .intro
theorem PySem.W.Fast.tw6896992688527974174 : True := .intro
theorem PySem.W.Fast.tw14541062925574082398 : True := .intro
theorem PySem.W.Fast.tw10586719486454125406 : True := .intro
theorem PySem.W.Fast.tw12344336894419446782 : True := .intro
theorem PySem.W.Fast.tw626423006553815103 : True := .intro
theorem PySem.W.Fast.tw5472290715099935935 : True := .intro
theorem PySem.W.Fast.tw15819339151377465663 : True := .intro
theorem PySem.W.Fast.tw7206236936494936447 : True := .intro
theorem PySem.W.Fast.tw4962127011894861215 : True := .intro
theorem PySem.W.Fast.tw13241116951765443007 : True := .intro
theorem PySem.W.Fast.tw9093132236238099935 : True := .intro
theorem PySem.W.Fast.tw9662008751543147071 : True := .intro
theorem PySem.W.Fast.tw4183211355661024831 : True := .intro
theorem PySem.W.Fast.tw125782339935236703 : True := .intro
theorem PySem.W.Fast.tw15871739364372861567 : True := .intro
theorem PySem.W.Fast.tw13429591002218026623 : True := .intro
theorem PySem.W.Fast.tw1205663247242153631 : True := .intro
theorem PySem.W.Fast.tw2872632597316454079 : True := .intro
theorem PySem.W.Fast.tw17263247245717600991 : True := .intro
theorem PySem.W.Fast.tw7417433440797616895 : True := .intro
theorem PySem.W.Fast.tw17689039160901063455 : True := .intro
theorem PySem.W.Fast.tw9149397750415816543 : True := .intro
theorem PySem.W.Fast.tw17581664565719435231 : True := .intro
theorem PySem.W.Fast.tw7839436276191606783 : True := .intro
open PySem PySem.W PyProof.Rows
set_option maxRecDepth 100000 in
set_option maxHeartbeats 0 in
theorem PySem.Challenge.cw_leansay_k06_steps_and_the_least_holds : PySem.Challenge.rw_leansay_k06_steps_and_the_least.Holds := by
  w_on; o_law; k_head; (case hw => w_witness2)
  k_fill
  refine L2.walk_bits (l := PySem.Challenge.rw_leansay_k06_steps_and_the_least) (n := 63) (k := 40) (x := "_law_script") (CX := L2.CX0) (sp := Mine.spLaw) rfl (by decide) rfl ⟨rfl, by decide, by decide⟩ (fun w h Y => PySem.W.kIn_of Y) ?F ?S ?C
  case F =>
    intro w mg fa h KX G hmg
    have T_on_step : L2.TopDef (L2.KOf KX) mg "on_step" Mine.s_on_step := by
      dsimp only [L2.KOf]
      refine' L2.top_mk KX G ?a ?l ?c ?k; (case a => k_is); (case l => k_is); (case c => k_is); (case k => k_is)
    have T_on_steps : L2.TopDef (L2.KOf KX) mg "on_steps" Mine.s_on_steps := by
      dsimp only [L2.KOf]
      refine' L2.top_mk KX G ?a ?l ?c ?k; (case a => k_is); (case l => k_is); (case c => k_is); (case k => k_is)
    have T_least_on_steps : L2.TopDef (L2.KOf KX) mg "least_on_steps" Mine.s_least_on_steps := by
      dsimp only [L2.KOf]
      refine' L2.top_mk KX G ?a ?l ?c ?k; (case a => k_is); (case l => k_is); (case c => k_is); (case k => k_is)
    have T_l_mixed : L2.TopDef (L2.KOf KX) mg "_law_mixed" Mine.s_l_mixed := by
      dsimp only [L2.KOf]
      refine' L2.top_mk KX G ?a ?l ?c ?k; (case a => k_is); (case l => k_is); (case c => k_is); (case k => k_is)
    have T_l_next : L2.TopDef (L2.KOf KX) mg "_law_next" Mine.s_l_next := by
      dsimp only [L2.KOf]
      refine' L2.top_mk KX G ?a ?l ?c ?k; (case a => k_is); (case l => k_is); (case c => k_is); (case k => k_is)
    have T_l_saying : L2.TopDef (L2.KOf KX) mg "_law_saying" Mine.s_l_saying := by
      dsimp only [L2.KOf]
      refine' L2.top_mk KX G ?a ?l ?c ?k; (case a => k_is); (case l => k_is); (case c => k_is); (case k => k_is)
    have T_l_object : L2.TopDef (L2.KOf KX) mg "_law_object" Mine.s_l_object := by
      dsimp only [L2.KOf]
      refine' L2.top_mk KX G ?a ?l ?c ?k; (case a => k_is); (case l => k_is); (case c => k_is); (case k => k_is)
    have T_l_fold : L2.TopDef (L2.KOf KX) mg "_law_fold" Mine.s_l_fold := by
      dsimp only [L2.KOf]
      refine' L2.top_mk KX G ?a ?l ?c ?k; (case a => k_is); (case l => k_is); (case c => k_is); (case k => k_is)
    have T_l_worth : L2.TopDef (L2.KOf KX) mg "_law_worth" Mine.s_l_worth := by
      dsimp only [L2.KOf]
      refine' L2.top_mk KX G ?a ?l ?c ?k; (case a => k_is); (case l => k_is); (case c => k_is); (case k => k_is)
    have T_l_whole : L2.TopDef (L2.KOf KX) mg "_law_whole" Mine.s_l_whole := by
      dsimp only [L2.KOf]
      refine' L2.top_mk KX G ?a ?l ?c ?k; (case a => k_is); (case l => k_is); (case c => k_is); (case k => k_is)
    have T_law : L2.TopDef (L2.KOf KX) mg "law" Mine.s_law := by
      dsimp only [L2.KOf]
      refine' L2.top_mk KX G ?a ?l ?c ?k; (case a => k_is); (case l => k_is); (case c => k_is); (case k => k_is)
    have Z_len : mg "len" = none := by
      refine' PySem.W.mg_none_of KX G ?z; (case z => k_is)
    have Z_abs : mg "abs" = none := by
      refine' PySem.W.mg_none_of KX G ?z; (case z => k_is)
    have Z_isinstance : mg "isinstance" = none := by
      refine' PySem.W.mg_none_of KX G ?z; (case z => k_is)
    have Z_bool : mg "bool" = none := by
      refine' PySem.W.mg_none_of KX G ?z; (case z => k_is)
    have Z_int : mg "int" = none := by
      refine' PySem.W.mg_none_of KX G ?z; (case z => k_is)
    have Z_tuple : mg "tuple" = none := by
      refine' PySem.W.mg_none_of KX G ?z; (case z => k_is)
    have Z_range : mg "range" = none := by
      refine' PySem.W.mg_none_of KX G ?z; (case z => k_is)
    have Z_list : mg "list" = none := by
      refine' PySem.W.mg_none_of KX G ?z; (case z => k_is)
    have Z_min : mg "min" = none := by
      refine' PySem.W.mg_none_of KX G ?z; (case z => k_is)
    have Z_max : mg "max" = none := by
      refine' PySem.W.mg_none_of KX G ?z; (case z => k_is)
    have Z_all : mg "all" = none := by
      refine' PySem.W.mg_none_of KX G ?z; (case z => k_is)
    have Z_enumerate : mg "enumerate" = none := by
      refine' PySem.W.mg_none_of KX G ?z; (case z => k_is)
    have kb : kitOne (L2.KOf KX) (.type "int") (.type "bool") = some false := by
      dsimp only [L2.KOf]
      first | k_is | kit_is
    have AA : ∃ c, Mine.AllF (L2.KOf KX) mg c := by
      dsimp only [L2.KOf]
      refine' Mine.all_mk KX G ?n_ne ?n_al ?n_le ?n_no ?n_mo ?n_ls ?n_gr ?n_lr ?n_ld ?c_ne ?c_al ?c_le ?c_no ?c_mo ?c_ls ?c_gr ?c_lr ?c_ld ?h_ne ?h_al ?h_le ?h_no ?h_mo ?h_ls ?h_gr ?h_lr ?h_ld ?m_ne ?m_al ?m_le ?m_no ?m_mo ?m_ls ?m_gr ?m_lr ?m_ld ?s_ne ?s_al ?s_le ?s_no ?s_mo ?s_ls ?s_gr ?s_lr ?s_ld ?hn ?tk ?a_name ?a_part ?a_one_mo ?a_one_ls ?a_one_gr ?a_one_lr ?a_one_ld ?a_other_mo ?a_other_ls ?a_other_gr ?a_other_lr ?a_other_ld ?g_madeS_ne ?g_madeS_al ?g_madeS_le ?e_madeS ?g_laid_ne ?g_laid_al ?g_laid_le ?g_laid_no ?g_laid_mo ?g_laid_ls ?g_laid_gr ?g_laid_lr ?g_laid_ld ?e_laid ?g_out_ne ?g_out_al ?g_out_le ?g_out_no ?g_out_mo ?g_out_ls ?g_out_gr ?g_out_lr ?g_out_ld ?e_out ?g_Wne_ne ?e_Wne ?g_Wal_al ?e_Wal ?g_Wle_le ?e_Wle ?g_Wno_no ?e_Wno ?g_Mno_no ?e_Mno ?g_Mfo_mo ?g_Mfo_ls ?g_Mfo_gr ?g_Mfo_lr ?g_Mfo_ld ?e_Mfo ?g_Wfo_mo ?g_Wfo_ls ?g_Wfo_gr ?g_Wfo_lr ?g_Wfo_ld ?e_Wfo ?g_F1mo_mo ?e_F1mo ?g_F1ls_ls ?e_F1ls ?g_F1gr_gr ?e_F1gr ?g_F1lr_lr ?e_F1lr ?g_F1ld_ld ?e_F1ld ?g_ile_le ?e_ile ?g_ino_no ?e_ino ?g_ifo_mo ?g_ifo_ls ?g_ifo_gr ?g_ifo_lr ?g_ifo_ld ?e_ifo ?i_ne ?i_al ?y_ne ?y_al ?y_le ?y_no ?y_mo ?y_ls ?y_gr ?y_lr ?y_ld ?z_ne ?z_al ?z_le ?z_no ?z_mo ?z_ls ?z_gr ?z_lr ?z_ld
      (case n_ne => k_is)
      (case n_al => k_is)
      (case n_le => k_is)
      (case n_no => k_is)
      (case n_mo => k_is)
      (case n_ls => k_is)
      (case n_gr => k_is)
      (case n_lr => k_is)
      (case n_ld => k_is)
      (case c_ne => refine' ⟨?q1, ?q2, ?q3, ?q4⟩; (case q1 => k_is); (case q2 => k_is); (case q3 => k_is); (case q4 => k_is))
      (case c_al => refine' ⟨?q1, ?q2, ?q3, ?q4⟩; (case q1 => k_is); (case q2 => k_is); (case q3 => k_is); (case q4 => k_is))
      (case c_le => refine' ⟨?q1, ?q2, ?q3, ?q4⟩; (case q1 => k_is); (case q2 => k_is); (case q3 => k_is); (case q4 => k_is))
      (case c_no => refine' ⟨?q1, ?q2, ?q3, ?q4⟩; (case q1 => k_is); (case q2 => k_is); (case q3 => k_is); (case q4 => k_is))
      (case c_mo => refine' ⟨?q1, ?q2, ?q3, ?q4⟩; (case q1 => k_is); (case q2 => k_is); (case q3 => k_is); (case q4 => k_is))
      (case c_ls => refine' ⟨?q1, ?q2, ?q3, ?q4⟩; (case q1 => k_is); (case q2 => k_is); (case q3 => k_is); (case q4 => k_is))
      (case c_gr => refine' ⟨?q1, ?q2, ?q3, ?q4⟩; (case q1 => k_is); (case q2 => k_is); (case q3 => k_is); (case q4 => k_is))
      (case c_lr => refine' ⟨?q1, ?q2, ?q3, ?q4⟩; (case q1 => k_is); (case q2 => k_is); (case q3 => k_is); (case q4 => k_is))
      (case c_ld => refine' ⟨?q1, ?q2, ?q3, ?q4⟩; (case q1 => k_is); (case q2 => k_is); (case q3 => k_is); (case q4 => k_is))
      (case h_ne => k_is)
      (case h_al => k_is)
      (case h_le => k_is)
      (case h_no => k_is)
      (case h_mo => k_is)
      (case h_ls => k_is)
      (case h_gr => k_is)
      (case h_lr => k_is)
      (case h_ld => k_is)
      (case m_ne => k_is)
      (case m_al => k_is)
      (case m_le => k_is)
      (case m_no => k_is)
      (case m_mo => k_is)
      (case m_ls => k_is)
      (case m_gr => k_is)
      (case m_lr => k_is)
      (case m_ld => k_is)
      (case s_ne => first | k_is | kit_is)
      (case s_al => first | k_is | kit_is)
      (case s_le => first | k_is | kit_is)
      (case s_no => first | k_is | kit_is)
      (case s_mo => first | k_is | kit_is)
      (case s_ls => first | k_is | kit_is)
      (case s_gr => first | k_is | kit_is)
      (case s_lr => first | k_is | kit_is)
      (case s_ld => first | k_is | kit_is)
      (case hn => k_is)
      (case tk => k_is)
      (case a_name => k_is)
      (case a_part => k_is)
      (case a_one_mo => k_is)
      (case a_one_ls => k_is)
      (case a_one_gr => k_is)
      (case a_one_lr => k_is)
      (case a_one_ld => k_is)
      (case a_other_mo => k_is)
      (case a_other_ls => k_is)
      (case a_other_gr => k_is)
      (case a_other_lr => k_is)
      (case a_other_ld => k_is)
      (case g_madeS_ne => k_is)
      (case g_madeS_al => k_is)
      (case g_madeS_le => k_is)
      (case e_madeS => refine' L2.funE_mk ?l ?c ?k ?fn; (case l => k_is); (case c => k_is); (case k => k_is); (case fn => k_is))
      (case g_laid_ne => k_is)
      (case g_laid_al => k_is)
      (case g_laid_le => k_is)
      (case g_laid_no => k_is)
      (case g_laid_mo => k_is)
      (case g_laid_ls => k_is)
      (case g_laid_gr => k_is)
      (case g_laid_lr => k_is)
      (case g_laid_ld => k_is)
      (case e_laid => refine' L2.funE_mk ?l ?c ?k ?fn; (case l => k_is); (case c => k_is); (case k => k_is); (case fn => k_is))
      (case g_out_ne => k_is)
      (case g_out_al => k_is)
      (case g_out_le => k_is)
      (case g_out_no => k_is)
      (case g_out_mo => k_is)
      (case g_out_ls => k_is)
      (case g_out_gr => k_is)
      (case g_out_lr => k_is)
      (case g_out_ld => k_is)
      (case e_out => refine' L2.funE_mk ?l ?c ?k ?fn; (case l => k_is); (case c => k_is); (case k => k_is); (case fn => k_is))
      (case g_Wne_ne => k_is)
      (case e_Wne => refine' L2.funE_mk ?l ?c ?k ?fn; (case l => k_is); (case c => k_is); (case k => k_is); (case fn => k_is))
      (case g_Wal_al => k_is)
      (case e_Wal => refine' L2.funE_mk ?l ?c ?k ?fn; (case l => k_is); (case c => k_is); (case k => k_is); (case fn => k_is))
      (case g_Wle_le => k_is)
      (case e_Wle => refine' L2.funE_mk ?l ?c ?k ?fn; (case l => k_is); (case c => k_is); (case k => k_is); (case fn => k_is))
      (case g_Wno_no => k_is)
      (case e_Wno => refine' L2.funE_mk ?l ?c ?k ?fn; (case l => k_is); (case c => k_is); (case k => k_is); (case fn => k_is))
      (case g_Mno_no => k_is)
      (case e_Mno => refine' L2.funE_mk ?l ?c ?k ?fn; (case l => k_is); (case c => k_is); (case k => k_is); (case fn => k_is))
      (case g_Mfo_mo => k_is)
      (case g_Mfo_ls => k_is)
      (case g_Mfo_gr => k_is)
      (case g_Mfo_lr => k_is)
      (case g_Mfo_ld => k_is)
      (case e_Mfo => refine' L2.funE_mk ?l ?c ?k ?fn; (case l => k_is); (case c => k_is); (case k => k_is); (case fn => k_is))
      (case g_Wfo_mo => k_is)
      (case g_Wfo_ls => k_is)
      (case g_Wfo_gr => k_is)
      (case g_Wfo_lr => k_is)
      (case g_Wfo_ld => k_is)
      (case e_Wfo => refine' L2.funE_mk ?l ?c ?k ?fn; (case l => k_is); (case c => k_is); (case k => k_is); (case fn => k_is))
      (case g_F1mo_mo => k_is)
      (case e_F1mo => refine' L2.funE_mk ?l ?c ?k ?fn; (case l => k_is); (case c => k_is); (case k => k_is); (case fn => k_is))
      (case g_F1ls_ls => k_is)
      (case e_F1ls => refine' L2.funE_mk ?l ?c ?k ?fn; (case l => k_is); (case c => k_is); (case k => k_is); (case fn => k_is))
      (case g_F1gr_gr => k_is)
      (case e_F1gr => refine' L2.funE_mk ?l ?c ?k ?fn; (case l => k_is); (case c => k_is); (case k => k_is); (case fn => k_is))
      (case g_F1lr_lr => k_is)
      (case e_F1lr => refine' L2.funE_mk ?l ?c ?k ?fn; (case l => k_is); (case c => k_is); (case k => k_is); (case fn => k_is))
      (case g_F1ld_ld => k_is)
      (case e_F1ld => refine' L2.funE_mk ?l ?c ?k ?fn; (case l => k_is); (case c => k_is); (case k => k_is); (case fn => k_is))
      (case g_ile_le => k_is)
      (case e_ile => refine' L2.funE_mk ?l ?c ?k ?fn; (case l => k_is); (case c => k_is); (case k => k_is); (case fn => k_is))
      (case g_ino_no => k_is)
      (case e_ino => refine' L2.funE_mk ?l ?c ?k ?fn; (case l => k_is); (case c => k_is); (case k => k_is); (case fn => k_is))
      (case g_ifo_mo => k_is)
      (case g_ifo_ls => k_is)
      (case g_ifo_gr => k_is)
      (case g_ifo_lr => k_is)
      (case g_ifo_ld => k_is)
      (case e_ifo => refine' L2.funE_mk ?l ?c ?k ?fn; (case l => k_is); (case c => k_is); (case k => k_is); (case fn => k_is))
      (case i_ne => k_is)
      (case i_al => k_is)
      (case y_ne => k_is)
      (case y_al => k_is)
      (case y_le => k_is)
      (case y_no => k_is)
      (case y_mo => k_is)
      (case y_ls => k_is)
      (case y_gr => k_is)
      (case y_lr => k_is)
      (case y_ld => k_is)
      (case z_ne => k_is)
      (case z_al => k_is)
      (case z_le => k_is)
      (case z_no => k_is)
      (case z_mo => k_is)
      (case z_ls => k_is)
      (case z_gr => k_is)
      (case z_lr => k_is)
      (case z_ld => k_is)
    obtain ⟨c, AF⟩ := AA
    obtain ⟨f, fd, F, m⟩ := T_law.ex
    have e := hmg.symm.trans m
    cases e
    obtain ⟨oc, od, kV, doc, pm, an, cdv, ct, osl, hfd, lk, hcd⟩ := id F.ex
    subst hfd
    refine ⟨PySem.W.fnOf "law" "law" (L2.defArgs Mine.sLaw) (L2.defBody Mine.sLaw) (L2.defScope Mine.sLaw) .none kV doc pm an cdv ct, fun s u => .of_eq rfl, fun base kb' nb => ?_⟩
    have M := Mine.ms (P := PySem.Challenge.rw_leansay_k06_steps_and_the_least.prog) (w := w) (base := base) AF Z_min Z_max
    obtain ⟨kl, kn, kf⟩ := Mine.mks (P := PySem.Challenge.rw_leansay_k06_steps_and_the_least.prog) (w := w) (base := base) AF
    have GL : ∀ t, L2.MethOk PySem.Challenge.rw_leansay_k06_steps_and_the_least.prog w (L2.KOf KX) mg base (c.of t) "laid_out" 2 ["self"] (Mine.spLaid c t) := fun t => Mine.ok_laid (AF.laid t) M
    have D : ∀ t, L2.MethOk PySem.Challenge.rw_leansay_k06_steps_and_the_least.prog w (L2.KOf KX) mg base (c.of t) "out_of" 3 ["self", "n", "x", "y"] (Mine.spOut c t) := fun t => Mine.ok_out (AF.out t) M GL
    have dNext := Mine.ok_next (P := PySem.Challenge.rw_leansay_k06_steps_and_the_least.prog) (w := w) (base := base) T_l_next Z_len
    have dFold := Mine.ok_foldF (P := PySem.Challenge.rw_leansay_k06_steps_and_the_least.prog) (w := w) (base := base) T_l_fold Z_min Z_max
    have dOn := Mine.ok_onSteps T_on_steps Z_range (Mine.ok_onStep T_on_step Z_range D)
    exact Mine.ok_law F Z_range Z_min Z_int Z_isinstance Z_tuple Z_list Z_all (Mine.ok_mixed T_l_mixed Z_len Z_max Z_min Z_range Z_abs Z_int) dNext (Mine.ok_saying T_l_saying Z_int dNext 20) (Mine.ok_obj06 T_l_object AF.o_ne AF.r_ne AF.o_al AF.r_al kl kn kf 20) (Mine.ok_worth T_l_worth Z_int dFold 20) (Mine.ok_wholeL T_l_whole Z_isinstance Z_int Z_bool kb) dOn (Mine.ok_leastOn T_least_on_steps Z_enumerate dOn)
  case S => exact fun K H a ns hl hb hO hS => ⟨a, ns, rfl, Mine.scr_of hO hS hl hb, fun _ => rfl⟩
  case C => exact fun _ _ _ _ z => z




