import PyProof.Rows.All
import Wide.All
import OpenK.AllK
import Wide.FinOn
import Lean
import PyProof.EqAt
import PyProof.EqKinds
import PyProof.TupleCall
import KE.LcSums
import PyProof.Rows.EqDataRows
import PyProof.Draws
import PyProof.EnumMake
import PyProof.ZipIter
import PyProof.WalksMore
import KE.KLcPair
import PyProof.ExcClass2
import PyProof.ExcInit
import PyProof.StationsW
import PyProof.InstStoreFacts
import PySem.Challenge.RW_leansay_k16_lines_refused
set_option Elab.async false
set_option linter.all false
set_option maxRecDepth 100000
/-! THE HAND LAYER, for ints, bools, texts, own classes, LISTS and tuples (index, slices, in, append, pop ..), calls, loops. Paste it whole ahead of your own text; what your proof does not reach may be deleted. -/
namespace L2
open PySem PySem.Spec PyProof.Rows

/-- a key: an int or a str -/
abbrev Key := Sum Int Str
def keyIs : Key → Value → Bool
  | .inl k, v => Value.isInt k v
  | .inr x, v => Value.isStrOf x v
def keyH (w : World) : Key → Int
  | .inl k => hashInt k
  | .inr x => hashStr w x
theorem keyIs_shape : ∀ {k : Key} {v : Value}, keyIs k v = true → (∃ i t, k = Sum.inl i ∧ v = Value.int i t) ∨ (∃ x t, k = Sum.inr x ∧ v = Value.str x t)
  | .inl i, v, h => by
    obtain ⟨t, e⟩ := Value.isInt_shape (k := i) (v := v) h
    exact .inl ⟨i, t, rfl, e⟩
  | .inr x, v, h => by
    obtain ⟨t, e⟩ := Value.isStrOf_shape (x := x) (v := v) h
    exact .inr ⟨x, t, rfl, e⟩
theorem key_ll (a b : Int) : decide ((Sum.inl a : Key) = Sum.inl b) = (a == b) := by
  by_cases e : a = b
  · subst e; simp
  · have h : ¬ (Sum.inl a : Key) = Sum.inl b := fun q => e (Sum.inl.inj q)
    rw [decide_eq_false h]
    exact (beq_eq_false_iff_ne.mpr e).symm
theorem key_rr (a b : Str) : decide ((Sum.inr a : Key) = Sum.inr b) = decide (a = b) := by
  by_cases e : a = b
  · subst e; simp
  · have h : ¬ (Sum.inr a : Key) = Sum.inr b := fun q => e (Sum.inr.inj q)
    rw [decide_eq_false h, decide_eq_false e]
theorem key_lr (a : Int) (b : Str) : decide ((Sum.inl a : Key) = Sum.inr b) = false := decide_eq_false (fun q => nomatch q)
theorem key_rl (a : Str) (b : Int) : decide ((Sum.inr a : Key) = Sum.inl b) = false := decide_eq_false (fun q => nomatch q)

def mixKind (prog : Program) (w : World) : PySem.KeyKind prog w Key where
  is := keyIs
  hash := keyH w
  inj := fun v a b ha hb => by
    rcases keyIs_shape ha with ⟨i, t, rfl, rfl⟩ | ⟨x, t, rfl, rfl⟩
    · rcases keyIs_shape hb with ⟨j, u, rfl, e⟩ | ⟨y, u, rfl, e⟩
      · injection e with e1 _; rw [e1]
      · exact nomatch e
    · rcases keyIs_shape hb with ⟨j, u, rfl, e⟩ | ⟨y, u, rfl, e⟩
      · exact nomatch e
      · injection e with e1 _; rw [e1]
  byValue := fun k v h => by
    rcases keyIs_shape h with ⟨i, t, rfl, rfl⟩ | ⟨x, t, rfl, rfl⟩ <;> rfl
  pyHash := fun hv h => by
    rcases keyIs_shape hv with ⟨i, t, rfl, rfl⟩ | ⟨x, t, rfl, rfl⟩
    · exact wpAny_pyHash_int h
    · exact wpAny_pyHash_str h
  eqBool := fun hu hv h => by
    rcases keyIs_shape hu with ⟨i, t, rfl, rfl⟩ | ⟨x, t, rfl, rfl⟩
    · rcases keyIs_shape hv with ⟨j, u, rfl, rfl⟩ | ⟨y, u, rfl, rfl⟩
      · rw [key_ll] at h; exact wpAny_eqBool_int h
      · rw [key_lr] at h; exact SeqAt.EqAt.int_str i t y u _ _ _ _ h
    · rcases keyIs_shape hv with ⟨j, u, rfl, rfl⟩ | ⟨y, u, rfl, rfl⟩
      · rw [key_rl] at h; exact SeqAt.EqAt.str_int x t j u _ _ _ _ h
      · rw [key_rr] at h; exact wpAny_eqBool_str h
  «strs» := fun k x t v h => by
    rcases keyIs_shape h with ⟨i, u, rfl, e⟩ | ⟨y, u, rfl, e⟩
    · exact nomatch e
    · injection e with e1 _
      subst e1
      cases v <;> rfl

end L2

namespace L2
open PySem PySem.Spec PyProof.Rows

/-- a value, without the heap -/
inductive V where
  | non | bl (b : Bool) | int (i : Int) | str (x : Str) | byt (b : Array UInt8) | flt (b : UInt64) | ref (a : Addr) | ty (n : String)
  deriving DecidableEq

def RelV : V → Value → Prop
  | .non, u => u = Value.none
  | .bl b, u => u = Value.bool b
  | .int i, u => ∃ t, u = Value.int i t
  | .str x, u => ∃ t, u = Value.str x t
  | .byt b, u => ∃ t, u = Value.bytes b t
  | .flt b, u => ∃ t, u = Value.float b t
  | .ref a, u => u = Value.ref a
  | .ty n, u => u = Value.type n

abbrev Vals : List V → List Value → Prop := Paired RelV
theorem Vals.length {xs : List V} {us : List Value} (r : Vals xs us) : xs.length = us.length := Paired.length r
theorem Vals.get : ∀ {xs : List V} {us : List Value} {i : Nat} {x : V}, Vals xs us → xs[i]? = some x → ∃ u, us[i]? = some u ∧ RelV x u
  | _, _, _, _, .nil, e => by simp at e
  | _, _, 0, _, .cons r _, e => by simp at e; subst e; exact ⟨_, rfl, r⟩
  | _, _, i + 1, x, .cons _ t, e => by
    obtain ⟨u, h1, h2⟩ := Vals.get (i := i) (x := x) t (by simpa using e)
    exact ⟨u, by simpa using h1, h2⟩
theorem Vals.set {x : V} {u : Value} (r : RelV x u) : ∀ {xs : List V} {us : List Value} (i : Nat), Vals xs us → Vals (xs.set i x) (us.set i u)
  | _, _, _, .nil => .nil
  | _, _, 0, .cons _ t => .cons r t
  | _, _, i + 1, .cons q t => .cons q (Vals.set r i t)
theorem Vals.append : ∀ {xs ys : List V} {us ws : List Value}, Vals xs us → Vals ys ws → Vals (xs ++ ys) (us ++ ws)
  | _, _, _, _, .nil, s => s
  | _, _, _, _, .cons r t, s => .cons r (Vals.append t s)
theorem Vals.take : ∀ {xs : List V} {us : List Value} (n : Nat), Vals xs us → Vals (xs.take n) (us.take n)
  | _, _, 0, _ => .nil
  | _, _, _ + 1, .nil => .nil
  | _, _, n + 1, .cons r t => .cons r (Vals.take n t)
theorem Vals.drop : ∀ {xs : List V} {us : List Value} (n : Nat), Vals xs us → Vals (xs.drop n) (us.drop n)
  | _, _, 0, r => r
  | _, _, _ + 1, .nil => .nil
  | _, _, n + 1, .cons _ t => Vals.drop n t

def RelO : Option V → Option Value → Prop
  | some v, some u => RelV v u
  | none, none => True
  | _, _ => False
def KV {κ : Type} : List (κ × V) → List (κ × Value) → Prop := Paired fun (p : κ × V) (q : κ × Value) => p.1 = q.1 ∧ RelV p.2 q.2

/-- a key of a dict (00_mix): an int or a text -/
def kV : Key → V
  | .inl i => .int i
  | .inr x => .str x

/-- what stands at a tracked address -/
inductive HO where
  /-- a list -/
  | lst (xs : List V)
  /-- a tuple (never changes) -/
  | tup (xs : List V)
  /-- a dict whose keys are ints and texts; one whose keys are tuples of ints and texts (the empty one is both) -/
  | dK (kvs : List (Key × V)) | dT (kvs : List (List Key × V))
  /-- a set of ints: its members, its size -/
  | set (S : Int → Bool) (n : Nat)
  /-- an instance of the class at C, its dict at dx, its attributes -/
  | ins (C dx : Addr) (fs : List (Str × V))
  /-- the dict of the instance at x -/
  | own (x : Addr)
  /-- the dict of an exception -/
  | xd (fs : List (Str × V))
  /-- a bound method, f of x -/
  | met (f x : Addr)
  /-- a range object lo, lo + 1, .. below hi -/
  | rng (lo hi : Int)
  /-- a thing that is known to the object (the script; a dict while a loop walks it): read, never written while it is so -/
  | frz (o : Obj) (u : HO)
  /-- a code object's table -/
  | tbl (ps : Array Value)
  /-- any other thing, by what is true of its one object (a def of one's own: SetO a S n := HO.ext fun h => ..) -/
  | ext (φ : Heap → Prop)

abbrev Hp := Addr → Option HO
def upd (H : Hp) (a : Addr) (o : HO) : Hp := fun b => if b = a then some o else H b
theorem upd_same {H : Hp} {a : Addr} {o : HO} : upd H a o a = some o := by unfold upd; rw [if_pos rfl]
theorem upd_ne {H : Hp} {a b : Addr} {o : HO} (h : b ≠ a) : upd H a o b = H b := by unfold upd; rw [if_neg h]
/-- two objects of different content stand apart -/
theorem ne_of {H : Hp} {a b : Addr} {o u : HO} (h : H a = some o) (h' : H b = some u) (d : o ≠ u) : a ≠ b := by
  intro e; subst e; rw [h] at h'; exact d (Option.some.inj h')
theorem ne_of_none {H : Hp} {a b : Addr} {o : HO} (h : H a = some o) (h' : H b = none) : a ≠ b := by
  intro e; subst e; rw [h] at h'; cases h'

section
variable (P : Program) (w : World)
def ObjOk (H : Hp) (h : Heap) (a : Addr) : HO → Prop
  | .lst xs => xs.length ≤ sizeLine ∧ ∃ (its : List Value) (n : Nat), Vals xs its ∧ h.get? a = some { cls := .type "list", data := .seq its.toArray n }
  | .tup xs => xs.length ≤ sizeLine ∧ ∃ its : List Value, Vals xs its ∧ IsTup h a its.toArray
  | .dK kvs => kvs.length ≤ sizeLine ∧ (a == sysModules) = false ∧ ∃ vs, KV kvs vs ∧ h.DictOf (mixKind P w) a vs
  | .dT kvs => kvs.length ≤ sizeLine ∧ (a == sysModules) = false ∧ ∃ xs : List (List Key × Addr × Value),
      Paired (fun (p : List Key × V) (q : List Key × Addr × Value) => p.1 = q.1 ∧ H q.2.1 = some (.tup (p.1.map kV)) ∧ RelV p.2 q.2.2) kvs xs ∧
      ∃ o es ep, h.get? a = some o ∧ o.ExactDict ∧ o.data = .dict es ep ∧ es.toList = xs.map (entryOfKey (tupleKind (mixKind P w))) ∧ (xs.map (·.1)).Nodup
  | .set S n => h.SetOf (intKind P w) a S n
  | .ins C dx fs => H dx = some (.own a) ∧ fs.length ≤ 1000 ∧ dx ≠ a ∧ h.get? a = some (PySem.W.instObj C dx) ∧
      ∃ mA, h.Ns1 dx mA ∧ (∀ f, RelO (fs.lookup f) (mA f)) ∧ PySem.Within mA (fs.map (·.1))
  | .own _ => ∃ o, h.get? a = some o
  | .xd fs => ∃ mA, h.Ns1 a mA ∧ ∀ f, RelO (fs.lookup f) (mA f)
  | .rng lo hi => ∃ t u v, h.get? a = some { cls := .type "range", data := .fields #[.int lo t, .int hi u, .int 1 v] }
  | .frz o u => h.get? a = some o ∧ ObjOk H h a u
  | .tbl ps => h.get? a = some { cls := .none, data := .fields ps }
  | .met f x => h.get? a = some (PySem.W.methodObj (.ref f) (.ref x))
  | .ext φ => φ h ∧ (∃ o, h.get? a = some o) ∧ ∀ h1 h2 : Heap, φ h1 → (∀ o, h1.get? a = some o → h2.get? a = some o) → φ h2
/-- the abstract heap is held -/
def HOk (H : Hp) (h : Heap) : Prop := ∀ a o, H a = some o → ObjOk P w H h a o
end

section
variable {P : Program} {w : World} {H H' : Hp} {h h' : Heap} {a : Addr} {o : HO}
theorem ObjOk.lt (x : ObjOk P w H h a o) : a < h.objs.size := by
  cases o with
  | lst xs => obtain ⟨_, _, _, _, e⟩ := x; exact Heap.lt_size e
  | tup xs => obtain ⟨_, _, _, p⟩ := x; exact p.lt
  | dK kvs => obtain ⟨_, _, _, _, o, _, _, e, _⟩ := x; exact Heap.lt_size e
  | dT kvs => obtain ⟨_, _, _, _, o, _, _, e, _⟩ := x; exact Heap.lt_size e
  | set S n => obtain ⟨o, _, _, _, e, _⟩ := x; exact Heap.lt_size e
  | ins C dx fs => obtain ⟨_, _, _, e, _⟩ := x; exact Heap.lt_size e
  | own y => obtain ⟨_, e⟩ := x; exact Heap.lt_size e
  | xd fs => obtain ⟨_, ⟨_, _, _, e, _⟩, _⟩ := x; exact Heap.lt_size e
  | rng lo hi => obtain ⟨_, _, _, e⟩ := x; exact Heap.lt_size e
  | frz ob u => obtain ⟨e, _⟩ := x; exact Heap.lt_size e
  | tbl ps => exact Heap.lt_size (show h.get? a = some _ from x)
  | met f y => exact Heap.lt_size (show h.get? a = some _ from x)
  | ext φ => obtain ⟨_, ⟨_, e⟩, _⟩ := x; exact Heap.lt_size e
theorem Paired.mapP {α β : Type} {F G : α → β → Prop} : ∀ {l₁ : List α} {l₂ : List β}, Paired F l₁ l₂ → (∀ a b, F a b → G a b) → Paired G l₁ l₂
  | _, _, .nil, _ => .nil
  | _, _, .cons r t, f => .cons (f _ _ r) (Paired.mapP t f)
/-- what an object's description leans on: its own object, its own dict, the tuples -/
theorem ObjOk.stay (x : ObjOk P w H h a o) (k : ∀ b u, (b = a ∨ H b = some (.own a)) → h.get? b = some u → h'.get? b = some u)
    (ho : ∀ b, H b = some (.own a) → H' b = some (.own a)) (ht : ∀ b xs, H b = some (.tup xs) → H' b = some (.tup xs)) : ObjOk P w H' h' a o := by
  induction o with
  | lst xs => obtain ⟨z, its, n, r, e⟩ := x; exact ⟨z, its, n, r, k _ _ (.inl rfl) e⟩
  | tup xs => obtain ⟨z, its, r, ob, e, c⟩ := x; exact ⟨z, its, r, ob, k _ _ (.inl rfl) e, c⟩
  | dK kvs => obtain ⟨z, y, vs, r, ob, es, ep, e, c⟩ := x; exact ⟨z, y, vs, r, ob, es, ep, k _ _ (.inl rfl) e, c⟩
  | dT kvs =>
    obtain ⟨z, y, xs, r, ob, es, ep, e, c⟩ := x
    exact ⟨z, y, xs, Paired.mapP r fun p q z => ⟨z.1, ht _ _ z.2.1, z.2.2⟩, ob, es, ep, k _ _ (.inl rfl) e, c⟩
  | set S n => obtain ⟨ob, es, ep, t, e, c⟩ := x; exact ⟨ob, es, ep, t, k _ _ (.inl rfl) e, c⟩
  | ins C dx fs =>
    obtain ⟨d, z, ne, e, mA, ⟨od, es, ep, e2, c⟩, r⟩ := x
    exact ⟨ho _ d, z, ne, k _ _ (.inl rfl) e, mA, ⟨od, es, ep, k _ _ (.inr d) e2, c⟩, r⟩
  | own y => obtain ⟨ob, e⟩ := x; exact ⟨ob, k _ _ (.inl rfl) e⟩
  | xd fs => obtain ⟨mA, ⟨od, es, ep, e, c⟩, r⟩ := x; exact ⟨mA, ⟨od, es, ep, k _ _ (.inl rfl) e, c⟩, r⟩
  | rng lo hi => obtain ⟨t, u, v, e⟩ := x; exact ⟨t, u, v, k _ _ (.inl rfl) e⟩
  | frz ob u ih => obtain ⟨e, q⟩ := x; exact ⟨k _ _ (.inl rfl) e, ih q⟩
  | tbl ps =>
    have e : h.get? a = some { cls := .none, data := .fields ps } := x
    show h'.get? a = some { cls := .none, data := .fields ps }
    exact k a _ (.inl rfl) e
  | met f y =>
    have e : h.get? a = some (PySem.W.methodObj (.ref f) (.ref y)) := x
    show h'.get? a = some (PySem.W.methodObj (.ref f) (.ref y))
    exact k a _ (.inl rfl) e
  | ext φ => obtain ⟨p, ⟨o, e⟩, st⟩ := x; exact ⟨st _ _ p fun o q => k _ _ (.inl rfl) q, ⟨o, k _ _ (.inl rfl) e⟩, st⟩
theorem HOk.lt (x : HOk P w H h) (e : H a = some o) : a < h.objs.size := (x a o e).lt
theorem HOk.fresh (x : HOk P w H h) (e : h.objs.size ≤ a) : H a = none := by
  cases q : H a with
  | none => rfl
  | some u => exact absurd (Nat.lt_of_lt_of_le (x.lt q) e) (Nat.lt_irrefl _)
/-- every object of the heap is kept -/
theorem HOk.kept (x : HOk P w H h) (k : ∀ b u, h.get? b = some u → h'.get? b = some u) : HOk P w H h' := fun a o e =>
  (x a o e).stay (fun b u _ q => k b u q) (fun _ q => q) fun _ _ q => q
/-- a new object is laid and tracked -/
theorem HOk.laid (x : HOk P w H h) (k : ∀ b u, h.get? b = some u → h'.get? b = some u) (hp : h.objs.size ≤ a) (new : ObjOk P w (upd H a o) h' a o) : HOk P w (upd H a o) h' := fun b u e => by
  have hn := x.fresh hp
  by_cases hb : b = a
  · subst hb; rw [upd_same] at e; cases e; exact new
  · rw [upd_ne hb] at e
    exact (x b u e).stay (fun c v _ q => k c v q) (fun c q => by rw [upd_ne (ne_of_none q hn)]; exact q) fun c xs q => by rw [upd_ne (ne_of_none q hn)]; exact q
end

/-- what may be read as u: it is u, or a known u -/
def Rd (H : Hp) (a : Addr) (u : HO) : Prop := H a = some u ∨ ∃ o, H a = some (.frz o u)
theorem Rd.ok {P : Program} {w : World} {H : Hp} {h : Heap} {a : Addr} {u : HO} (r : Rd H a u) (x : HOk P w H h) : ObjOk P w H h a u := by
  rcases r with r | ⟨o, r⟩
  · exact x a u r
  · obtain ⟨_, q⟩ := x a _ r
    exact q
/-- what may be written -/
def Mut : Option HO → Prop
  | some (.lst _) => True
  | some (.dK _) => True
  | some (.dT _) => True
  | some (.set _ _) => True
  | some (.ins _ _ _) => True
  | some (.ext _) => True
  | _ => False
section
variable {P : Program} {w : World} {H : Hp} {h h' : Heap} {x e : Addr} {o' : HO}
/-- the object at e is changed: x itself, or the dict of the instance x -/
theorem HOk.write (ok : HOk P w H h) (mu : Mut (H x)) (he : e = x ∨ H e = some (.own x)) (k : ∀ b u, b ≠ e → h.get? b = some u → h'.get? b = some u) (heo : ∃ u, h'.get? e = some u)
    (new : ObjOk P w (upd H x o') h' x o') : HOk P w (upd H x o') h' := fun b u q => by
  have nown : ∀ c y, H c = some (.own y) → c ≠ x := fun c y r z => by subst z; rw [r] at mu; exact mu
  have ntup : ∀ c xs, H c = some (.tup xs) → c ≠ x := fun c xs r z => by subst z; rw [r] at mu; exact mu
  by_cases hb : b = x
  · subst hb; rw [upd_same] at q; cases q; exact new
  · rw [upd_ne hb] at q
    by_cases hbe : b = e
    · have q' : H b = some (.own x) := by
        rcases he with z | z
        · exact absurd (hbe.trans z) hb
        · rw [hbe]; exact z
      rw [q] at q'; cases q'
      obtain ⟨v, hv⟩ := heo
      exact ⟨v, by rw [hbe]; exact hv⟩
    · refine (ok b u q).stay (fun c v hc r => k c v ?_ r) (fun c r => by rw [upd_ne (nown c b r)]; exact r) fun c xs r => by rw [upd_ne (ntup c xs r)]; exact r
      rcases hc with rfl | hc
      · exact hbe
      · rintro rfl
        rcases he with z | z
        · exact nown c b hc z
        · rw [hc] at z; cases z; exact hb rfl
end

/-! ### kept unless tracked; of the frames at fs (the callers') the slots may change (an exception that passes writes there); of the records at ex (iterators) nothing is said -/
structure Un (fs ex : List Addr) (H H' : Hp) (h h' : Heap) : Prop where
  keep : ∀ b o, h.get? b = some o → H b = none → b ∉ fs → b ∉ ex → h'.get? b = some o
  slot : ∀ b o, h.get? b = some o → H b = none → b ∈ fs → b ∉ ex → ∃ sl, h'.get? b = some { o with slots := sl }
  free : ∀ b o, h.get? b = some o → H b = none → b ∉ ex → H' b = none
  there : ∀ b o, h.get? b = some o → b ∉ ex → ∃ o', h'.get? b = some o'
  tups : ∀ b xs, H b = some (.tup xs) → H' b = some (.tup xs)
  frzs : ∀ b o u, H b = some (.frz o u) → H' b = some (.frz o u)
  tbls : ∀ b ps, H b = some (.tbl ps) → ∃ more, H' b = some (.tbl (ps ++ more))
section
variable {fs fs' ex ex' : List Addr} {H H1 H2 : Hp} {h h1 h2 h' : Heap} {a x e : Addr} {o : HO}
theorem Un.any (u : Un fs ex H H1 h h1) {b : Addr} {ob : Obj} (q : h.get? b = some ob) (n : H b = none) (hx : b ∉ ex) : ∃ sl, h1.get? b = some { ob with slots := sl } := by
  by_cases hb : b ∈ fs
  · exact u.slot b ob q n hb hx
  · exact ⟨ob.slots, u.keep b ob q n hb hx⟩
theorem Un.kept (k : ∀ b u, h.get? b = some u → h'.get? b = some u) : Un fs ex H H h h' :=
  ⟨fun b ob q _ _ _ => k b ob q, fun b ob q _ _ _ => ⟨ob.slots, k b ob q⟩, fun _ _ _ n _ => n, fun b ob q _ => ⟨ob, k b ob q⟩, fun _ _ q => q, fun _ _ _ q => q, fun _ ps q => ⟨#[], by rw [q]; simp⟩⟩
theorem Un.refl : Un fs ex H H h h := Un.kept fun _ _ q => q
theorem Un.laid (k : ∀ b u, h.get? b = some u → h'.get? b = some u) (hp : h.objs.size ≤ a) (hn : H a = none) : Un fs ex H (upd H a o) h h' where
  keep := fun b u q _ _ _ => k b u q
  slot := fun b u q _ _ _ => ⟨u.slots, k b u q⟩
  free := fun b u q n _ => by rw [upd_ne (Nat.ne_of_lt (Nat.lt_of_lt_of_le (Heap.lt_size q) hp))]; exact n
  there := fun b u q _ => ⟨u, k b u q⟩
  tups := fun b xs q => by rw [upd_ne (ne_of_none q hn)]; exact q
  frzs := fun b u xs q => by rw [upd_ne (ne_of_none q hn)]; exact q
  tbls := fun b ps q => ⟨#[], by rw [upd_ne (ne_of_none q hn), q]; simp⟩
theorem Un.write (mu : Mut (H x)) (he : e = x ∨ H e = some (.own x)) (k : ∀ b u, b ≠ e → h.get? b = some u → h'.get? b = some u) (heo : ∃ u, h'.get? e = some u) : Un fs ex H (upd H x o) h h' := by
  have hx : ∀ b, H b = none → b ≠ x := fun b n z => by subst z; rw [n] at mu; exact mu
  have hb : ∀ b, H b = none → b ≠ e := fun b n z => by
    subst z
    rcases he with r | r
    · exact hx b n r
    · rw [n] at r; cases r
  have hm : ∀ b u, H b = some u → ¬ Mut (some u) → b ≠ x := fun b u q nm z => by subst z; rw [q] at mu; exact nm mu
  refine ⟨fun b u q n _ _ => k b u (hb b n) q, fun b u q n _ _ => ⟨u.slots, k b u (hb b n) q⟩, fun b u q n _ => by rw [upd_ne (hx b n)]; exact n, fun b u q _ => ?_,
    fun b xs q => by rw [upd_ne (hm b _ q fun z => z)]; exact q, fun b u xs q => by rw [upd_ne (hm b _ q fun z => z)]; exact q, fun b ps q => ⟨#[], by rw [upd_ne (hm b _ q fun z => z), q]; simp⟩⟩
  by_cases hbe : b = e
  · subst hbe; exact heo
  · exact ⟨u, k b u hbe q⟩
end

/-! ### the heap without what is tracked -/
def trk (h : Heap) (H : Hp) : List Addr := (List.range h.objs.size).filter fun a => (H a).isSome
def hidT (h : Heap) (H : Hp) : Heap := PySem.W.hideAll h (trk h H)
theorem hidT_size (h : Heap) (H : Hp) : (hidT h H).objs.size = h.objs.size := PySem.W.hideAll_size _ _
theorem hidT_get {h : Heap} {H : Hp} {b : Addr} {o : Obj} (e : h.get? b = some o) (n : H b = none) : (hidT h H).get? b = some o :=
  PySem.W.hideAll_get _ e fun hm => by
    have q : (H b).isSome = true := (List.mem_filter.mp hm).2
    rw [n] at q; simp at q
theorem of_hidT {h : Heap} {H : Hp} {b : Addr} {o : Obj} (e : (hidT h H).get? b = some o) : h.get? b = some o ∧ H b = none := by
  have e' : h.get? b = some o := PySem.W.of_hideAll (trk h H) e
  refine ⟨e', ?_⟩
  cases q : H b with
  | none => rfl
  | some x =>
    have hm : b ∈ trk h H := List.mem_filter.mpr ⟨List.mem_range.mpr (Heap.lt_size e'), by simp [q]⟩
    have z : (hidT h H).get? b = none := PySem.W.hideAll_none (trk h H) hm
    rw [z] at e; cases e

/-! ### OpenK's ledger, filled with every new object but one -/
end L2

namespace L2
open PySem PySem.Spec PyProof.Rows

/-- the module's facts, over the base: the heap at the law's entry without what is tracked there -/
structure Mod (K : PySem.W.Frag) (mg : Str → Option Value) (base : Heap) : Prop where
  kin : K.In base
  glob : base.Ns mainGlobals mg
  blt : ∃ mb, base.Ns builtinsNs mb ∧ ∀ x : Str, x ≠ "__name__" → mb x = bootBuiltins x
  nolimit : base.NoLimit

/-- the context: a def's body (or a comprehension's block) running. base: fixed through the whole law; s₀, H₀: the entry; outer: the frames whose slots others may change (a def's callers); stack: all frames that run;
   ex: iterators that were made ahead of the entry and are walked here (a comprehension's); fn: the names whose cells were made at the entry (a def: all; a comprehension's block: its own); calm: not within an except suite; pn: pins that every state bears; xe: what is wanted of an exception that leaves the code -/
structure Cx where
  prog : Program
  w : World
  K : PySem.W.Frag
  mg : Str → Option Value
  base : Heap
  A : Around
  N : List Str
  s₀ : Shared
  H₀ : Hp
  env : Env
  outer : List Env
  stack : List Env
  ex : List Addr
  fn : Str → Bool
  calm : Bool
  pn : List (Addr × Obj)
  xe : Value → Shared → Prop
/-- the callers' frames -/
def frs (l : List Env) : List Addr := l.filterMap (·.frame)
abbrev Cx.fs (X : Cx) : List Addr := frs X.outer

def Vis (sc : Scope) (x : Str) : Prop := sc.names.lookup x = some .local ∨ sc.names.lookup x = some .cell ∨ sc.names.lookup x = some .free
def Loc (sc : Scope) (x : Str) : Prop := sc.names.lookup x = some .local ∨ sc.names.lookup x = some .cell
def Look (env : Env) (h : Heap) (m : Str → Option Value) (x : Str) (u : Value) : Prop :=
  (env.kindOf x = some .local ∧ m x = some u) ∨ ((env.kindOf x = some .cell ∨ env.kindOf x = some .free) ∧ ∃ c, env.cells.lookup x = some c ∧ h.IsCell c (some u))

structure Cx.Ok (X : Cx) : Prop where
  mod : Mod X.K X.mg X.base
  kind : X.env.scope.kind = .function
  glob : X.env.globals = mainGlobals
  blt : X.env.builtins = builtinsNs
  above : X.s₀.heap.objs.size ≤ X.env.locals
  inj : ∀ x y c, X.env.cells.lookup x = some c → X.env.cells.lookup y = some c → x = y
  has : ∀ x, (X.env.kindOf x = some .cell ∨ X.env.kindOf x = some .free) → ∃ c, X.env.cells.lookup x = some c
  cab : ∀ x c, X.fn x = true → X.env.cells.lookup x = some c → X.s₀.heap.objs.size ≤ c
  hd : X.calm = true → X.A.handled = none
  frames : X.A.frames = some X.stack
  stk : X.stack = X.outer ∨ (X.stack = X.env :: X.outer ∧ X.env.frame = some X.env.locals)
  exf : ∀ b ∈ X.ex, b ≠ X.env.locals ∧ ∀ x c, X.env.cells.lookup x = some c → c ≠ b
  bs : ∀ b o, X.base.get? b = some o → X.s₀.heap.get? b = some o ∧ X.H₀ b = none
  bsz : X.base.objs.size ≤ X.s₀.heap.objs.size
  noex : ∀ b o, X.base.get? b = some o → b ∉ X.ex
  exfs : ∀ b ∈ X.ex, b ∉ X.fs
  funs : X.s₀.heap.FunFrames X.base X.outer
  frf : ∀ b ∈ X.fs, X.H₀ b = none

structure Inv (X : Cx) (pins : List (Addr × Obj)) (σ : List (Option V)) (H : Hp) (s : Shared) : Prop where
  ok : X.Ok
  os : s.os = X.s₀.os
  bare : AllBare s.gens
  base : Un X.fs X.ex X.H₀ H X.s₀.heap s.heap
  loc : ∃ m, s.heap.Ns X.env.locals m ∧ ∀ (i : Nat) (x : Str) (v : V), X.N[i]? = some x → σ[i]? = some (some v) → Vis X.env.scope x → ∃ u, RelV v u ∧ Look X.env s.heap m x u
  cell : ∀ x c, X.env.cells.lookup x = some c → ∃ v, s.heap.IsCell c v
  free : H X.env.locals = none
  freeC : ∀ x c, X.env.cells.lookup x = some c → H c = none
  pin : ∀ p ∈ X.pn ++ pins, s.heap.get? p.1 = some p.2 ∧ H p.1 = none ∧ p.1 ≠ X.env.locals ∧ p.1 ∉ X.fs ∧ ∀ v, p.2.data ≠ .cell v
  hok : HOk X.prog X.w H s.heap
  len : σ.length = X.N.length

section
variable {X : Cx} {pins : List (Addr × Obj)} {σ : List (Option V)} {H H' : Hp} {s : Shared} {h' : Heap}

theorem Cx.Ok.nofr (ok : X.Ok) {b : Addr} {o : Obj} (e : X.base.get? b = some o) : b ∉ X.fs := fun hb => by
  have := (ok.funs.mem hb).1
  rw [e] at this; cases this
theorem Inv.bs (I : Inv X pins σ H s) : ∀ b o, X.base.get? b = some o → s.heap.get? b = some o ∧ H b = none := fun b o e =>
  ⟨I.base.keep b o (I.ok.bs b o e).1 (I.ok.bs b o e).2 (I.ok.nofr e) (I.ok.noex b o e), I.base.free b o (I.ok.bs b o e).1 (I.ok.bs b o e).2 (I.ok.noex b o e)⟩
theorem Inv.bk (I : Inv X pins σ H s) : ∀ b o, X.base.get? b = some o → s.heap.get? b = some o := fun b o e => (I.bs b o e).1
theorem Inv.mod (I : Inv X pins σ H s) : Mod X.K X.mg X.base := I.ok.mod
theorem Inv.kIn (I : Inv X pins σ H s) : X.K.In s.heap := I.ok.mod.kin.keeps I.bk
theorem Inv.lt (I : Inv X pins σ H s) : X.env.locals < s.heap.objs.size := let ⟨_, hn, _⟩ := I.loc; hn.lt
theorem Inv.sz (I : Inv X pins σ H s) : X.s₀.heap.objs.size ≤ s.heap.objs.size := Nat.le_trans I.ok.above (Nat.le_of_lt I.lt)
theorem Inv.nofs (I : Inv X pins σ H s) {a : Addr} (h : s.heap.objs.size ≤ a) : a ∉ X.fs := fun hb => by
  obtain ⟨_, o, ho, _⟩ := I.ok.funs.mem hb
  exact absurd (Nat.lt_of_lt_of_le (Heap.lt_size ho) (Nat.le_trans I.sz h)) (Nat.lt_irrefl _)
theorem Inv.cne (I : Inv X pins σ H s) : ∀ x c, X.env.cells.lookup x = some c → c ≠ X.env.locals := fun x c e z => by
  obtain ⟨v, o, ho, hd⟩ := I.cell x c e
  obtain ⟨m, ⟨o', es, ep, ho', hd', _⟩, _⟩ := I.loc
  rw [z, ho'] at ho; cases ho; rw [hd'] at hd; cases hd
theorem Inv.funs (I : Inv X pins σ H s) : s.heap.FunFrames X.base X.outer := by
  have all : ∀ (l : List Env), (∀ b ∈ frs l, b ∈ X.fs) → X.s₀.heap.FunFrames X.base l → s.heap.FunFrames X.base l := by
    intro l
    induction l with
    | nil => intro _ _; trivial
    | cons env r ih =>
      intro hs hl
      obtain ⟨hk, ⟨L, o, hf, hn, ho, hd⟩, hr⟩ := hl
      have hL : L ∈ X.fs := hs L (by unfold frs; rw [List.filterMap_cons, hf]; exact List.mem_cons_self)
      obtain ⟨sl, e⟩ := I.base.slot L o ho (I.ok.frf L hL) hL fun z => I.ok.exfs L z hL
      exact ⟨hk, ⟨L, _, hf, hn, e, hd⟩, ih (fun b hb => hs b (by unfold frs; rw [List.filterMap_cons, hf]; exact List.mem_cons_of_mem _ hb)) hr⟩
  exact all X.outer (fun _ hb => hb) I.ok.funs

/-- the frames that run, for a call -/
theorem Inv.stack (I : Inv X pins σ H s) : s.heap.FunFrames X.base X.stack := by
  rcases I.ok.stk with e | ⟨e, hf⟩
  · rw [e]; exact I.funs
  · rw [e]
    obtain ⟨m, hn, _⟩ := I.loc
    refine .cons (by rw [I.ok.kind]; decide) hf hn ?_ I.funs
    exact Heap.get?_none_of_le (Nat.le_trans I.ok.bsz I.ok.above)
theorem Inv.stkSub (I : Inv X pins σ H s) : ∀ b ∈ frs X.stack, b ∈ X.env.locals :: X.fs := fun b hb => by
  rcases I.ok.stk with e | ⟨e, hf⟩
  · rw [e] at hb; exact List.mem_cons_of_mem _ hb
  · rw [e] at hb
    unfold frs at hb
    rw [List.filterMap_cons, hf] at hb
    exact hb
theorem Inv.stkFree (I : Inv X pins σ H s) : ∀ b ∈ frs X.stack, H b = none := fun b hb => by
  rcases List.mem_cons.mp (I.stkSub b hb) with e | hb
  · rw [e]; exact I.free
  · obtain ⟨_, o, ho, _⟩ := I.ok.funs.mem hb
    exact I.base.free b o ho (I.ok.frf b hb) fun z => I.ok.exfs b z hb

/-- THE STEP: the untracked objects but the frame and the records at ch are kept (the callers' frames up to slots), the frame's map is kept, the new abstract heap is held -/
theorem Inv.step {g' : Array GenState} {t' : Nat} {d' : Drawn} {ch : List Addr} (I : Inv X pins σ H s)
    (hch : ∀ b ∈ ch, (b ∈ X.ex ∨ X.s₀.heap.objs.size ≤ b) ∧ b ≠ X.env.locals ∧ (∀ x c, X.env.cells.lookup x = some c → c ≠ b) ∧ ∀ p ∈ X.pn ++ pins, p.1 ≠ b)
    (keep : ∀ b o, b ≠ X.env.locals → b ∉ X.fs → b ∉ ch → s.heap.get? b = some o → H b = none → h'.get? b = some o)
    (slot : ∀ b o, b ≠ X.env.locals → b ∈ X.fs → b ∉ ch → s.heap.get? b = some o → H b = none → ∃ sl, h'.get? b = some { o with slots := sl }) (free : ∀ b o, b ∉ ch → s.heap.get? b = some o → H b = none → H' b = none)
    (there : ∀ b o, b ∉ ch → s.heap.get? b = some o → ∃ o', h'.get? b = some o')
    (tups : ∀ b xs, H b = some (.tup xs) → H' b = some (.tup xs)) (frzs : ∀ b o u, H b = some (.frz o u) → H' b = some (.frz o u)) (tbls : ∀ b ps, H b = some (.tbl ps) → ∃ more, H' b = some (.tbl (ps ++ more)))
    (ns : ∀ m, s.heap.Ns X.env.locals m → h'.Ns X.env.locals m) (hok : HOk X.prog X.w H' h') (hg : AllBare g') :
    Inv X pins σ H' { s with heap := h', gens := g', drawn := d', toks := t' } := by
  have neL : ∀ b o, X.s₀.heap.get? b = some o → b ≠ X.env.locals := fun b o e => Nat.ne_of_lt (Nat.lt_of_lt_of_le (Heap.lt_size e) I.ok.above)
  have neC : ∀ b o, X.s₀.heap.get? b = some o → b ∉ X.ex → b ∉ ch := fun b o e hx hb => by
    rcases (hch b hb).1 with z | z
    · exact hx z
    · exact absurd (Nat.lt_of_lt_of_le (Heap.lt_size e) z) (Nat.lt_irrefl _)
  have cellK : ∀ x c, X.env.cells.lookup x = some c → ∀ v, s.heap.IsCell c v → h'.IsCell c v := fun x c e v ⟨o, ho, hd⟩ => by
    have nch : c ∉ ch := fun z => (hch c z).2.2.1 x c e rfl
    by_cases hc : c ∈ X.fs
    · obtain ⟨sl, q⟩ := slot c o (I.cne x c e) hc nch ho (I.freeC x c e)
      exact ⟨_, q, hd⟩
    · exact ⟨o, keep c o (I.cne x c e) hc nch ho (I.freeC x c e), hd⟩
  refine ⟨I.ok, I.os, hg, ⟨fun b o e n hb hx => ?_, fun b o e n hb hx => ?_, fun b o e n hx => ?_, fun b o e hx => ?_, fun b xs e => tups b xs (I.base.tups b xs e), fun b o xs e => frzs b o xs (I.base.frzs b o xs e), fun b ps e => ?_⟩, ?_, fun x c e => ?_, ?_, fun x c e => ?_, fun p hp => ?_, hok, I.len⟩
  · exact keep b o (neL b o e) hb (neC b o e hx) (I.base.keep b o e n hb hx) (I.base.free b o e n hx)
  · obtain ⟨sl, e1⟩ := I.base.slot b o e n hb hx
    obtain ⟨sl', e2⟩ := slot b _ (neL b o e) hb (neC b o e hx) e1 (I.base.free b o e n hx)
    exact ⟨sl', e2⟩
  · obtain ⟨o', e1⟩ := I.base.there b o e hx
    exact free b o' (neC b o e hx) e1 (I.base.free b o e n hx)
  · obtain ⟨o', e1⟩ := I.base.there b o e hx
    exact there b o' (neC b o e hx) e1
  · obtain ⟨m1, e1⟩ := I.base.tbls b ps e
    obtain ⟨m2, e2⟩ := tbls b _ e1
    exact ⟨m1 ++ m2, by rw [e2, Array.append_assoc]⟩
  · obtain ⟨m, hn, hl⟩ := I.loc
    refine ⟨m, ns m hn, fun i x v e1 e2 e3 => ?_⟩
    obtain ⟨u, r, l⟩ := hl i x v e1 e2 e3
    refine ⟨u, r, ?_⟩
    rcases l with l | ⟨k, c, e, z⟩
    · exact .inl l
    · exact .inr ⟨k, c, e, cellK x c e _ z⟩
  · obtain ⟨v, z⟩ := I.cell x c e
    exact ⟨v, cellK x c e v z⟩
  · obtain ⟨m, ⟨o, _, _, ho, _⟩, _⟩ := I.loc
    exact free _ o (fun z => (hch _ z).2.1 rfl) ho I.free
  · obtain ⟨v, o, ho, hd⟩ := I.cell x c e
    exact free c o (fun z => (hch c z).2.2.1 x c e rfl) ho (I.freeC x c e)
  · obtain ⟨e, n, ne, nf, d⟩ := I.pin p hp
    have nch : p.1 ∉ ch := fun z => (hch p.1 z).2.2.2 p hp rfl
    exact ⟨keep p.1 p.2 ne nf nch e n, free p.1 p.2 nch e n, ne, nf, d⟩
/-- .. where the frame's own object is kept too -/
theorem Inv.un {t' : Nat} (I : Inv X pins σ H s) (u : Un X.fs [] H H' s.heap h') (hok : HOk X.prog X.w H' h') : Inv X pins σ H' { s with heap := h', toks := t' } := by
  obtain ⟨m, ⟨o, es, ep, ho, r⟩, _⟩ := id I.loc
  obtain ⟨sl, hL⟩ := u.any ho I.free (by simp)
  exact I.step (g' := s.gens) (d' := s.drawn) (ch := []) (fun _ z => nomatch z) (fun b o _ hb _ e n => u.keep b o e n hb (by simp)) (fun b o _ hb _ e n => u.slot b o e n hb (by simp)) (fun b o _ e n => u.free b o e n (by simp)) (fun b o _ e => u.there b o e (by simp)) u.tups u.frzs u.tbls (fun m' hm => by
    obtain ⟨o', es', ep', ho', r'⟩ := hm
    rw [ho] at ho'; cases ho'
    exact ⟨_, es', ep', hL, r'⟩) hok I.bare
/-- behind a call (or a comprehension's block): the slots of this frame may have changed too, the records at ch may have turned -/
theorem Inv.call {g' : Array GenState} {t' : Nat} {d' : Drawn} {ch : List Addr} (I : Inv X pins σ H s) (u : Un (frs X.stack) ch H H' s.heap h') (hok : HOk X.prog X.w H' h') (hg : AllBare g')
    (hch : ∀ b ∈ ch, (b ∈ X.ex ∨ X.s₀.heap.objs.size ≤ b) ∧ b ≠ X.env.locals ∧ (∀ x c, X.env.cells.lookup x = some c → c ≠ b) ∧ ∀ p ∈ X.pn ++ pins, p.1 ≠ b) :
    Inv X pins σ H' { s with heap := h', gens := g', drawn := d', toks := t' } := by
  obtain ⟨m, ⟨o, es, ep, ho, r⟩, _⟩ := id I.loc
  obtain ⟨sl, hL⟩ := u.any ho I.free fun z => (hch _ z).2.1 rfl
  exact I.step (ch := ch) hch (fun b o hL hb hc e n => u.keep b o e n (fun z => (List.mem_cons.mp (I.stkSub b z)).elim hL hb) hc) (fun b o _ _ hc e n => u.any e n hc) (fun b o hc e n => u.free b o e n hc) (fun b o hc e => u.there b o e hc) u.tups u.frzs u.tbls (fun m' hm => by
    obtain ⟨o', es', ep', ho', r'⟩ := hm
    rw [ho] at ho'; cases ho'
    exact ⟨_, es', ep', hL, r'⟩) hok hg
/-- an untracked record of ours (an iterator) has turned -/
theorem Inv.turned {t' : Nat} {it : Addr} (I : Inv X pins σ H s) (k : ∀ b o, b ≠ it → s.heap.get? b = some o → h'.get? b = some o) (hn : H it = none) (hL : it ≠ X.env.locals)
    (h1 : it ∈ X.ex ∨ X.s₀.heap.objs.size ≤ it) (h2 : ∀ x c, X.env.cells.lookup x = some c → c ≠ it) (h3 : ∀ p ∈ X.pn ++ pins, p.1 ≠ it) : Inv X pins σ H { s with heap := h', toks := t' } := by
  have nit : ∀ b u, H b = some u → b ≠ it := fun b u e z => by rw [z, hn] at e; cases e
  refine I.step (g' := s.gens) (d' := s.drawn) (ch := [it]) (fun b hb => ?_) (fun b o _ _ hc e _ => k b o (fun z => hc (by simp [z])) e) (fun b o _ _ hc e _ => ⟨o.slots, k b o (fun z => hc (by simp [z])) e⟩) (fun _ _ _ _ n => n)
    (fun b o hc e => ⟨o, k b o (fun z => hc (by simp [z])) e⟩) (fun _ _ e => e) (fun _ _ _ e => e) (fun b ps e => ⟨#[], by rw [e]; simp⟩) (fun m hm => ?_) (fun b u e => ?_) I.bare
  · have e : b = it := by simpa using hb
    subst e
    exact ⟨h1, hL, h2, h3⟩
  · obtain ⟨o, es, ep, ho, r⟩ := hm
    exact ⟨o, es, ep, k _ o (Ne.symm hL) ho, r⟩
  · refine (I.hok b u e).stay (fun c v hc q => k c v ?_ q) (fun _ q => q) fun _ _ q => q
    rcases hc with z | z
    · rw [z]; exact nit b u e
    · exact nit c _ z
theorem Inv.tok (I : Inv X pins σ H s) (t : Nat) : Inv X pins σ H { s with toks := t } := I.un (h' := s.heap) (t' := t) Un.refl I.hok
/-- all objects kept -/
theorem Inv.kept {t' : Nat} (I : Inv X pins σ H s) (k : ∀ b u, s.heap.get? b = some u → h'.get? b = some u) : Inv X pins σ H { s with heap := h', toks := t' } := I.un (Un.kept k) (I.hok.kept k)
/-- a new object laid and tracked -/
theorem Inv.laid {a : Addr} {o : HO} {t' : Nat} (I : Inv X pins σ H s) (k : ∀ b u, s.heap.get? b = some u → h'.get? b = some u) (hp : s.heap.objs.size ≤ a) (new : ObjOk X.prog X.w (upd H a o) h' a o) :
    Inv X pins σ (upd H a o) { s with heap := h', toks := t' } := I.un (Un.laid k hp (I.hok.fresh hp)) (I.hok.laid k hp new)
/-- an object written -/
theorem Inv.write {x e : Addr} {o : HO} {t' : Nat} (I : Inv X pins σ H s) (mu : Mut (H x)) (he : e = x ∨ H e = some (.own x)) (k : ∀ b u, b ≠ e → s.heap.get? b = some u → h'.get? b = some u) (heo : ∃ u, h'.get? e = some u)
    (new : ObjOk X.prog X.w (upd H x o) h' x o) : Inv X pins σ (upd H x o) { s with heap := h', toks := t' } := I.un (Un.write mu he k heo) (I.hok.write mu he k heo new)
theorem Inv.pins_of {pins' : List (Addr × Obj)} (I : Inv X pins σ H s) (h : ∀ p ∈ pins', s.heap.get? p.1 = some p.2 ∧ H p.1 = none ∧ p.1 ≠ X.env.locals ∧ p.1 ∉ X.fs ∧ ∀ v, p.2.data ≠ .cell v) : Inv X pins' σ H s :=
  ⟨I.ok, I.os, I.bare, I.base, I.loc, I.cell, I.free, I.freeC, fun p hp => (List.mem_append.mp hp).elim (fun z => I.pin p (List.mem_append_left _ z)) (h p), I.hok, I.len⟩

theorem nodup_ix {N : List Str} (hN : N.Nodup) {i j : Nat} {x : Str} (a : N[i]? = some x) (b : N[j]? = some x) : i = j := by
  obtain ⟨h1, e1⟩ := List.getElem?_eq_some_iff.mp a
  obtain ⟨h2, e2⟩ := List.getElem?_eq_some_iff.mp b
  exact (List.getElem_inj hN).mp (e1.trans e2.symm)

/-- a name is stored; what changed -/
theorem store_ok2 {M : Model} {A : Around} {E : Value → Shared → Prop} {i : Nat} {x : Str} {v : V} {u : Value} {Q : Unit → Shared → Prop} (I : Inv X pins σ H s) (hN : X.N.Nodup) (hi : X.N[i]? = some x) (hx : Loc X.env.scope x) (r : RelV v u)
    (h : ∀ s', Inv X pins (σ.set i (some v)) H s' → (∃ a, Heap.SameBut a s.heap s'.heap ∧ (a = X.env.locals ∨ X.env.cells.lookup x = some a)) → Q () s') (hf : X.fn x = true ∨ X.env.scope.names.lookup x = some .local := by first | exact .inl rfl | exact .inr rfl | assumption) : wpAny M A (storeName X.env x u) Q E s := by
  obtain ⟨m, hn, hl⟩ := id I.loc
  have hcls : (X.env.scope.kind == .class || (X.env.scope.kind == .module && X.env.locals != X.env.globals)) = false := by rw [I.ok.kind]; rfl
  have hiσ : i < σ.length := by rw [I.len]; exact (List.getElem?_eq_some_iff.mp hi).1
  have cne := I.cne
  have tracked : ∀ {a : Addr} {h' : Heap}, (∃ o, s.heap.get? a = some o ∧ H a = none) → Heap.SameBut a s.heap h' → HOk X.prog X.w H h' := fun {a h'} ha hs b ob e => by
    obtain ⟨_, _, hfree⟩ := ha
    refine (I.hok b ob e).stay (fun c w' hc q => (hs.2 c ?_).trans q) (fun _ q => q) fun _ _ q => q
    rintro rfl
    rcases hc with rfl | hc
    · rw [hfree] at e; cases e
    · rw [hfree] at hc; cases hc
  rcases hx with hk | hk
  · refine wpAny_storeName_local hk hn (fun h' hn' hs => ?_) hcls
    obtain ⟨oL, _, _, hoL, _⟩ := id hn
    refine h _ ⟨I.ok, I.os, I.bare, ⟨fun b o e n hb hx => ?_, fun b o e n hb hx => ?_, I.base.free, fun b o e hx => ?_, I.base.tups, I.base.frzs, I.base.tbls⟩, ⟨_, hn', fun j y v' e1 e2 e3 => ?_⟩, fun y c e => ?_, I.free, I.freeC, fun p hp => ?_, tracked ⟨oL, hoL, I.free⟩ hs, by simpa using I.len⟩ ⟨_, hs, .inl rfl⟩
    · exact (hs.2 b (Nat.ne_of_lt (Nat.lt_of_lt_of_le (Heap.lt_size e) I.ok.above))).trans (I.base.keep b o e n hb hx)
    · obtain ⟨sl, e1⟩ := I.base.slot b o e n hb hx
      exact ⟨sl, (hs.2 b (Nat.ne_of_lt (Nat.lt_of_lt_of_le (Heap.lt_size e) I.ok.above))).trans e1⟩
    · obtain ⟨o', e1⟩ := I.base.there b o e hx
      exact ⟨o', (hs.2 b (Nat.ne_of_lt (Nat.lt_of_lt_of_le (Heap.lt_size e) I.ok.above))).trans e1⟩
    · by_cases hj : j = i
      · subst hj
        rw [hi] at e1; cases e1
        rw [List.getElem?_set_self hiσ] at e2
        cases e2
        exact ⟨u, r, .inl ⟨hk, by simp⟩⟩
      · rw [List.getElem?_set_ne (Ne.symm hj)] at e2
        obtain ⟨u', r', q⟩ := hl j y v' e1 e2 e3
        refine ⟨u', r', ?_⟩
        rcases q with ⟨k, e⟩ | ⟨k, c, e, z⟩
        · refine .inl ⟨k, ?_⟩
          have : y ≠ x := fun e => hj (nodup_ix hN e1 (e ▸ hi))
          simp [this, e]
        · exact .inr ⟨k, c, e, z.sameBut hs (cne y c e)⟩
    · obtain ⟨w', z⟩ := I.cell y c e
      exact ⟨w', z.sameBut hs (cne y c e)⟩
    · obtain ⟨e, n, ne, nf, d⟩ := I.pin p hp
      exact ⟨(hs.2 p.1 ne).trans e, n, ne, nf, d⟩
  · have hfn : X.fn x = true := by
      rcases hf with z | z
      · exact z
      · rw [z] at hk; cases hk
    obtain ⟨c, hc⟩ := I.ok.has x (.inl hk)
    obtain ⟨w', z⟩ := I.cell x c hc
    refine wpAny_storeName_cell I.ok.kind hk hc z (fun h' hc' hs => ?_)
    obtain ⟨oc, hoc, hocd⟩ := id z
    refine h { s with heap := h' } ⟨I.ok, I.os, I.bare, ⟨fun b o e n hb hx => ?_, fun b o e n hb hx => ?_, I.base.free, fun b o e hx => ?_, I.base.tups, I.base.frzs, I.base.tbls⟩, ⟨m, hn.sameBut hs (Ne.symm (cne x c hc)), fun j y v' e1 e2 e3 => ?_⟩, fun y c' e => ?_, I.free, I.freeC, fun p hp => ?_, tracked ⟨oc, hoc, I.freeC x c hc⟩ hs, by simpa using I.len⟩ ⟨c, hs, .inr hc⟩
    · exact (hs.2 b (Nat.ne_of_lt (Nat.lt_of_lt_of_le (Heap.lt_size e) (I.ok.cab x c hfn hc)))).trans (I.base.keep b o e n hb hx)
    · obtain ⟨sl, e1⟩ := I.base.slot b o e n hb hx
      exact ⟨sl, (hs.2 b (Nat.ne_of_lt (Nat.lt_of_lt_of_le (Heap.lt_size e) (I.ok.cab x c hfn hc)))).trans e1⟩
    · obtain ⟨o', e1⟩ := I.base.there b o e hx
      exact ⟨o', (hs.2 b (Nat.ne_of_lt (Nat.lt_of_lt_of_le (Heap.lt_size e) (I.ok.cab x c hfn hc)))).trans e1⟩
    · by_cases hj : j = i
      · subst hj
        rw [hi] at e1; cases e1
        rw [List.getElem?_set_self hiσ] at e2
        cases e2
        exact ⟨u, r, .inr ⟨.inl hk, c, hc, hc'⟩⟩
      · rw [List.getElem?_set_ne (Ne.symm hj)] at e2
        obtain ⟨u', r', q⟩ := hl j y v' e1 e2 e3
        refine ⟨u', r', ?_⟩
        rcases q with q | ⟨k, c', e, z'⟩
        · exact .inl q
        · refine .inr ⟨k, c', e, z'.sameBut hs ?_⟩
          rintro rfl
          exact hj (nodup_ix hN e1 (I.ok.inj _ _ _ e hc ▸ hi))
    · by_cases hcc : c' = c
      · subst hcc; exact ⟨_, hc'⟩
      · obtain ⟨w2, z2⟩ := I.cell y c' e
        exact ⟨w2, z2.sameBut hs hcc⟩
    · obtain ⟨e, n, ne, nf, d⟩ := I.pin p hp
      refine ⟨(hs.2 p.1 ?_).trans e, n, ne, nf, d⟩
      intro q
      rw [q, hoc] at e
      have q' : oc = p.2 := Option.some.inj e
      exact d w' (by rw [← q']; exact hocd)
theorem store_ok {M : Model} {A : Around} {E : Value → Shared → Prop} {i : Nat} {x : Str} {v : V} {u : Value} {Q : Unit → Shared → Prop} (I : Inv X pins σ H s) (hN : X.N.Nodup) (hi : X.N[i]? = some x) (hx : Loc X.env.scope x) (r : RelV v u)
    (h : ∀ s', Inv X pins (σ.set i (some v)) H s' → Q () s') (hf : X.fn x = true ∨ X.env.scope.names.lookup x = some .local := by first | exact .inl rfl | exact .inr rfl | assumption) : wpAny M A (storeName X.env x u) Q E s :=
  store_ok2 I hN hi hx r (fun s' I' _ => h s' I') hf
/-- behind a call or a block, the state as it is -/
theorem Inv.call' {s' : Shared} {ch : List Addr} (I : Inv X pins σ H s) (ho : s'.os = s.os) (u : Un (frs X.stack) ch H H' s.heap s'.heap) (hok : HOk X.prog X.w H' s'.heap) (hg : AllBare s'.gens)
    (hch : ∀ b ∈ ch, (b ∈ X.ex ∨ X.s₀.heap.objs.size ≤ b) ∧ b ≠ X.env.locals ∧ (∀ x c, X.env.cells.lookup x = some c → c ≠ b) ∧ ∀ p ∈ X.pn ++ pins, p.1 ≠ b) : Inv X pins σ H' s' := by
  obtain ⟨h', g', d', t', o'⟩ := s'
  have e : o' = s.os := ho
  subst e
  exact I.call (g' := g') (t' := t') (d' := d') u hok hg hch
end

/-! ### the judgements -/
/-- an exception: its class, its own dict's address (where it has one), the abstract heap behind it -/
abbrev XK := Value → Option Addr → Hp → Prop
abbrev St := List (Option V)
abbrev VK := V → Hp → Prop
/-- an expression's reading; a test's; an argument list's -/
abbrev TE := St → Hp → VK → Prop
abbrev TT := St → Hp → (Bool → Hp → Prop) → Prop
abbrev TA := St → Hp → (List V → Hp → Prop) → Prop
/-- what is wanted behind a statement -/
structure Ends where
  nx : St → Hp → Prop
  rt : VK
  bk : St → Hp → Prop := fun _ _ => False
  ct : St → Hp → Prop := fun _ _ => False
abbrev TS := Ends → St → Hp → Prop

def EP (X : Cx) (pins : List (Addr × Obj)) (σ : St) (Q : VK) (u : Value) (s' : Shared) : Prop := ∃ v H', Inv X pins σ H' s' ∧ RelV v u ∧ Q v H'
def TP (X : Cx) (pins : List (Addr × Obj)) (σ : St) (Q : Bool → Hp → Prop) (b : Bool) (s' : Shared) : Prop := ∃ H', Inv X pins σ H' s' ∧ Q b H'
def AP (X : Cx) (pins : List (Addr × Obj)) (σ : St) (Q : List V → Hp → Prop) (us : List Value) (s' : Shared) : Prop := ∃ vs H', Inv X pins σ H' s' ∧ Vals vs us ∧ Q vs H'
def SP (X : Cx) (pins : List (Addr × Obj)) (D : Ends) (f : Flow) (s' : Shared) : Prop :=
  match f with
  | .next => ∃ σ' H', Inv X pins σ' H' s' ∧ D.nx σ' H'
  | .brk => ∃ σ' H', Inv X pins σ' H' s' ∧ D.bk σ' H'
  | .cont => ∃ σ' H', Inv X pins σ' H' s' ∧ D.ct σ' H'
  | .ret u => ∃ v σ' H', Inv X pins σ' H' s' ∧ RelV v u ∧ D.rt v H'

def PE (X : Cx) (e : Expr) (t : TE) : Prop :=
  ∀ (pins : List (Addr × Obj)) (s : Shared) (σ : St) (H : Hp) (Q : VK), Inv X pins σ H s → t σ H Q → wpAny (model X.prog X.w) X.A (eval e X.env) (EP X pins σ Q) X.xe s
def PT (X : Cx) (e : Expr) (t : TT) : Prop :=
  ∀ (pins : List (Addr × Obj)) (s : Shared) (σ : St) (H : Hp) (Q : Bool → Hp → Prop), Inv X pins σ H s → t σ H Q → wpAny (model X.prog X.w) X.A (isTrue e X.env (eval e X.env)) (TP X pins σ Q) X.xe s
/-- a test whatever its 'whole' is (and, or) -/
def PW (X : Cx) (e : Expr) (t : TT) : Prop :=
  ∀ (whole : Sem Value) (pins : List (Addr × Obj)) (s : Shared) (σ : St) (H : Hp) (Q : Bool → Hp → Prop), Inv X pins σ H s → t σ H Q → wpAny (model X.prog X.w) X.A (isTrue e X.env whole) (TP X pins σ Q) X.xe s
theorem PW.pt {X : Cx} {e : Expr} {t : TT} (h : PW X e t) : PT X e t := h _
/-- an argument list (no star), from the left -/
def PA (X : Cx) (es : List Expr) (t : TA) : Prop :=
  ∀ (pos : Pos) (pins : List (Addr × Obj)) (s : Shared) (σ : St) (H : Hp) (Q : List V → Hp → Prop), Inv X pins σ H s → t σ H Q → wpAny (model X.prog X.w) X.A (spliced (backTo pos (starEach es X.env))) (AP X pins σ Q) X.xe s
def PS (X : Cx) (st : Stmt) (t : TS) : Prop :=
  ∀ (pins : List (Addr × Obj)) (s : Shared) (σ : St) (H : Hp) (D : Ends), Inv X pins σ H s → t D σ H → wpAny (model X.prog X.w) X.A (exec st X.env) (SP X pins D) X.xe s
def PSs (X : Cx) (st : List Stmt) (t : TS) : Prop :=
  ∀ (pins : List (Addr × Obj)) (s : Shared) (σ : St) (H : Hp) (D : Ends), Inv X pins σ H s → t D σ H → wpAny (model X.prog X.w) X.A (execs st X.env) (SP X pins D) X.xe s
/-- weaken the end -/
theorem thn {α : Type} {t : Sem α} {Q Q' : α → Shared → Prop} {M : Model} {A : Around} {E : Value → Shared → Prop} {s : Shared} (h : wpAny M A t Q E s) (hQ : ∀ a s, Q a s → Q' a s) : wpAny M A t Q' E s := wpAny_mono h hQ fun _ _ x => x
end L2

namespace L2
open PySem PySem.Spec PyProof.Rows
section
variable {X : Cx}

/-- two expressions in a row -/
theorem bin {a b : Expr} {ta tb : TE} (ha : PE X a ta) (hb : PE X b tb) {pins : List (Addr × Obj)} {s : Shared} {σ : St} {H : Hp} {R : V → V → Hp → Prop} (I : Inv X pins σ H s) (h : ta σ H fun x H1 => tb σ H1 fun y H2 => R x y H2)
    {α : Type} {Q : α → Shared → Prop} {f : Value → Value → Sem α}
    (hf : ∀ v u s2 x y H2, Inv X pins σ H2 s2 → RelV x v → RelV y u → R x y H2 → wpAny (model X.prog X.w) X.A (f v u) Q X.xe s2) :
    wpAny (model X.prog X.w) X.A (eval a X.env) (fun v s₁ => wpAny (model X.prog X.w) X.A (eval b X.env) (fun u s₂ => wpAny (model X.prog X.w) X.A (f v u) Q X.xe s₂) X.xe s₁) X.xe s := by
  refine thn (ha pins s σ H _ I h) fun v s1 ⟨x, H1, I1, r1, q1⟩ => ?_
  refine thn (hb pins s1 σ H1 _ I1 q1) fun u s2 ⟨y, H2, I2, r2, q2⟩ => ?_
  exact hf v u s2 x y H2 I2 r1 r2 q2

/-! ### names and constants -/
def tVar (i : Nat) : TE := fun σ H Q => ∃ v, σ[i]? = some (some v) ∧ Q v H
def tC (v : V) : TE := fun _ H Q => Q v H
theorem pe_var {i : Nat} {x : Str} {pos : Pos} (hN : X.N[i]? = some x) (hv : Vis X.env.scope x) (hd : (x == ("__debug__" : Str)) = false := by decide) (hcd : (x == ("__classdict__" : Str)) = false := by decide) : PE X (.Name x pos) (tVar i) := by
  intro pins s σ H Q I h
  obtain ⟨v, e, h⟩ := h
  obtain ⟨m, hn, hl⟩ := I.loc
  obtain ⟨u, r, l⟩ := hl i x v hN e hv
  have fin : EP X pins σ Q u s := ⟨v, H, I, r, h⟩
  rcases l with ⟨hk, hm⟩ | ⟨hk, c, hc, hcell⟩
  · exact wpAny_Name (wpAny_loadName_local I.ok.kind hk hn hm fin) hd
  · rcases hk with hk | hk
    · exact wpAny_Name (wpAny_loadName_cell I.ok.kind hk hc hcell fin) hd
    · exact wpAny_Name (wpAny_loadName_free I.ok.kind hk hc hcell fin hcd) hd
theorem pe_int {i j pos} : PE X (.Constant (.int i) j pos) (tC (.int i)) := fun _ _ _ H _ I h => wpAny_Constant_int ⟨.int i, H, I.tok _, ⟨_, rfl⟩, h⟩
theorem pe_bl {b j pos} : PE X (.Constant (.bool b) j pos) (tC (.bl b)) := fun _ _ _ H _ I h => Constant_bool ⟨.bl b, H, I, rfl, h⟩
theorem pe_non {j pos} : PE X (.Constant .none j pos) (tC .non) := fun _ _ _ H _ I h => Constant_none ⟨.non, H, I, rfl, h⟩
theorem pe_str {x j pos} : PE X (.Constant (.str x) j pos) (tC (.str x)) := fun _ _ _ H _ I h => Calls.Constant_str ⟨.str x, H, I.tok _, ⟨_, rfl⟩, h⟩

/-- a global name of the def -/
def Gl (X : Cx) (x : Str) : Prop := X.env.kindOf x = some .globalImplicit
theorem ld_glob {E : Value → Shared → Prop} {pins : List (Addr × Obj)} {s : Shared} {σ : St} {H : Hp} {x : Str} {u : Value} {pos : Pos} {Q : Value → Shared → Prop} (I : Inv X pins σ H s) (hg : Gl X x) (hm : X.mg x = some u) (h : Q u s)
    (hd : (x == ("__debug__" : Str)) = false := by decide) : wpAny (model X.prog X.w) X.A (eval (.Name x pos) X.env) Q E s :=
  Calls.Name_function_global I.ok.kind hg (Calls.loadGlobal_global (by rw [I.ok.glob]; exact I.mod.glob.keeps I.bk) hm h) hd
theorem ld_blt {E : Value → Shared → Prop} {pins : List (Addr × Obj)} {s : Shared} {σ : St} {H : Hp} {x : Str} {u : Value} {pos : Pos} {Q : Value → Shared → Prop} (I : Inv X pins σ H s) (hg : Gl X x) (hm : X.mg x = none) (hv : bootBuiltins x = some u) (h : Q u s)
    (hn : x ≠ "__name__" := by decide) (hd : (x == ("__debug__" : Str)) = false := by decide) : wpAny (model X.prog X.w) X.A (eval (.Name x pos) X.env) Q E s := by
  obtain ⟨mb, h1, h2⟩ := I.mod.blt
  exact Calls.Name_function_global I.ok.kind hg (Calls.loadGlobal_builtin (by rw [I.ok.glob]; exact I.mod.glob.keeps I.bk) hm (by rw [I.ok.blt]; exact h1.keeps I.bk) ((h2 x hn).trans hv) h) hd
/-- a module's constant, a class, a function, as a value -/
theorem pe_glob {x : Str} {v : V} {u : Value} {pos : Pos} (hg : Gl X x) (hm : X.mg x = some u) (r : RelV v u) (hd : (x == ("__debug__" : Str)) = false := by decide) : PE X (.Name x pos) (tC v) :=
  fun _ _ _ H _ I h => ld_glob I hg hm ⟨v, H, I, r, h⟩ hd
theorem pe_bltn {x : Str} {v : V} {u : Value} {pos : Pos} (hg : Gl X x) (hm : X.mg x = none) (hv : bootBuiltins x = some u) (r : RelV v u) (hn : x ≠ "__name__" := by decide) (hd : (x == ("__debug__" : Str)) = false := by decide) : PE X (.Name x pos) (tC v) :=
  fun _ _ _ H _ I h => ld_blt I hg hm hv ⟨v, H, I, r, h⟩ hn hd

/-! ### arithmetic -/
variable {a b : Expr} {ta tb : TE} {pos : Pos}

/-! ### comparisons -/
def PC (X : Cx) (op : CmpOp) (a b : Expr) (t : TE) : Prop :=
  ∀ (pins : List (Addr × Obj)) (s : Shared) (σ : St) (H : Hp) (Q : VK), Inv X pins σ H s → t σ H Q →
    wpAny (model X.prog X.w) X.A (eval a X.env) (fun v s₁ => wpAny (model X.prog X.w) X.A (eval b X.env) (fun u s₂ => wpAny (model X.prog X.w) X.A (compareOp op v u) (EP X pins σ Q) X.xe s₂) X.xe s₁) X.xe s
/-- a comparison as a value, as a test -/
def tB (t : TE) : TT := fun σ H Q => t σ H fun x H1 => ∃ c, x = .bl c ∧ Q c H1
theorem pt_cmp {op : CmpOp} {t : TE} (h : PC X op a b t) (h1 : behindInMarks op b = false := by first | exact nobehind _ (by decide) (by decide) | rfl) : PT X (.Compare a [op] [b] pos) (tB t) := by
  intro pins s σ H Q I hw
  refine wpAny_isTrue_Compare1 (thn (h pins s σ H _ I hw) fun v s1 h1 => thn h1 fun u s2 h2 => thn h2 fun c s3 ⟨x, H1, I1, r1, q1⟩ => ?_) h1
  obtain ⟨d, rfl, q⟩ := q1
  cases r1
  exact wpAny_truthy_bool ⟨H1, I1, q⟩
/-- an expression whose value is a bool, as a test -/
theorem pt_val {e : Expr} {t : TE} (h : PE X e t) (he : ∀ whole, isTrue e X.env whole = (do let v ← whole; standAt e.pos; holding [v] (truthy v)) := by intro _; rfl) : PT X e (tB t) := by
  intro pins s σ H Q I hw
  refine isTrue_plain (thn (h pins s σ H _ I hw) fun v s1 ⟨x, H1, I1, r1, q1⟩ => ?_) (he _)
  obtain ⟨d, rfl, q⟩ := q1
  cases r1
  exact wpAny_truthy_bool ⟨H1, I1, q⟩

/-! ### and, or, not -/
variable {tA tB' : TT} {rest : List Expr}
def tAnd (t u : TT) : TT := fun σ H Q => t σ H fun c H1 => if c = true then u σ H1 Q else Q false H1
def tOr (t u : TT) : TT := fun σ H Q => t σ H fun c H1 => if c = true then Q true H1 else u σ H1 Q
def tNot (t : TT) : TT := fun σ H Q => t σ H fun c H1 => Q (!c) H1
theorem pw_and1 (ha : PT X a tA) : PW X (.BoolOp .And [a] pos) tA := by
  intro wh pins s σ H Q I h
  refine isTrue_and (thn (ha pins s σ H Q I h) fun c s1 e => ?_)
  cases c with
  | true => exact isTrue_and_nil e
  | false => exact e
theorem pw_or1 (ha : PT X a tA) : PW X (.BoolOp .Or [a] pos) tA := by
  intro wh pins s σ H Q I h
  refine isTrue_or (thn (ha pins s σ H Q I h) fun c s1 e => ?_)
  cases c with
  | false => exact isTrue_or_nil e
  | true => exact e
theorem pw_and (ha : PT X a tA) (hb : PW X (.BoolOp .And (b :: rest) pos) tB') : PW X (.BoolOp .And (a :: b :: rest) pos) (tAnd tA tB') := by
  intro wh pins s σ H Q I h
  refine isTrue_and (thn (ha pins s σ H _ I h) fun c s1 ⟨H1, I1, q1⟩ => ?_)
  cases c with
  | true => exact hb wh pins s1 σ H1 Q I1 q1
  | false => exact ⟨H1, I1, q1⟩
theorem pw_or (ha : PT X a tA) (hb : PW X (.BoolOp .Or (b :: rest) pos) tB') : PW X (.BoolOp .Or (a :: b :: rest) pos) (tOr tA tB') := by
  intro wh pins s σ H Q I h
  refine isTrue_or (thn (ha pins s σ H _ I h) fun c s1 ⟨H1, I1, q1⟩ => ?_)
  cases c with
  | true => exact ⟨H1, I1, q1⟩
  | false => exact hb wh pins s1 σ H1 Q I1 q1
theorem pt_not (ha : PT X a tA) : PT X (.UnaryOp .Not a pos) (tNot tA) := by
  intro pins s σ H Q I h
  exact isTrue_not (ha pins s σ H (fun c H1 => Q (!c) H1) I h)
/-- .. as values (bools) -/
def tAndV (ta tb : TE) : TE := fun σ H Q => ta σ H fun x H1 => ∃ c, x = .bl c ∧ if c = true then tb σ H1 Q else Q (.bl false) H1
def tNotV (ta : TE) : TE := fun σ H Q => ta σ H fun x H1 => ∃ c, x = .bl c ∧ Q (.bl (!c)) H1
theorem pe_one {op} {t : TE} (h : PE X a t) : PE X (.BoolOp op [a] pos) t := fun pins s σ H Q I hw => BoolOp_one (h pins s σ H Q I hw)
theorem pe_and (ha : PE X a ta) (hb : PE X (.BoolOp .And (b :: rest) pos) tb) : PE X (.BoolOp .And (a :: b :: rest) pos) (tAndV ta tb) := by
  intro pins s σ H Q I h
  refine BoolOp_and (thn (ha pins s σ H _ I h) fun v s1 ⟨x, H1, I1, r1, q1⟩ => ?_)
  obtain ⟨c, rfl, q1⟩ := q1
  cases r1
  refine wpAny_truthy_bool ?_
  cases c with
  | true => exact hb pins s1 σ H1 Q I1 q1
  | false => exact ⟨.bl false, H1, I1, rfl, q1⟩
theorem pe_not (ha : PE X a ta) : PE X (.UnaryOp .Not a pos) (tNotV ta) := by
  intro pins s σ H Q I h
  refine UnaryOp_ (thn (ha pins s σ H _ I h) fun v s1 ⟨x, H1, I1, r1, q1⟩ => ?_)
  obtain ⟨c, rfl, q1⟩ := q1
  cases r1
  exact not_of (wpAny_truthy_bool ⟨.bl (!c), H1, I1, rfl, q1⟩)
end
end L2

namespace L2
open PySem PySem.Spec PyProof.Rows

/-! ### a list, a tuple that is read: tracked, frozen, or an object of the module -/
def SqL (K : PySem.W.Frag) (H : Hp) (a : Addr) (xs : List V) : Prop :=
  Rd H a (.lst xs) ∨
    ∃ (o : Obj) (its : Array Value) (n : Nat), K.lookup a = some o ∧ o.cls = .type "list" ∧ o.dict = none ∧ o.data = .seq its n ∧ its.size ≤ sizeLine ∧ Vals xs its.toList
def SqT (K : PySem.W.Frag) (H : Hp) (a : Addr) (xs : List V) : Prop :=
  Rd H a (.tup xs) ∨
    ∃ (o : Obj) (its : Array Value) (n : Nat), K.lookup a = some o ∧ o.cls = .type "tuple" ∧ o.data = .seq its n ∧ its.size ≤ sizeLine ∧ Vals xs its.toList
def absV : Value → Option V
  | .none => some .non
  | .bool b => some (.bl b)
  | .int i _ => some (.int i)
  | .str x _ => some (.str x)
  | .bytes b _ => some (.byt b)
  | .float b _ => some (.flt b)
  | .ref a => some (.ref a)
  | .type n => some (.ty n)
  | _ => none
theorem RelV.abs {x : V} {u : Value} (r : RelV x u) : absV u = some x := by
  cases x with
  | non => cases r; rfl
  | bl _ => cases r; rfl
  | int _ => obtain ⟨t, rfl⟩ := r; rfl
  | str _ => obtain ⟨t, rfl⟩ := r; rfl
  | byt _ => obtain ⟨t, rfl⟩ := r; rfl
  | flt _ => obtain ⟨t, rfl⟩ := r; rfl
  | ref _ => cases r; rfl
  | ty _ => cases r; rfl
theorem RelV.inj {x y : V} {u : Value} (r : RelV x u) (q : RelV y u) : x = y := Option.some.inj (r.abs.symm.trans q.abs)
theorem Vals.inj : ∀ {xs ys : List V} {us : List Value}, Vals xs us → Vals ys us → xs = ys
  | _, _, _, .nil, .nil => rfl
  | _, _, _, .cons r t, .cons r' t' => by rw [r.inj r', Vals.inj t t']
section
variable {X : Cx} {pins : List (Addr × Obj)} {σ : St} {H : Hp} {s : Shared} {a : Addr} {xs ys : List V}
theorem SqL.of {K : PySem.W.Frag} (h : H a = some (.lst xs)) : SqL K H a xs := .inl (.inl h)
theorem SqT.of {K : PySem.W.Frag} (h : H a = some (.tup xs)) : SqT K H a xs := .inl (.inl h)
theorem Inv.list (I : Inv X pins σ H s) (h : SqL X.K H a xs) : ∃ its : List Value, Vals xs its ∧ PlainL s.heap a its.toArray ∧ xs.length ≤ sizeLine := by
  rcases h with h | ⟨o, its, n, hk, hc, hd, hs, hz, r⟩
  · obtain ⟨z, its, n, r, e⟩ := h.ok I.hok
    exact ⟨its, r, ⟨_, n, e, rfl, rfl, rfl⟩, z⟩
  · refine ⟨its.toList, r, ⟨o, n, I.kIn a o hk, hc, hd, by simpa using hs⟩, ?_⟩
    have e := r.length
    simp only [Array.length_toList] at e
    omega
theorem Inv.tuple (I : Inv X pins σ H s) (h : SqT X.K H a xs) : ∃ its : List Value, Vals xs its ∧ IsTup s.heap a its.toArray ∧ xs.length ≤ sizeLine := by
  rcases h with h | ⟨o, its, n, hk, hc, hs, hz, r⟩
  · obtain ⟨z, its, r, p⟩ := h.ok I.hok
    exact ⟨its, r, p, z⟩
  · refine ⟨its.toList, r, ⟨o, I.kIn a o hk, hc, n, by simpa using hs⟩, ?_⟩
    have e := r.length
    simp only [Array.length_toList] at e
    omega
theorem Inv.list_inj (I : Inv X pins σ H s) (h : SqL X.K H a xs) (h' : SqL X.K H a ys) : xs = ys := by
  obtain ⟨its, r, ⟨o, n, e, _, _, d⟩, _⟩ := I.list h
  obtain ⟨its', r', ⟨o', n', e', _, _, d'⟩, _⟩ := I.list h'
  rw [e] at e'; cases e'
  rw [d] at d'
  injection d' with d1 _
  have : its = its' := by simpa using congrArg Array.toList d1
  subst this
  exact r.inj r'
end

/-! ### another wish about exceptions -/
abbrev Cx.wish (X : Cx) (E : Value → Shared → Prop) : Cx := { X with xe := E }
/-- no exception leaves -/
abbrev Cx.nox (X : Cx) : Cx := X.wish fun _ _ => False
theorem Cx.Ok.wish {X : Cx} (ok : X.Ok) (E : Value → Shared → Prop) : (X.wish E).Ok :=
  ⟨ok.mod, ok.kind, ok.glob, ok.blt, ok.above, ok.inj, ok.has, ok.cab, ok.hd, ok.frames, ok.stk, ok.exf, ok.bs, ok.bsz, ok.noex, ok.exfs, ok.funs, ok.frf⟩
theorem Cx.Ok.unwish {X : Cx} {E : Value → Shared → Prop} (ok : (X.wish E).Ok) : X.Ok :=
  ⟨ok.mod, ok.kind, ok.glob, ok.blt, ok.above, ok.inj, ok.has, ok.cab, ok.hd, ok.frames, ok.stk, ok.exf, ok.bs, ok.bsz, ok.noex, ok.exfs, ok.funs, ok.frf⟩
section
variable {X : Cx} {pins : List (Addr × Obj)} {σ : St} {H : Hp} {s : Shared} {E : Value → Shared → Prop}
theorem Inv.wish (I : Inv X pins σ H s) (E : Value → Shared → Prop) : Inv (X.wish E) pins σ H s := ⟨I.ok.wish E, I.os, I.bare, I.base, I.loc, I.cell, I.free, I.freeC, I.pin, I.hok, I.len⟩
theorem Inv.unwish (I : Inv (X.wish E) pins σ H s) : Inv X pins σ H s := ⟨I.ok.unwish, I.os, I.bare, I.base, I.loc, I.cell, I.free, I.freeC, I.pin, I.hok, I.len⟩
theorem SP.unwish {D : Ends} {f : Flow} {s' : Shared} (h : SP (X.wish E) pins D f s') : SP X pins D f s' := by
  cases f with
  | next => obtain ⟨σ', H', I, q⟩ := h; exact ⟨σ', H', I.unwish, q⟩
  | brk => obtain ⟨σ', H', I, q⟩ := h; exact ⟨σ', H', I.unwish, q⟩
  | cont => obtain ⟨σ', H', I, q⟩ := h; exact ⟨σ', H', I.unwish, q⟩
  | ret u => obtain ⟨v, σ', H', I, r, q⟩ := h; exact ⟨v, σ', H', I.unwish, r, q⟩
theorem PSs.nox {st : List Stmt} {t : TS} (h : PSs X.nox st t) : PSs X st t := fun pins s σ H D I hw =>
  wpAny_mono (h pins s σ H D (I.wish _) hw) (fun _ _ q => q.unwish) fun _ _ z => False.elim z
end

/-! ### blocks and small statements -/
section
variable {X : Cx} {st : Stmt} {rest : List Stmt} {t u : TS} {e : Expr} {te : TE} {pos : Pos}
def tNext : TS := fun D σ H => D.nx σ H
def tSeq (t u : TS) : TS := fun D σ H => t { D with nx := u D } σ H
theorem pss_nil : PSs X [] tNext := fun _ _ σ H _ I h => wpAny_execs_nil ⟨σ, H, I, h⟩
theorem pss_cons (h1 : PS X st t) (h2 : PSs X rest u) : PSs X (st :: rest) (tSeq t u) := by
  intro pins s σ H D I h
  refine wpAny_execs_cons (thn (h1 pins s σ H { D with nx := u D } I h) fun f s1 q => ?_)
  cases f with
  | next =>
    obtain ⟨σ', H', I', q⟩ := q
    exact h2 pins s1 σ' H' D I' q
  | ret v => exact q
  | brk => exact q
  | cont => exact q
theorem pss_one (h1 : PS X st t) : PSs X [st] t := by
  intro pins s σ H D I h
  refine wpAny_execs_cons (thn (h1 pins s σ H D I h) fun f s1 q => ?_)
  cases f with
  | next => exact wpAny_execs_nil q
  | ret v => exact q
  | brk => exact q
  | cont => exact q
/-- in a def's body nothing is shown -/
theorem Inv.quiet {pins : List (Addr × Obj)} {σ : St} {H : Hp} {s : Shared} (I : Inv X pins σ H s) : interactive X.env = false := by simp [interactive, I.ok.kind]
/-- an expression whose value is dropped -/
def tDrop (te : TE) : TS := fun D σ H => te σ H fun _ H1 => D.nx σ H1
theorem ps_expr (he : PE X e te) (hs : swapsWith e none pos.line X.env = pure false := by rfl) : PS X (.Expr e pos) (tDrop te) := by
  intro pins s σ H D I h
  exact wpAny_Expr_any (thn (he pins s σ H _ I h) fun v s1 ⟨x, H1, I1, r1, q1⟩ => ⟨σ, H1, I1, q1⟩) I.quiet hs
def tRet (te : TE) : TS := fun D σ H => te σ H D.rt
theorem ps_ret (he : PE X e te) : PS X (.Return (some e) pos) (tRet te) := by
  intro pins s σ H D I h
  exact wpAny_Return_some (thn (he pins s σ H _ I h) fun v s1 ⟨x, H1, I1, r1, q1⟩ => ⟨x, σ, H1, I1, r1, q1⟩)
def tIfS (c : TT) (t u : TS) : TS := fun D σ H => c σ H fun b H1 => if b = true then t D σ H1 else u D σ H1
theorem ps_if {c : Expr} {a b : List Stmt} {tc : TT} (hc : PT X c tc) (ha : PSs X a t) (hb : PSs X b u) : PS X (.If c a b pos) (tIfS tc t u) := by
  intro pins s σ H D I h
  refine wpAny_If (thn (hc pins s σ H _ I h) fun d s1 ⟨H1, I1, q1⟩ => ?_)
  cases d with
  | true => exact ha pins s1 σ H1 D I1 q1
  | false => exact hb pins s1 σ H1 D I1 q1
/-- code that the proof never comes to -/
def tNever : TS := fun _ _ _ => False
theorem ps_never : PS X st tNever := fun _ _ _ _ _ _ h => h.elim
end

/-! ### targets -/
abbrev TG := V → St → Hp → (St → Hp → Prop) → Prop
abbrev TGs := List V → St → Hp → (St → Hp → Prop) → Prop
def PG (X : Cx) (target : Expr) (t : TG) : Prop :=
  ∀ (pins : List (Addr × Obj)) (s : Shared) (σ : St) (H : Hp) (v : V) (u : Value) (Q : St → Hp → Prop), Inv X pins σ H s → RelV v u → t v σ H Q →
    wpAny (model X.prog X.w) X.A (assign target X.env u) (fun _ s' => ∃ σ' H', Inv X pins σ' H' s' ∧ Q σ' H') X.xe s
/-- several targets, one after another -/
def PGs (X : Cx) (ts : List Expr) (t : TGs) : Prop :=
  ∀ (pins : List (Addr × Obj)) (s : Shared) (σ : St) (H : Hp) (vs : List V) (us : List Value) (Q : St → Hp → Prop), Inv X pins σ H s → Vals vs us → t vs σ H Q →
    wpAny (model X.prog X.w) X.A (assignInOrder ((assignEach ts X.env).map (·.2)) us) (fun _ s' => ∃ σ' H', Inv X pins σ' H' s' ∧ Q σ' H') X.xe s
/-- o[i] = v, by values -/
abbrev TSet := V → V → V → Hp → (Hp → Prop) → Prop
def PSet (X : Cx) (t : TSet) : Prop :=
  ∀ (pins : List (Addr × Obj)) (s : Shared) (σ : St) (H : Hp) (o i v : V) (ov iv u : Value) (Q : Hp → Prop), Inv X pins σ H s → RelV o ov → RelV i iv → RelV v u → t o i v H Q →
    wpAny (model X.prog X.w) X.A (setItem ov iv u) (fun _ s' => ∃ H', Inv X pins σ H' s' ∧ Q H') X.xe s
section
variable {X : Cx} {pos : Pos}
def gName (i : Nat) : TG := fun v σ H Q => Q (σ.set i (some v)) H
theorem pg_name {i : Nat} {x : Str} (hN : X.N.Nodup) (hi : X.N[i]? = some x) (hx : Loc X.env.scope x) (hf : X.fn x = true ∨ X.env.scope.names.lookup x = some .local := by first | exact .inl rfl | exact .inr rfl | assumption) : PG X (.Name x pos) (gName i) := by
  intro pins s σ H v u Q I r h
  exact wpAny_assign_Name (store_ok I hN hi hx r (fun s' I' => ⟨_, H, I', h⟩) hf)
def gNil : TGs := fun vs σ H Q => vs = [] ∧ Q σ H
def gCons (t : TG) (u : TGs) : TGs := fun vs σ H Q => ∃ v r, vs = v :: r ∧ t v σ H fun σ' H' => u r σ' H' Q
theorem pgs_nil : PGs X [] gNil := by
  intro pins s σ H vs us Q I r h
  obtain ⟨e, h⟩ := h
  subst e
  cases r
  exact assignInOrder_nil ⟨σ, H, I, h⟩
theorem pgs_cons {e : Expr} {es : List Expr} {t : TG} {u : TGs} (h1 : PG X e t) (h2 : PGs X es u)
    (hs : (assignEach (e :: es) X.env).map (·.2) = assign e X.env :: (assignEach es X.env).map (·.2) := by rfl) : PGs X (e :: es) (gCons t u) := by
  intro pins s σ H vs us Q I r h
  obtain ⟨v, vr, e1, h⟩ := h
  subst e1
  cases r with
  | cons r rr =>
    rw [hs]
    refine assignInOrder_cons (thn (h1 pins s σ H _ _ _ I r h) fun _ s1 ⟨σ1, H1, I1, q1⟩ => ?_)
    exact h2 pins s1 σ1 H1 _ _ Q I1 rr q1
/-- (a, b, ..) = a tuple of that length -/
def gTup (K : PySem.W.Frag) (n : Nat) (t : TGs) : TG := fun v σ H Q => ∃ a xs, v = .ref a ∧ SqT K H a xs ∧ xs.length = n ∧ t xs σ H Q
theorem pg_tup {es : List Expr} {k : Nat} {t : TGs} {n : Nat} (hc : X.calm = true) (h : PGs X es t)
    (hn : (assignEach es X.env).length = n := by rfl) (hst : (assignEach es X.env).findIdx? (·.1) = none := by rfl) : PG X (.Tuple es k pos) (gTup X.K n t) := by
  intro pins s σ H v u Q I r hw
  obtain ⟨a, xs, e1, hq, hl, hw⟩ := hw
  subst e1
  cases r
  obtain ⟨its, rv, ht, hz⟩ := I.tuple hq
  refine assign_Tuple_tuple (I.ok.hd hc) ht (by simp [hn, ← hl, rv.length]) hst fun h' hx => ?_
  have I1 : Inv X pins σ H { s with heap := h' } := I.kept (t' := s.toks) fun b o e => hx b o (Nat.ne_of_lt (Heap.lt_size e)) e
  exact h pins _ σ H xs _ Q I1 (by simpa using rv) hw
/-- o[i] = .. -/
def gSub (to ti : TE) (t : TSet) : TG := fun v σ H Q => to σ H fun o H1 => ti σ H1 fun i H2 => t o i v H2 fun H3 => Q σ H3
theorem pg_sub {o i : Expr} {to ti : TE} {t : TSet} (ho : PE X o to) (hi : PE X i ti) (hs : PSet X t)
    (ha : ∀ v, assign (.Subscript o i pos) X.env v = (do
      let ov ← holding [v] (eval o X.env)
      let iv ← holding [v, ov] (eval i X.env)
      standAt pos
      holding [v, ov, iv] (setItem ov iv v)
      release [v, ov, iv] []) := by intro _; rfl) : PG X (.Subscript o i pos) (gSub to ti t) := by
  intro pins s σ H v u Q I r h
  rw [ha]
  refine wpAny_bind (wpAny_holding (thn (ho pins s σ H _ I h) fun ov s1 ⟨x, H1, I1, r1, q1⟩ => ?_))
  refine wpAny_bind (wpAny_holding (thn (hi pins s1 σ H1 _ I1 q1) fun iv s2 ⟨y, H2, I2, r2, q2⟩ => ?_))
  refine wpAny_bind (wpAny_standAt (wpAny_bind (wpAny_holding (thn (hs pins s2 σ H2 x y v ov iv u _ I2 r1 r2 r q2) fun _ s3 ⟨H3, I3, q3⟩ => ?_))))
  exact wpAny_release ⟨σ, H3, I3, q3⟩
/-- target = value -/
def tAsg (te : TE) (g : TG) : TS := fun D σ H => te σ H fun x H1 => g x σ H1 D.nx
theorem ps_asg {tg e : Expr} {te : TE} {g : TG} (he : PE X e te) (hg : PG X tg g) (hs : swapsWithSole [tg] e pos.line X.env = pure false := by rfl) (hw : swappedStores [tg] e X.env = pure none := by rfl)
    (h1 : (assignEach [tg] X.env).map (·.2) = [assign tg X.env] := by rfl) : PS X (.Assign [tg] e pos) (tAsg te g) := by
  intro pins s σ H D I h
  refine wpAny_Assign_stores (thn (he pins s σ H _ I h) fun v s1 ⟨x, H1, I1, r1, q1⟩ => ?_) hs hw
  rw [h1]
  exact thn (hg pins s1 σ H1 x v _ I1 r1 q1) fun _ s2 q => q
/-- name = value -/
theorem ps_set {i : Nat} {x : Str} {e : Expr} {te : TE} {pos' : Pos} (hN : X.N.Nodup) (hi : X.N[i]? = some x) (hx : Loc X.env.scope x) (he : PE X e te) (hs : swapsWith e (some (.Name x pos')) pos.line X.env = pure false := by rfl) (hf : X.fn x = true ∨ X.env.scope.names.lookup x = some .local := by first | exact .inl rfl | exact .inr rfl | assumption) :
    PS X (.Assign [.Name x pos'] e pos) (tAsg te (gName i)) := by
  intro pins s σ H D I h
  refine wpAny_Assign_Name (thn (he pins s σ H _ I h) fun v s1 ⟨y, H1, I1, r1, q1⟩ => ?_) hs
  exact store_ok I1 hN hi hx r1 (fun s2 I2 => ⟨_, H1, I2, q1⟩) hf
end

/-! ### while -/
section
variable {X : Cx} {pos : Pos}
/-- the invariant W with its measure -/
def tWhile (c : TT) (tb : TS) : TS := fun D σ H => ∃ W : Nat → St → Hp → Prop, (∃ m, W m σ H) ∧ ∀ m σ H, W m σ H →
  c σ H fun b H1 => if b = true then ∃ N : St → Hp → Prop, (∀ σ' H', N σ' H' → ∃ m', m' < m ∧ W m' σ' H') ∧ tb { D with nx := N, ct := N, bk := D.nx } σ H1 else D.nx σ H1
theorem ps_while {c : Expr} {body : List Stmt} {tc : TT} {tb : TS} (hp : PassesOwn (model X.prog X.w) X.A X.env X.xe) (hc : PT X c tc) (hb : PSs X body tb) : PS X (.While c body [] pos) (tWhile tc tb) := by
  intro pins s σ H D I h
  obtain ⟨W, ⟨m0, w0⟩, turn⟩ := h
  refine wpAny_While (codeAny_whileLoop (fun n s' => ∃ σ' H', Inv X pins σ' H' s' ∧ W n σ' H') ?_ m0 ⟨σ, H, I, w0⟩)
  rintro n s1 ⟨σ1, H1, I1, w1⟩
  refine wpAny_passesOwn hp (thn (hc pins s1 σ1 H1 _ I1 (turn n σ1 H1 w1)) fun b s2 ⟨H2, I2, q2⟩ => ?_)
  cases b with
  | true =>
    obtain ⟨N, hN, q2⟩ := q2
    rw [if_pos rfl]
    refine wpAny_passesOwn hp (thn (hb pins s2 σ1 H2 _ I2 q2) fun f s3 q3 => ?_)
    cases f with
    | next =>
      obtain ⟨σ3, H3, I3, n3⟩ := q3
      obtain ⟨m', hm, w3⟩ := hN σ3 H3 n3
      exact ⟨m', hm, σ3, H3, I3, w3⟩
    | cont =>
      obtain ⟨σ3, H3, I3, n3⟩ := q3
      obtain ⟨m', hm, w3⟩ := hN σ3 H3 n3
      exact ⟨m', hm, σ3, H3, I3, w3⟩
    | brk => exact q3
    | ret v => exact q3
  | false =>
    rw [if_neg Bool.false_ne_true]
    exact wpAny_execs_nil ⟨σ1, H2, I2, q2⟩
end

/-! ### what a loop or a comprehension walks -/
/-- at turn i: it yields x (the heap may grow), or it stops -/
structure It where
  go : Nat → Hp → Prop
  yld : Nat → Hp → V → Hp → Prop
  stop : Nat → Hp → Prop
/-- the iterator's own objects may turn: they are not the frame's, not pinned, younger than the entry (or a comprehension's own) -/
def FpOk (X : Cx) (pins : List (Addr × Obj)) (H : Hp) (b : Addr) : Prop :=
  H b = none ∧ b ≠ X.env.locals ∧ b ∉ X.fs ∧ (b ∈ X.ex ∨ X.s₀.heap.objs.size ≤ b) ∧ (∀ x c, X.env.cells.lookup x = some c → c ≠ b) ∧ ∀ p ∈ X.pn ++ pins, p.1 ≠ b
theorem Inv.fpOk {X : Cx} {pins : List (Addr × Obj)} {σ : St} {H H' : Hp} {s : Shared} {b : Addr} (I : Inv X pins σ H s) (hb : s.heap.objs.size ≤ b) (hn : H' b = none) : FpOk X pins H' b := by
  refine ⟨hn, Nat.ne_of_gt (Nat.lt_of_lt_of_le I.lt hb), I.nofs hb, .inr (Nat.le_trans I.sz hb), fun x c e z => ?_, fun p hp z => ?_⟩
  · obtain ⟨v, q⟩ := I.cell x c e
    exact absurd (Nat.lt_of_lt_of_le q.lt (by rw [z]; exact hb)) (Nat.lt_irrefl _)
  · exact absurd (Nat.lt_of_lt_of_le (Heap.lt_size (I.pin p hp).1) (by rw [z]; exact hb)) (Nat.lt_irrefl _)
structure Turn (P : Program) (w : World) (K : PySem.W.Frag) (tg : Expr) (J : It) (fp : List Addr) (it : Addr) (tn : Nat → Heap → Prop) : Prop where
  mem : it ∈ fp
  obj : ∀ i h, tn i h → ∀ b ∈ fp, ∃ o, h.get? b = some o ∧ ∀ v, o.data ≠ .cell v
  keep : ∀ i h h', tn i h → (∀ b ∈ fp, ∀ o, h.get? b = some o → h'.get? b = some o) → tn i h'
  item : ∀ (X : Cx), X.prog = P → X.w = w → X.K = K → X.calm = true → ∀ (i : Nat) (pins : List (Addr × Obj)) (s : Shared) (σ : St) (H : Hp) (E : Value → Shared → Prop), Inv X pins σ H s → (∀ b ∈ fp, FpOk X pins H b) → tn i s.heap → J.go i H →
    wpAny (model P w) X.A (pyNext (.ref it)) (fun r s1 => ∃ u, r = some u ∧
      wpAny (model P w) X.A (letOwnedTupleGo tg (.ref it) u) (fun _ s2 => ∃ x H', Inv X pins σ H' s2 ∧ RelV x u ∧ J.yld i H x H' ∧ tn (i + 1) s2.heap ∧ ∀ b ∈ fp, H' b = none) E s1) E s
  done : ∀ (X : Cx), X.prog = P → X.w = w → X.K = K → X.calm = true → ∀ (i : Nat) (pins : List (Addr × Obj)) (s : Shared) (σ : St) (H : Hp) (E : Value → Shared → Prop), Inv X pins σ H s → (∀ b ∈ fp, FpOk X pins H b) → tn i s.heap → J.stop i H →
    wpAny (model P w) X.A (pyNext (.ref it)) (fun r s1 => r = none ∧ Inv X pins σ H s1) E s
  self : ∀ (A : Around) (i : Nat) (s : Shared) (Q : Value → Shared → Prop) (E : Value → Shared → Prop), tn i s.heap → Q (.ref it) s → wpAny (model P w) A (pyIter (.ref it)) Q E s
abbrev TI := St → Hp → (It → Hp → Prop) → Prop
/-- an iterator has come -/
def PIE (X : Cx) (pins : List (Addr × Obj)) (σ : St) (tg : Expr) (R : It → Hp → Prop) (itv : Value) (s2 : Shared) : Prop :=
  ∃ (it : Addr) (fp : List Addr) (tn : Nat → Heap → Prop) (J : It) (H' : Hp), itv = .ref it ∧ Inv X pins σ H' s2 ∧ Turn X.prog X.w X.K tg J fp it tn ∧ tn 0 s2.heap ∧ (∀ b ∈ fp, FpOk X pins H' b) ∧ R J H'
def PI (X : Cx) (tg iter : Expr) (wi : TI) : Prop :=
  ∀ (pins : List (Addr × Obj)) (s : Shared) (σ : St) (H : Hp) (R : It → Hp → Prop), Inv X pins σ H s → wi σ H R →
    wpAny (model X.prog X.w) X.A (eval iter X.env) (fun v s1 => wpAny (model X.prog X.w) X.A (pyIter v) (PIE X pins σ tg R) X.xe s1) X.xe s

/-- the step ahead of the store is nothing for an iterator that keeps no tuple -/
theorem go_of {M : Model} {A : Around} {E : Value → Shared → Prop} {s : Shared} {tg : Expr} {it : Addr} {u : Value} {o : Obj} {n : String} {vs : Array Value} {Q : Unit → Shared → Prop} (ho : s.heap.get? it = some o) (hc : o.cls = .type n) (hd : o.data = .fields vs)
    (hn : ["enumerate", "zip", "dict_itemiterator", "dict_reverseitemiterator", "odict_iterator", "itertools.zip_longest", "itertools.pairwise"].contains n = false) (hQ : Q () s) : wpAny M A (letOwnedTupleGo tg (.ref it) u) Q E s := by
  unfold letOwnedTupleGo
  cases tg <;> first
    | exact wpAny_pure hQ
    | (cases u <;> first
        | exact wpAny_pure hQ
        | (refine wpAny_bind (wpAny_load ho ?_)
           rw [hc, hd]
           show wpAny M A (if (["enumerate", "zip", "dict_itemiterator", "dict_reverseitemiterator", "odict_iterator", "itertools.zip_longest", "itertools.pairwise"].contains n && vs[0]? == some (rawInt _)) = true then _ else _) Q E s
           rw [if_neg (by intro h; rw [hn, Bool.false_and] at h; cases h)]
           exact wpAny_pure hQ))

/-- the list at a, as it stands at each turn (a loop may append to it) -/
def Itl (K : PySem.W.Frag) (a : Addr) : It :=
  ⟨fun i H => ∃ xs x, SqL K H a xs ∧ xs[i]? = some x, fun i H x H' => H' = H ∧ ∀ xs, SqL K H a xs → xs[i]? = some x, fun i H => ∃ xs, SqL K H a xs ∧ xs.length ≤ i⟩
/-- lo, lo + 1, .. (n of them) -/
def Itr (lo : Int) (n : Nat) : It := ⟨fun i _ => i < n, fun i H x H' => H' = H ∧ x = .int (lo + i), fun i _ => n ≤ i⟩
theorem turn_list {P : Program} {w : World} {K : PySem.W.Frag} {tg : Expr} (a it : Addr) : Turn P w K tg (Itl K a) [it] it (fun i h => h.IsListIter it a i) where
  mem := by simp
  obj := fun i h st b hb => by
    have e : b = it := by simpa using hb
    subst e
    obtain ⟨o, e, c, d⟩ := st
    exact ⟨o, e, fun v z => by rw [d] at z; cases z⟩
  keep := fun i h h' st k => st.at fun o e => k it (by simp) o e
  item := by
    intro X hP hw hK hc i pins s σ H E I hf st hg
    subst hP hw hK
    obtain ⟨xs, x, hq, hx⟩ := hg
    obtain ⟨its, rv, p, hz⟩ := I.list hq
    obtain ⟨u, hu, ru⟩ := rv.get hx
    obtain ⟨f0, f1, f2, f3, f4, f5⟩ := hf it (by simp)
    refine wpAny_pyNext_list_item st p.isList (x := u) (by simpa using hu) fun h' st' sb => ?_
    have I1 : Inv X pins σ H { s with heap := h' } := I.turned (t' := s.toks) (fun b o hb e => (sb.2 b hb).trans e) f0 f1 f3 f4 f5
    obtain ⟨o, e, c, d⟩ := id st'
    exact ⟨u, rfl, go_of (s := { s with heap := h' }) e c d (by decide) ⟨x, H, I1, ru, ⟨rfl, fun ys hy => by rw [I.list_inj hy hq]; exact hx⟩, st', fun b hb => (hf b hb).1⟩⟩
  done := by
    intro X hP hw hK hc i pins s σ H E I hf st hg
    subst hP hw hK
    obtain ⟨xs, hq, hx⟩ := hg
    obtain ⟨its, rv, p, hz⟩ := I.list hq
    obtain ⟨f0, f1, f2, f3, f4, f5⟩ := hf it (by simp)
    have hl := rv.length
    exact wpAny_pyNext_list_end (I.ok.hd hc) st p.isList (by simp; omega) fun h' eb => ⟨rfl, I.turned (t' := s.toks) (fun b o hb e => eb b o hb e) f0 f1 f3 f4 f5⟩
  self := fun _ _ _ _ _ st h => wpAny_pyIter_listiter st h
theorem turn_range {P : Program} {w : World} {K : PySem.W.Frag} {tg : Expr} (it : Addr) (lo : Int) (n : Nat) : Turn P w K tg (Itr lo n) [it] it (fun i h => IsRangeIter h it (lo + (i : Nat) * 1) ((n : Int) - (i : Nat)) 1) where
  mem := by simp
  obj := fun i h st b hb => by
    have e : b = it := by simpa using hb
    subst e
    exact ⟨_, st, fun v z => by
      have z' : Data.fields _ = Data.cell v := z
      cases z'⟩
  keep := fun i h h' st k => k it (by simp) _ st
  item := by
    intro X hP hw hK hc i pins s σ H E I hf st hg
    subst hP hw hK
    obtain ⟨f0, f1, f2, f3, f4, f5⟩ := hf it (by simp)
    have W := Walks.range (prog := X.prog) (w := X.w) (I.ok.hd hc) it lo 1 n
    refine W.item i s _ _ hg st fun v h' tk hv st' kk => ?_
    obtain ⟨t, rfl⟩ := hv
    have I1 : Inv X pins σ H { s with heap := h', toks := tk } := I.turned (fun b o hb e => kk b o (by simpa using hb) e) f0 f1 f3 f4 f5
    refine ⟨_, rfl, go_of (s := { s with heap := h', toks := tk }) (n := "range_iterator") st' rfl rfl (by decide) ⟨.int (lo + i), H, I1, ⟨t, ?_⟩, ⟨rfl, rfl⟩, st', fun b hb => (hf b hb).1⟩⟩
    rw [Int.mul_one]
  done := by
    intro X hP hw hK hc i pins s σ H E I hf st hg
    subst hP hw hK
    obtain ⟨f0, f1, f2, f3, f4, f5⟩ := hf it (by simp)
    exact wpAny_pyNext_range_end (I.ok.hd hc) st (by have : n ≤ i := hg; omega) fun h' eb => ⟨rfl, I.turned (t' := s.toks) (fun b o hb e => eb b o hb e) f0 f1 f3 f4 f5⟩
  self := fun _ _ _ _ _ st h => wpAny_pyIter_rangeiter st h
end L2

namespace L2
open PySem PySem.Spec PyProof.Rows
section
variable {X : Cx} {tg : Expr}
def iList (K : PySem.W.Frag) (tl : TE) : TI := fun σ H R => tl σ H fun x H1 => ∃ a, x = .ref a ∧ (∃ xs, SqL K H1 a xs) ∧ R (Itl K a) H1
theorem pi_list {l : Expr} {tl : TE} (hl : PE X l tl) : PI X tg l (iList X.K tl) := by
  intro pins s σ H R I h
  refine thn (hl pins s σ H _ I h) fun v s1 ⟨x, H1, I1, r1, q1⟩ => ?_
  obtain ⟨a, e, ⟨xs, hq⟩, q⟩ := q1
  subst e
  cases r1
  obtain ⟨its, rv, p, hz⟩ := I1.list hq
  refine wpAny_pyIter_list p.isList ?_
  refine ⟨s1.heap.objs.size, [s1.heap.objs.size], _, _, H1, rfl, I1.kept (t' := s1.toks) fun b o e => Heap.get?_push_of_some _ e, turn_list a _, ⟨_, Heap.get?_push_size _ rfl, rfl, rfl⟩, fun b hb => ?_, q⟩
  have e : b = s1.heap.objs.size := by simpa using hb
  subst e
  exact I1.fpOk (Nat.le_refl _) (I1.hok.fresh (Nat.le_refl _))
/-- a range object just made, walked -/
theorem range_it {pins : List (Addr × Obj)} {σ : St} {H : Hp} {s : Shared} {R : It → Hp → Prop} {E : Value → Shared → Prop} {lo hi : Int} {t u v : Tok} {tk : Nat} (I : Inv X pins σ H s) (h1 : -(2 ^ 62) ≤ lo) (h2 : lo < 2 ^ 62) (h3 : -(2 ^ 62) ≤ hi) (h4 : hi < 2 ^ 62)
    (q : R (Itr lo (hi - lo).toNat) H) : wpAny (model X.prog X.w) X.A (pyIter (.ref s.heap.objs.size)) (PIE X pins σ tg R) E { s with heap := s.heap.push { cls := .type "range", data := .fields #[.int lo t, .int hi u, .int 1 v] }, toks := tk } := by
  refine wpAny_pyIter_range (IsRange.new ..) (small_one h1 h2 h3 h4) ?_
  have I1 : Inv X pins σ H { s with heap := s.heap.push { cls := .type "range", data := .fields #[.int lo t, .int hi u, .int 1 v] }, toks := tk } := I.kept fun b o e => Heap.get?_push_of_some _ e
  refine ⟨(s.heap.push { cls := .type "range", data := .fields #[.int lo t, .int hi u, .int 1 v] }).objs.size, [(s.heap.push { cls := .type "range", data := .fields #[.int lo t, .int hi u, .int 1 v] }).objs.size], _, _, H, rfl,
    I1.kept (t' := tk) fun b o e => Heap.get?_push_of_some _ e, turn_range _ lo (hi - lo).toNat, ?_, fun b hb => ?_, q⟩
  · have e1 : lo + ((0 : Nat) : Int) * 1 = lo := by simp
    have e2 : (((hi - lo).toNat : Nat) : Int) - ((0 : Nat) : Int) = Builtin.Range.rangeSize lo hi 1 := by rw [rangeSize_one]; split <;> omega
    show IsRangeIter _ _ (lo + ((0 : Nat) : Int) * 1) ((((hi - lo).toNat : Nat) : Int) - ((0 : Nat) : Int)) 1
    rw [e1, e2]
    exact Heap.get?_push_size _ rfl
  · have e : b = (s.heap.push { cls := .type "range", data := .fields #[.int lo t, .int hi u, .int 1 v] }).objs.size := by simpa using hb
    subst e
    exact I1.fpOk (Nat.le_refl _) (I1.hok.fresh (Nat.le_refl _))
def iRng1 (ta : TA) : TI := fun σ H R => ta σ H fun vs H1 => ∃ j : Int, vs = [.int j] ∧ -(2 ^ 62) ≤ j ∧ j < 2 ^ 62 ∧ R (Itr 0 j.toNat) H1
def iRng2 (ta : TA) : TI := fun σ H R => ta σ H fun vs H1 => ∃ i j : Int, vs = [.int i, .int j] ∧ (-(2 ^ 62) ≤ i ∧ i < 2 ^ 62 ∧ -(2 ^ 62) ≤ j ∧ j < 2 ^ 62) ∧ R (Itr i (j - i).toNat) H1
theorem pi_range1 {a : Expr} {ta : TA} {p pos : Pos} (hg : Gl X "range") (hm : X.mg "range" = none) (ha : PA X [a] ta) (hs : starEach [a] X.env = [(false, eval a X.env)] := by rfl) : PI X tg (.Call (.Name "range" p) [a] [] pos) (iRng1 ta) := by
  intro pins s σ H R I h
  refine Call_ (ld_blt I hg hm boot_range (PyProof.Rows.callWith_type1 (thn (ha pos pins s σ H _ I h) fun us s1 ⟨vs, H1, I1, r1, q1⟩ => ?_) hs rfl))
  obtain ⟨j, e, q1, q2, q⟩ := q1
  subst e
  cases r1 with
  | cons r rr =>
    cases rr
    obtain ⟨t, rfl⟩ := r
    exact call_range_1 (range_it I1 (by omega) (by omega) q1 q2 (by simpa using q))
theorem pi_range2 {a b : Expr} {ta : TA} {p pos : Pos} (hg : Gl X "range") (hm : X.mg "range" = none) (ha : PA X [a, b] ta) (hs : starEach [a, b] X.env = [(false, eval a X.env), (false, eval b X.env)] := by rfl) (hs2 : starEach [b] X.env = [(false, eval b X.env)] := by rfl) :
    PI X tg (.Call (.Name "range" p) [a, b] [] pos) (iRng2 ta) := by
  intro pins s σ H R I h
  refine Call_ (ld_blt I hg hm boot_range (PyProof.Rows.callWith_type1 (thn (ha pos pins s σ H _ I h) fun us s1 ⟨vs, H1, I1, r1, q1⟩ => ?_) (by rw [hs, hs2]) (by rw [hs2]; rfl)))
  obtain ⟨i, j, e, ⟨q1, q2, q3, q4⟩, q⟩ := q1
  subst e
  cases r1 with
  | cons r rr =>
    cases rr with
    | cons r' rr =>
      cases rr
      obtain ⟨t, rfl⟩ := r
      obtain ⟨t', rfl⟩ := r'
      exact call_range_2 (range_it I1 q1 q2 q3 q4 q)

/-! ### for -/
/-- W: the invariant by the turn and a measure; N: what the body is to reach -/
def tFor (wi : TI) (g : TG) (tb : TS) : TS := fun D σ H => wi σ H fun J H1 => ∃ W : Nat → Nat → St → Hp → Prop, (∃ m, W 0 m σ H1) ∧ ∀ i m σ H, W i m σ H →
  (J.stop i H ∧ D.nx σ H) ∨ (J.go i H ∧ ∃ N : St → Hp → Prop, (∀ σ' H', N σ' H' → ∃ m', m' < m ∧ W (i + 1) m' σ' H') ∧ ∀ x H', J.yld i H x H' → g x σ H' fun σ2 H2 => tb { D with nx := N, ct := N, bk := D.nx } σ2 H2)
/-- the records at fp as they stand -/
def pinsAt (fp : List Addr) (h : Heap) : List (Addr × Obj) := fp.filterMap fun b => (h.get? b).map fun o => (b, o)
theorem mem_pinsAt {fp : List Addr} {h : Heap} {b : Addr} {o : Obj} (hb : b ∈ fp) (e : h.get? b = some o) : (b, o) ∈ pinsAt fp h := List.mem_filterMap.mpr ⟨b, hb, by rw [e]; rfl⟩
theorem of_pinsAt {fp : List Addr} {h : Heap} {p : Addr × Obj} (hp : p ∈ pinsAt fp h) : p.1 ∈ fp ∧ h.get? p.1 = some p.2 := by
  obtain ⟨b, hb, e⟩ := List.mem_filterMap.mp hp
  cases q : h.get? b with
  | none => rw [q] at e; cases e
  | some o =>
    rw [q] at e
    have e' : (b, o) = p := Option.some.inj e
    subst e'
    exact ⟨hb, q⟩
theorem Inv.pinned {pins : List (Addr × Obj)} {σ : St} {H : Hp} {s : Shared} {fp : List Addr} (I : Inv X pins σ H s) (hf : ∀ b ∈ fp, FpOk X pins H b) (ho : ∀ b ∈ fp, ∃ o, s.heap.get? b = some o ∧ ∀ v, o.data ≠ .cell v) : Inv X (pins ++ pinsAt fp s.heap) σ H s :=
  I.pins_of fun p hp => (List.mem_append.mp hp).elim (fun z => I.pin p (List.mem_append_right _ z)) fun z => by
    obtain ⟨hb, e⟩ := of_pinsAt z
    obtain ⟨f0, f1, f2, _⟩ := hf p.1 hb
    obtain ⟨o, e', d⟩ := ho p.1 hb
    rw [e] at e'; cases e'
    exact ⟨e, f0, f1, f2, d⟩
theorem Inv.unpinned {pins pl : List (Addr × Obj)} {σ : St} {H : Hp} {s : Shared} (I : Inv X (pins ++ pl) σ H s) : Inv X pins σ H s := I.pins_of fun p hp => I.pin p (List.mem_append_right _ (List.mem_append_left _ hp))
theorem ps_for {iter : Expr} {body : List Stmt} {wi : TI} {g : TG} {tb : TS} {pos : Pos} (hp : PassesOwn (model X.prog X.w) X.A X.env X.xe) (hc : X.calm = true) (hi : PI X tg iter wi) (hg : PG X tg g) (hb : PSs X body tb)
    (hs : ∀ x, foldedSetIterable iter X.env x = pure x := by intro _; rfl) : PS X (.For tg iter body [] pos) (tFor wi g tb) := by
  intro pins s σ H D I h
  refine wpAny_For (thn (hi pins s σ H _ I h) fun v s1 h1 => thn h1 fun itv s2 h2 => ?_) hs
  obtain ⟨it, fp, tn, J, H2, e, I2, T, st2, f2, W, ⟨m0, w0⟩, turn⟩ := h2
  subst e
  -- what stays true of the iterator's objects through the loop
  have stat : ∀ {H' : Hp}, (∀ b ∈ fp, H' b = none) → ∀ b ∈ fp, FpOk X pins H' b := fun hn b hb => ⟨hn b hb, (f2 b hb).2⟩
  refine codeAny_forLoop_any (fun n s' => ∃ i σ' H', Inv X pins σ' H' s' ∧ tn i s'.heap ∧ (∀ b ∈ fp, H' b = none) ∧ W i n σ' H') ?_ m0 ⟨0, σ, H2, I2, st2, fun b hb => (f2 b hb).1, w0⟩
  rintro n s3 ⟨i, σ3, H3, I3, st3, fr3, w3⟩
  rcases turn i n σ3 H3 w3 with ⟨stop, qn⟩ | ⟨go, N, hN, step⟩
  · refine wpAny_passesOwn hp (thn (T.done X rfl rfl rfl hc i pins s3 σ3 H3 X.xe I3 (stat fr3) st3 stop) fun r s4 ⟨hr, I4⟩ => ?_)
    subst hr
    exact wpAny_execs_nil ⟨σ3, H3, I4, qn⟩
  · refine wpAny_passesOwn hp (thn (T.item X rfl rfl rfl hc i pins s3 σ3 H3 X.xe I3 (stat fr3) st3 go) fun r s4 ⟨u, hr, h4⟩ => ?_)
    subst hr
    refine wpAny_passesOwn hp (thn h4 fun _ s5 ⟨x, H5, I5, r5, y5, st5, fr5⟩ => ?_)
    have I5' := I5.pinned (stat fr5) (T.obj _ _ st5)
    refine wpAny_passesOwn hp (thn (hg _ s5 σ3 H5 x u _ I5' r5 (step x H5 y5)) fun _ s6 ⟨σ6, H6, I6, q6⟩ => ?_)
    refine wpAny_passesOwn hp (thn (hb _ s6 σ6 H6 _ I6 q6) fun f s7 q7 => ?_)
    have again : ∀ {σ7 : St} {H7 : Hp}, Inv X (pins ++ pinsAt fp s5.heap) σ7 H7 s7 → N σ7 H7 → ∃ m, m < n ∧ ∃ i σ' H', Inv X pins σ' H' s7 ∧ tn i s7.heap ∧ (∀ b ∈ fp, H' b = none) ∧ W i m σ' H' := fun {σ7 H7} I7 n7 => by
      obtain ⟨m', hm, w7⟩ := hN σ7 H7 n7
      refine ⟨m', hm, i + 1, σ7, H7, I7.unpinned, T.keep _ _ _ st5 fun b hb o e => (I7.pin (b, o) (List.mem_append_right _ (List.mem_append_right _ (mem_pinsAt hb e)))).1, fun b hb => ?_, w7⟩
      obtain ⟨o, e, d⟩ := T.obj _ _ st5 b hb
      exact (I7.pin (b, o) (List.mem_append_right _ (List.mem_append_right _ (mem_pinsAt hb e)))).2.1
    cases f with
    | next => obtain ⟨σ7, H7, I7, n7⟩ := q7; exact again I7 n7
    | cont => obtain ⟨σ7, H7, I7, n7⟩ := q7; exact again I7 n7
    | brk => obtain ⟨σ7, H7, I7, q7⟩ := q7; exact ⟨σ7, H7, I7.unpinned, q7⟩
    | ret v => obtain ⟨x7, σ7, H7, I7, r7, q7⟩ := q7; exact ⟨x7, σ7, H7, I7.unpinned, r7, q7⟩
end

/-! ### the forms one uses -/
/-- over a list that the body leaves as it is -/
theorem for_list {K : PySem.W.Frag} {a : Addr} {xs : List V} {g : TG} {tb : TS} {D : Ends} {σ : St} {H : Hp} (Pv : Nat → St → Hp → Prop) (h0 : Pv 0 σ H) (hl : ∀ i σ H, i ≤ xs.length → Pv i σ H → SqL K H a xs)
    (hs : ∀ i x σ H, xs[i]? = some x → Pv i σ H → g x σ H fun σ2 H2 => tb { D with nx := Pv (i + 1), ct := Pv (i + 1), bk := D.nx } σ2 H2) (hd : ∀ σ H, Pv xs.length σ H → D.nx σ H) :
    ∃ W : Nat → Nat → St → Hp → Prop, (∃ m, W 0 m σ H) ∧ ∀ i m σ H, W i m σ H →
      ((Itl K a).stop i H ∧ D.nx σ H) ∨ ((Itl K a).go i H ∧ ∃ N : St → Hp → Prop, (∀ σ' H', N σ' H' → ∃ m', m' < m ∧ W (i + 1) m' σ' H') ∧ ∀ x H', (Itl K a).yld i H x H' → g x σ H' fun σ2 H2 => tb { D with nx := N, ct := N, bk := D.nx } σ2 H2) := by
  refine ⟨fun i m σ H => m = xs.length - i ∧ i ≤ xs.length ∧ Pv i σ H, ⟨xs.length, by simp, Nat.zero_le _, h0⟩, ?_⟩
  rintro i m σ H ⟨rfl, hi, p⟩
  have q := hl i σ H hi p
  by_cases hlt : i < xs.length
  · refine .inr ⟨⟨xs, xs[i], q, by simp [hlt]⟩, Pv (i + 1), fun σ' H' p' => ⟨xs.length - (i + 1), by omega, rfl, hlt, p'⟩, fun x H' y => ?_⟩
    obtain ⟨e, y⟩ := y
    subst e
    exact hs i x σ _ (y xs q) p
  · have e : i = xs.length := by omega
    subst e
    exact .inl ⟨⟨xs, q, Nat.le_refl _⟩, hd σ H p⟩
theorem for_range {lo : Int} {n : Nat} {g : TG} {tb : TS} {D : Ends} {σ : St} {H : Hp} (Pv : Nat → St → Hp → Prop) (h0 : Pv 0 σ H)
    (hs : ∀ i σ H, i < n → Pv i σ H → g (.int (lo + i)) σ H fun σ2 H2 => tb { D with nx := Pv (i + 1), ct := Pv (i + 1), bk := D.nx } σ2 H2) (hd : ∀ σ H, Pv n σ H → D.nx σ H) :
    ∃ W : Nat → Nat → St → Hp → Prop, (∃ m, W 0 m σ H) ∧ ∀ i m σ H, W i m σ H →
      ((Itr lo n).stop i H ∧ D.nx σ H) ∨ ((Itr lo n).go i H ∧ ∃ N : St → Hp → Prop, (∀ σ' H', N σ' H' → ∃ m', m' < m ∧ W (i + 1) m' σ' H') ∧ ∀ x H', (Itr lo n).yld i H x H' → g x σ H' fun σ2 H2 => tb { D with nx := N, ct := N, bk := D.nx } σ2 H2) := by
  refine ⟨fun i m σ H => m = n - i ∧ i ≤ n ∧ Pv i σ H, ⟨n, by simp, Nat.zero_le _, h0⟩, ?_⟩
  rintro i m σ H ⟨rfl, hi, p⟩
  by_cases hlt : i < n
  · refine .inr ⟨hlt, Pv (i + 1), fun σ' H' p' => ⟨n - (i + 1), by omega, rfl, hlt, p'⟩, fun x H' y => ?_⟩
    obtain ⟨e, y⟩ := y
    subst e y
    exact hs i σ _ hlt p
  · have e : i = n := by omega
    subst e
    exact .inl ⟨Nat.le_refl _, hd σ H p⟩
end L2

namespace L2
open PySem PySem.Spec PyProof.Rows

abbrev R2 := V → V → Hp → VK → Prop
/-- a two-place operation on values: f is binaryOp op, inplaceOp op or compareOp op -/
def OpR (X : Cx) (f : Value → Value → Sem Value) (r : R2) : Prop :=
  ∀ (pins : List (Addr × Obj)) (s : Shared) (σ : St) (H : Hp) (x y : V) (v u : Value) (Q : VK), Inv X pins σ H s → RelV x v → RelV y u → r x y H Q →
    wpAny (model X.prog X.w) X.A (f v u) (EP X pins σ Q) X.xe s
/-- a one-place operation -/
def UnR (X : Cx) (f : Value → Sem Value) (r : V → Hp → VK → Prop) : Prop :=
  ∀ (pins : List (Addr × Obj)) (s : Shared) (σ : St) (H : Hp) (x : V) (v : Value) (Q : VK), Inv X pins σ H s → RelV x v → r x H Q →
    wpAny (model X.prog X.w) X.A (f v) (EP X pins σ Q) X.xe s
/-- a call of a value that is known (a builtin, a type) with values -/
def CallR (X : Cx) (f : Value) (r : List V → Hp → VK → Prop) : Prop :=
  ∀ (pins : List (Addr × Obj)) (s : Shared) (σ : St) (H : Hp) (xs : List V) (us : List Value) (Q : VK), Inv X pins σ H s → Vals xs us → r xs H Q →
    wpAny (model X.prog X.w) X.A (call f us) (EP X pins σ Q) X.xe s
/-- a value's truth -/
def TruR (X : Cx) (r : V → Hp → (Bool → Hp → Prop) → Prop) : Prop :=
  ∀ (pins : List (Addr × Obj)) (s : Shared) (σ : St) (H : Hp) (x : V) (v : Value) (Q : Bool → Hp → Prop), Inv X pins σ H s → RelV x v → r x H Q →
    wpAny (model X.prog X.w) X.A (truthy v) (TP X pins σ Q) X.xe s

def tOp (r : R2) (ta tb : TE) : TE := fun σ H Q => ta σ H fun x H1 => tb σ H1 fun y H2 => r x y H2 Q
def tUn (r : V → Hp → VK → Prop) (ta : TE) : TE := fun σ H Q => ta σ H fun x H1 => r x H1 Q
/-- ints in, under C, and a value out -/
def rI (C : Int → Int → Prop) (g : Int → Int → V) : R2 := fun x y H Q => ∃ i j, x = .int i ∧ y = .int j ∧ C i j ∧ Q (g i j) H
def rI0 (g : Int → Int → V) : R2 := fun x y H Q => ∃ i j, x = .int i ∧ y = .int j ∧ Q (g i j) H
def rU (g : Int → V) : V → Hp → VK → Prop := fun x H Q => ∃ i, x = .int i ∧ Q (g i) H

section
variable {X : Cx} {a b c : Expr} {ta tb tc : TE} {pos : Pos}

theorem binT (ha : PE X a ta) (hb : PE X b tb) {pins : List (Addr × Obj)} {s : Shared} {σ : St} {H : Hp} {R : V → V → Hp → Prop} (I : Inv X pins σ H s)
    (h : ta σ H fun x H1 => tb σ H1 fun y H2 => R x y H2) {Q : Value → Shared → Prop} {f : Value → Value → Sem Value}
    (hf : ∀ v u s2 x y H2, Inv X pins σ H2 s2 → RelV x v → RelV y u → R x y H2 → wpAny (model X.prog X.w) X.A (f v u) Q X.xe s2) :
    wpAny (model X.prog X.w) X.A (eval a X.env) (fun v s₁ => wpAny (model X.prog X.w) X.A (eval b X.env) (fun u s₂ => wpAny (model X.prog X.w) X.A (f v u) Q X.xe s₂) X.xe s₁) X.xe s := by
  refine thn (ha pins s σ H _ I h) fun v s1 ⟨x, H1, I1, r1, q1⟩ => ?_
  refine thn (hb pins s1 σ H1 _ I1 q1) fun u s2 ⟨y, H2, I2, r2, q2⟩ => ?_
  exact hf v u s2 x y H2 I2 r1 r2 q2

theorem pe_op {op : Operator} {r : R2} (ho : OpR X (binaryOp op) r) (ha : PE X a ta) (hb : PE X b tb) : PE X (.BinOp a op b pos) (tOp r ta tb) := by
  intro pins s σ H Q I h
  exact wpAny_BinOp (binT ha hb I h fun v u s2 x y H2 I2 rx ry q => ho pins s2 σ H2 x y v u Q I2 rx ry q)
theorem pe_un {op : UnaryOp} {r : V → Hp → VK → Prop} (ho : UnR X (unaryOp op) r) (ha : PE X a ta) : PE X (.UnaryOp op a pos) (tUn r ta) := by
  intro pins s σ H Q I h
  exact UnaryOp_ (thn (ha pins s σ H _ I h) fun v s1 ⟨x, H1, I1, r1, q1⟩ => ho pins s1 σ H1 x v Q I1 r1 q1)

/-! ### ints -/
theorem opI {f : Value → Value → Sem Value} {C : Int → Int → Prop} {g : Int → Int → Int}
    (rule : ∀ (i j : Int) (t u : Tok) (s : Shared) (Q : Value → Shared → Prop) (E : Value → Shared → Prop), C i j → Q (.int (g i j) s.toks) { s with toks := s.toks + 1 } → wpAny (model X.prog X.w) X.A (f (.int i t) (.int j u)) Q E s) :
    OpR X f (rI C fun i j => .int (g i j)) := by
  intro pins s σ H x y v u Q I rx ry h
  obtain ⟨i, j, rfl, rfl, hc, q⟩ := h
  obtain ⟨t, rfl⟩ := rx
  obtain ⟨t', rfl⟩ := ry
  exact rule i j t t' s _ _ hc ⟨.int (g i j), H, I.tok _, ⟨_, rfl⟩, q⟩
theorem opI0 {f : Value → Value → Sem Value} {g : Int → Int → Int}
    (rule : ∀ (i j : Int) (t u : Tok) (s : Shared) (Q : Value → Shared → Prop) (E : Value → Shared → Prop), Q (.int (g i j) s.toks) { s with toks := s.toks + 1 } → wpAny (model X.prog X.w) X.A (f (.int i t) (.int j u)) Q E s) :
    OpR X f (rI0 fun i j => .int (g i j)) := by
  intro pins s σ H x y v u Q I rx ry h
  obtain ⟨i, j, rfl, rfl, q⟩ := h
  obtain ⟨t, rfl⟩ := rx
  obtain ⟨t', rfl⟩ := ry
  exact rule i j t t' s _ _ ⟨.int (g i j), H, I.tok _, ⟨_, rfl⟩, q⟩
theorem opB0 {f : Value → Value → Sem Value} {g : Int → Int → Bool}
    (rule : ∀ (i j : Int) (t u : Tok) (s : Shared) (Q : Value → Shared → Prop) (E : Value → Shared → Prop), Q (.bool (g i j)) s → wpAny (model X.prog X.w) X.A (f (.int i t) (.int j u)) Q E s) :
    OpR X f (rI0 fun i j => .bl (g i j)) := by
  intro pins s σ H x y v u Q I rx ry h
  obtain ⟨i, j, rfl, rfl, q⟩ := h
  obtain ⟨t, rfl⟩ := rx
  obtain ⟨t', rfl⟩ := ry
  exact rule i j t t' s _ _ ⟨.bl (g i j), H, I, rfl, q⟩

def CDiv (i j : Int) : Prop := 0 < j ∧ j < 1073741824
def CPow (i j : Int) : Prop := 0 ≤ j ∧ j ≤ 1000000 ∧ i.natAbs < 2 ^ 64

theorem op_add : OpR X (binaryOp .Add) (rI0 fun i j => .int (i + j)) := opI0 fun _ _ _ _ _ _ _ q => add_int q
theorem op_sub : OpR X (binaryOp .Sub) (rI0 fun i j => .int (i - j)) := opI0 fun _ _ _ _ _ _ _ q => sub_int q
/-- // by a positive divisor -/
theorem op_fdiv : OpR X (binaryOp .FloorDiv) (rI CDiv fun i j => .int (i / j)) := opI fun i j _ _ _ _ _ hc q => by
  have h1 : (0 : Int) < j := hc.1
  have h2 : j < 1073741824 := hc.2
  exact floordiv_int (by omega) (by rw [Int.fdiv_eq_ediv_of_nonneg i (by omega)]; exact q) (.inl (PyProof.noPylong_small (by omega)))
/-- % by a positive divisor of any size -/
theorem op_mod : OpR X (binaryOp .Mod) (rI (fun _ j => 0 < j) fun i j => .int (i % j)) := opI fun i j _ _ _ _ _ hc q => by
  have h1 : (0 : Int) < j := hc
  exact mod_int' (by omega) (by rw [Int.fmod_eq_emod_of_nonneg i (by omega)]; exact q)
theorem op_modN : OpR X (binaryOp .Mod) (rI (fun _ j => j ≠ 0) fun i j => .int (i.fmod j)) := opI fun _ _ _ _ _ _ _ hc q => mod_int' hc q
theorem op_pow : OpR X (binaryOp .Pow) (rI CPow fun i j => .int (i ^ j.toNat)) := opI fun _ _ _ _ _ _ _ hc q => pow_int_small hc.1 hc.2.1 hc.2.2 q


theorem unI {f : Value → Sem Value} {g : Int → Int}
    (rule : ∀ (i : Int) (t : Tok) (s : Shared) (Q : Value → Shared → Prop) (E : Value → Shared → Prop), Q (.int (g i) s.toks) { s with toks := s.toks + 1 } → wpAny (model X.prog X.w) X.A (f (.int i t)) Q E s) :
    UnR X f (rU fun i => .int (g i)) := by
  intro pins s σ H x v Q I rx h
  obtain ⟨i, rfl, q⟩ := h
  obtain ⟨t, rfl⟩ := rx
  exact rule i t s _ _ ⟨.int (g i), H, I.tok _, ⟨_, rfl⟩, q⟩
theorem un_neg : UnR X (unaryOp .USub) (rU fun i => .int (-i)) := unI fun _ _ _ _ _ q => neg_int q

/-! ### bools among ints: n += (a < b) -/
end

/-! ### comparisons -/
/-- the scalars that == tells apart as data does -/
def scal : V → V → Bool
  | .non, .non => true | .non, .int _ => true | .int _, .non => true | .non, .bl _ => true | .bl _, .non => true | .non, .str _ => true | .str _, .non => true
  | .int _, .int _ => true | .bl _, .bl _ => true | .str _, .str _ => true | .byt _, .byt _ => true
  | .int _, .str _ => true | .str _, .int _ => true | .bl _, .str _ => true | .str _, .bl _ => true
  | _, _ => false
def rEq : R2 := fun x y H Q => scal x y = true ∧ Q (.bl (decide (x = y))) H
def rNe : R2 := fun x y H Q => scal x y = true ∧ Q (.bl (!decide (x = y))) H

theorem dec_int {i j : Int} : decide (V.int i = V.int j) = (i == j) := by
  rw [Bool.eq_iff_iff]
  simp
theorem dec_bl {i j : Bool} : decide (V.bl i = V.bl j) = (i == j) := by
  rw [Bool.eq_iff_iff]
  simp
theorem dec_str {i j : Str} : decide (V.str i = V.str j) = (i == j) := by
  rw [Bool.eq_iff_iff]
  simp
theorem dec_byt {i j : Array UInt8} : decide (V.byt i = V.byt j) = (i.toList == j.toList) := by
  rw [Bool.eq_iff_iff]
  cases i
  cases j
  simp

section
variable {X : Cx} {a b c : Expr} {ta tb tc : TE} {pos : Pos}
theorem fin_bl {pins : List (Addr × Obj)} {σ : St} {H : Hp} {s : Shared} {Q : VK} {k k' : Bool} (I : Inv X pins σ H s) (q : Q (.bl k) H) (e : k = k') : EP X pins σ Q (.bool k') s := by
  subst e
  exact ⟨.bl k, H, I, rfl, q⟩
theorem op_eq : OpR X (compareOp .Eq) rEq := by
  intro pins s σ H x y v u Q I rx ry h
  obtain ⟨hs, q⟩ := h
  cases x with
  | non =>
    cases rx
    cases y with
    | non => cases ry; exact PySem.EqNone.eq_none_none (fin_bl I q (by simp))
    | bl j => cases ry; exact PySem.EqNone.eq_none_bool (fin_bl I q (by simp))
    | int j => obtain ⟨t', rfl⟩ := ry; exact PySem.EqNone.eq_none_int (fin_bl I q (by simp))
    | str j => obtain ⟨t', rfl⟩ := ry; exact PySem.EqNone.eq_none_str (fin_bl I q (by simp))
    | _ => exact absurd (show false = true from hs) Bool.false_ne_true
  | bl i =>
    cases rx
    cases y with
    | non => cases ry; exact PySem.EqNone.eq_bool_none (fin_bl I q (by simp))
    | bl j => cases ry; exact eq_bool (fin_bl I q dec_bl)
    | str j => obtain ⟨t', rfl⟩ := ry; exact PySem.EqMixed.eq_bool_str (fin_bl I q (by simp))
    | _ => exact absurd (show false = true from hs) Bool.false_ne_true
  | int i =>
    obtain ⟨t, rfl⟩ := rx
    cases y with
    | non => cases ry; exact PySem.EqNone.eq_int_none (fin_bl I q (by simp))
    | int j => obtain ⟨t', rfl⟩ := ry; exact eq_int (fin_bl I q dec_int)
    | str j => obtain ⟨t', rfl⟩ := ry; exact PySem.EqMixed.eq_int_str (fin_bl I q (by simp))
    | _ => exact absurd (show false = true from hs) Bool.false_ne_true
  | str i =>
    obtain ⟨t, rfl⟩ := rx
    cases y with
    | non => cases ry; exact PySem.EqNone.eq_str_none (fin_bl I q (by simp))
    | bl j => cases ry; exact PySem.EqMixed.eq_str_bool (fin_bl I q (by simp))
    | int j => obtain ⟨t', rfl⟩ := ry; exact PySem.EqMixed.eq_str_int (fin_bl I q (by simp))
    | str j => obtain ⟨t', rfl⟩ := ry; exact eq_str (fin_bl I q dec_str)
    | _ => exact absurd (show false = true from hs) Bool.false_ne_true
  | byt i =>
    obtain ⟨t, rfl⟩ := rx
    cases y with
    | byt j => obtain ⟨t', rfl⟩ := ry; exact PySem.W.eq_bytes (fin_bl I q dec_byt)
    | _ => exact absurd (show false = true from hs) Bool.false_ne_true
  | _ => cases y <;> exact absurd (show false = true from hs) Bool.false_ne_true
theorem op_ne : OpR X (compareOp .NotEq) rNe := by
  intro pins s σ H x y v u Q I rx ry h
  obtain ⟨hs, q⟩ := h
  cases x with
  | non =>
    cases rx
    cases y with
    | non => cases ry; exact PySem.EqNone.ne_none_none (fin_bl I q (by simp))
    | bl j => cases ry; exact PySem.EqNone.ne_none_bool (fin_bl I q (by simp))
    | int j => obtain ⟨t', rfl⟩ := ry; exact PySem.EqNone.ne_none_int (fin_bl I q (by simp))
    | str j => obtain ⟨t', rfl⟩ := ry; exact PySem.EqNone.ne_none_str (fin_bl I q (by simp))
    | _ => exact absurd (show false = true from hs) Bool.false_ne_true
  | bl i =>
    cases rx
    cases y with
    | non => cases ry; exact PySem.EqNone.ne_bool_none (fin_bl I q (by simp))
    | bl j => cases ry; exact ne_bool (fin_bl I q (congrArg not dec_bl))
    | str j => obtain ⟨t', rfl⟩ := ry; exact PySem.EqMixed.ne_bool_str (fin_bl I q (by simp))
    | _ => exact absurd (show false = true from hs) Bool.false_ne_true
  | int i =>
    obtain ⟨t, rfl⟩ := rx
    cases y with
    | non => cases ry; exact PySem.EqNone.ne_int_none (fin_bl I q (by simp))
    | int j => obtain ⟨t', rfl⟩ := ry; exact ne_int (fin_bl I q (congrArg not dec_int))
    | str j => obtain ⟨t', rfl⟩ := ry; exact PySem.EqMixed.ne_int_str (fin_bl I q (by simp))
    | _ => exact absurd (show false = true from hs) Bool.false_ne_true
  | str i =>
    obtain ⟨t, rfl⟩ := rx
    cases y with
    | non => cases ry; exact PySem.EqNone.ne_str_none (fin_bl I q (by simp))
    | bl j => cases ry; exact PySem.EqMixed.ne_str_bool (fin_bl I q (by simp))
    | int j => obtain ⟨t', rfl⟩ := ry; exact PySem.EqMixed.ne_str_int (fin_bl I q (by simp))
    | str j => obtain ⟨t', rfl⟩ := ry; exact ne_str (fin_bl I q (congrArg not dec_str))
    | _ => exact absurd (show false = true from hs) Bool.false_ne_true
  | byt i =>
    obtain ⟨t, rfl⟩ := rx
    cases y with
    | byt j => obtain ⟨t', rfl⟩ := ry; exact PySem.W.ne_bytes (fin_bl I q (congrArg not dec_byt))
    | _ => exact absurd (show false = true from hs) Bool.false_ne_true
  | _ => cases y <;> exact absurd (show false = true from hs) Bool.false_ne_true

theorem op_lt : OpR X (compareOp .Lt) (rI0 fun i j => .bl (decide (i < j))) := opB0 fun _ _ _ _ _ _ _ q => lt_int q
theorem op_le : OpR X (compareOp .LtE) (rI0 fun i j => .bl (decide (i ≤ j))) := opB0 fun _ _ _ _ _ _ _ q => le_int q
theorem op_gt : OpR X (compareOp .Gt) (rI0 fun i j => .bl (decide (j < i))) := opB0 fun _ _ _ _ _ _ _ q => gt_int q

/-- is None, is not None: the right side a value none -/
theorem op_isN : OpR X (compareOp .Is) (fun x y H Q => y = .non ∧ Q (.bl (decide (x = .non))) H) := by
  intro pins s σ H x y v u Q I rx ry h
  obtain ⟨rfl, q⟩ := h
  cases ry
  refine is_none_gen (fin_bl I q ?_)
  cases x <;> first
    | (cases rx; rfl)
    | (obtain ⟨t, rfl⟩ := rx; rfl)



theorem nomark (b : Expr) {op : CmpOp} (h : op ≠ .In := by decide) (h2 : op ≠ .NotIn := by decide) : behindInMarks op b = false := by
  have e1 : (op == CmpOp.In) = false := by cases op <;> first | rfl | exact absurd rfl h
  have e2 : (op == CmpOp.NotIn) = false := by cases op <;> first | rfl | exact absurd rfl h2
  cases b <;> simp [behindInMarks, e1, e2]
/-- a comparison as a value; hm: nomark b, or (for in, not in) by with_unfolding_all rfl -/
theorem pe_cmpR {op : CmpOp} {r : R2} (ho : OpR X (compareOp op) r) (ha : PE X a ta) (hb : PE X b tb) (hm : behindInMarks op b = false) : PE X (.Compare a [op] [b] pos) (tOp r ta tb) := by
  intro pins s σ H Q I h
  exact wpAny_Compare1 (binT ha hb I h fun v u s2 x y H2 I2 rx ry q => ho pins s2 σ H2 x y v u Q I2 rx ry q) hm
/-- a reading of a value as a test -/
def tTest (t : TE) : TT := fun σ H Q => t σ H fun x H' => ∃ k, x = .bl k ∧ Q k H'
theorem pt_cmpR {op : CmpOp} {r : R2} (ho : OpR X (compareOp op) r) (ha : PE X a ta) (hb : PE X b tb) (hm : behindInMarks op b = false) : PT X (.Compare a [op] [b] pos) (tTest (tOp r ta tb)) := by
  intro pins s σ H Q I h
  refine wpAny_isTrue_Compare1 (thn (ha pins s σ H _ I h) fun v s1 ⟨x, H1, I1, r1, q1⟩ => thn (hb pins s1 σ H1 _ I1 q1) fun u s2 ⟨y, H2, I2, r2, q2⟩ =>
    thn (ho pins s2 σ H2 x y v u _ I2 r1 r2 q2) fun c s3 ⟨z, H3, I3, r3, k, e, q3⟩ => ?_) hm
  subst e
  cases r3
  exact wpAny_truthy_bool ⟨H3, I3, q3⟩
/-- a op1 b op2 c -/
def tChain (r r' : R2) (ta tb tc : TE) : TE := fun σ H Q => ta σ H fun x H1 => tb σ H1 fun y H2 => r x y H2 fun z H3 => ∃ k, z = .bl k ∧
  (if k = true then tc σ H3 fun w' H4 => r' y w' H4 Q else Q (.bl false) H3)
theorem pt_chain {op op' : CmpOp} {r r' : R2} (ho : OpR X (compareOp op) r) (ho' : OpR X (compareOp op') r') (ha : PE X a ta) (hb : PE X b tb) (hc : PE X c tc)
    (hm : lastMarks [op, op'] [b, c] = false := by with_unfolding_all rfl) : PT X (.Compare a [op, op'] [b, c] pos) (tTest (tChain r r' ta tb tc)) := by
  intro pins s σ H Q I h
  refine isTrue_chain (thn (ha pins s σ H _ I h) fun v s1 ⟨x, H1, I1, r1, q1⟩ => test_link (thn (hb pins s1 σ H1 _ I1 q1) fun u s2 ⟨y, H2, I2, r2, q2⟩ =>
    thn (ho pins s2 σ H2 x y v u _ I2 r1 r2 q2) fun d s3 ⟨z, H3, I3, r3, k, e, q3⟩ => ?_)) hm
  subst e
  cases r3
  refine wpAny_truthy_bool ?_
  cases k with
  | false =>
    obtain ⟨k', e', q'⟩ := q3
    cases e'
    exact ite_ff ⟨H3, I3, q'⟩
  | true =>
    refine ite_tt (test_last (thn (hc pins s3 σ H3 _ I3 q3) fun w' s4 ⟨z', H4, I4, r4, q4⟩ => thn (ho' pins s4 σ H4 y z' u w' _ I4 r2 r4 q4) fun d' s5 ⟨z2, H5, I5, r5, k2, e2, q5⟩ => ?_))
    subst e2
    cases r5
    exact wpAny_truthy_bool ⟨H5, I5, q5⟩

/-! ### truth -/
/-- a value's truth by the abstract heap -/
def TruV (K : PySem.W.Frag) (x : V) (H : Hp) (k : Bool) : Prop :=
  match x with
  | .non => k = false
  | .bl b => k = b
  | .int i => k = (i != 0)
  | .str y => y.length ≤ sizeLine ∧ k = ((y.length : Int) != 0)
  | .byt y => y.size ≤ sizeLine ∧ k = ((y.size : Int) != 0)
  | .ref p => (∃ xs, SqL K H p xs ∧ k = !xs.isEmpty) ∨ (∃ xs, SqT K H p xs ∧ k = !xs.isEmpty) ∨ ∃ kvs, H p = some (.dK kvs) ∧ k = !kvs.isEmpty
  | _ => False
theorem isEmpty_kv {κ : Type} {kvs : List (κ × V)} {vs : List (κ × Value)} (r : KV kvs vs) : (!vs.isEmpty) = !kvs.isEmpty := by
  cases r <;> rfl
theorem isEmpty_of {xs : List V} {its : List Value} (r : Vals xs its) : (!its.toArray.isEmpty) = !xs.isEmpty := by
  cases r <;> simp
theorem line63 : (sizeLine : Nat) < 2 ^ 63 := by rw [sizeLine_eq]; decide
theorem tru_ok : TruR X (fun x H Q => ∃ k, TruV X.K x H k ∧ Q k H) := by
  intro pins s σ H x v Q I rx h
  obtain ⟨k, e, q⟩ := h
  have hl := line63
  have hs : sizeLine = 16777216 := sizeLine_eq
  cases x with
  | non =>
    cases rx
    have e' : k = false := e
    subst e'
    exact truthy_none ⟨H, I, q⟩
  | bl b =>
    cases rx
    have e' : k = b := e
    subst e'
    exact wpAny_truthy_bool ⟨H, I, q⟩
  | int i =>
    obtain ⟨t, rfl⟩ := rx
    have e' : k = (i != 0) := e
    subst e'
    exact PySem.P.truthy_int ⟨H, I, q⟩
  | str y =>
    obtain ⟨t, rfl⟩ := rx
    obtain ⟨hy, e'⟩ : y.length ≤ sizeLine ∧ k = ((y.length : Int) != 0) := e
    subst e'
    exact PySem.P.truthy_str (by omega) ⟨H, I.tok _, q⟩
  | byt y =>
    obtain ⟨t, rfl⟩ := rx
    obtain ⟨hy, e'⟩ : y.size ≤ sizeLine ∧ k = ((y.size : Int) != 0) := e
    subst e'
    exact PySem.W.truthy_bytes (by omega) ⟨H, I.tok _, q⟩
  | ref p =>
    cases rx
    have e' : (∃ xs, SqL X.K H p xs ∧ k = !xs.isEmpty) ∨ (∃ xs, SqT X.K H p xs ∧ k = !xs.isEmpty) ∨ ∃ kvs, H p = some (.dK kvs) ∧ k = !kvs.isEmpty := e
    rcases e' with ⟨xs, hx, e'⟩ | ⟨xs, hx, e'⟩ | ⟨kvs, hx, e'⟩
    · subst e'
      obtain ⟨its, r, pl, hz⟩ := I.list hx
      have hlen := r.length
      exact wpAny_truthy_list pl.isList (by simp only [List.size_toArray]; omega) ⟨H, I.tok _, by rw [isEmpty_of r]; exact q⟩
    · subst e'
      obtain ⟨its, r, pl, hz⟩ := I.tuple hx
      have hlen := r.length
      exact truthy_tuple pl (by simp only [List.size_toArray]; omega) ⟨H, I.tok _, by rw [isEmpty_of r]; exact q⟩
    · subst e'
      obtain ⟨hz, hS, vs, r, m⟩ : kvs.length ≤ sizeLine ∧ (p == sysModules) = false ∧ ∃ vs, KV kvs vs ∧ s.heap.DictOf (mixKind X.prog X.w) p vs := I.hok p _ hx
      have hlen : kvs.length = vs.length := Paired.length r
      exact wpAny_truthy_dict hS m (by omega) ⟨H, I.tok _, by rw [isEmpty_kv r]; exact q⟩
  | _ => exact (show False from e).elim

/-! ### strs and bytes -/


/-! ### scalar builtins, by CallR -/
theorem vals1 {x : V} {us : List Value} (r : Vals [x] us) : ∃ u, us = [u] ∧ RelV x u := by
  cases r with
  | cons r1 r2 => cases r2; exact ⟨_, rfl, r1⟩
theorem vals2 {x y : V} {us : List Value} (r : Vals [x, y] us) : ∃ u w', us = [u, w'] ∧ RelV x u ∧ RelV y w' := by
  cases r with
  | cons r1 r2 =>
    cases r2 with
    | cons r3 r4 => cases r4; exact ⟨_, _, rfl, r1, r3⟩
theorem call_abs : CallR X (.builtin "abs") (fun xs H Q => ∃ i, xs = [.int i] ∧ Q (.int (if i < 0 then -i else i)) H) := by
  intro pins s σ H xs us Q I r h
  obtain ⟨i, rfl, q⟩ := h
  obtain ⟨u, rfl, t, rfl⟩ := vals1 r
  exact call_abs_int fun u tk => ⟨.int (if i < 0 then -i else i), H, I.tok _, ⟨_, rfl⟩, q⟩
theorem call_min2 (hc : X.calm = true) : CallR X (.builtin "min") (fun xs H Q => ∃ i j, xs = [.int i, .int j] ∧ Q (.int (if j < i then j else i)) H) := by
  intro pins s σ H xs us Q I r h
  obtain ⟨i, j, rfl, q⟩ := h
  obtain ⟨u, w', rfl, ⟨t, rfl⟩, ⟨t', rfl⟩⟩ := vals2 r
  refine min_two_ints (I.ok.hd hc) fun h' tk k => ⟨_, H, I.kept k, ?_, q⟩
  by_cases hj : j < i
  · rw [if_pos hj, if_pos hj]; exact ⟨_, rfl⟩
  · rw [if_neg hj, if_neg hj]; exact ⟨_, rfl⟩
/-- len of a str, a bytes, a list, a tuple -/
def LenV (K : PySem.W.Frag) (x : V) (H : Hp) (n : Nat) : Prop :=
  match x with
  | .str y => y.length ≤ sizeLine ∧ n = y.length
  | .byt y => y.size ≤ sizeLine ∧ n = y.size
  | .ref p => (∃ xs, SqL K H p xs ∧ n = xs.length) ∨ ∃ xs, SqT K H p xs ∧ n = xs.length
  | _ => False
theorem call_len : CallR X (.builtin "len") (fun xs H Q => ∃ x n, xs = [x] ∧ LenV X.K x H n ∧ Q (.int n) H) := by
  intro pins s σ H xs us Q I r h
  obtain ⟨x, n, rfl, e, q⟩ := h
  obtain ⟨u, rfl, rx⟩ := vals1 r
  have hl := line63
  have hs : sizeLine = 16777216 := sizeLine_eq
  cases x with
  | str y =>
    obtain ⟨t, rfl⟩ := rx
    obtain ⟨hy, e'⟩ : y.length ≤ sizeLine ∧ n = y.length := e
    subst e'
    exact len_str (by omega) ⟨.int _, H, I.tok _, ⟨_, rfl⟩, q⟩
  | byt y =>
    obtain ⟨t, rfl⟩ := rx
    obtain ⟨hy, e'⟩ : y.size ≤ sizeLine ∧ n = y.size := e
    subst e'
    exact PySem.W.len_bytes (by omega) ⟨.int _, H, I.tok _, ⟨_, rfl⟩, q⟩
  | ref p =>
    cases rx
    have e' : (∃ xs, SqL X.K H p xs ∧ n = xs.length) ∨ ∃ xs, SqT X.K H p xs ∧ n = xs.length := e
    rcases e' with ⟨xs, hx, e'⟩ | ⟨xs, hx, e'⟩
    · subst e'
      obtain ⟨its, r', pl, hz⟩ := I.list hx
      have hlen := r'.length
      exact Calls.call_len_list pl.isList (by simp only [List.size_toArray]; omega) ⟨.int xs.length, H, I.tok _, ⟨_, by simp only [List.size_toArray]; rw [hlen]⟩, q⟩
    · subst e'
      obtain ⟨its, r', pl, hz⟩ := I.tuple hx
      have hlen := r'.length
      exact len_tuple pl (by simp only [List.size_toArray]; omega) ⟨.int xs.length, H, I.tok _, ⟨_, by simp only [List.size_toArray]; rw [hlen]⟩, q⟩
  | _ => exact (show False from e).elim
end
end L2

namespace L2
open PySem PySem.Spec PyProof.Rows

/-! ### an instance, its attributes a map -/
structure ObjM (h : Heap) (x dx C : Addr) (mA : Str → Option Value) : Prop where
  obj : h.get? x = some (PySem.W.instObj C dx)
  ns : h.Ns1 dx mA
  ne : dx ≠ x

theorem lookIn_ns {h : Heap} {dx : Addr} {mA : Str → Option Value} (n : h.Ns1 dx mA) : ∃ od, h.get? dx = some od ∧ ∀ name, PySem.W.lookIn name od = some (mA name) := by
  obtain ⟨o, es, ep, ho, hd, hk, _, hm⟩ := n
  refine ⟨o, ho, fun name => ?_⟩
  have e := hm name
  unfold nsFind findBy at e
  rw [← Array.find?_toList] at e
  unfold PySem.W.lookIn
  rw [hd]
  dsimp only
  split
  · rename_i y q
    rw [q] at e
    exact congrArg some e
  · rename_i q
    rw [q] at e
    have a : es.toList.any (·.refKey) = false := by
      rw [List.any_eq_false]
      intro y hy
      obtain ⟨z, t, hkey⟩ := hk y (Array.mem_toList_iff.mp hy)
      simp [DictEntry.refKey, hkey]
    have a' : ¬ es.toList.any (·.refKey) = true := by rw [a]; exact Bool.false_ne_true
    rw [if_neg a']
    exact congrArg some e

theorem ObjM.look {h : Heap} {x dx C : Addr} {mA : Str → Option Value} (I : ObjM h x dx C mA) : ∃ od, PySem.W.InstAt h x (PySem.W.instObj C dx) C (some od) ∧ ∀ name, PySem.W.lookIn name od = some (mA name) :=
  let ⟨od, ho, hl⟩ := lookIn_ns I.ns
  ⟨od, ⟨I.obj, rfl, rfl, ho⟩, hl⟩

section
variable {prog : Program} {w : World} {A : Around} {E : Value → Shared → Prop} {s : Shared} {K : PySem.W.Frag} {x dx C f : Addr} {mA : Str → Option Value} {name : Str} {v : Value}




theorem set_map {ns : List Str} {Q : Unit → Shared → Prop} (X : K.In s.heap) (I : ObjM s.heap x dx C mA)
    (hs : PySem.W.findIn K (.ref C) "__setattr__" = some (some (.builtin "object.__setattr__"))) (hp : PySem.W.plainOver K C = true) (ht : PySem.W.takerIn K C name = some none) (hh : PySem.W.hasDictIn K C = true)
    (hw : PySem.Within mA ns) (hsz : ns.length ≤ sizeLine)
    (h : ∀ h', ObjM h' x dx C (fun y => if y = name then some v else mA y) → Heap.SameBut dx s.heap h' → Q () { s with heap := h', toks := s.toks + 2 }) :
    wpAny (model prog w) A (setAttr (.ref x) name v) Q E s := by
  obtain ⟨od, J, hl⟩ := I.look
  refine PySem.W.set_plain X J hs (PySem.W.osa_open (s := { s with toks := s.toks + 1 }) (r := none) X J hp ht fun b => ?_)
  obtain ⟨cd, hc, hd'⟩ := PySem.W.any_some hh
  have hx : s.heap.get? x = some ⟨.ref C, some dx, .plain, #[]⟩ := I.obj
  refine wpAny_bind (wpAny_pure (wpAny_bind (wpAny_bind (wpAny_loadPart hx (wpAny_bind (PySem.W.Looks.here (s := { s with toks := s.toks + 1 }) (PySem.W.looks_clsIn X hc) ?_))))))
  rw [hd']
  refine wpAny_pure (a := some dx) (wpAny_bind (wpAny_pure (wpAny_bind ?_)))
  refine wpAny_nsSet1 (s := { s with toks := s.toks + 1 }) I.ns fun h' hn2 hs2 => ?_
  obtain ⟨oD, esD, epD, hoD, hdD, hcD⟩ := hn2.count (PySem.Within.cons name v hw)
  refine wpAny_bind (wpAny_lookBehind hoD (by rw [hdD]; exact pastItsLine_dict (Nat.le_trans hcD (by rw [List.length_cons]; omega))) ?_)
  exact wpAny_pure (h _ ⟨(hs2.2 _ (Ne.symm I.ne)).trans I.obj, hn2, I.ne⟩ hs2)

end

/-! ### the attributes as a list of pairs -/
def putF (f : Str) (v : V) : List (Str × V) → List (Str × V)
  | [] => [(f, v)]
  | (g, x) :: r => if g = f then (g, v) :: r else (g, x) :: putF f v r
theorem lookup_putF (f g : Str) (v : V) : ∀ fs : List (Str × V), (putF f v fs).lookup g = if g = f then some v else fs.lookup g
  | [] => by
    show List.lookup g [(f, v)] = _
    by_cases h : g = f
    · have hb : (g == f) = true := beq_iff_eq.mpr h
      simp only [List.lookup, hb, if_pos h]
    · have hb : (g == f) = false := beq_eq_false_iff_ne.mpr h
      simp only [List.lookup, hb, if_neg h]
  | (k, x) :: r => by
    have ih := lookup_putF f g v r
    rw [show putF f v ((k, x) :: r) = (if k = f then (k, v) :: r else (k, x) :: putF f v r) from rfl]
    by_cases hk : k = f
    · rw [if_pos hk]
      by_cases h : g = k
      · have hb : (g == k) = true := beq_iff_eq.mpr h
        simp only [List.lookup, hb, if_pos (h.trans hk)]
      · have hb : (g == k) = false := beq_eq_false_iff_ne.mpr h
        simp only [List.lookup, hb, if_neg (fun e : g = f => h (e.trans hk.symm))]
    · rw [if_neg hk]
      by_cases h : g = k
      · have hb : (g == k) = true := beq_iff_eq.mpr h
        simp only [List.lookup, hb, if_neg (fun e : g = f => hk (h.symm.trans e))]
      · have hb : (g == k) = false := beq_eq_false_iff_ne.mpr h
        simp only [List.lookup, hb]
        exact ih
theorem keys_putF (f : Str) (v : V) : ∀ fs : List (Str × V), f ∈ (putF f v fs).map (·.1) ∧ ∀ g, g ∈ fs.map (·.1) → g ∈ (putF f v fs).map (·.1)
  | [] => ⟨by simp [putF], fun g h => by simp at h⟩
  | (k, x) :: r => by
    obtain ⟨i1, i2⟩ := keys_putF f v r
    rw [show putF f v ((k, x) :: r) = (if k = f then (k, v) :: r else (k, x) :: putF f v r) from rfl]
    by_cases hk : k = f
    · rw [if_pos hk]
      subst hk
      exact ⟨by simp, fun g h => by simpa using h⟩
    · rw [if_neg hk]
      refine ⟨?_, fun g h => ?_⟩
      · rw [List.map_cons]
        exact List.mem_cons_of_mem _ i1
      · rw [List.map_cons] at h ⊢
        rcases List.mem_cons.mp h with e | e
        · exact List.mem_cons.mpr (.inl e)
        · exact List.mem_cons_of_mem _ (i2 g e)
theorem length_putF (f : Str) (v : V) : ∀ fs : List (Str × V), (putF f v fs).length ≤ fs.length + 1
  | [] => by simp [putF]
  | (k, x) :: r => by
    have ih := length_putF f v r
    rw [show putF f v ((k, x) :: r) = (if k = f then (k, v) :: r else (k, x) :: putF f v r) from rfl]
    by_cases hk : k = f
    · rw [if_pos hk, List.length_cons, List.length_cons]; omega
    · rw [if_neg hk, List.length_cons, List.length_cons]; omega

theorem RelO.some_of {v : V} {o : Option Value} (r : RelO (some v) o) : ∃ u, o = some u ∧ RelV v u := by
  cases o with
  | none => exact (show False from r).elim
  | some u => exact ⟨u, rfl, r⟩
theorem handed_of {v : V} {u : Value} (r : RelV v u) : PySem.W.handedIn u = true := by
  cases v with
  | non => cases (show u = Value.none from r); rfl
  | bl b => cases (show u = Value.bool b from r); rfl
  | int i => obtain ⟨t, e⟩ := (show ∃ t, u = Value.int i t from r); cases e; rfl
  | str x => obtain ⟨t, e⟩ := (show ∃ t, u = Value.str x t from r); cases e; rfl
  | byt b => obtain ⟨t, e⟩ := (show ∃ t, u = Value.bytes b t from r); cases e; rfl
  | flt b => obtain ⟨t, e⟩ := (show ∃ t, u = Value.float b t from r); cases e; rfl
  | ref a => cases (show u = Value.ref a from r); rfl
  | ty n => cases (show u = Value.type n from r); rfl

section
variable {P : Program} {w : World} {H H' : Hp} {h h' : Heap} {a C dx : Addr} {fs fs' : List (Str × V)}
theorem ins_get (hok : HOk P w H h) (e : H a = some (.ins C dx fs)) : ∃ mA, ObjM h a dx C mA ∧ (∀ f, RelO (fs.lookup f) (mA f)) ∧ PySem.Within mA (fs.map (·.1)) ∧ fs.length ≤ 1000 ∧ H dx = some (.own a) := by
  obtain ⟨d, z, ne, ob, mA, n, r, q⟩ := (show ObjOk P w H h a (.ins C dx fs) from hok a _ e)
  exact ⟨mA, ⟨ob, n, ne⟩, r, q, z, d⟩
end

/-! ### what of the text a class must have -/
structure Cls (K : PySem.W.Frag) (C : Addr) : Prop where
  pg : PySem.W.plainGet K C Str.empty = true
  hd : PySem.W.hasDictIn K C = true
  po : PySem.W.plainOver K C = true
  sa : PySem.W.findIn K (.ref C) "__setattr__" = some (some (.builtin "object.__setattr__"))
theorem Cls.get {K : PySem.W.Frag} {C : Addr} (c : Cls K C) (f : Str) : PySem.W.plainGet K C f = true := c.pg
/-- no class of it has the name -/
def NoAttr (K : PySem.W.Frag) (C : Addr) (f : Str) : Prop := PySem.W.findIn K (.ref C) f = some none

section
variable {X : Cx} {pins : List (Addr × Obj)} {σ : St} {H : Hp} {s : Shared} {a C dx : Addr} {fs : List (Str × V)} {f : Str} {v : V} {A : Around} {E : Value → Shared → Prop}






/-- e.f where nothing but the object is asked: through attributeBase (super) and the last hold -/
theorem attr_of {prog : Program} {w : World} {env : Env} {e : Expr} {f : Str} {pos : Pos} {s : Shared} {Q : Value → Shared → Prop} (hb : attributeBase e f env (eval e env) = eval e env)
    (h : wpAny (model prog w) A (eval e env) (fun o s₁ => wpAny (model prog w) A (getAttr o f true) Q E s₁) E s) : wpAny (model prog w) A (eval (.Attribute e f pos) env) Q E s :=
  Attribute_any_ h (by rw [arm_eval_Attribute, hb])
end

/-! ### readings and rules -/

section
variable {X : Cx} {o e value : Expr} {f : Str} {pos pos' tpos : Pos} {ta tv : TE}

end

/-! ### isinstance -/
section
variable {X : Cx} {pins : List (Addr × Obj)} {σ : St} {H : Hp} {s : Shared} {A : Around} {E : Value → Shared → Prop} {Q : Value → Shared → Prop} {c : Value} {b : Bool}
/-- the type of a value, as the fragment's deciders take it; for an instance its class -/
inductive TyOf (K : PySem.W.Frag) (H : Hp) : V → Value → Prop where
  | non : TyOf K H .non (.type "NoneType")
  | bl (x : Bool) : TyOf K H (.bl x) (.type "bool")
  | int (i : Int) : TyOf K H (.int i) (.type "int")
  | str (x : Str) : TyOf K H (.str x) (.type "str")
  | flt (x : UInt64) : TyOf K H (.flt x) (.type "float")
  | lst {a : Addr} {xs : List V} (e : H a = some (.lst xs)) : TyOf K H (.ref a) (.type "list")
  | frz {a : Addr} {o : Obj} {xs : List V} (e : H a = some (.frz o (.lst xs))) : TyOf K H (.ref a) (.type "list")
  | tup {a : Addr} {xs : List V} (e : H a = some (.tup xs)) : TyOf K H (.ref a) (.type "tuple")
  | dK {a : Addr} {kvs : List (Key × V)} (e : H a = some (.dK kvs)) : TyOf K H (.ref a) (.type "dict")
  | dT {a : Addr} {kvs : List (List Key × V)} (e : H a = some (.dT kvs)) : TyOf K H (.ref a) (.type "dict")
  | ins {a C dx : Addr} {fs : List (Str × V)} (e : H a = some (.ins C dx fs)) (cl : Cls K C) (ha : PySem.W.findIn K (.ref C) "__class__" = some (some (.builtin "object.__class__")))
      (hn : PySem.W.specialIn K (.builtin "object.__class__") "__get__" = some (some (.builtin "getset_descriptor.__get__"))) (htk : PySem.W.takesIn K (.builtin "object.__class__") = some true)
      (hm : PySem.W.mroIn K C (.type "object") = some true) : TyOf K H (.ref a) (.ref C)
/-- isinstance(x, c) for one class c, a built-in or an own one: kitOne's answer -/
theorem isinst_ok {x : V} {u t : Value} (I : Inv X pins σ H s) (rx : RelV x u) (ty : TyOf X.K H x t) (e : PySem.W.kitOne X.K t c = some b) (h : ∀ tk, Q (.bool b) { s with toks := tk }) :
    wpAny (model X.prog X.w) A (call (.builtin "isinstance") [u, c]) Q E s := by
  cases ty with
  | non => cases (show u = Value.none from rx); exact PySem.W.kia_one PySem.W.kitx_none I.kIn True.intro e (fun z => nomatch z) h
  | bl y => cases (show u = Value.bool y from rx); exact PySem.W.kia_one PySem.W.kitx_bool I.kIn True.intro e (fun z => nomatch z) h
  | int i => obtain ⟨t, q⟩ := (show ∃ t, u = Value.int i t from rx); cases q; exact PySem.W.kia_one PySem.W.kitx_int I.kIn True.intro e (fun z => nomatch z) h
  | str y => obtain ⟨t, q⟩ := (show ∃ t, u = Value.str y t from rx); cases q; exact PySem.W.kia_one PySem.W.kitx_str I.kIn True.intro e (fun z => nomatch z) h
  | flt y => obtain ⟨t, q⟩ := (show ∃ t, u = Value.float y t from rx); cases q; exact PySem.W.kia_one PySem.W.kitx_float I.kIn True.intro e (fun z => nomatch z) h
  | @lst a xs ea =>
    cases (show u = Value.ref a from rx)
    obtain ⟨_, _, n, _, h1⟩ := (show ObjOk X.prog X.w H s.heap a (.lst xs) from I.hok a _ ea)
    exact PySem.W.kia_one PySem.W.kitx_list I.kIn ⟨_, h1, rfl⟩ e (fun z => nomatch z) h
  | @frz a ob xs ea =>
    cases (show u = Value.ref a from rx)
    obtain ⟨_, _, _, n, _, h1⟩ := (show ObjOk X.prog X.w H s.heap a (.frz ob (.lst xs)) from I.hok a _ ea)
    exact PySem.W.kia_one PySem.W.kitx_list I.kIn ⟨_, h1, rfl⟩ e (fun z => nomatch z) h
  | @tup a xs ea =>
    cases (show u = Value.ref a from rx)
    obtain ⟨_, _, _, p⟩ := (show ObjOk X.prog X.w H s.heap a (.tup xs) from I.hok a _ ea)
    obtain ⟨o, h1, h2, _⟩ := p
    exact PySem.W.kia_one PySem.W.kitx_tuple I.kIn ⟨o, h1, h2⟩ e (fun z => nomatch z) h
  | @dK a kvs ea =>
    cases (show u = Value.ref a from rx)
    obtain ⟨_, _, vs, _, p⟩ := (show ObjOk X.prog X.w H s.heap a (.dK kvs) from I.hok a _ ea)
    obtain ⟨o, es, ep, h1, h2, _⟩ := p
    exact PySem.W.kia_one PySem.W.kitx_dict I.kIn ⟨o, h1, h2.1⟩ e (fun z => nomatch z) h
  | @dT a kvs ea =>
    cases (show u = Value.ref a from rx)
    obtain ⟨_, _, xs, _, o, es, ep, h1, h2, _⟩ := (show ObjOk X.prog X.w H s.heap a (.dT kvs) from I.hok a _ ea)
    exact PySem.W.kia_one PySem.W.kitx_dict I.kIn ⟨o, h1, h2.1⟩ e (fun z => nomatch z) h
  | @ins a C dx fs ea cl ha hn htk hm =>
    cases (show u = Value.ref a from rx)
    obtain ⟨mA, O, _⟩ := ins_get I.hok ea
    obtain ⟨od, J, _⟩ := O.look
    exact PySem.W.kia_one (PySem.W.kitx_own (cl.get _) cl.hd ha hn htk hm) I.kIn J e (fun z => nomatch z) h
end
end L2

namespace L2
open PySem PySem.Spec PyProof.Rows

/-! ### room -/
structure Room (k : Nat) (A : Around) : Prop where
  hd : A.handled = none
  dp : A.depth + 3 * k + 5 < recursionLimit
  un : A.units + 16 * k + 200 < cLine
theorem Room.mono {j k : Nat} {A : Around} (r : Room k A) (h : j ≤ k) : Room j A := ⟨r.hd, by have := r.dp; omega, by have := r.un; omega⟩
theorem Room.deeper {k : Nat} {A : Around} (r : Room (k + 1) A) (env : Env) : Room k (A.deeper env) :=
  ⟨r.hd, by have := r.dp; show A.depth + 1 + 3 * k + 5 < _; omega, by have := r.un; show A.units + 3 + 16 * k + 200 < _; omega⟩
theorem make_depth {A : Around} {C : Addr} {us : List Value} {kw : List (Str × Value)} : (A.under (.builtin "type.__call__" ⟨.ref C :: us, kw⟩)).depth = A.depth + 1 := by
  first | rfl | simp [Around.under, Code.weight, Code.isCreation, Code.isGuard, Code.isCaller, Code.frames, Code.isFrame, guardIds]
theorem make_units {A : Around} {C : Addr} {us : List Value} {kw : List (Str × Value)} : (A.under (.builtin "type.__call__" ⟨.ref C :: us, kw⟩)).units = A.units + 1 := by
  first | rfl | simp [Around.under, Code.cUnits, Code.frames, Code.isFrame]
theorem Room.make {k : Nat} {A : Around} (r : Room (k + 1) A) (C : Addr) (us : List Value) (kw : List (Str × Value)) : Room k (A.under (.builtin "type.__call__" ⟨.ref C :: us, kw⟩)) :=
  ⟨r.hd, by have := r.dp; rw [make_depth]; omega, by have := r.un; rw [make_units]; omega⟩
theorem Room.depth {k : Nat} {A : Around} (r : Room k A) : A.depth < recursionLimit := by have := r.dp; omega
theorem Room.units {k : Nat} {A : Around} (r : Room k A) : A.units + 64 < cLine := by have := r.un; omega

/-! ### argument lists and displays -/
def tNil : TA := fun _ H Q => Q [] H
def tCons (ta : TE) (tr : TA) : TA := fun σ H Q => ta σ H fun x H1 => tr σ H1 fun xs H2 => Q (x :: xs) H2
section
variable {X : Cx} {e : Expr} {es : List Expr} {te : TE} {t : TA} {pos : Pos}
theorem pa_nil : PA X [] tNil := fun _ _ _ _ H Q I h => Calls.spliced_nil ⟨[], H, I, .nil, h⟩
theorem pa_cons (ha : PE X e te) (hr : PA X es t) (hs : starEach (e :: es) X.env = (false, eval e X.env) :: starEach es X.env := by rfl) : PA X (e :: es) (tCons te t) := by
  intro pos pins s σ H Q I h
  rw [hs]
  show wpAny _ _ (spliced ((false, eval e X.env) :: backTo pos (starEach es X.env))) _ _ s
  refine Calls.spliced_cons (thn (ha pins s σ H _ I h) fun u s1 ⟨x, H1, I1, r1, q1⟩ => ?_)
  exact thn (hr pos pins s1 σ H1 _ I1 q1) fun us s2 ⟨xs, H2, I2, r2, q2⟩ => ⟨x :: xs, H2, I2, .cons r1 r2, q2⟩

/-- a tuple, a list of written items -/
def tTup (t : TA) : TE := fun σ H Q => t σ H fun xs H1 => xs.length ≤ sizeLine ∧ ∀ p, H1 p = none → Q (.ref p) (upd H1 p (.tup xs))
def tLst (t : TA) : TE := fun σ H Q => t σ H fun xs H1 => xs.length ≤ sizeLine ∧ ∀ p, H1 p = none → Q (.ref p) (upd H1 p (.lst xs))
theorem pe_tup {x1} (h : PA X es t) : PE X (.Tuple es x1 pos) (tTup t) := by
  intro pins s σ H Q I hq
  refine wpAny_Tuple_spliced (thn (h pos pins s σ H _ I hq) fun us s1 ⟨xs, H1, I1, r, z, q⟩ => ⟨by rw [← r.length]; exact z, ?_⟩)
  have hf : H1 s1.heap.objs.size = none := I1.hok.fresh (Nat.le_refl _)
  refine ⟨.ref s1.heap.objs.size, upd H1 s1.heap.objs.size (.tup xs), I1.laid (t' := s1.toks) (fun b u e => Heap.get?_push_of_some _ e) (Nat.le_refl _) ?_, rfl, q _ hf⟩
  exact ⟨z, us, r, ⟨_, Heap.get?_push_size _ rfl, rfl, _, rfl⟩⟩
theorem pe_lst (h : PA X es t) : PE X (.List es pos) (tLst t) := by
  intro pins s σ H Q I hq
  refine wpAny_List_spliced (thn (h pos pins s σ H _ I hq) fun us s1 ⟨xs, H1, I1, r, z, q⟩ => ⟨by rw [← r.length]; exact z, ?_⟩)
  have hf : H1 s1.heap.objs.size = none := I1.hok.fresh (Nat.le_refl _)
  refine ⟨.ref s1.heap.objs.size, upd H1 s1.heap.objs.size (.lst xs), I1.laid (t' := s1.toks) (fun b u e => Heap.get?_push_of_some _ e) (Nat.le_refl _) ?_, rfl, q _ hf⟩
  exact ⟨z, us, 0, r, Heap.get?_push_size _ rfl⟩
end

/-! ### what a def promises -/
/-- a def's promise: the bound arguments in the parameters' order, the heap, the wanted end, the wanted exception -/
abbrev Sp := List V → Hp → VK → XK → Prop
/-- how an exception lies behind a call (file 08 gives it): the callers' frames, abstract heap and state ahead of the call, the wish, the exception, the state -/
abbrev CXT := List Env → Hp → Shared → XK → Value → Shared → Prop

/-- the state at a call -/
structure Env0 (P : Program) (w : World) (K : PySem.W.Frag) (mg : Str → Option Value) (base : Heap) (A : Around) (outer : List Env) (s : Shared) (H : Hp) : Prop where
  frames : A.frames = some outer
  mod : Mod K mg base
  bs : ∀ b o, base.get? b = some o → s.heap.get? b = some o ∧ H b = none
  bsz : base.objs.size ≤ s.heap.objs.size
  funs : s.heap.FunFrames base outer
  frf : ∀ b ∈ frs outer, H b = none
  hok : HOk P w H s.heap
  bare : AllBare s.gens
/-- a call's end -/
def CE (outer : List Env) (P : Program) (w : World) (H : Hp) (s : Shared) (Q : VK) (u : Value) (s' : Shared) : Prop :=
  ∃ v H', s'.os = s.os ∧ AllBare s'.gens ∧ Un (frs outer) [] H H' s.heap s'.heap ∧ HOk P w H' s'.heap ∧ RelV v u ∧ Q v H'
def CR (CX : CXT) (outer : List Env) (P : Program) (w : World) (H : Hp) (s : Shared) (Q : VK) (E : XK) (r : Result) (s' : Shared) : Prop :=
  match r with
  | .ok (.ret u) => CE outer P w H s Q u s'
  | .ok _ => False
  | .error e => CX outer H s E e s'
structure FnOk (P : Program) (w : World) (K : PySem.W.Frag) (mg : Str → Option Value) (base : Heap) (CX : CXT) (k : Nat) (f : Addr) (fd : FuncData) (ps : List Str) (sp : Sp) : Prop where
  len : ∀ vs H Q E, sp vs H Q E → vs.length = ps.length
  run : ∀ (A : Around) (outer : List Env) (s : Shared) (H : Hp) (args : Args) (us : List Value) (vs : List V) (Q : VK) (E : XK), Room k A → Env0 P w K mg base A outer s H → BindsTo s fd args (ps.zip us) → Vals vs us → sp vs H Q E →
    codeAny (model P w) A (.call (.ref f) args) (CR CX outer P w H s Q E) s

theorem Env0.make {P : Program} {w : World} {K : PySem.W.Frag} {mg : Str → Option Value} {base : Heap} {A : Around} {outer : List Env} {s : Shared} {H : Hp} (e : Env0 P w K mg base A outer s H) (C : Addr) (us : List Value) (kw : List (Str × Value)) :
    Env0 P w K mg base (A.under (.builtin "type.__call__" ⟨.ref C :: us, kw⟩)) outer s H := ⟨by first | exact e.frames | (simpa [Around.under, Code.envs, Code.isFrame, pushEnvs] using e.frames), e.mod, e.bs, e.bsz, e.funs, e.frf, e.hok, e.bare⟩

section
variable {X : Cx} {pins : List (Addr × Obj)} {σ : St} {H : Hp} {s s' : Shared}
/-- from a body: what a callee wants -/
theorem Inv.env0 (I : Inv X pins σ H s) : Env0 X.prog X.w X.K X.mg X.base X.A X.stack s H :=
  ⟨I.ok.frames, I.ok.mod, I.bs, Nat.le_trans I.ok.bsz I.sz, I.stack, I.stkFree, I.hok, I.bare⟩
/-- behind a call -/
theorem Inv.after {Q : VK} {u : Value} (I : Inv X pins σ H s) (h : CE X.stack X.prog X.w H s Q u s') : EP X pins σ Q u s' := by
  obtain ⟨v, H', os, bare, un, hok, r, q⟩ := h
  obtain ⟨hh, g, d, t, os'⟩ := s'
  obtain rfl : os' = s.os := os
  exact ⟨v, H', I.call (h' := hh) (g' := g) (d' := d) (t' := t) (ch := []) un hok bare (fun b z => absurd z (by simp)), r, q⟩
end

/-! ### calls -/
/-- f(..): the written arguments, then the defaults dvs; E: what is wanted of an exception -/
def tCall (sp : Sp) (dvs : List V) (E : XK) (t : TA) : TE := fun σ H Q => t σ H fun vs H1 => sp (vs ++ dvs) H1 Q E

/-- how the parameters are bound: us the positional arguments, kw the keywords' values by name, ds the defaults that fill up -/
def Binds (K : PySem.W.Frag) (fd : FuncData) (ps : List Str) (ds : List Value) : Prop :=
  ∀ (s : Shared) (us : List Value), K.In s.heap → (us ++ ds).length = ps.length → BindsTo s fd ⟨us, []⟩ (ps.zip (us ++ ds))
/-- every parameter is given -/
theorem Binds.all {K : PySem.W.Frag} {fd : FuncData} {ps : List Str} (h : ∀ us : List Value, us.length = ps.length → bindArgs fd ⟨us, []⟩ = pure (ps.zip us)) : Binds K fd ps [] := fun s us _ hl => by
  rw [List.append_nil] at hl ⊢
  exact .of_eq (h us hl)

/-- an exception of a callee reaches what this body wants of exceptions -/
def Passes (CX : CXT) (X : Cx) (E : XK) : Prop := ∀ (pins : List (Addr × Obj)) (σ : St) (H : Hp) (s : Shared) (e : Value) (s' : Shared), Inv X pins σ H s → CX X.stack H s E e s' → X.xe e s'

section
variable {X : Cx} {CX : CXT} {k : Nat} {f C : Addr} {fd : FuncData} {ps : List Str} {sp : Sp} {dvs : List V} {ds : List Value} {E : XK} {x m : Str} {p pos apos : Pos} {e o : Expr} {es : List Expr} {ta : TE} {t : TA}

/-- the callee runs -/
theorem run_fn {pins : List (Addr × Obj)} {σ : St} {H : Hp} {s : Shared} {Q : VK} {us : List Value} {vs : List V} (F : FnOk X.prog X.w X.K X.mg X.base CX k f fd ps sp) (hr : Room k X.A) (hb : Binds X.K fd ps ds) (hd : Vals dvs ds) (hx : Passes CX X E)
    (I : Inv X pins σ H s) (r : Vals vs us) (h : sp (vs ++ dvs) H Q E) : wpAny (model X.prog X.w) X.A (call (.ref f) us) (EP X pins σ Q) X.xe s := by
  have r2 : Vals (vs ++ dvs) (us ++ ds) := r.append hd
  have hl : (us ++ ds).length = ps.length := by rw [← r2.length]; exact F.len _ _ _ _ h
  refine wpAny_call (codeAny_mono (F.run X.A X.stack s H ⟨us, []⟩ (us ++ ds) (vs ++ dvs) Q E hr I.env0 (hb s us I.kIn hl) r2 h) fun r s' hq => ?_)
  cases r with
  | error e => exact hx pins σ H s e s' I hq
  | ok fl =>
    cases fl with
    | ret u => exact I.after hq
    | next => exact False.elim hq
    | brk => exact False.elim hq
    | cont => exact False.elim hq

theorem pe_call (F : FnOk X.prog X.w X.K X.mg X.base CX k f fd ps sp) (hr : Room k X.A) (hg : Gl X x) (hm : X.mg x = some (.ref f)) (hk : PySem.W.keepIn X.K (.ref f) = true) (hb : Binds X.K fd ps ds) (hd : Vals dvs ds) (hx : Passes CX X E)
    (ha : PA X (e :: es) t) (hdb : (x == ("__debug__" : Str)) = false := by decide) (he : starEach (e :: es) X.env = (false, eval e X.env) :: starEach es X.env := by rfl) (hpl : (backTo pos (starEach es X.env)).any (·.1) = false := by rfl) :
    PE X (.Call (.Name x p) (e :: es) [] pos) (tCall sp dvs E t) := by
  intro pins s σ H Q I h
  refine wpAny_Call_Name_kw (ld_glob I hg hm ?_ hdb)
  refine PySem.W.callWith_K (h₀ := X.base) I.ok.mod.kin hk (thn (ha pos pins s σ H _ I h) fun us s1 ⟨vs, H1, I1, r, q⟩ => ⟨I1.kIn, ?_⟩) he hpl
  exact run_fn F hr hb hd hx I1 r q



end

/-! ### keywords -/
section
variable {X : Cx} {CX : CXT} {k : Nat} {f C : Addr} {fd : FuncData} {ps ks : List Str} {sp : Sp} {E : XK} {x m : Str} {p pos apos kpos : Pos} {e o : Expr} {es : List Expr} {kws : List Keyword} {te ta : TE} {t tk : TA} {nm : Option Str}

variable {g : List Value → List Value → List Value} {gV : List V → List V → List V}
end

/-! ### a def's body keeps its promise -/
/-- names: the parameters first -/
structure FnScope (N P : List Str) (sc : Scope) : Prop where
  kind : sc.kind = .function
  co : sc.isCoroutine = false
  gen : sc.isGenerator = false
  nd : N.Nodup
  pre : N.take P.length = P
  par : ∀ x ∈ P, sc.names.lookup x = some .local ∨ sc.names.lookup x = some .cell
  nofree : ∀ y ∈ sc.names, y.2 ≠ .free

theorem bindL_out {kindOf : Str → Option NameKind} {x : Str} : ∀ {binds : List (Str × Value)} {m : Str → Option Value}, (∀ v, (x, v) ∉ binds) → bindL kindOf binds m x = m x
  | [], _, _ => rfl
  | (n, v) :: r, m, h => by
    unfold bindL
    rw [bindL_out fun w hw => h w (List.mem_cons_of_mem _ hw)]
    split
    · have : x ≠ n := by rintro rfl; exact h v List.mem_cons_self
      simp [this]
    · rfl
theorem bindC_out {kindOf : Str → Option NameKind} {x : Str} : ∀ {binds : List (Str × Value)} {m : Str → Option Value}, (∀ v, (x, v) ∉ binds) → bindC kindOf binds m x = m x
  | [], _, _ => rfl
  | (n, v) :: r, m, h => by
    unfold bindC
    rw [bindC_out fun w hw => h w (List.mem_cons_of_mem _ hw)]
    split
    · rfl
    · have : x ≠ n := by rintro rfl; exact h v List.mem_cons_self
      simp [this]
theorem bindL_get {kindOf : Str → Option NameKind} {x : Str} {v : Value} : ∀ {P : List Str} {vs : List Value} {i : Nat} {m : Str → Option Value}, P.Nodup → P[i]? = some x → vs[i]? = some v → kindOf x = some .local →
    bindL kindOf (P.zip vs) m x = some v
  | [], _, _, _, _, h, _, _ => by simp at h
  | _ :: _, [], _, _, _, _, h, _ => by simp at h
  | p :: P, w :: vs, 0, m, nd, h1, h2, hk => by
    simp at h1 h2; subst h1; subst h2
    show bindL kindOf ((p, w) :: P.zip vs) m p = _
    unfold bindL
    rw [bindL_out fun v hv => (List.nodup_cons.mp nd).1 (List.of_mem_zip hv).1, if_pos hk]
    simp
  | p :: P, w :: vs, i + 1, m, nd, h1, h2, hk => by
    show bindL kindOf ((p, w) :: P.zip vs) m x = _
    unfold bindL
    exact bindL_get (i := i) (List.nodup_cons.mp nd).2 (by simpa using h1) (by simpa using h2) hk
theorem bindC_get {kindOf : Str → Option NameKind} {x : Str} {v : Value} : ∀ {P : List Str} {vs : List Value} {i : Nat} {m : Str → Option Value}, P.Nodup → P[i]? = some x → vs[i]? = some v → kindOf x ≠ some .local →
    bindC kindOf (P.zip vs) m x = some v
  | [], _, _, _, _, h, _, _ => by simp at h
  | _ :: _, [], _, _, _, _, h, _ => by simp at h
  | p :: P, w :: vs, 0, m, nd, h1, h2, hk => by
    simp at h1 h2; subst h1; subst h2
    show bindC kindOf ((p, w) :: P.zip vs) m p = _
    unfold bindC
    rw [bindC_out fun v hv => (List.nodup_cons.mp nd).1 (List.of_mem_zip hv).1, if_neg hk]
    simp
  | p :: P, w :: vs, i + 1, m, nd, h1, h2, hk => by
    show bindC kindOf ((p, w) :: P.zip vs) m x = _
    unfold bindC
    exact bindC_get (i := i) (List.nodup_cons.mp nd).2 (by simpa using h1) (by simpa using h2) hk

/-- the names' values at the entry -/
def start (N : List Str) (vs : List V) : St := vs.map some ++ List.replicate (N.length - vs.length) none

/-- the context of a def's body, at its entry; an exception leaves the frame, then lies as CX says -/
def cxOf (CX : CXT) (P : Program) (w : World) (K : PySem.W.Frag) (mg : Str → Option Value) (base : Heap) (N : List Str) (qual : Str) (scope : Scope) (f : Addr) (cd : Value) (A : Around) (outer : List Env) (s : Shared) (H : Hp) (E : XK) : Cx where
  prog := P
  w := w
  K := K
  mg := mg
  base := base
  A := A.deeper (envOfC qual scope s.heap.objs.size f cd)
  N := N
  s₀ := s
  H₀ := H
  env := envOfC qual scope s.heap.objs.size f cd
  outer := outer
  stack := envOfC qual scope s.heap.objs.size f cd :: outer
  ex := []
  calm := true
  fn := fun _ => true
  pn := []
  xe := fun e s' => wpAny (model P w) (A.deeper (envOfC qual scope s.heap.objs.size f cd)) (leaving (envOfC qual scope s.heap.objs.size f cd) e) (fun _ s'' => CX outer H s E e s'') (fun e' s'' => CX outer H s E e' s'') s'

theorem cell_has {sc : Scope} {n : Nat} {x : Str} (h : sc.names.lookup x = some .cell) : ∃ c, (cellsFrom n sc.names []).lookup x = some c := by
  have q := PySem.W.cellsFrom_some sc.names n [] (.inl h)
  exact Option.isSome_iff_exists.mp q

theorem inv_start {CX : CXT} {P : Program} {w : World} {K : PySem.W.Frag} {mg : Str → Option Value} {base : Heap} {N ps : List Str} {qual : Str} {scope : Scope} {f : Addr} {cd : Value} {A : Around} {outer : List Env} {s s1 : Shared} {H : Hp} {E : XK} {us : List Value} {vs : List V}
    (S : FnScope N ps scope) (hd : A.handled = none) (e0 : Env0 P w K mg base A outer s H) (hl : vs.length = ps.length) (r : Vals vs us)
    (x : InCallC s s.heap.objs.size (bindL (envOfC qual scope s.heap.objs.size f cd).kindOf (ps.zip us) fun _ => none) (cellsFrom (s.heap.objs.size + 1) scope.names []) (bindC (envOfC qual scope s.heap.objs.size f cd).kindOf (ps.zip us) fun _ => none) s1) :
    Inv (cxOf CX P w K mg base N qual scope f cd A outer s H E) [] (start N vs) H s1 := by
  have hpl : ps.length ≤ N.length := by have := congrArg List.length S.pre; rw [List.length_take] at this; omega
  obtain ⟨h1, tk, rfl, hk⟩ := x.done
  have noA : ∀ b : Addr, b ∉ (cxOf CX P w K mg base N qual scope f cd A outer s H E).ex := fun b z => absurd (show b ∈ ([] : List Addr) from z) (by simp)
  refine ⟨⟨e0.mod, S.kind, rfl, rfl, Nat.le_refl _, fun y z c h1 h2 => ?_, fun y hy => ?_, fun y c _ h => ?_, fun _ => hd, Around.frames_deeper e0.frames, .inr ⟨rfl, rfl⟩, fun b z => absurd z (noA b), e0.bs, e0.bsz, fun b _ _ => noA b, fun b z => absurd z (noA b), e0.funs, e0.frf⟩,
    rfl, e0.bare, Un.kept hk, ⟨_, x.toInCall.ns, fun i y v h1 h2 h3 => ?_⟩, fun y c h => ⟨_, x.cell y c h⟩, e0.hok.fresh (Nat.le_refl _), fun y c h => ?_, fun p hp => absurd (show p ∈ ([] : List (Addr × Obj)) from hp) (by simp), e0.hok.kept hk, ?_⟩
  · exact name_of_addr x.apart (PySem.mem_of_lookup h1) (PySem.mem_of_lookup h2)
  · have hy : scope.names.lookup y = some .cell ∨ scope.names.lookup y = some .free := hy
    rcases hy with hy | hy
    · exact cell_has hy
    · exact absurd rfl (S.nofree _ (PySem.mem_of_lookup hy))
  · exact Nat.le_of_lt (x.above y c (PySem.mem_of_lookup h))
  · have hi : i < vs.length := by
      unfold start at h2
      by_cases hi : i < vs.length
      · exact hi
      · rw [List.getElem?_append_right (by simpa using hi)] at h2
        rw [List.getElem?_replicate] at h2
        split at h2 <;> cases h2
    have ha : vs[i]? = some v := by
      unfold start at h2
      rw [List.getElem?_append_left (by simpa using hi), List.getElem?_map] at h2
      cases e : vs[i]? with
      | none => rw [e] at h2; cases h2
      | some a => rw [e] at h2; cases h2; rfl
    obtain ⟨u, hu, rv⟩ := r.get ha
    have hp : ps[i]? = some y := by
      rw [← S.pre, List.getElem?_take_of_lt (by omega)]; exact h1
    have ndP : ps.Nodup := by rw [← S.pre]; exact S.nd.sublist (List.take_sublist _ _)
    refine ⟨u, rv, ?_⟩
    rcases S.par y (List.mem_of_getElem? hp) with k | k
    · exact .inl ⟨k, bindL_get ndP hp hu k⟩
    · obtain ⟨c, e⟩ := cell_has (n := s.heap.objs.size + 1) k
      refine .inr ⟨.inl k, c, e, ?_⟩
      have q := x.cell y c e
      rw [bindC_get ndP hp hu (by show scope.names.lookup y ≠ _; rw [k]; decide)] at q
      exact q
  · exact e0.hok.fresh (Nat.le_of_lt (x.above y c (PySem.mem_of_lookup h)))
  · unfold start
    show _ = N.length
    rw [List.length_append, List.length_map, List.length_replicate]
    omega

/-- THE RULE: a def (or a method) of the text, by its body. The body's reading t is chosen for each entry; it is run at the parameters' values -/
theorem fn_of {CX : CXT} {P : Program} {w : World} {K : PySem.W.Frag} {mg : Str → Option Value} {base : Heap} {k : Nat} {f : Addr} {name qual : Str} {params : Arguments} {body : List Stmt} {scope : Scope} {dV kV doc pm cdv ct oc : Value} {an od : Option Addr}
    {osl : Array (Option Value)} {N ps : List Str} {sp : Sp} (lk : K.lookup f = some ⟨oc, od, .func (PySem.W.fnOf name qual params body scope dV kV doc pm an cdv ct), osl⟩) (hcd : PySem.W.codeIn K cdv qual = true) (S : FnScope N ps scope)
    (len : ∀ vs H Q E, sp vs H Q E → vs.length = ps.length)
    (hbody : ∀ (A : Around) (outer : List Env) (s : Shared) (H : Hp) (vs : List V) (Q : VK) (E : XK), Room k (A.deeper (envOfC qual scope s.heap.objs.size f cdv)) → sp vs H Q E →
      ∃ t, PSs (cxOf CX P w K mg base N qual scope f cdv A outer s H E) body t ∧ t { nx := fun _ H' => Q .non H', rt := Q } (start N vs) H) :
    FnOk P w K mg base CX (k + 1) f (PySem.W.fnOf name qual params body scope dV kV doc pm an cdv ct) ps sp := by
  refine ⟨len, fun A outer s H args us vs Q E hr e0 hb r hsp => ?_⟩
  have hl := len _ _ _ _ hsp
  have KX : K.In s.heap := e0.mod.kin.keeps fun b o e => (e0.bs b o e).1
  have lim : s.heap.NoLimit := e0.mod.nolimit.keeps fun b o e => (e0.bs b o e).1
  have hkind : ∀ y ∈ ps.zip us, scope.names.lookup y.1 = some .local ∨ (scope.names.lookup y.1 = some .cell ∧ ((cellsFrom (s.heap.objs.size + 1) scope.names []).lookup y.1).isSome = true) := fun ⟨n, v⟩ hy => by
    rcases S.par n (List.of_mem_zip hy).1 with q | q
    · exact .inl q
    · exact .inr ⟨q, PySem.W.cellsFrom_some _ _ _ (.inl q)⟩
  refine codeAny_call_function hr.depth (KX _ _ lk) rfl S.co S.gen rfl (PySem.W.codeRec_of KX hcd) (hb _ _ _ _ ?_)
  refine wpAny_newFunctionEnv_cells S.kind hkind fun env he s1 x => ?_
  subst he
  refine ⟨lim.keeps x.toInCall.keep, codeAny_func ?_⟩
  obtain ⟨t, ht, hq⟩ := hbody A outer s H vs Q E (hr.deeper _) hsp
  have I : Inv (cxOf CX P w K mg base N qual scope f cdv A outer s H E) [] (start N vs) H s1 := inv_start S hr.hd e0 hl r x
  refine wpAny_mono (ht [] s1 (start N vs) H _ I hq) (fun fl s' hs => ?_) fun e s' hs => hs
  have fin : ∀ {σ' : St} {H' : Hp} {v : V} {u : Value}, Inv (cxOf CX P w K mg base N qual scope f cdv A outer s H E) [] σ' H' s' → RelV v u → Q v H' → CE outer P w H s Q u s' :=
    fun {σ' H' v u} J rv q => ⟨v, H', J.os, J.bare, J.base, J.hok, rv, q⟩
  cases fl with
  | ret u =>
    obtain ⟨v, σ', H', J, rv, q⟩ := hs
    exact fin J rv q
  | next =>
    obtain ⟨σ', H', J, q⟩ := hs
    exact fin (v := V.non) (u := Value.none) J rfl q
  | brk =>
    obtain ⟨_, _, _, q⟩ := hs
    exact False.elim q
  | cont =>
    obtain ⟨_, _, _, q⟩ := hs
    exact False.elim q
end L2

namespace L2
open PySem PySem.Spec PyProof.Rows
section
variable {X : Cx} {x : Str} {p pos : Pos} {e : Expr} {es : List Expr} {t : TA} {id T : String} {r : List V → Hp → VK → Prop}

def tCB (r : List V → Hp → VK → Prop) (t : TA) : TE := fun σ H Q => t σ H fun vs H1 => r vs H1 Q
/-- f(e, ..), f a built-in function -/
theorem pe_callB (hc : CallR X (.builtin id) r) (hg : Gl X x) (hm : X.mg x = none) (hv : bootBuiltins x = some (.builtin id)) (ha : PA X (e :: es) t) (hn : x ≠ "__name__" := by decide) (hdb : (x == ("__debug__" : Str)) = false := by decide)
    (he : starEach (e :: es) X.env = (false, eval e X.env) :: starEach es X.env := by rfl) (hpl : (backTo pos (starEach es X.env)).any (·.1) = false := by rfl) : PE X (.Call (.Name x p) (e :: es) [] pos) (tCB r t) := by
  intro pins s σ H Q I h
  refine wpAny_Call_Name_kw (ld_blt I hg hm hv ?_ hn hdb)
  exact PyProof.Rows.callWith_builtin1 (thn (ha pos pins s σ H _ I h) fun us s1 ⟨vs, H1, I1, r1, q1⟩ => hc pins s1 σ H1 vs us Q I1 r1 q1) he hpl
/-- T(e, ..), T a built-in type -/
theorem pe_callTy (hc : CallR X (.type T) r) (hg : Gl X x) (hm : X.mg x = none) (hv : bootBuiltins x = some (.type T)) (ha : PA X (e :: es) t) (hn : x ≠ "__name__" := by decide) (hdb : (x == ("__debug__" : Str)) = false := by decide)
    (he : starEach (e :: es) X.env = (false, eval e X.env) :: starEach es X.env := by rfl) (hpl : (backTo pos (starEach es X.env)).any (·.1) = false := by rfl) : PE X (.Call (.Name x p) (e :: es) [] pos) (tCB r t) := by
  intro pins s σ H Q I h
  refine wpAny_Call_Name_kw (ld_blt I hg hm hv ?_ hn hdb)
  exact PyProof.Rows.callWith_type1 (thn (ha pos pins s σ H _ I h) fun us s1 ⟨vs, H1, I1, r1, q1⟩ => hc pins s1 σ H1 vs us Q I1 r1 q1) he hpl
end
end L2

namespace HT
open PySem PyProof.Rows



section
open PySem.SeqAt
open PySem.AutoSeq1 (wpAny_loadPart')
open PySem.MeetsSeq PySem.MeetsSeq2 PySem.MeetsSeq3

end

section
variable {prog : Program} {w : World} {A : Around} {E : Value → Shared → Prop} {s : Shared}



/-! ### t[a:b], not the whole -/
/-- a slice's bound as a place among n (d where it is left out) -/
def sIx (n d : Nat) : Option Int → Nat
  | none => d
  | some v => if v < 0 then (v + (n : Int)).toNat else min v.toNat n
theorem sIx_le (n d : Nat) (hd : d ≤ n) (o : Option Int) : sIx n d o ≤ n := by
  cases o with
  | none => exact hd
  | some v =>
    show (if v < 0 then (v + (n : Int)).toNat else min v.toNat n) ≤ n
    by_cases hv : v < 0
    · rw [if_pos hv]; omega
    · rw [if_neg hv]; exact Nat.min_le_right _ _
theorem clip_eq (v : Int) (n d : Nat) : (if v < 0 then max (v + (n : Int)) 0 else min v (n : Int)) = ((sIx n d (some v) : Nat) : Int) := by
  show (if v < 0 then max (v + (n : Int)) 0 else min v (n : Int)) = (((if v < 0 then (v + (n : Int)).toNat else min v.toNat n) : Nat) : Int)
  by_cases hv : v < 0
  · simp only [if_pos hv]; omega
  · simp only [if_neg hv]; omega
theorem adjust_gen (lo hi : Option Int) (n : Nat) : Builtin.Slice.sliceAdjust lo hi 1 (n : Int) = (((sIx n 0 lo : Nat) : Int), ((sIx n n hi : Nat) : Int)) := by
  have h1 : ¬ ((1 : Int) < 0) := by omega
  unfold Builtin.Slice.sliceAdjust
  simp only [h1, if_false]
  refine Prod.ext ?_ ?_
  · cases lo with
    | none => rfl
    | some v => exact clip_eq v n 0
  · cases hi with
    | none => rfl
    | some v => exact clip_eq v n n
theorem places_gen (i j : Nat) : Builtin.Slice.slicePlaces (i : Int) (j : Int) 1 = j - i := by
  unfold Builtin.Slice.slicePlaces
  have h1 : (1 : Int) > 0 := by omega
  simp only [h1, if_true, Int.ediv_one]
  split <;> omega
theorem slicePart_ {v : Value} {o : Option Int} {Q : Option Int → Shared → Prop} (p : IsPart v o) (h : Q o s) : wpAny (model prog w) A (Builtin.Slice.slicePartIndex v) Q E s := by
  cases p with
  | none => exact slicePart_none h
  | int i t => exact slicePart_int h
theorem sliceApplied_gen {sl : Addr} {vl vu : Value} {lo hi : Option Int} {n : Nat} {Q : Int × Int × Nat → Shared → Prop} (hs : s.heap.IsSliceOf sl vl vu .none) (pl : IsPart vl lo) (pu : IsPart vu hi)
    (h : Q (((sIx n 0 lo : Nat) : Int), 1, sIx n n hi - sIx n 0 lo) s) : wpAny (model prog w) A (Builtin.Slice.sliceApplied (.ref sl) (pure (n : Int))) Q E s := by
  obtain ⟨os, hos, hcs, hds⟩ := id hs
  unfold Builtin.Slice.sliceApplied Builtin.Slice.sliceFields
  refine wpAny_bind (wpAny_bind (wpAny_field hos hds (x := vl) rfl (wpAny_bind (wpAny_field hos hds (x := vu) rfl (wpAny_bind (wpAny_field hos hds (x := .none) rfl (wpAny_pure ?_)))))))
  refine wpAny_bind (slicePart_none ?_)
  show wpAny _ _ (if ((1 : Int) == 0) = true then _ else _) _ _ s
  rw [if_neg (by decide)]
  refine wpAny_bind (slicePart_ pl (wpAny_bind (slicePart_ pu (wpAny_bind (wpAny_pure ?_)))))
  show wpAny _ _ (match Builtin.Slice.sliceAdjust lo hi 1 (n : Int) with | (lo, hi) => pure (lo, (1 : Int), Builtin.Slice.slicePlaces lo hi 1)) _ _ s
  rw [adjust_gen lo hi n]
  show wpAny _ _ (pure (((sIx n 0 lo : Nat) : Int), (1 : Int), Builtin.Slice.slicePlaces ((sIx n 0 lo : Nat) : Int) ((sIx n n hi : Nat) : Int) 1)) _ _ s
  rw [places_gen]
  exact wpAny_pure h
theorem pick_gen (xs : Array Value) (i k : Nat) : ((List.range k).filterMap fun (m : Nat) => xs[((i : Int) + (m : Int) * 1).toNat]?).toArray = ((xs.toList.drop i).take k).toArray := by
  have e : (fun (m : Nat) => xs[((i : Int) + (m : Int) * 1).toNat]?) = fun m => xs[i + m]? := by
    funext m
    have : ((i : Int) + (m : Int) * 1).toNat = i + m := by omega
    rw [this]
  rw [e]
  have := pick_run xs i k
  rw [List.filterMap_map] at this
  have e2 : ((fun x => xs[x]?) ∘ fun x => i + x) = fun m => xs[i + m]? := rfl
  rw [e2] at this
  rw [this]

theorem getItem_tuple_cut {t sl : Addr} {items : Array Value} {vl vu : Value} {lo hi : Option Int} {Q : Value → Shared → Prop} (ht : IsTup s.heap t items) (hs : s.heap.IsSliceOf sl vl vu .none) (pl : IsPart vl lo) (pu : IsPart vu hi)
    (hw : ¬ (sIx items.size 0 lo = 0 ∧ sIx items.size items.size hi = items.size))
    (h : Q (.ref s.heap.objs.size) { s with heap := s.heap.push { cls := .type "tuple", data := .seq ((items.toList.drop (sIx items.size 0 lo)).take (sIx items.size items.size hi - sIx items.size 0 lo)).toArray } })
    (hsz : items.size ≤ sizeLine) : wpAny (model prog w) A (getItem (.ref t) (.ref sl)) Q E s := by
  have htake : sizeOk (.seq ((items.toList.drop (sIx items.size 0 lo)).take (sIx items.size items.size hi - sIx items.size 0 lo)).toArray) := by
    show ((items.toList.drop (sIx items.size 0 lo)).take (sIx items.size items.size hi - sIx items.size 0 lo)).toArray.size ≤ sizeLine
    rw [List.size_toArray, List.length_take, List.length_drop, Array.length_toList]
    omega
  have hj : sIx items.size items.size hi ≤ items.size := sIx_le _ _ (Nat.le_refl _) hi
  obtain ⟨os, hos, hcs, hds⟩ := id hs
  have hTs : s.TypeIs (.ref sl) "slice" := ⟨os, hos, hcs⟩
  unfold getItem
  try with_reducible refine wpAny_holding ?_
  first | refine wpAny_bind (wpAny_pure ?_) | skip
  refine wpAny_bind (wpAny_sequenceKey ht.typeIs (by decide) ?_)
  refine wpAny_bind (wpAny_callSpecial?_slot (name := Str.ofString "__getitem__") ht.typeIs PyProof.Rows.slot_tuple_getitem
    (wpAny_call_entry PyProof.Rows.slot_tuple_getitem ht.typeIs entry_tuple_getitem ?_ (args_tuple_getitem _ _)))
  show wpAny _ _ (Builtin.Tuple.tupleItemsOf (.ref t) >>= _) _ _ s
  refine wpAny_bind (tupleItemsOf_ ht ?_)
  refine wpAny_bind (wpAny_typeOf hTs ?_)
  rw [if_pos (by decide)]
  refine wpAny_bind (sliceApplied_gen hs pl pu ?_)
  have hno : ¬ ((((sIx items.size 0 lo : Nat) : Int) == 0 && (1 : Int) == 1 && (sIx items.size items.size hi - sIx items.size 0 lo) == items.size) = true) := by
    intro q
    rw [Bool.and_eq_true, Bool.and_eq_true] at q
    have q1 : ((sIx items.size 0 lo : Nat) : Int) = 0 := eq_of_beq q.1.1
    have q2 : sIx items.size items.size hi - sIx items.size 0 lo = items.size := eq_of_beq q.2
    exact hw ⟨by omega, by omega⟩
  show wpAny _ _ (if (((sIx items.size 0 lo : Nat) : Int) == 0 && (1 : Int) == 1 && (sIx items.size items.size hi - sIx items.size 0 lo) == items.size) = true then _ else _) _ _ s
  rw [if_neg hno, pick_gen]
  first
    | exact wpAny_bind (m := Builtin.Tuple.tupleExact _) (wpAny_newObj_type (wpAny_pure ⟨_, rfl, wpAny_pure h⟩) htake)
    | exact wpAny_bind (m := Builtin.Tuple.tupleExact _) (wpAny_newObj_type (wpAny_bind (wpAny_pure (wpAny_pure ⟨_, rfl, wpAny_pure h⟩))) htake)
    | exact wpAny_bind (wpAny_bind (m := Builtin.Tuple.tupleExact _) (wpAny_newObj_type (wpAny_pure (wpAny_pure ⟨_, rfl, wpAny_pure h⟩)) htake))
    | exact wpAny_bind (wpAny_bind (m := Builtin.Tuple.tupleExact _) (wpAny_newObj_type (wpAny_pure ⟨_, rfl, wpAny_pure h⟩) htake))
end
end HT

namespace L2
open PySem PySem.Spec PyProof.Rows

/-! ### the parts of a slice -/
abbrev TO := St → Hp → (Option Int → Hp → Prop) → Prop
/-- a slice's part (left out, or an int) -/
def PO (X : Cx) (e : Option Expr) (t : TO) : Prop :=
  ∀ (pins : List (Addr × Obj)) (s : Shared) (σ : St) (H : Hp) (Q : Option Int → Hp → Prop), Inv X pins σ H s → t σ H Q →
    wpAny (model X.prog X.w) X.A (evalPart e X.env) (fun u s' => ∃ o H', Inv X pins σ H' s' ∧ IsPart u o ∧ Q o H') X.xe s
def tNoPart : TO := fun _ H Q => Q none H
def tPart (t : TE) : TO := fun σ H Q => t σ H fun x H1 => ∃ i, x = .int i ∧ Q (some i) H1


section
variable {X : Cx} {e : Expr} {te : TE} {lo hi : Option Expr} {tl th : TO} {pos p2 : Pos}

theorem po_none : PO X none tNoPart := by
  intro pins s σ H Q I h
  rw [evalPart_none]
  exact wpAny_pure ⟨none, H, I, .none, h⟩
theorem po_some (h : PE X e te) : PO X (some e) (tPart te) := by
  intro pins s σ H Q I hw
  rw [evalPart_some]
  refine thn (h pins s σ H _ I hw) fun u s1 ⟨x, H1, I1, r1, q1⟩ => ?_
  obtain ⟨i, rfl, q⟩ := q1
  obtain ⟨t, rfl⟩ := r1
  exact ⟨some i, H1, I1, .int i t, q⟩

/-- what a slice of a value is, by values: the slice object stands at sl -/
def SlR (X : Cx) (r : V → Option Int → Option Int → Hp → VK → Prop) : Prop :=
  ∀ (pins : List (Addr × Obj)) (s : Shared) (σ : St) (H : Hp) (x : V) (v vl vu : Value) (lo hi : Option Int) (sl : Addr) (Q : VK), Inv X pins σ H s → RelV x v → s.heap.IsSliceOf sl vl vu .none → IsPart vl lo → IsPart vu hi → r x lo hi H Q →
    ∃ T id, typeLookup (.type T) "__getitem__" = pure (some (.builtin id)) ∧ s.TypeIs v T ∧ wpAny (model X.prog X.w) X.A (getItem v (.ref sl)) (EP X pins σ Q) X.xe s
def tSl (r : V → Option Int → Option Int → Hp → VK → Prop) (te : TE) (tl th : TO) : TE := fun σ H Q => te σ H fun x H1 => tl σ H1 fun l H2 => th σ H2 fun u H3 => r x l u H3 Q
/-- a[lo:hi], any a -/
theorem pe_slice {r : V → Option Int → Option Int → Hp → VK → Prop} (hr : SlR X r) (he : PE X e te) (hl : PO X lo tl) (hu : PO X hi th) : PE X (.Subscript e (.Slice lo hi none p2) pos) (tSl r te tl th) := by
  intro pins s σ H Q I h
  refine Subscript_ (thn (he pins s σ H _ I h) fun v s1 ⟨x, H1, I1, r1, q1⟩ => ?_)
  refine wpAny_Slice (thn (hl pins s1 σ H1 _ I1 q1) fun vl s2 ⟨l, H2, I2, pl, q2⟩ => thn (hu pins s2 σ H2 _ I2 q2) fun vu s3 ⟨u, H3, I3, pu, q3⟩ => ?_)
  rw [evalPart_none]
  refine wpAny_pure ?_
  have I4 : Inv X pins σ H3 { s3 with heap := s3.heap.push { cls := .type "slice", data := .fields #[vl, vu, .none] } } := I3.kept (t' := s3.toks) fun b ob q => Heap.get?_push_of_some _ q
  obtain ⟨T, id, hT, ht, hg⟩ := hr pins { s3 with heap := s3.heap.push { cls := .type "slice", data := .fields #[vl, vu, .none] } } σ H3 x v vl vu l u s3.heap.objs.size Q I4 r1 (Heap.IsSliceOf.new ..) pl pu q3
  show wpAny (model X.prog X.w) X.A (subscriptTail e (.Slice lo hi none p2) v (.ref s3.heap.objs.size)) (EP X pins σ Q) X.xe { s3 with heap := s3.heap.push { cls := .type "slice", data := .fields #[vl, vu, .none] } }
  exact tail_any (ops := [.ref s3.heap.objs.size, v]) ht hT hg (by with_unfolding_all rfl)

/-- the items of xs[lo:hi] -/
def cutV (xs : List V) (lo hi : Option Int) : List V := (xs.drop (HT.sIx xs.length 0 lo)).take (HT.sIx xs.length xs.length hi - HT.sIx xs.length 0 lo)
theorem cutV_length (xs : List V) (lo hi : Option Int) : (cutV xs lo hi).length ≤ xs.length := by
  unfold cutV
  rw [List.length_take, List.length_drop]
  omega
/-- t[lo:hi], not the whole of it (the whole would be t itself) -/
def rSlT (K : PySem.W.Frag) : V → Option Int → Option Int → Hp → VK → Prop := fun x lo hi H Q => ∃ a xs, x = .ref a ∧ SqT K H a xs ∧
  ¬ (HT.sIx xs.length 0 lo = 0 ∧ HT.sIx xs.length xs.length hi = xs.length) ∧ ∀ p, H p = none → Q (.ref p) (upd H p (.tup (cutV xs lo hi)))
theorem sl_tup : SlR X (rSlT X.K) := by
  intro pins s σ H x v vl vu lo hi sl Q I rx hs pl pu h
  obtain ⟨a, xs, rfl, hx, hw, q⟩ := h
  cases rx
  obtain ⟨its, r, ht, hz⟩ := I.tuple hx
  have hlen : its.toArray.size = xs.length := by rw [List.size_toArray]; exact r.length.symm
  refine ⟨"tuple", _, PyProof.Rows.slot_tuple_getitem.lookup, ht.typeIs, ?_⟩
  refine HT.getItem_tuple_cut ht hs pl pu (by rw [hlen]; exact hw) ?_ (by rw [hlen]; exact hz)
  rw [hlen]
  refine ⟨.ref s.heap.objs.size, _, I.laid (t' := s.toks) (o := .tup (cutV xs lo hi)) (fun b ob q => Heap.get?_push_of_some _ q) (Nat.le_refl _) ?_, rfl, q _ (I.hok.fresh (Nat.le_refl _))⟩
  exact ⟨Nat.le_trans (cutV_length xs lo hi) hz, _, (r.drop (HT.sIx xs.length 0 lo)).take (HT.sIx xs.length xs.length hi - HT.sIx xs.length 0 lo), IsTup.new _ _⟩

/-! ### t < u, t + u -/
end
end L2

namespace L2
open PySem PySem.Spec PyProof.Rows

/-! ### places -/
/-- the place that an index of any sign means -/
def ixN (n : Nat) (i : Int) : Option Nat := if 0 ≤ i then (if i < n then some i.toNat else none) else if -(n : Int) ≤ i then some (i + n).toNat else none
def atI {α : Type} (xs : List α) (i : Int) : Option α := (ixN xs.length i).bind fun j => xs[j]?
theorem ixN_seq {n : Nat} {i : Int} {j : Nat} (h : ixN n i = some j) : seqIndex? i n = some j ∧ j < n ∧ -(n : Int) ≤ i ∧ i < n := by
  unfold ixN at h
  by_cases h0 : 0 ≤ i
  · rw [if_pos h0] at h
    by_cases h1 : i < n
    · rw [if_pos h1] at h
      have e : i.toNat = j := Option.some.inj h
      exact ⟨by rw [seqIndex_of h0 h1, e], by omega, by omega, h1⟩
    · rw [if_neg h1] at h; cases h
  · rw [if_neg h0] at h
    by_cases h1 : -(n : Int) ≤ i
    · rw [if_pos h1] at h
      have e : (i + n).toNat = j := Option.some.inj h
      exact ⟨by rw [seqIndex_neg (by omega) h1, e], by omega, h1, by omega⟩
    · rw [if_neg h1] at h; cases h
theorem atI_get {α : Type} {xs : List α} {i : Int} {v : α} (h : atI xs i = some v) : ∃ j, seqIndex? i xs.length = some j ∧ xs[j]? = some v ∧ j < xs.length ∧ -(xs.length : Int) ≤ i ∧ i < xs.length := by
  unfold atI at h
  cases e : ixN xs.length i with
  | none => rw [e] at h; cases h
  | some j =>
    rw [e] at h
    obtain ⟨h1, h2, h3, h4⟩ := ixN_seq e
    exact ⟨j, h1, h, h2, h3, h4⟩
theorem atI_nat {α : Type} {xs : List α} {j : Nat} {v : α} (h : xs[j]? = some v) : atI xs (j : Int) = some v := by
  have hj : j < xs.length := (List.getElem?_eq_some_iff.mp h).1
  have e : ixN xs.length (j : Int) = some j := by
    unfold ixN
    rw [if_pos (by omega), if_pos (by omega)]; simp
  unfold atI; rw [e]; exact h

/-! ### what may be subscripted -/
/-- what stands as an index of a plain subscript -/
def PlainIx (b : Expr) : Prop := ∀ o i, subscripted b false o i = operate [o, i] (getItem o i)
/-- a subscript by values -/
def IxR (X : Cx) (r : R2) : Prop :=
  ∀ (value slice : Expr) (pins : List (Addr × Obj)) (s : Shared) (σ : St) (H : Hp) (x y : V) (v u : Value) (Q : VK), Inv X pins σ H s → RelV x v → RelV y u → r x y H Q →
    subscripted slice false v u = operate [v, u] (getItem v u) → wpAny (model X.prog X.w) X.A (subscriptTail value slice v u) (EP X pins σ Q) X.xe s
/-- a call of a builtin's method by values: the receiver, the arguments -/
def MtR (X : Cx) (id : String) (r : V → List V → Hp → VK → Prop) : Prop :=
  ∀ (pins : List (Addr × Obj)) (s : Shared) (σ : St) (H : Hp) (x : V) (xs : List V) (v : Value) (us : List Value) (Q : VK), Inv X pins σ H s → RelV x v → Vals xs us → r x xs H Q →
    wpAny (model X.prog X.w) X.A (call (.builtin id) (v :: us)) (EP X pins σ Q) X.xe s
section
variable {X : Cx} {a b : Expr} {ta tb : TE} {pos : Pos}
/-- a[b] -/
theorem pe_ix {r : R2} (hr : IxR X r) (ha : PE X a ta) (hb : PE X b tb) (hs : PlainIx b) : PE X (.Subscript a b pos) (tOp r ta tb) := by
  intro pins s σ H Q I h
  exact Subscript_ (binT ha hb I h fun v u s2 x y H2 I2 rx ry q => hr a b pins s2 σ H2 x y v u Q I2 rx ry q (hs _ _))

def rIxL (K : PySem.W.Frag) : R2 := fun x y H Q => ∃ p xs i v, x = .ref p ∧ y = .int i ∧ SqL K H p xs ∧ atI xs i = some v ∧ Q v H
def rIxT (K : PySem.W.Frag) : R2 := fun x y H Q => ∃ p xs i v, x = .ref p ∧ y = .int i ∧ SqT K H p xs ∧ atI xs i = some v ∧ Q v H
theorem ix_list : IxR X (rIxL X.K) := by
  intro value slice pins s σ H x y v u Q I rx ry h hs
  obtain ⟨p, xs, i, z, rfl, rfl, hq, he, q⟩ := h
  cases rx
  obtain ⟨t, rfl⟩ := ry
  obtain ⟨its, r, pl, hz⟩ := I.list hq
  obtain ⟨j, h1, h2, h3, h4, h5⟩ := atI_get he
  obtain ⟨w, ew, rw'⟩ := r.get h2
  have hl := r.length
  have hn := line63
  have fin : EP X pins σ Q w s := ⟨z, H, I, rw', q⟩
  by_cases h0 : 0 ≤ i
  · have hj : i.toNat = j := by
      rw [seqIndex_of h0 h5] at h1
      exact Option.some.inj h1
    exact item_listR pl.isList h0 (by omega) (by rw [hj]; simpa using ew) fin hs
  · have hj : (i + (its.toArray.size : Int)).toNat = j := by
      rw [seqIndex_neg (by omega) h4] at h1
      rw [List.size_toArray, ← hl]
      exact Option.some.inj h1
    exact subscriptTail_builtinR (x := w) pl.isList.typeIs slot_list_getitem.lookup
      (wpAny_getItem_list_neg (Q := fun r s' => r = w ∧ EP X pins σ Q r s') pl.isList (by omega) (by rw [List.size_toArray] <;> omega) (by omega) (by rw [hj]; simpa using ew) ⟨rfl, fin⟩) hs
theorem ix_tup : IxR X (rIxT X.K) := by
  intro value slice pins s σ H x y v u Q I rx ry h hs
  obtain ⟨p, xs, i, z, rfl, rfl, hq, he, q⟩ := h
  cases rx
  obtain ⟨t, rfl⟩ := ry
  obtain ⟨its, r, pl, hz⟩ := I.tuple hq
  obtain ⟨j, h1, h2, h3, h4, h5⟩ := atI_get he
  obtain ⟨w, ew, rw'⟩ := r.get h2
  have hl := r.length
  have hn := line63
  have fin : EP X pins σ Q w s := ⟨z, H, I, rw', q⟩
  exact subscriptTail_builtinR (x := w) pl.typeIs slot_tuple_getitem.lookup
    (getItem_tuple (j := j) (Q := fun r s' => r = w ∧ EP X pins σ Q r s') pl (by omega) (by omega) (by rw [List.size_toArray, ← hl]; exact h1) (by simpa using ew) ⟨rfl, fin⟩) hs

/-! ### xs[i] = v, any sign -/
/-- the list's object behind a store -/
theorem mapSeq_set (its : List Value) (n j : Nat) (u : Value) : Obj.mapSeq (·.setIfInBounds j u) { cls := .type "list", data := .seq its.toArray n } = { cls := .type "list", data := .seq (its.set j u).toArray n } := by
  simp [Obj.mapSeq]
theorem Inv.lst {pins : List (Addr × Obj)} {σ : St} {H : Hp} {s : Shared} {p : Addr} {xs : List V} (I : Inv X pins σ H s) (h : H p = some (.lst xs)) :
    ∃ (its : List Value) (n : Nat), Vals xs its ∧ s.heap.get? p = some { cls := .type "list", data := .seq its.toArray n } ∧ xs.length ≤ sizeLine := by
  obtain ⟨z, its, n, r, e⟩ := I.hok p _ h
  exact ⟨its, n, r, e, z⟩
/-- the list at p is written by an update of its object -/
theorem Inv.lstUpd {pins : List (Addr × Obj)} {σ : St} {H : Hp} {s : Shared} {p : Addr} {xs ys : List V} {its its' : List Value} {n n' : Nat} {f : Obj → Obj} (I : Inv X pins σ H s) (h : H p = some (.lst xs))
    (ho : s.heap.get? p = some { cls := .type "list", data := .seq its.toArray n }) (hf : f { cls := .type "list", data := .seq its.toArray n } = { cls := .type "list", data := .seq its'.toArray n' }) (r : Vals ys its') (hz : ys.length ≤ sizeLine) (t : Nat) :
    Inv X pins σ (upd H p (.lst ys)) { s with heap := s.heap.update p f, toks := t } := by
  have e : (s.heap.update p f).get? p = some { cls := .type "list", data := .seq its'.toArray n' } := by
    rw [Heap.get?_update_self f ho (by rw [hf] <;> rfl), hf]
  refine I.write (x := p) (e := p) (by rw [h]; trivial) (.inl rfl) (fun b u hb q => (Heap.get?_update_other _ _ (Ne.symm hb)).trans q) ⟨_, e⟩ ?_
  exact ⟨hz, its', n', r, e⟩
def rSetL : V → V → V → Hp → (Hp → Prop) → Prop := fun o i v H Q => ∃ p xs k j, o = .ref p ∧ i = .int k ∧ H p = some (.lst xs) ∧ ixN xs.length k = some j ∧ Q (upd H p (.lst (xs.set j v)))
theorem set_list : PSet X rSetL := by
  intro pins s σ H o i v ov iv u Q I ro ri rv h
  obtain ⟨p, xs, k, j, rfl, rfl, hp, hj, q⟩ := h
  cases ro
  obtain ⟨t, rfl⟩ := ri
  obtain ⟨its, n, r, ho, hz⟩ := I.lst hp
  obtain ⟨h1, h2, h3, h4⟩ := ixN_seq hj
  have hl := r.length
  have hn := line63
  have I' : Inv X pins σ (upd H p (.lst (xs.set j v))) { s with heap := s.heap.update p (Obj.mapSeq (·.setIfInBounds j u)) } :=
    I.lstUpd hp ho (mapSeq_set its n j u) (r.set rv j) (by rw [List.length_set]; exact hz) s.toks
  by_cases h0 : 0 ≤ k
  · have hk : k.toNat = j := by
      rw [seqIndex_of h0 h4] at h1
      exact Option.some.inj h1
    exact PySem.W.ki_setAt ho h0 (by omega) (by rw [List.size_toArray, ← hl]; exact h4) (by rw [hk]; exact ⟨_, I', q⟩)
  · have hk : (k + (its.toArray.size : Int)).toNat = j := by
      rw [seqIndex_neg (by omega) h3] at h1
      rw [List.size_toArray, ← hl]
      exact Option.some.inj h1
    exact PySem.W.ki_setBack ho (by omega) (by rw [List.size_toArray, ← hl]; exact h3) (by omega) (by rw [hk]; exact ⟨_, I', q⟩)

/-! ### slices -/
theorem slice_bounds (lo hi : Option Int) (n : Nat) : (sliceBounds lo hi none n).1 = ((HT.sIx n 0 lo : Nat) : Int) ∧ (sliceBounds lo hi none n).2.1 = ((HT.sIx n n hi : Nat) : Int) ∧ (sliceBounds lo hi none n).2.2 = 1 := by
  refine ⟨?_, ?_, rfl⟩
  · cases lo with
    | none => simp [sliceBounds, HT.sIx]
    | some i =>
      simp only [sliceBounds, HT.sIx, Option.getD_none, show (1 : Int) > 0 by decide, if_true]
      by_cases h : i < 0
      · simp only [h, if_true] <;> omega
      · simp only [h, if_false] <;> omega
  · cases hi with
    | none => simp [sliceBounds, HT.sIx]
    | some i =>
      simp only [sliceBounds, HT.sIx, Option.getD_none, show (1 : Int) > 0 by decide, if_true]
      by_cases h : i < 0
      · simp only [h, if_true] <;> omega
      · simp only [h, if_false] <;> omega
theorem slicePick_cut (its : List Value) (lo hi : Option Int) : slicePick its.toArray lo hi none = ((its.drop (HT.sIx its.length 0 lo)).take (HT.sIx its.length its.length hi - HT.sIx its.length 0 lo)).toArray := by
  obtain ⟨h1, h2, h3⟩ := slice_bounds lo hi its.toArray.size
  unfold slicePick
  rw [h1, h2, h3]
  simp only [sliceRange_one, pick_run, List.size_toArray] <;> rfl
/-- xs[lo:hi] of a list: a new list -/
def rSlL (K : PySem.W.Frag) : V → Option Int → Option Int → Hp → VK → Prop := fun x lo hi H Q => ∃ a xs, x = .ref a ∧ SqL K H a xs ∧ ∀ p, H p = none → Q (.ref p) (upd H p (.lst (cutV xs lo hi)))
theorem sl_list : SlR X (rSlL X.K) := by
  intro pins s σ H x v vl vu lo hi sl Q I rx hs pl pu h
  obtain ⟨a, xs, rfl, hx, q⟩ := h
  cases rx
  obtain ⟨its, r, ht, hz⟩ := I.list hx
  have hlen := r.length
  refine ⟨"list", _, slot_list_getitem.lookup, ht.isList.typeIs, ?_⟩
  refine wpAny_getItem_list_slice ht.isList hs pl pu .none (by simp) ?_ (by rw [List.size_toArray] <;> omega)
  rw [slicePick_cut, ← hlen]
  refine ⟨.ref s.heap.objs.size, _, I.laid (t' := s.toks) (o := .lst (cutV xs lo hi)) (fun b ob q => Heap.get?_push_of_some _ q) (Nat.le_refl _) ?_, rfl, q _ (I.hok.fresh (Nat.le_refl _))⟩
  exact ⟨Nat.le_trans (cutV_length xs lo hi) hz, _, 0, (r.drop (HT.sIx xs.length 0 lo)).take (HT.sIx xs.length xs.length hi - HT.sIx xs.length 0 lo), Heap.get?_push_size _ rfl⟩

/-! ### in, not in: flat items -/

/-! ### len, list(x), tuple(x) of any list or tuple that is read -/
theorem call_list_of : CallR X (.type "list") (fun xs H Q => ∃ p ys, xs = [.ref p] ∧ (SqL X.K H p ys ∨ SqT X.K H p ys) ∧ ∀ l, H l = none → Q (.ref l) (upd H l (.lst ys))) := by
  intro pins s σ H xs us Q I r h
  obtain ⟨p, ys, rfl, hq, q⟩ := h
  obtain ⟨u, rfl, rx⟩ := vals1 r
  cases rx
  have fin : ∀ (its : List Value), Vals ys its → ys.length ≤ sizeLine → ∀ (h' : Heap) (c' : Nat), (∀ b o', s.heap.get? b = some o' → h'.get? b = some o') →
      h'.get? s.heap.objs.size = some { cls := .type "list", dict := none, data := .seq its.toArray c', slots := #[] } → EP X pins σ Q (.ref s.heap.objs.size) { s with heap := h' } := fun its r' hz h' c' kp e =>
    ⟨.ref s.heap.objs.size, _, I.laid (t' := s.toks) kp (Nat.le_refl _) (show ObjOk X.prog X.w _ h' _ (.lst ys) from ⟨hz, its, c', r', e⟩), rfl, q _ (I.hok.fresh (Nat.le_refl _))⟩
  rcases hq with hq | hq
  · obtain ⟨its, r', pl, hz⟩ := I.list hq
    have hlen := r'.length
    obtain ⟨o, ho, hc, n, hd⟩ := pl.isList
    exact call_list_seq p (.inl rfl) ho hc hd (fun h' c' kp e => fin its r' hz h' c' kp e) (by simp only [List.size_toArray] <;> omega)
  · obtain ⟨its, r', pl, hz⟩ := I.tuple hq
    have hlen := r'.length
    obtain ⟨o, ho, hc, n, hd⟩ := pl
    exact call_list_seq p (.inr rfl) ho hc hd (fun h' c' kp e => fin its r' hz h' c' kp e) (by simp only [List.size_toArray] <;> omega)
theorem call_tuple_of : CallR X (.type "tuple") (fun xs H Q => ∃ p ys, xs = [.ref p] ∧ ((SqL X.K H p ys ∧ ∀ l, H l = none → Q (.ref l) (upd H l (.tup ys))) ∨ (SqT X.K H p ys ∧ Q (.ref p) H))) := by
  intro pins s σ H xs us Q I r h
  obtain ⟨p, ys, rfl, h⟩ := h
  obtain ⟨u, rfl, rx⟩ := vals1 r
  cases rx
  rcases h with ⟨hq, q⟩ | ⟨hq, q⟩
  · obtain ⟨its, r', pl, hz⟩ := I.list hq
    have hlen := r'.length
    refine call_tuple_list pl.isList (fun h' kp => ?_) (by simp only [List.size_toArray] <;> omega)
    have I1 : Inv X pins σ H { s with heap := h' } := I.kept (t' := s.toks) kp
    have I2 : Inv X pins σ (upd H h'.objs.size (.tup ys)) { s with heap := h'.push { cls := .type "tuple", data := .seq its.toArray } } :=
      I1.laid (t' := s.toks) (fun b o e => Heap.get?_push_of_some _ e) (Nat.le_refl _) (show ObjOk X.prog X.w _ _ _ (.tup ys) from ⟨hz, its, r', IsTup.new _ _⟩)
    exact ⟨.ref h'.objs.size, _, I2, rfl, q _ (I1.hok.fresh (Nat.le_refl _))⟩
  · obtain ⟨its, r', pl, hz⟩ := I.tuple hq
    exact call_tuple_same pl ⟨.ref p, H, I, rfl, q⟩

/-! ### the call of a builtin's method: o.m(..) -/
/-- the value is of that builtin type -/
def tyV (K : PySem.W.Frag) (T : String) (x : V) (H : Hp) : Prop := match x with
  | .str _ => T = "str"
  | .int _ => T = "int"
  | .ref p => (T = "list" ∧ ∃ xs, SqL K H p xs) ∨ (T = "tuple" ∧ ∃ o, K.lookup p = some o ∧ o.cls = .type "tuple" ∧ o.dict = none) ∨
      (T = "dict" ∧ ((∃ kvs, H p = some (.dK kvs)) ∨ ∃ kvs, H p = some (.dT kvs))) ∨ (T = "set" ∧ ∃ S n, H p = some (.set S n))
  | _ => False
theorem tyV_is {pins : List (Addr × Obj)} {σ : St} {H : Hp} {s : Shared} {T : String} {x : V} {v : Value} (I : Inv X pins σ H s) (r : RelV x v) (ty : tyV X.K T x H) :
    s.TypeIs v T ∧ ∀ a, v = .ref a → ∃ ob, s.heap.get? a = some ob ∧ ob.dict = none := by
  cases x with
  | str z =>
    obtain ⟨t, rfl⟩ := r
    cases (show T = "str" from ty)
    exact ⟨typeIs_str s z t, fun _ e => nomatch e⟩
  | int i =>
    obtain ⟨t, rfl⟩ := r
    cases (show T = "int" from ty)
    exact ⟨typeIs_int s i t, fun _ e => nomatch e⟩
  | ref p =>
    cases r
    rcases ty with ⟨rfl, xs, hq⟩ | ⟨rfl, o, hk, hc, hd⟩ | ⟨rfl, hk⟩ | ⟨rfl, S, n, hk⟩
    · obtain ⟨its, _, pl, _⟩ := I.list hq
      refine ⟨pl.isList.typeIs, fun a e => ?_⟩
      cases e
      obtain ⟨o, n, e, c, hd, _⟩ := pl
      exact ⟨o, e, hd⟩
    · refine ⟨⟨o, I.kIn p o hk, hc⟩, fun a e => ?_⟩
      cases e
      exact ⟨o, I.kIn _ o hk, hd⟩
    · have z : ∃ o, s.heap.get? p = some o ∧ o.ExactDict := by
        rcases hk with ⟨kvs, hk⟩ | ⟨kvs, hk⟩
        · obtain ⟨_, _, _, _, o, _, _, e, ex, _⟩ := I.hok p _ hk
          exact ⟨o, e, ex⟩
        · obtain ⟨_, _, _, _, o, _, _, e, ex, _⟩ := I.hok p _ hk
          exact ⟨o, e, ex⟩
      obtain ⟨o, e, ex⟩ := z
      refine ⟨⟨o, e, ex.1⟩, fun a e2 => ?_⟩
      cases e2
      exact ⟨o, e, ex.2.1⟩
    · obtain ⟨o, _, _, _, e, ex, _⟩ := I.hok p _ hk
      refine ⟨⟨o, e, ex.1⟩, fun a e2 => ?_⟩
      cases e2
      exact ⟨o, e, ex.2.1⟩
  | _ => exact False.elim ty
def tBM0 (K : PySem.W.Frag) (T : String) (r : V → List V → Hp → VK → Prop) (to : TE) : TE := fun σ H Q => to σ H fun x H1 => tyV K T x H1 ∧ r x [] H1 Q
def tBM (K : PySem.W.Frag) (T : String) (r : V → List V → Hp → VK → Prop) (to : TE) (t : TA) : TE := fun σ H Q => to σ H fun x H1 => tyV K T x H1 ∧ t σ H1 fun xs H2 => r x xs H2 Q
variable {o e : Expr} {es : List Expr} {to : TE} {t : TA} {name : Str} {apos cpos : Pos} {T id : String} {r : V → List V → Hp → VK → Prop}
theorem pe_bm0 (pa : PlainAttrs T) (slot : Slot T name id) (hty : typeOf (.builtin id) = pure (.type "method_descriptor")) (hm : MtR X id r) (ho : PE X o to)
    (hbase : attributeBase o name X.env (eval o X.env) = eval o X.env := by rfl) (hline : (apos.endLine == cpos.line) = true := by rfl) : PE X (.Call (.Attribute o name apos) [] [] cpos) (tBM0 X.K T r to) := by
  intro pins s σ H Q I h
  refine wpAny_Call_method0_late hbase hline (thn (ho pins s σ H _ I h) fun v s1 ⟨x, H1, I1, r1, ty, q1⟩ => ?_)
  obtain ⟨h1, h2⟩ := tyV_is I1 r1 ty
  exact ⟨T, id, pa, slot, hty, h1, h2, Calls.callWith_builtin rfl (PySem.evalArgs_none (hm pins s1 σ H1 x [] v [] Q I1 r1 .nil q1))⟩
theorem pe_bm (pa : PlainAttrs T) (slot : Slot T name id) (hty : typeOf (.builtin id) = pure (.type "method_descriptor")) (hm : MtR X id r) (ho : PE X o to) (ha : PA X (e :: es) t)
    (hbase : attributeBase o name X.env (eval o X.env) = eval o X.env := by rfl)
    (hfew : ((backTo cpos (starEach (e :: es) X.env)).all (fun x => !x.1) && (backToKw cpos (keywordEach [] X.env)).all (fun x => x.1.isSome)
      && decide ((e :: es).length + ([] : List Keyword).length + (if ([] : List Keyword).isEmpty then 0 else 1) < 30)) = true := by rfl)
    (hline : (apos.endLine == cpos.line) = true := by rfl) (hs : starEach (e :: es) X.env = (false, eval e X.env) :: starEach es X.env := by rfl) (hplain : (backTo cpos (starEach es X.env)).any (·.1) = false := by rfl) :
    PE X (.Call (.Attribute o name apos) (e :: es) [] cpos) (tBM X.K T r to t) := by
  intro pins s σ H Q I h
  refine wpAny_Call_method_late hbase hfew hline rfl (thn (ho pins s σ H _ I h) fun v s1 ⟨x, H1, I1, r1, ty, q1⟩ => ?_)
  obtain ⟨h1, h2⟩ := tyV_is I1 r1 ty
  refine ⟨T, id, pa, slot, hty, h1, h2, ?_⟩
  have hA := ha cpos pins s1 σ H1 _ I1 q1
  rw [hs] at hA ⊢
  refine Calls.callWith_builtin (by show (false || (backTo cpos (starEach es X.env)).any (·.1)) = false; rw [hplain] <;> rfl) (Calls.evalArgs_plain ?_)
  exact thn hA fun us s2 ⟨vs, H2, I2, r2, q2⟩ => hm pins s2 σ H2 x vs v us Q I2 r1 r2 q2
/- xs.append(e), list.index on a module's tuple .. are MtR facts of 06m -/
end
end L2

namespace L2
open PySem PySem.Spec PyProof.Rows

def MtM (X : Cx) (id : String) (r : V → List V → Hp → VK → Prop) : Prop :=
  ∀ (pins : List (Addr × Obj)) (s : Shared) (σ : St) (H : Hp) (x : V) (xs : List V) (v : Value) (us : List Value) (Q : VK), Inv X pins σ H s → RelV x v → Vals xs us → r x xs H Q →
    wpAny (model X.prog X.w) X.A (call (.builtin id) (v :: us)) (EP X pins σ Q) X.xe s

/-! ### lists of values -/
theorem Vals.one : ∀ {x : V} {us : List Value}, Vals [x] us → ∃ u, us = [u] ∧ RelV x u
  | _, _, .cons r .nil => ⟨_, rfl, r⟩
theorem Vals.zero : ∀ {us : List Value}, Vals [] us → us = []
  | _, .nil => rfl
theorem Vals.dropLast {xs : List V} {us : List Value} (h : Vals xs us) : Vals xs.dropLast us.dropLast := by
  induction h with
  | nil => exact .nil
  | cons r t ih =>
    cases t with
    | nil => exact .nil
    | cons q t' => exact .cons r ih
theorem erase_last {α : Type} (l : List α) : l.eraseIdx (l.length - 1) = l.dropLast := by
  induction l with
  | nil => rfl
  | cons a r ih =>
    cases r with
    | nil => rfl
    | cons b r =>
      have e : (a :: b :: r).length - 1 = ((b :: r).length - 1) + 1 := by
        have h1 : (a :: b :: r).length = r.length + 2 := rfl
        have h2 : (b :: r).length = r.length + 1 := rfl
        omega
      rw [e, List.eraseIdx_cons_succ, ih]
      all_goals rfl

section
variable {X : Cx} {pins : List (Addr × Obj)} {σ : St} {H : Hp} {s : Shared} {l b : Addr} {xs ys zs : List V}

/-! ### the two steps: a tracked list is rewritten, a new list is laid -/
theorem Inv.lset {its its' : List Value} {n : Nat} {f : Array Value → Array Value} {t' : Nat} (I : Inv X pins σ H s) (hH : H l = some (.lst xs))
    (e : s.heap.get? l = some { cls := .type "list", data := .seq its.toArray n }) (hf : f its.toArray = its'.toArray) (hv : Vals ys its') (hz : ys.length ≤ sizeLine) :
    Inv X pins σ (upd H l (.lst ys)) { s with heap := s.heap.update l (Obj.mapSeq f), toks := t' } := by
  have q := PySem.IsL.update e f
  rw [hf] at q
  refine I.write (x := l) (e := l) (by rw [hH]; exact trivial) (.inl rfl) (fun b' u hb hu => (Heap.get?_update_other s.heap (Obj.mapSeq f) (Ne.symm hb)).trans hu) ⟨_, q⟩ ?_
  exact ⟨hz, its', _, hv, q⟩
theorem Inv.lnew {its : List Value} {t' : Nat} (I : Inv X pins σ H s) (hv : Vals ys its) (hz : ys.length ≤ sizeLine) :
    Inv X pins σ (upd H s.heap.objs.size (.lst ys)) { s with heap := s.heap.push { cls := .type "list", data := .seq its.toArray }, toks := t' } :=
  I.laid (fun _ _ q => Heap.get?_push_of_some _ q) (Nat.le_refl _) ⟨hz, its, 0, hv, Heap.get?_push_size _ rfl⟩
theorem Inv.fresh (I : Inv X pins σ H s) : H s.heap.objs.size = none := I.hok.fresh (Nat.le_refl _)
theorem Inv.lstM (I : Inv X pins σ H s) (hH : H l = some (.lst xs)) : xs.length ≤ sizeLine ∧ ∃ (its : List Value) (n : Nat), Vals xs its ∧ xs.length = its.length ∧ s.heap.get? l = some { cls := .type "list", data := .seq its.toArray n } := by
  obtain ⟨z, its, n, r, e⟩ := I.hok l _ hH
  exact ⟨z, its, n, r, r.length, e⟩

theorem notLongL {n : Nat} (h : n ≤ sizeLine) : Builtin.List.listTooLong n = false := by
  unfold Builtin.List.listTooLong
  exact decide_eq_false (by omega)
end

section
variable {X : Cx}

/-! ### methods -/
def rAppend : V → List V → Hp → VK → Prop := fun x vs H Q => ∃ l xs y, x = .ref l ∧ vs = [y] ∧ H l = some (.lst xs) ∧ xs.length < sizeLine ∧ Q .non (upd H l (.lst (xs ++ [y])))
theorem mt_append : MtM X "list.append" rAppend := by
  intro pins s σ H x vs v us Q I rx rv h
  obtain ⟨l, xs, y, rfl, rfl, hH, hz, q⟩ := h
  cases rx
  obtain ⟨u, rfl, ru⟩ := rv.one
  obtain ⟨z, its, n, r, hl, e⟩ := I.lstM hH
  refine call_meets F.slot_list_append ⟨_, e, rfl⟩ F.entry_list_append (F.args_list_append_2 _ _) (PySem.list_append l its.toArray n u (by rw [List.size_toArray]; omega)) ⟨e, ?_⟩
  refine ⟨.non, _, I.lset (its' := its ++ [u]) hH e (by simp) (r.append (.cons ru .nil)) ?_, rfl, q⟩
  rw [List.length_append, List.length_singleton]
  omega

def rExtend : V → List V → Hp → VK → Prop := fun x vs H Q => ∃ l b xs zs, x = .ref l ∧ vs = [.ref b] ∧ H l = some (.lst xs) ∧ H b = some (.lst zs) ∧ xs.length + zs.length ≤ sizeLine ∧ Q .non (upd H l (.lst (xs ++ zs)))
theorem mt_extend : MtM X "list.extend" rExtend := by
  intro pins s σ H x vs v us Q I rx rv h
  obtain ⟨l, b, xs, zs, rfl, rfl, hH, hB, hz, q⟩ := h
  cases rx
  obtain ⟨u, rfl, ru⟩ := rv.one
  cases ru
  obtain ⟨z, its, n, r, hl, e⟩ := I.lstM hH
  obtain ⟨z2, its2, n2, r2, hl2, e2⟩ := I.lstM hB
  have hsz : its.toArray.size + its2.toArray.size ≤ sizeLine := by rw [List.size_toArray, List.size_toArray]; omega
  have hlong : ¬ (!its.toArray.isEmpty && Builtin.List.listTooLong (its.toArray.size + its2.toArray.size)) = true := by
    rw [notLongL hsz, Bool.and_false]
    exact Bool.false_ne_true
  refine call_meets F.slot_list_extend ⟨_, e, rfl⟩ F.entry_list_extend (F.args_list_extend_2 _ _)
    (AutoSeq1.list_extend_list_list_0 l its.toArray n b its2.toArray n2 hlong (by rw [List.size_toArray]; omega) (by omega)) ⟨e, e2, ?_⟩
  refine ⟨.non, _, I.lset (its' := its ++ its2) hH e (by simp) (r.append r2) ?_, rfl, q⟩
  rw [List.length_append]
  omega

def rPop : V → List V → Hp → VK → Prop := fun x vs H Q => ∃ l xs y, x = .ref l ∧ vs = [] ∧ H l = some (.lst xs) ∧ xs[xs.length - 1]? = some y ∧ Q y (upd H l (.lst xs.dropLast))
theorem mt_pop : MtM X "list.pop" rPop := by
  intro pins s σ H x vs v us Q I rx rv h
  obtain ⟨l, xs, y, rfl, rfl, hH, hy, q⟩ := h
  cases rx
  have hus := rv.zero
  subst hus
  obtain ⟨z, its, n, r, hl, e⟩ := I.lstM hH
  obtain ⟨u, hu, ru⟩ := r.get hy
  have hy' : its.toArray[its.toArray.size - 1]? = some u := by
    show its.toArray[its.length - 1]? = some u
    rw [← Array.getElem?_toList, ← hl]
    exact hu
  refine call_meets F.slot_list_pop ⟨_, e, rfl⟩ F.entry_list_pop (F.args_list_pop_1 _) (MeetsSeq.list_pop_last l its.toArray n u hy' (by rw [List.size_toArray]; omega)) ⟨e, ?_⟩
  refine ⟨y, _, I.lset (its' := its.dropLast) hH e ?_ r.dropLast ?_, ru, q⟩
  · show its.toArray.eraseIdxIfInBounds (its.toArray.size - 1) = its.dropLast.toArray
    rw [List.size_toArray, List.eraseIdxIfInBounds_toArray, erase_last]
  · rw [List.length_dropLast]
    omega




/-! ### list + list, list += list, list * int -/
def rCat : R2 := fun x y H Q => ∃ l b xs zs, x = .ref l ∧ y = .ref b ∧ H l = some (.lst xs) ∧ H b = some (.lst zs) ∧ xs.length + zs.length ≤ sizeLine ∧ ∀ p, H p = none → Q (.ref p) (upd H p (.lst (xs ++ zs)))
theorem op_cat : OpR X (binaryOp .Add) rCat := by
  intro pins s σ H x y v u Q I rx ry h
  obtain ⟨l, b, xs, zs, rfl, rfl, hH, hB, hz, q⟩ := h
  cases rx
  cases ry
  obtain ⟨z, its, n, r, hl, e⟩ := I.lstM hH
  obtain ⟨z2, its2, n2, r2, hl2, e2⟩ := I.lstM hB
  refine PySem.P.add_list e e2 ?_ (by rw [List.size_toArray, List.size_toArray]; omega)
  have ea : its.toArray ++ its2.toArray = (its ++ its2).toArray := by simp
  rw [ea]
  exact ⟨.ref _, _, I.lnew (t' := s.toks) (r.append r2) (by rw [List.length_append]; omega), rfl, q _ I.fresh⟩

/-! ### del xs[i] -/
end

/-! ### xs[a:b] = ys -/
section
variable {prog : Program} {w : World} {A : Around} {E : Value → Shared → Prop} {s : Shared}
set_option maxRecDepth 100000 in
end

section
variable {X : Cx}
end
end L2

namespace Att
open PySem PySem.W PySem.Calls PyProof.Rows

/-! ### the script -/
theorem ints_of_wellAll {P : Params} {h : Heap} : ∀ (ns : List Int) (vs : List Value), WellAll P h vs (ns.map WData.int) → IntsAre vs ns := by
  intro ns
  induction ns with
  | nil =>
    intro vs w
    rw [List.map_nil] at w
    cases w
    exact .nil
  | cons n ns ih =>
    intro vs w
    rw [List.map_cons] at w
    cases w with
    | cons a b =>
      cases a
      exact .cons _ _ (ih _ b)

theorem script_of {l : OpenLaw} {n : Nat} (hn : l.most = some n) {P : Params} {h : Heap} {args : List WData} {vals : List Value}
    (hpre : l.row.toRowW.claim.pre args = true) (hwl : WellAll P h vals args) :
    ∃ a vs ns, vals = [Value.ref a] ∧ args = [WData.list (ns.map WData.int)] ∧ h.get? a = some { cls := .type "list", data := .seq vs.toArray } ∧ IntsAre vs ns ∧ ns.length ≤ n := by
  have hsh : WShape.hasAll [] args [.list .int] = true := (pre_splitW hpre).1
  have hc : l.pre.holds [] { args := args } = true := (pre_splitW hpre).2
  obtain ⟨d, r, rfl, h1, h2⟩ := hasAllW_cons hsh
  obtain rfl := hasAllW_nil h2
  obtain ⟨xs, rfl, h3⟩ := hasW_list h1
  obtain ⟨ns, rfl⟩ := items_int h3
  have hlen : ns.length ≤ n := by
    unfold OpenLaw.pre at hc
    have h4 : (WTm.not (.lt (.lit (.int (n : Int))) (.len (.arg 0)))).holds [] { args := [.list (ns.map .int)] } = true := by
      have h4 := (holds_andW hc).1
      rw [hn] at h4
      exact h4
    have h5 := condW_of h4 (w_not (w_lt w_lit (w_len_list (w_arg rfl))))
    rw [List.length_map] at h5
    refine Nat.le_of_not_lt fun q => ?_
    have q' : (n : Int) < ((ns.length : Nat) : Int) := by omega
    first
      | (rw [decide_eq_true q'] at h5; exact absurd h5 (by decide))
      | (simp at h5; omega)
  cases hwl with
  | cons w1 w2 =>
    cases w2
    cases w1 with
    | list ho hall => exact ⟨_, _, ns, rfl, rfl, ho, ints_of_wellAll ns _ hall, hlen⟩

theorem post_true (l : OpenLaw) (args : List WData) : l.row.toRowW.claim.post args (.bool true) args = true :=
  postW_of (r := l.row.toRowW) (X := (true == true))
    (show WShape.has [] (.bool true) .bool = true by first | rfl | decide | simp [WShape.has, WShape.arms, WShape.armsAll])
    (show (WTm.eq .res (.lit (.bool true))).value [] { args := args, res := some (.bool true), after := args } = some (.bool (true == true)) from w_eq_bool (w_res rfl) w_lit) rfl

/-! ### the attachment: holds_open's last premise (the goal 'hc' behind k_head) from a wpAny of the law's body -/



/-! ### rules over ANY heap (no ledger) from facts about the written part K: the library's own take a ledger (News) for what they write -/
section
variable {prog : Program} {w : World} {A : Around} {E : Value → Shared → Prop} {s : Shared} {K : Frag}





/-! the whole heap as the ledger: makes every rule that writes through a ledger a rule over any heap -/

end
end Att

namespace L2
open PySem PySem.Spec PyProof.Rows

theorem vals_ints : ∀ {vs : List Value} {ns : List Int}, IntsAre vs ns → Vals (ns.map V.int) vs
  | _, _, .nil => .nil
  | _, _, .cons n t h => .cons ⟨t, rfl⟩ (vals_ints h)

/-- nothing is tracked but the script, known to the object (or it is an object of the module) -/
def Only (H : Hp) : Prop := ∀ b, H b = none ∨ ∃ o xs, H b = some (.frz o (.lst xs))

/-- THE HEAD: the law's promise, at the heap behind the top. F, the promise of the law's def, may use that base is part of the heap (so K.In base, base.Ns mainGlobals mg stand in Mod) -/
theorem law_call {P : Program} {w : World} {K : PySem.W.Frag} {mg mb : Str → Option Value} {CX : CXT} {k : Nat} {fa a : Addr} {fd : FuncData} {x : Str} {sp : Sp} {s₁ : Shared} {vs : List Value} {ns : List Int}
    (KX : K.In s₁.heap) (hns : s₁.heap.Ns mainGlobals mg) (hb : s₁.heap.Ns builtinsNs mb) (hbb : ∀ x : Str, x ≠ "__name__" → mb x = bootBuiltins x) (hlim : s₁.heap.NoLimit) (hg : s₁.gens = #[])
    (ha : s₁.heap.get? a = some { cls := .type "list", data := .seq vs.toArray }) (hi : IntsAre vs ns) (hl : ns.length ≤ sizeLine) (hr : Room k callerA)
    (F : ∀ base : Heap, K.In base → base.Ns mainGlobals mg → FnOk P w K mg base CX k fa fd [x] sp) (hbind : ∀ (s : Shared) (u : Value), BindsTo s fd ⟨[u], []⟩ [(x, u)])
    (hsp : ∀ H : Hp, Only H → SqL K H a (ns.map V.int) → sp [.ref a] H (fun v _ => v = .bl true) fun _ _ _ => False)
    (hCX : ∀ H e s', CX [] H s₁ (fun _ _ _ => False) e s' → False) :
    codeAny (model P w) callerA (.call (.ref fa) ⟨[.ref a], []⟩) (fun r s' => r = .ok (.ret (.bool true)) ∧ OldK s₁.heap s'.heap ∧ s'.os = s₁.os ∧ AllBare s'.gens) s₁ := by
  have rv := vals_ints hi
  have lenV := hi.length
  -- from an abstract heap in which nothing but the script may be tracked
  have core : ∀ H : Hp, Only H → SqL K H a (ns.map V.int) → HOk P w H s₁.heap → (∀ b, H b ≠ none → b = a) → (H a ≠ none → K.lookup a = none) →
      codeAny (model P w) callerA (.call (.ref fa) ⟨[.ref a], []⟩) (fun r s' => r = .ok (.ret (.bool true)) ∧ OldK s₁.heap s'.heap ∧ s'.os = s₁.os ∧ AllBare s'.gens) s₁ := by
    intro H hO hS hok hA hK
    have base_of : ∀ {b : Addr} {o : Obj}, s₁.heap.get? b = some o → H b = none → (hidT s₁.heap H).get? b = some o := fun e n => hidT_get e n
    have noA : ∀ {b : Addr} {o : Obj} {es : Array DictEntry} {ep : Nat}, s₁.heap.get? b = some o → o.data = .dict es ep → H b = none := fun {b o es ep} e d => by
      cases q : H b with
      | none => rfl
      | some u =>
        have e' : b = a := hA b (by rw [q]; simp)
        subst e'
        rw [ha] at e; cases e
        have d' : Data.seq vs.toArray _ = Data.dict es ep := d
        cases d'
    have nsK : ∀ {b : Addr} {m : Str → Option Value}, s₁.heap.Ns b m → (hidT s₁.heap H).Ns b m := fun {b m} ⟨o, es, ep, e, d, r⟩ => ⟨o, es, ep, base_of e (noA e d), d, r⟩
    have hKb : K.In (hidT s₁.heap H) := fun b o e => base_of (KX b o e) (by
      cases q : H b with
      | none => rfl
      | some u =>
        have e' : b = a := hA b (by rw [q]; simp)
        subst e'
        rw [hK (by rw [q]; simp)] at e; cases e)
    have hM : Mod K mg (hidT s₁.heap H) := ⟨hKb, nsK hns, ⟨mb, nsK hb, hbb⟩, let ⟨mc, h1, h2⟩ := hlim; ⟨mc, nsK h1, h2⟩⟩
    have e0 : Env0 P w K mg (hidT s₁.heap H) callerA [] s₁ H := ⟨rfl, hM, fun b o e => of_hidT e, Nat.le_of_eq (hidT_size _ _), trivial, fun b hb => absurd (show b ∈ ([] : List Addr) from hb) (by simp), hok, .of_eq hg⟩
    refine codeAny_mono ((F _ hKb (nsK hns)).run callerA [] s₁ H ⟨[.ref a], []⟩ [.ref a] [.ref a] _ _ hr e0 (hbind s₁ (.ref a)) (.cons rfl .nil) (hsp H hO hS)) fun r s' h => ?_
    cases r with
    | error e => exact (hCX H e s' h).elim
    | ok fl =>
      cases fl with
      | next => exact False.elim h
      | brk => exact False.elim h
      | cont => exact False.elim h
      | ret u =>
        obtain ⟨v, H', os, bare, un, hok', r', q⟩ := h
        have q' : v = .bl true := q
        subst q'
        obtain rfl : u = Value.bool true := r'
        refine ⟨rfl, OldK.of_keep fun b o e => ?_, os, bare⟩
        cases q : H b with
        | none => exact un.keep b o e q (by intro z; exact absurd (show b ∈ ([] : List Addr) from z) (by simp)) (by simp)
        | some u =>
          rcases hO b with z | ⟨ob, xs, z⟩
          · rw [q] at z; cases z
          · have z2 := un.frzs b ob _ z
            obtain ⟨e1, _⟩ := hok b _ z
            obtain ⟨e2, _⟩ := hok' b _ z2
            rw [e] at e1; cases e1
            exact e2
  cases hk : K.lookup a with
  | some o =>
    -- the script is one of the module's own objects
    have e := KX a o hk
    rw [ha] at e
    cases e
    refine core (fun _ => none) (fun _ => .inl rfl) (.inr ⟨_, vs.toArray, _, hk, rfl, rfl, rfl, by rw [List.size_toArray, lenV]; exact hl, by simpa using rv⟩) (fun b u z => by have z' : (none : Option HO) = some u := z; cases z') (fun b z => absurd rfl z) fun z => absurd rfl z
  | none =>
    refine core (fun b => if b = a then some (.frz { cls := .type "list", data := .seq vs.toArray } (.lst (ns.map V.int))) else none) (fun b => ?_) (.inl (.inr ⟨{ cls := .type "list", data := .seq vs.toArray }, if_pos rfl⟩)) (fun b u z => ?_) (fun b z => ?_) fun _ => hk
    · by_cases hb : b = a
      · exact .inr ⟨_, _, if_pos hb⟩
      · exact .inl (if_neg hb)
    · by_cases hb : b = a
      · have z' := (if_pos hb).symm.trans z
        cases z'
        subst hb
        exact ⟨ha, by rw [List.length_map]; exact hl, vs, _, rv, ha⟩
      · have z' := (if_neg hb).symm.trans z
        cases z'
    · by_cases hb : b = a
      · exact hb
      · exact absurd (if_neg hb) z
end L2

namespace L2
open PySem PySem.Spec PyProof.Rows

abbrev KOf {K : PySem.W.Frag} {h : Heap} (_ : K.In h) : PySem.W.Frag := K

end L2

/- THE LAST THEOREM (shape; LID, My.* are yours):
   My.Adr: a structure of the addresses that your layer names (classes, functions); My.Txt K t: a structure (Prop) of the equations over K;
   My.txt_mk : {K} {implicit addresses ..} (e1 : nsIn K mainGlobals "law" = some (some (.ref f))) (e2 : K.lookup f = some ⟨oc, od, .func (fnOf "law" "law" params body scope dV kV doc pm an cdv ct), sl⟩) (e3 : codeIn K cdv "law" = true) .. : ∃ t, My.Txt K t

set_option maxRecDepth 100000 in
set_option maxHeartbeats 0 in
theorem PySem.Challenge.cw_LID_holds : PySem.Challenge.rw_LID.Holds := by
  w_on; o_law; k_head; (case hw => w_witness2)
  k_fill
  refine L2.walk_of (l := PySem.Challenge.rw_LID) (n := 63) (k := 40) (x := "script") (CX := fun w => ..) (sp := fun _ => My.sp_law) rfl (by decide) rfl ⟨rfl, by decide, by decide⟩ (fun w h Y => PySem.W.kIn_of Y) ?F ?S ?C
  case F =>
    intro w mg fa h KX G hmg
    have T : ∃ t, My.Txt (L2.KOf KX) t := by
      dsimp only [L2.KOf]                          -- K must stand as «<heap const> w.params» for k_is
      refine' My.txt_mk ?e1 ?e2 ?e3 ..
      (case e1 => PySem.W.k_is)                    -- in the order: a name -> its address -> its object -> its parts
      (case e2 => PySem.W.k_is)
      ..
    obtain ⟨t, T⟩ := T
    have e0 := hmg.symm.trans (PySem.W.mg_of KX G T.law)
    cases e0                                       -- fa is the law's own address
    exact ⟨_, fun s u => .of_eq rfl, fun base kb nb => My.law_fn T kb nb⟩     -- if «.of_eq rfl» comes too early: refine' ⟨_, ?b, fun base kb nb => My.law_fn T kb nb⟩; exact fun s u => .of_eq rfl
  case S => exact fun w H a ns hl hO hS => ..
  case C => exact ..
(the tactic k_is has no namespace: write k_is) -/

/-! SHORT WORDS over the layer: a def of the text, its body, what a loop and a test want. -/
namespace L2
open PySem PySem.Spec PyProof.Rows

/-! ### the text by places -/
/-- the j-th statement of a class's body -/
def inClass (s : Stmt) (j : Nat) : Stmt := match s with
  | .ClassDef _ _ _ body _ _ _ _ _ _ _ => body.getD j (.Pass ⟨0, 0, 0, 0⟩)
  | _ => .Pass ⟨0, 0, 0, 0⟩
def defArgs (s : Stmt) : Arguments := match s with
  | .FunctionDef _ a _ _ _ _ _ _ _ _ => a
  | _ => { posonlyargs := [], args := [], vararg := none, kwonlyargs := [], kw_defaults := [], kwarg := none, defaults := [] }
def defBody (s : Stmt) : List Stmt := match s with
  | .FunctionDef _ _ b _ _ _ _ _ _ _ => b
  | _ => []
def defScope (s : Stmt) : Scope := match s with
  | .FunctionDef _ _ _ _ _ _ sc _ _ _ => sc
  | _ => { kind := .function, names := [], isGenerator := false, isCoroutine := false }

/-! ### no exception leaves a def -/
abbrev CX0 : CXT := fun _ _ _ _ _ _ => False
abbrev E0 : XK := fun _ _ _ => False
theorem pass0 {X : Cx} : Passes CX0 X E0 := fun _ _ _ _ _ _ _ h => h.elim

/-! ### a def (or method) of the text as it stands behind the top -/
structure Fun (K : PySem.W.Frag) (x qual : Str) (st : Stmt) (f : Addr) (fd : FuncData) : Prop where
  ex : ∃ (oc : Value) (od : Option Addr) (kV doc pm : Value) (an : Option Addr) (cdv ct : Value) (osl : Array (Option Value)),
    fd = PySem.W.fnOf x qual (defArgs st) (defBody st) (defScope st) .none kV doc pm an cdv ct ∧ K.lookup f = some ⟨oc, od, .func fd, osl⟩ ∧ PySem.W.codeIn K cdv qual = true
  kp : PySem.W.keepIn K (.ref f) = true
section
variable {P : Program} {w : World} {K : PySem.W.Frag} {mg : Str → Option Value} {base : Heap}
/-- THE RULE for a def: its body as a term of rules, and the reading of that term -/
theorem Fun.ok {x qual : Str} {st : Stmt} {f : Addr} {fd : FuncData} {N ps : List Str} {k : Nat} {sp : Sp} (F : Fun K x qual st f fd) (S : FnScope N ps (defScope st)) (len : ∀ vs H Q E, sp vs H Q E → vs.length = ps.length)
    (hbody : ∀ (cdv : Value) (A : Around) (outer : List Env) (s : Shared) (H : Hp) (vs : List V) (Q : VK) (E : XK), Room k (A.deeper (envOfC qual (defScope st) s.heap.objs.size f cdv)) → sp vs H Q E →
      ∃ t, PSs (cxOf CX0 P w K mg base N qual (defScope st) f cdv A outer s H E).nox (defBody st) t ∧ t { nx := fun _ H' => Q .non H', rt := Q } (start N vs) H) : FnOk P w K mg base CX0 (k + 1) f fd ps sp := by
  obtain ⟨oc, od, kV, doc, pm, an, cdv, ct, osl, rfl, lk, hcd⟩ := F.ex
  refine fn_of lk hcd S len fun A outer s H vs Q E hr hsp => ?_
  obtain ⟨t, h, q⟩ := hbody cdv A outer s H vs Q E hr hsp
  exact ⟨t, h.nox, q⟩
/-- how its arguments bind (no defaults): h is «fun _ _ _ _ _ _ us hl => match us, hl with | [_, _], _ => rfl», one _ a parameter -/
theorem Fun.binds {x qual : Str} {st : Stmt} {f : Addr} {fd : FuncData} {ps : List Str} (F : Fun K x qual st f fd)
    (h : ∀ (kV doc pm : Value) (an : Option Addr) (cdv ct : Value) (us : List Value), us.length = ps.length → bindArgs (PySem.W.fnOf x qual (defArgs st) (defBody st) (defScope st) .none kV doc pm an cdv ct) ⟨us, []⟩ = pure (ps.zip us)) : Binds K fd ps [] := by
  obtain ⟨oc, od, kV, doc, pm, an, cdv, ct, osl, rfl, lk, hcd⟩ := F.ex
  exact .all (h kV doc pm an cdv ct)
theorem fun_mk {x qual : Str} {st : Stmt} {f : Addr} {oc : Value} {od an : Option Addr} {osl : Array (Option Value)} {kV doc pm cdv ct : Value} (l : K.lookup f = some ⟨oc, od, .func (PySem.W.fnOf x qual (defArgs st) (defBody st) (defScope st) .none kV doc pm an cdv ct), osl⟩)
    (c : PySem.W.codeIn K cdv qual = true) (k : PySem.W.keepIn K (.ref f) = true) : Fun K x qual st f (PySem.W.fnOf x qual (defArgs st) (defBody st) (defScope st) .none kV doc pm an cdv ct) := ⟨⟨oc, od, kV, doc, pm, an, cdv, ct, osl, rfl, l, c⟩, k⟩
end
theorem small1000 {n : Nat} (h : n ≤ 1000) : n < sizeLine := Nat.lt_of_le_of_lt h (by decide)

/-! ### expressions in short: the name that stands in the i-th slot -/
section
variable {X : Cx}
theorem pv (i : Nat) {x : Str} {pos : Pos} (hN : X.N[i]? = some x := by rfl) (hv : Vis X.env.scope x := by first | exact Or.inl rfl | exact Or.inr (Or.inl rfl) | exact Or.inr (Or.inr rfl)) (hd : (x == ("__debug__" : Str)) = false := by decide)
    (hcd : (x == ("__classdict__" : Str)) = false := by decide) : PE X (.Name x pos) (tVar i) := pe_var hN hv hd hcd
end

/-! ### tests -/
theorem iteF {A B : Prop} (h : B) : if false = true then A else B := by
  rw [if_neg Bool.false_ne_true]
  exact h
theorem iteT {A B : Prop} (h : A) : if true = true then A else B := by
  rw [if_pos rfl]
  exact h
theorem ite2 {c A B : Prop} [Decidable c] (h1 : c → A) (h2 : ¬ c → B) : if c then A else B := by
  by_cases h : c
  · rw [if_pos h]
    exact h1 h
  · rw [if_neg h]
    exact h2 h
theorem iteNS {c A B : Prop} [Decidable c] (hc : c) (h : B) : if (!decide c) = true then A else B := by
  rw [decide_eq_true hc]
  exact iteF h

/-! ### heaps -/
/-- all that was tracked is as it was -/
def Same (H H' : Hp) : Prop := ∀ b o, H b = some o → H' b = some o
theorem Same.refl (H : Hp) : Same H H := fun _ _ h => h
theorem Same.trans {H H1 H2 : Hp} (a : Same H H1) (b : Same H1 H2) : Same H H2 := fun c o h => b c o (a c o h)
theorem Same.free {H H' : Hp} (e : Same H H') {l : Addr} (h : H' l = Option.none) : H l = Option.none := by
  cases q : H l with
  | none => rfl
  | some o =>
    rw [e l o q] at h
    cases h
theorem Same.seq {K : PySem.W.Frag} {H H' : Hp} {a : Addr} {xs : List V} (e : Same H H') (h : SqL K H a xs) : SqL K H' a xs := by
  rcases h with (h | ⟨o, h⟩) | h
  · exact .inl (.inl (e _ _ h))
  · exact .inl (.inr ⟨o, e _ _ h⟩)
  · exact .inr h

end L2

set_option Elab.async false
set_option linter.all false
set_option maxRecDepth 100000
set_option maxHeartbeats 4000000
namespace L2
open PySem PySem.Spec PyProof.Rows

/-! ### a def of the text: where it stands, what it promises -/
/-- the def st stands at the top by the name x -/
structure TopDef (K : PySem.W.Frag) (mg : Str → Option Value) (x : Str) (st : Stmt) : Prop where
  ex : ∃ (f : Addr) (fd : FuncData), Fun K x x st f fd ∧ mg x = some (.ref f)
theorem top_mk {K : PySem.W.Frag} {h : Heap} {mg : Str → Option Value} {x : Str} {st : Stmt} {f : Addr} {oc kV doc pm cdv ct : Value} {od an : Option Addr} {osl : Array (Option Value)} (X : K.In h) (G : h.Ns mainGlobals mg)
    (a : PySem.W.nsIn K mainGlobals x = some (some (.ref f)))
    (l : K.lookup f = some ⟨oc, od, .func (PySem.W.fnOf x x (defArgs st) (defBody st) (defScope st) .none kV doc pm an cdv ct), osl⟩)
    (c : PySem.W.codeIn K cdv x = true) (k : PySem.W.keepIn K (.ref f) = true) : TopDef K mg x st :=
  ⟨_, _, fun_mk l c k, PySem.W.mg_of X G a⟩
/-- the def by the name x keeps sp, within n calls of one another -/
structure Def (P : Program) (w : World) (K : PySem.W.Frag) (mg : Str → Option Value) (base : Heap) (n : Nat) (x : Str) (ps : List Str) (sp : Sp) : Prop where
  ex : ∃ (f : Addr) (fd : FuncData), FnOk P w K mg base CX0 n f fd ps sp ∧ Binds K fd ps [] ∧ PySem.W.keepIn K (.ref f) = true ∧ mg x = some (.ref f)
section
variable {P : Program} {w : World} {K : PySem.W.Frag} {mg : Str → Option Value} {base : Heap}
theorem def_of {x : Str} {st : Stmt} {N ps : List Str} {k : Nat} {sp : Sp} (T : TopDef K mg x st) (S : FnScope N ps (defScope st))
    (bd : ∀ (kV doc pm : Value) (an : Option Addr) (cdv ct : Value) (us : List Value), us.length = ps.length → bindArgs (PySem.W.fnOf x x (defArgs st) (defBody st) (defScope st) .none kV doc pm an cdv ct) ⟨us, []⟩ = pure (ps.zip us))
    (len : ∀ vs H Q E, sp vs H Q E → vs.length = ps.length)
    (body : ∀ (f : Addr) (cdv : Value) (A : Around) (outer : List Env) (s : Shared) (H : Hp) (vs : List V) (Q : VK) (E : XK), Room k (A.deeper (envOfC x (defScope st) s.heap.objs.size f cdv)) → sp vs H Q E →
      ∃ t, PSs (cxOf CX0 P w K mg base N x (defScope st) f cdv A outer s H E).nox (defBody st) t ∧ t { nx := fun _ H' => Q .non H', rt := Q } (start N vs) H) :
    Def P w K mg base (k + 1) x ps sp := by
  obtain ⟨f, fd, F, m⟩ := T.ex
  exact ⟨f, fd, F.ok S len (body f), F.binds bd, F.kp, m⟩
end
section
variable {X : Cx} {n : Nat} {x : Str} {ps : List Str} {sp : Sp} {e a b : Expr} {es : List Expr} {t : TA} {ta tb : TE} {p pos : Pos}
/-- f(..) of such a def -/
theorem pe_def (D : Def X.prog X.w X.K X.mg X.base n x ps sp) (hr : Room n X.A) (hg : Gl X x) (ha : PA X (e :: es) t) (hdb : (x == ("__debug__" : Str)) = false := by decide)
    (he : starEach (e :: es) X.env = (false, eval e X.env) :: starEach es X.env := by rfl) (hpl : (backTo pos (starEach es X.env)).any (·.1) = false := by rfl) :
    PE X (.Call (.Name x p) (e :: es) [] pos) (tCall sp [] E0 t) := by
  obtain ⟨f, fd, F, b, kp, m⟩ := D.ex
  exact pe_call F hr hg m kp b .nil pass0 ha hdb he hpl

/-! ### ints of any size -/
theorem op_mulK : OpR X (binaryOp .Mult) (rI IntMulOk fun i j => .int (i * j)) := opI fun _ _ _ _ _ _ _ hc q => PyProof.Rows.mul_int q hc
def CDivK (_ j : Int) : Prop := j ≠ 0 ∧ j.natAbs.log2 < 9000
theorem op_fdivK : OpR X (binaryOp .FloorDiv) (rI CDivK fun i j => .int (i.fdiv j)) := opI fun _ _ _ _ _ _ _ hc q => PyProof.Rows.floordiv_int hc.1 q (.inl (PyProof.noPylong_of_log2 hc.2))

/-! ### isinstance(x, c) -/
/-! ### sep.join(a list of texts) -/
end
end L2


set_option Elab.async false
set_option maxRecDepth 100000
set_option maxHeartbeats 4000000
/-! ### the law's call, with the bound of its ints' bits -/
namespace L2
open PySem PySem.Spec PyProof.Rows PySem.W
theorem weight_mem : ∀ {ns : List Int} {n : Int}, n ∈ ns → WData.weight (.int n) ≤ WData.weightAll (ns.map WData.int)
  | [], _, h => nomatch h
  | m :: r, n, h => by
    show _ ≤ WData.weight (.int m) + 1 + WData.weightAll (r.map WData.int)
    rcases List.mem_cons.mp h with e | e
    · subst e; omega
    · have := weight_mem (ns := r) e
      omega
theorem bits_weight (n : Int) : Builtin.Int.intBits n = WData.weight (.int n) := by
  show _ = if n == 0 then 0 else n.natAbs.log2 + 1
  unfold Builtin.Int.intBits
  by_cases h : n = 0
  · subst h; rfl
  · simp [h]
theorem script_bits {ns : List Int} (h : WData.layableAll [.list (ns.map .int)] = true) : ∀ n ∈ ns, Builtin.Int.intBits n ≤ 1048576 := fun n hn => by
  have h1 : WData.layable (.list (ns.map .int)) = true := by
    simpa [WData.layableAll] using h
  have h2 : WData.weight (.list (ns.map .int)) ≤ 2 ^ 20 := by
    unfold WData.layable at h1
    rw [Bool.and_eq_true, Bool.and_eq_true] at h1
    exact of_decide_eq_true h1.2
  have h3 : WData.weightAll (ns.map WData.int) ≤ 2 ^ 20 := h2
  have h4 := weight_mem hn
  rw [bits_weight]
  omega
theorem walk_bits {l : OpenLaw} {n k : Nat} {q : Program} {loose : List Str} {XP : (Str → Option Value) → Heap → Prop} {YP : World → Heap → Prop} {d : DefRec} {K : Params → Frag} {CX : CXT} {sp : Frag → Sp} {x : Str}
    (hn : l.most = some n) (hn2 : n ≤ sizeLine) (hdf : d.params.defaults = []) (hr : Room k callerA) (hY : ∀ (w : World) (h : Heap), YP w h → (K w.params).In h)
    (F : ∀ (w : World) (mg : Str → Option Value) (fa : Addr) (h : Heap), (K w.params).In h → h.Ns mainGlobals mg → mg d.name = some (.ref fa) →
      ∃ fd : FuncData, (∀ (s : Shared) (u : Value), BindsTo s fd ⟨[u], []⟩ [(x, u)]) ∧ ∀ base : Heap, (K w.params).In base → base.Ns mainGlobals mg → FnOk l.prog w (K w.params) mg base CX k fa fd [x] (sp (K w.params)))
    (hsp : ∀ (K : Frag) (H : Hp) (a : Addr) (ns : List Int), ns.length ≤ n → (∀ m ∈ ns, Builtin.Int.intBits m ≤ 1048576) → Only H → SqL K H a (ns.map V.int) → sp K [.ref a] H (fun v _ => v = .bl true) fun _ _ _ => False)
    (hCX : ∀ (H : Hp) (s : Shared) (e : Value) (s' : Shared), CX [] H s (fun _ _ _ => False) e s' → False) : WalkO q loose XP YP l.row.toRowW d [] (fun f vs => PySem.call f vs) := by
  intro w s₀ s₁ mg mb G Y fa o pm cd doc dV kV ho hd hcd hD hmg hg args vals as hpre hlay hrd hwl hlo
  obtain rfl : dV = .none := Dflts.none hD hdf
  obtain rfl : kV = .none := Dflts.noKw hD
  obtain ⟨a, vs, ns, rfl, rfl, hobj, hints, hlen⟩ := Att.script_of hn hpre hwl
  have KX := hY w _ Y
  obtain ⟨fd, hb, hF⟩ := F w mg fa _ KX G.T.g hmg
  have c := law_call KX G.T.g G.T.b G.T.builtins G.T.nolimit hg hobj hints (Nat.le_trans hlen hn2) hr hF hb (fun H hO hS => hsp (K w.params) H a ns hlen (script_bits hlay) hO hS) fun H e s' => hCX H s₁ e s'
  refine enter_call (codeAny_mono c fun r s' hq => ?_)
  obtain ⟨rfl, h2, h3, h4⟩ := hq
  exact ⟨.inl ⟨.bool true, .bool true, [], rfl, fun _ => rfl, .bool true, Att.post_true l _, fun _ => ⟨List.Pairwise.nil, fun _ hm => (nomatch hm)⟩⟩, h2, h3, h4⟩
end L2


set_option Elab.async false
set_option linter.all false
set_option maxRecDepth 100000
set_option maxHeartbeats 4000000
namespace L2
open PySem PySem.Spec PyProof.Rows

/-! ### a list comprehension: its block as a context of its own -/
/-- the context of the block: s, H the state behind the new list; fp the iterator's records -/
def cxComp (X : Cx) (scope : Scope) (cl : List (Str × Addr)) (N : List Str) (s : Shared) (H : Hp) (fp : List Addr) : Cx :=
  { prog := X.prog, w := X.w, K := X.K, mg := X.mg, base := X.base, A := X.A, N := N, s₀ := s, H₀ := H, env := compEnvC scope cl s.heap.objs.size X.env,
    outer := X.stack, stack := X.stack, ex := fp, fn := fun _ => false, calm := X.calm, pn := [], xe := fun _ _ => False }
/-- the names that the block sees: its own one, then those of the def at the places js -/
def cNames (X : Cx) (x : Str) (js : List Nat) : List Str := x :: js.map fun j => X.N.getD j ""
def cVals (js : List Nat) (σ : St) : St := js.map fun j => (σ[j]?).getD none
/-- each place holds a name that is a cell of the def's and free in the block -/
structure FreeAt (X : Cx) (scope : Scope) (js : List Nat) : Prop where
  all : ∀ j ∈ js, ∃ y, X.N[j]? = some y ∧ (X.env.kindOf y = some .cell ∨ X.env.kindOf y = some .free) ∧ (y, NameKind.free) ∈ scope.names ∧
    ((relabel scope X.env).names.lookup y = some .cell ∨ (relabel scope X.env).names.lookup y = some .free)
theorem fa_nil {X : Cx} {scope : Scope} : FreeAt X scope [] := ⟨fun _ h => nomatch h⟩
theorem fa_cons {X : Cx} {scope : Scope} {j : Nat} {js : List Nat} {y : Str} (h1 : X.N[j]? = some y) (h2 : X.env.kindOf y = some .cell ∨ X.env.kindOf y = some .free) (h3 : (y, NameKind.free) ∈ scope.names)
    (h4 : (relabel scope X.env).names.lookup y = some .cell ∨ (relabel scope X.env).names.lookup y = some .free) (r : FreeAt X scope js) : FreeAt X scope (j :: js) :=
  ⟨fun k hk => by
    rcases List.mem_cons.mp hk with e | e
    · subst e; exact ⟨y, h1, h2, h3, h4⟩
    · exact r.all k e⟩

theorem lookup_relabel {env : Env} : ∀ {names : List (Str × NameKind)} {y : Str} {k : NameKind},
    (names.map fun (n, k) => if (k == NameKind.free && env.scope.kind == .function && env.kindOf n == some .cell) then (n, NameKind.cell) else (n, k)).lookup y = some k →
    ∃ k', (y, k') ∈ names ∧ (k' = k ∨ (k = .cell ∧ k' = .free))
  | [], _, _, h => by simp at h
  | (n, k0) :: r, y, k, h => by
    by_cases hc : (k0 == NameKind.free && env.scope.kind == .function && env.kindOf n == some .cell) = true
    · rw [List.map_cons] at h
      dsimp only at h
      rw [if_pos hc] at h
      simp only [List.lookup_cons] at h
      have hf : k0 = .free := by
        rw [Bool.and_eq_true, Bool.and_eq_true] at hc
        exact beq_iff_eq.mp hc.1.1
      cases hx : y == n with
      | true =>
        rw [hx] at h
        have e := beq_iff_eq.mp hx
        subst e
        have e2 := Option.some.inj h
        exact ⟨k0, List.mem_cons_self, .inr ⟨e2.symm, hf⟩⟩
      | false =>
        rw [hx] at h
        obtain ⟨k', m, q⟩ := lookup_relabel h
        exact ⟨k', List.mem_cons_of_mem _ m, q⟩
    · rw [List.map_cons] at h
      dsimp only at h
      rw [if_neg hc] at h
      simp only [List.lookup_cons] at h
      cases hx : y == n with
      | true =>
        rw [hx] at h
        have e := beq_iff_eq.mp hx
        subst e
        have e2 := Option.some.inj h
        exact ⟨k0, List.mem_cons_self, .inl e2⟩
      | false =>
        rw [hx] at h
        obtain ⟨k', m, q⟩ := lookup_relabel h
        exact ⟨k', List.mem_cons_of_mem _ m, q⟩

section
variable {X : Cx} {pins : List (Addr × Obj)} {σ : St} {H : Hp} {s : Shared} {scope : Scope} {cl : List (Str × Addr)} {x : Str} {js : List Nat} {fp : List Addr}

theorem comp_ok (I : Inv X pins σ H s) (hk : scope.kind = .function) (hcell : ∀ y ∈ scope.names, y.2 ≠ .cell)
    (hcl1 : ∀ y c, cl.lookup y = some c → X.env.cells.lookup y = some c) (hcl2 : ∀ y, (y, NameKind.free) ∈ scope.names → ∃ c, cl.lookup y = some c)
    (hf : ∀ b ∈ fp, FpOk X pins H b) (hlt : ∀ b ∈ fp, b < s.heap.objs.size) : (cxComp X scope cl (cNames X x js) s H fp).Ok where
  mod := I.ok.mod
  kind := hk
  glob := I.ok.glob
  blt := I.ok.blt
  above := Nat.le_refl _
  inj := fun y z c h1 h2 => I.ok.inj y z c (hcl1 y c h1) (hcl1 z c h2)
  has := fun y hy => by
    have hy' : (relabel scope X.env).names.lookup y = some .cell ∨ (relabel scope X.env).names.lookup y = some .free := hy
    rcases hy' with h | h
    · obtain ⟨k', m, q⟩ := lookup_relabel h
      rcases q with q | ⟨_, q⟩
      · exact absurd q (hcell _ m)
      · subst q; exact hcl2 y m
    · obtain ⟨k', m, q⟩ := lookup_relabel h
      rcases q with q | ⟨q, _⟩
      · subst q; exact hcl2 y m
      · cases q
  cab := fun y c h _ => by cases h
  hd := I.ok.hd
  frames := I.ok.frames
  stk := .inl rfl
  exf := fun b hb => ⟨Nat.ne_of_lt (hlt b hb), fun y c h => (hf b hb).2.2.2.2.1 y c (hcl1 y c h)⟩
  bs := I.bs
  bsz := Nat.le_trans I.ok.bsz I.sz
  noex := fun b o e hb => by
    rcases (hf b hb).2.2.2.1 with z | z
    · exact I.ok.noex b o e z
    · exact absurd (Nat.lt_of_lt_of_le (Heap.lt_size e) (Nat.le_trans I.ok.bsz z)) (Nat.lt_irrefl _)
  exfs := fun b hb hz => (List.mem_cons.mp (I.stkSub b hz)).elim (hf b hb).2.1 (hf b hb).2.2.1
  funs := I.stack
  frf := I.stkFree

theorem comp_start {h₁ : Heap} {tk : Nat} (I : Inv X pins σ H s) (hk : scope.kind = .function) (hcell : ∀ y ∈ scope.names, y.2 ≠ .cell)
    (hcl1 : ∀ y c, cl.lookup y = some c → X.env.cells.lookup y = some c) (hcl2 : ∀ y, (y, NameKind.free) ∈ scope.names → ∃ c, cl.lookup y = some c) (hjs : FreeAt X scope js)
    (hf : ∀ b ∈ fp, FpOk X pins H b) (hlt : ∀ b ∈ fp, b < s.heap.objs.size) {m : Str → Option Value} (hn : h₁.Ns s.heap.objs.size m) (hkeep : ∀ b o, s.heap.get? b = some o → h₁.get? b = some o) :
    Inv (cxComp X scope cl (cNames X x js) s H fp) [] (none :: cVals js σ) H { s with heap := h₁, toks := tk } where
  ok := comp_ok I hk hcell hcl1 hcl2 hf hlt
  os := rfl
  bare := I.bare
  base := Un.kept hkeep
  loc := by
    refine ⟨m, hn, fun i y v h1 h2 h3 => ?_⟩
    cases i with
    | zero =>
      have z : (some none : Option (Option V)) = some (some v) := h2
      cases z
    | succ k =>
      have h1' : (js.map fun j => X.N.getD j "")[k]? = some y := h1
      have h2' : (js.map fun j => (σ[j]?).getD none)[k]? = some (some v) := h2
      rw [List.getElem?_map] at h1' h2'
      cases hj : js[k]? with
      | none => rw [hj] at h1'; cases h1'
      | some j =>
        rw [hj] at h1' h2'
        have e1 : X.N.getD j "" = y := Option.some.inj h1'
        have e2 : (σ[j]?).getD none = some v := Option.some.inj h2'
        obtain ⟨y', n1, n2, n3, n4⟩ := hjs.all j (List.mem_of_getElem? hj)
        have e3 : y' = y := by rw [← e1, List.getD_eq_getElem?_getD, n1]; rfl
        subst e3
        have e4 : σ[j]? = some (some v) := by
          cases q : σ[j]? with
          | none => rw [q] at e2; cases e2
          | some a => rw [q] at e2; exact congrArg some e2
        obtain ⟨m0, _, hl⟩ := I.loc
        obtain ⟨u, r, l⟩ := hl j y' v n1 e4 (n2.elim (fun z => Or.inr (Or.inl z)) fun z => Or.inr (Or.inr z))
        refine ⟨u, r, .inr ⟨n4, ?_⟩⟩
        rcases l with ⟨l, _⟩ | ⟨_, c, hc, hi⟩
        · exfalso
          rcases n2 with z | z <;> (rw [z] at l; cases l)
        · obtain ⟨c', hc'⟩ := hcl2 y' n3
          have e5 := hcl1 y' c' hc'
          rw [hc] at e5
          have e6 := Option.some.inj e5
          subst e6
          obtain ⟨o, ho, hd⟩ := hi
          exact ⟨c, hc', o, hkeep c o ho, hd⟩
  cell := fun y c h => by
    obtain ⟨v, o, ho, hd⟩ := I.cell y c (hcl1 y c h)
    exact ⟨v, o, hkeep c o ho, hd⟩
  free := I.hok.fresh (Nat.le_refl _)
  freeC := fun y c h => I.freeC y c (hcl1 y c h)
  pin := fun p hp => absurd (show p ∈ ([] : List (Addr × Obj)) from hp) (by simp)
  hok := I.hok.kept hkeep
  len := by
    show (none :: cVals js σ).length = (cNames X x js).length
    simp [cVals, cNames]
end

/-- the tests of a clause -/
def PIf (X : Cx) (ifs : List Expr) (t : TT) : Prop :=
  ∀ (pins : List (Addr × Obj)) (s : Shared) (σ : St) (H : Hp) (Q : Bool → Hp → Prop), Inv X pins σ H s → t σ H Q →
    wpAny (model X.prog X.w) X.A (forIn ifs true fun c r => if r = true then do let ok ← isTrue c X.env (eval c X.env); pure (ForInStep.yield ok) else pure (ForInStep.yield r)) (TP X pins σ Q) X.xe s
def tNoIf : TT := fun _ H Q => Q true H
theorem pif_nil {X : Cx} : PIf X [] tNoIf := fun _ _ _ H _ I h => wpAny_tests_nil ⟨H, I, h⟩

/-- [elt for x in iter if ..]: W an invariant by the turn and a measure; the list grows at D -/
def tComp (wi : TI) (tc : TT) (te : TE) (js : List Nat) : TE := fun σ H Q => wi σ H fun J H1 => ∀ D, H1 D = none →
  ∃ W : Nat → Nat → Hp → Prop, (∃ m, W 0 m (upd H1 D (.lst []))) ∧ ∀ i m H2, W i m H2 → (J.stop i H2 ∧ Q (.ref D) H2) ∨
    (J.go i H2 ∧ ∀ v H3, J.yld i H2 v H3 → tc (some v :: cVals js σ) H3 fun b H4 => if b = true then te (some v :: cVals js σ) H4 fun y H5 =>
      ∃ ys, H5 D = some (.lst ys) ∧ ys.length < sizeLine ∧ ∃ m', m' < m ∧ W (i + 1) m' (upd H5 D (.lst (ys ++ [y]))) else ∃ m', m' < m ∧ W (i + 1) m' H4)

section
variable {X : Cx} {elt iter : Expr} {x : Str} {px pos : Pos} {ifs : List Expr} {scope : Scope} {cl : List (Str × Addr)} {wi : TI} {tc : TT} {te : TE} {js : List Nat}

theorem comp_core {use : Option (Value → Sem Unit)} {Qv : Value → Shared → Prop} {pins : List (Addr × Obj)} {s : Shared} {σ : St} {H : Hp} {Q : VK}
    (hc : X.calm = true) (hi : PI X (.Name x px) iter wi) (hk : scope.kind = .function) (hcell : ∀ y ∈ scope.names, y.2 ≠ .cell) (hx : (relabel scope X.env).names.lookup x = some .local)
    (hcl1 : ∀ y c, cl.lookup y = some c → X.env.cells.lookup y = some c) (hcl2 : ∀ y, (y, NameKind.free) ∈ scope.names → ∃ c, cl.lookup y = some c) (hjs : FreeAt X scope js) (hnd : (cNames X x js).Nodup)
    (ht : ∀ s' H' fp, PIf (cxComp X scope cl (cNames X x js) s' H' fp) ifs tc) (he : ∀ s' H' fp, PE (cxComp X scope cl (cNames X x js) s' H' fp) elt te)
    (I : Inv X pins σ H s) (h : tComp wi tc te js σ H Q)
    (fin : ∀ (D C : Addr) (H' : Hp) (s' : Shared), Inv X pins σ H' s' → FpOk X pins H' C → (∃ m, s'.heap.Ns C m) → Q (.ref D) H' → compPost (model X.prog X.w) X.A X.xe use Qv (.ref D) C (.ok .next) s') :
    wpAny (model X.prog X.w) X.A (eval iter X.env) (fun xv s₁ => wpAny (model X.prog X.w) X.A (pyIter xv) (fun it s₂ => wpAny (model X.prog X.w) X.A (newList []) (fun acc s₃ =>
      wpAny (model X.prog X.w) X.A (newFunctionEnv scope X.env.globals cl [] X.env.qual none .none (some X.env)) (fun cenv s₄ =>
        codeAny (model X.prog X.w) X.A (.compStart (.ListComp elt [⟨.Name x px, iter, ifs, 0⟩] scope pos) 0 it acc { cenv with scope := relabel scope X.env })
          (compPost (model X.prog X.w) X.A X.xe use Qv acc cenv.locals) s₄) X.xe s₃) X.xe s₂) X.xe s₁) X.xe s := by
  refine thn (hi pins s σ H _ I h) fun v s1 h1 => thn h1 fun itv s2 h2 => ?_
  obtain ⟨it, fp, tn, J, H2, e, I2, T, st2, f2, hW⟩ := h2
  subst e
  obtain ⟨W, ⟨m0, w0⟩, turn⟩ := hW s2.heap.objs.size (I2.hok.fresh (Nat.le_refl _))
  have hlt2 : ∀ b ∈ fp, b < s2.heap.objs.size := fun b hb => let ⟨_, e, _⟩ := T.obj _ _ st2 b hb; Heap.lt_size e
  have I3 : Inv X pins σ (upd H2 s2.heap.objs.size (.lst [])) { s2 with heap := s2.heap.push { cls := .type "list", data := .seq ([] : List Value).toArray } } :=
    I2.lnew (t' := s2.toks) (its := []) .nil (Nat.zero_le _)
  refine wpAny_newObj_type ?_
  have k23 : ∀ b o, s2.heap.get? b = some o → (s2.heap.push { cls := .type "list", data := .seq ([] : List Value).toArray }).get? b = some o := fun b o e => Heap.get?_push_of_some _ e
  have sz3 : (s2.heap.push { cls := .type "list", data := .seq ([] : List Value).toArray }).objs.size = s2.heap.objs.size + 1 := Heap.size_push ..
  generalize hs3 : ({ s2 with heap := s2.heap.push { cls := .type "list", data := .seq ([] : List Value).toArray } } : Shared) = s3 at I3
  have hs3' : s3.heap = s2.heap.push { cls := .type "list", data := .seq ([] : List Value).toArray } := by rw [← hs3]
  have hlt3 : ∀ b ∈ fp, b < s3.heap.objs.size := fun b hb => by rw [hs3', sz3]; exact Nat.lt_succ_of_lt (hlt2 b hb)
  have f3 : ∀ b ∈ fp, FpOk X pins (upd H2 s2.heap.objs.size (.lst [])) b := fun b hb => ⟨by rw [upd_ne (Nat.ne_of_lt (hlt2 b hb))]; exact (f2 b hb).1, (f2 b hb).2⟩
  refine wpAny_newFunctionEnv hcell (by intro y hy; simp at hy) (fun h₁ hns hsb => ?_) hk
  have k34 : ∀ b o, s3.heap.get? b = some o → h₁.get? b = some o := fun b o e => hsb.extBut b o (Nat.ne_of_lt (Heap.lt_size e)) (Heap.get?_push_of_some _ e)
  have I4 := comp_start (x := x) (js := js) (tk := s3.toks + ([] : List (Str × Value)).length) I3 hk hcell hcl1 hcl2 hjs f3 hlt3 hns k34
  have st4 : tn 0 h₁ := T.keep 0 _ _ st2 fun b hb o e => k34 b o (by rw [hs3']; exact k23 b o e)
  -- the iterator's records stay what they are
  have stat : ∀ {H' : Hp}, (∀ b ∈ fp, H' b = none) → ∀ b ∈ fp, FpOk (cxComp X scope cl (cNames X x js) s3 (upd H2 s2.heap.objs.size (.lst [])) fp) [] H' b := fun hn b hb =>
    ⟨hn b hb, Nat.ne_of_lt (hlt3 b hb), fun hz => (List.mem_cons.mp (I3.stkSub b hz)).elim (f2 b hb).2.1 (f2 b hb).2.2.1, .inl hb, fun y c q => (f2 b hb).2.2.2.2.1 y c (hcl1 y c q), fun p hp => absurd (show p ∈ ([] : List (Addr × Obj)) from hp) (by simp)⟩
  have back : ∀ {σ' : St} {H' : Hp} {s' : Shared}, Inv (cxComp X scope cl (cNames X x js) s3 (upd H2 s2.heap.objs.size (.lst [])) fp) [] σ' H' s' → Inv X pins σ H' s' := fun {σ' H' s'} J' =>
    I3.call' (ch := fp) J'.os J'.base J'.hok J'.bare fun b hb => ⟨(f2 b hb).2.2.2.1, (f2 b hb).2.1, (f2 b hb).2.2.2.2.1, (f2 b hb).2.2.2.2.2⟩
  have loop : codeAny (model X.prog X.w) X.A (.compLoop (.ListComp elt [⟨.Name x px, iter, ifs, 0⟩] scope pos) 0 (.ref it) (.ref s2.heap.objs.size) (compEnvC scope cl s3.heap.objs.size X.env))
      (compPost (model X.prog X.w) X.A X.xe use Qv (.ref s2.heap.objs.size) s3.heap.objs.size) { s3 with heap := h₁, toks := s3.toks + ([] : List (Str × Value)).length } := by
    refine codeAny_compLoop_tests (fun n s' => ∃ i o H', Inv (cxComp X scope cl (cNames X x js) s3 (upd H2 s2.heap.objs.size (.lst [])) fp) [] (o :: cVals js σ) H' s' ∧ tn i s'.heap ∧ (∀ b ∈ fp, H' b = none) ∧ W i n H') ?_ m0
      ⟨0, none, _, I4, st4, fun b hb => (f3 b hb).1, w0⟩
    rintro n s5 ⟨i, o, H5, I5, st5, fr5, w5⟩
    rcases turn i n H5 w5 with ⟨stop, q⟩ | ⟨go, step⟩
    · refine thn (T.done (cxComp X scope cl (cNames X x js) s3 (upd H2 s2.heap.objs.size (.lst [])) fp) rfl rfl rfl hc i [] s5 _ H5 _ I5 (stat fr5) st5 stop) fun r s6 ⟨hr, I6⟩ => ?_
      subst hr
      exact fin _ _ H5 s6 (back I6) (I3.fpOk (Nat.le_refl _) I6.free) (let ⟨m, hm, _⟩ := I6.loc; ⟨m, hm⟩) q
    · refine thn (T.item (cxComp X scope cl (cNames X x js) s3 (upd H2 s2.heap.objs.size (.lst [])) fp) rfl rfl rfl hc i [] s5 _ H5 _ I5 (stat fr5) st5 go) fun r s6 ⟨u, hr, h6⟩ => ?_
      subst hr
      show wpAny _ _ (assign (.Name x px) _ u) _ _ s6
      intro Γ p hΓ
      have h6' := h6 Γ p hΓ
      obtain ⟨v, H6, I6, r6, y6, st6, fr6⟩ := h6'
      refine (?_ : wpAny _ _ _ _ _ s6) Γ p hΓ
      have I6' := I6.pinned (stat fr6) (T.obj _ _ st6)
      have hg : PG (cxComp X scope cl (cNames X x js) s3 (upd H2 s2.heap.objs.size (.lst [])) fp) (.Name x px) (gName 0) := pg_name (i := 0) hnd rfl (Or.inl hx) (.inr hx)
      refine wpAny_mono (hg _ s6 _ H6 v u (fun σ' H' => σ' = some v :: cVals js σ ∧ H' = H6) I6' r6 ⟨rfl, rfl⟩) (fun _ s7 q7 => ?_) (fun _ _ f => False.elim f)
      obtain ⟨σ7, H7, I7, e7, e8⟩ := q7
      subst e7 e8
      refine wpAny_mono (ht s3 _ fp _ s7 _ H7 _ I7 (step v H7 y6)) (fun ok s8 q8 => ?_) (fun _ _ f => False.elim f)
      obtain ⟨H8, I8, q8⟩ := q8
      have again : ∀ {s9 : Shared} {σ9 : St} {H9 : Hp} {m' : Nat}, Inv (cxComp X scope cl (cNames X x js) s3 (upd H2 s2.heap.objs.size (.lst [])) fp) ([] ++ pinsAt fp s6.heap) (some v :: cVals js σ) H9 s9 → m' < n → W (i + 1) m' H9 →
          ∃ m, m < n ∧ ∃ i o H', Inv (cxComp X scope cl (cNames X x js) s3 (upd H2 s2.heap.objs.size (.lst [])) fp) [] (o :: cVals js σ) H' s9 ∧ tn i s9.heap ∧ (∀ b ∈ fp, H' b = none) ∧ W i m H' := fun {s9 σ9 H9 m'} I9 hm w9 => by
        refine ⟨m', hm, i + 1, some v, H9, I9.unpinned, T.keep _ _ _ st6 fun b hb o e => (I9.pin (b, o) (List.mem_append_right _ (List.mem_append_right _ (mem_pinsAt hb e)))).1, fun b hb => ?_, w9⟩
        obtain ⟨o, e, d⟩ := T.obj _ _ st6 b hb
        exact (I9.pin (b, o) (List.mem_append_right _ (List.mem_append_right _ (mem_pinsAt hb e)))).2.1
      cases ok with
      | false =>
        rw [if_neg Bool.false_ne_true] at q8 ⊢
        obtain ⟨m', hm, w9⟩ := q8
        exact again (σ9 := []) I8 hm w9
      | true =>
        rw [if_pos rfl] at q8 ⊢
        refine wpAny_mono (he s3 _ fp _ s8 _ H8 _ I8 q8) (fun y s9 q9 => ?_) (fun _ _ f => False.elim f)
        obtain ⟨yv, H9, I9, r9, ys, hD, hl, m', hm, w9⟩ := q9
        refine wpAny_mono (mt_append (X := cxComp X scope cl (cNames X x js) s3 (upd H2 s2.heap.objs.size (.lst [])) fp) _ s9 _ H9 (.ref s2.heap.objs.size) [yv] (.ref s2.heap.objs.size) [y] (fun _ H' => H' = upd H9 s2.heap.objs.size (.lst (ys ++ [yv]))) I9 rfl (.cons r9 .nil) ⟨_, ys, yv, rfl, rfl, hD, hl, rfl⟩) (fun _ s10 q10 => ?_) (fun _ _ f => False.elim f)
        obtain ⟨_, H10, I10, _, e10⟩ := q10
        subst e10
        exact again (σ9 := []) I10 hm w9
  exact codeAny_compStart_list loop (T.self _ 0 _ _ _ st4 loop)


/-- y = [..] -/
def tAsgC (i : Nat) (te : TE) : TS := fun D σ H => te σ H fun v H1 => D.nx (σ.set i (some v)) H1
theorem ps_setC {y : Str} {i : Nat} {py spos : Pos} (hN : X.N.Nodup) (hy : X.N[i]? = some y) (hyl : Loc X.env.scope y) (hyf : X.fn y = true ∨ X.env.scope.names.lookup y = some .local)
    (hsw : swapsWith (.ListComp elt [⟨.Name x px, iter, ifs, 0⟩] scope pos) (some (.Name y py)) spos.line X.env = pure true)
    (hc : X.calm = true) (hi : PI X (.Name x px) iter wi) (hk : scope.kind = .function) (hcell : ∀ y ∈ scope.names, y.2 ≠ .cell) (hnames : ∀ y ∈ scope.names, y.2 = .local → scope.names.lookup y.1 = some .local) (hx : (relabel scope X.env).names.lookup x = some .local)
    (hclos : closureFor scope X.env = pure cl) (hcl1 : ∀ y c, cl.lookup y = some c → X.env.cells.lookup y = some c) (hcl2 : ∀ y, (y, NameKind.free) ∈ scope.names → ∃ c, cl.lookup y = some c) (hjs : FreeAt X scope js) (hnd : (cNames X x js).Nodup)
    (ht : ∀ s' H' fp, PIf (cxComp X scope cl (cNames X x js) s' H' fp) ifs tc) (he : ∀ s' H' fp, PE (cxComp X scope cl (cNames X x js) s' H' fp) elt te)
    (hs : ∀ x, foldedSetIterable iter X.env x = pure x := by intro _; rfl) :
    PS X (.Assign [.Name y py] (.ListComp elt [⟨.Name x px, iter, ifs, 0⟩] scope pos) spos) (tAsgC i (tComp wi tc te js)) := by
  intro pins s σ H D I h
  rw [exec_Assign_Name_used _ _ _ _ hsw]
  refine wpAny_bind (wpAny_standAt (wpAny_bind ?_))
  show wpAny _ _ (do let _ ← comprehension (.ListComp elt [⟨.Name x px, iter, ifs, 0⟩] scope pos) scope X.env _ (newList []) false (eval iter X.env) (some (assign (.Name y py) X.env))) _ _ s
  refine wpAny_bind (wpAny_mono (wpAny_comprehension_free (use := some (assign (.Name y py) X.env)) (Q := fun _ s' => SP X pins D .next s') rfl hs hclos hk hnames
    (comp_core hc hi hk hcell hx hcl1 hcl2 hjs hnd ht he I h fun D' C H' s' I' fC hC q => ?_)) (fun _ s' hq => wpAny_pure (wpAny_pure hq)) fun _ _ e => e)
  obtain ⟨m, o, es, ep, ho, hd, hr⟩ := hC
  obtain ⟨f0, f1, f2, f3, f4, f5⟩ := fC
  have Ip : Inv X (pins ++ [(C, o)]) σ H' s' := I'.pins_of fun p hp => (List.mem_append.mp hp).elim (fun z => I'.pin p (List.mem_append_right _ z)) fun z => by
    have e : p = (C, o) := by simpa using z
    subst e
    exact ⟨ho, f0, f1, f2, fun v z => by rw [hd] at z; cases z⟩
  have hg : PG X (.Name y py) (gName i) := pg_name hN hy hyl hyf
  refine thn (hg _ s' σ H' (.ref D') (.ref D') (fun σ' H'' => σ' = σ.set i (some (.ref D')) ∧ H'' = H') Ip rfl ⟨rfl, rfl⟩) fun _ s'' q'' => ?_
  obtain ⟨σ'', H'', I'', e1, e2⟩ := q''
  subst e1 e2
  have hp := (I''.pin (C, o) (by simp)).1
  refine ⟨m, ⟨o, es, ep, hp, hd, hr⟩, fun h' sb => ?_⟩
  exact ⟨_, _, (I''.unpinned).turned (t' := s''.toks) (fun b o hb e => (sb.2 b hb).trans e) f0 f1 f3 f4 f5, q⟩
end
end L2


set_option Elab.async false
set_option linter.all false
set_option maxRecDepth 100000
set_option maxHeartbeats 4000000
namespace L2
open PySem PySem.Spec PySem.Calls PyProof.Rows PySem.W PySem.Builtin.Getset_descriptor
/-- what the fragment says of an own class of exceptions, for isinstance -/
structure ExcCls (K : Frag) (D : Addr) : Prop where
  ga : findIn K (.ref D) "__getattribute__" = some (some (.builtin "BaseException.__getattribute__"))
  gt : findIn K (.ref D) "__getattr__" = some none
  cl : ∃ cd, clsIn K D = some cd
  ha : findIn K (.ref D) "__class__" = some (some (.builtin "object.__class__"))
  hn : specialIn K (.builtin "object.__class__") "__get__" = some (some (.builtin "getset_descriptor.__get__"))
  tk : takesIn K (.builtin "object.__class__") = some true
  hb : mroIn K D (.type "BaseException") = some true
  hm : mroIn K D (.type "object") = some true
section
variable {prog : Program} {w : World} {A : Around} {E : Value → Shared → Prop} {s : Shared} {K : Frag} {x D : Addr}
/-- an object of the class D, whatever else is in it -/
def OfCls (x D : Addr) (h : Heap) : Prop := ∃ ox, h.get? x = some ox ∧ ox.cls = .ref D
theorem OfCls.type {M : Model} {h : Heap} (I : OfCls x D h) : Looks M h (typeOf (.ref x)) (.ref D) := by
  obtain ⟨ox, a, b⟩ := I
  exact b ▸ (Looks.ld a).andThen .now
theorem exc_find {M : Model} {h : Heap} (c : ExcCls K D) (X : K.In h) :
    Looks M h (Builtin.ObjectAttr.find (.ref x) (.ref D) "__class__") (.bind (.builtin "getset_descriptor.__get__") (.builtin "object.__class__")) := by
  have l1 := looks_findIn (M := M) X c.ha
  have l2 := looks_specialIn (M := M) X c.hn
  have l3 := looks_takesIn (M := M) X c.tk
  have l4 : Looks M h (Builtin.ObjectAttr.dataDescriptor? (some (.builtin "object.__class__")) (some (.builtin "getset_descriptor.__get__"))) (some (.builtin "getset_descriptor.__get__", .builtin "object.__class__")) := l3.andThen .now
  exact l1.andThen (Looks.andThen (show Looks M h (Builtin.ObjectAttr.getOf (some (.builtin "object.__class__"))) _ from l2) (l4.andThen (Looks.tag .now)))
theorem exc_get {R : Result → Shared → Prop} {tp : Value} (c : ExcCls K D) (X : K.In s.heap) (I : OfCls x D s.heap) (h : R (.ok (.ret (.ref D))) s) :
    codeAny (model prog w) A (.call (.builtin "getset_descriptor.__get__") ⟨[.builtin "object.__class__", .ref x, tp], []⟩) R s := by
  obtain ⟨hh, g, dr, t, os⟩ := s
  have l0 := I.type (M := model prog w)
  have l1 := looks_mroIn (M := model prog w) X c.hm
  refine codeAny_call_builtin (KF.slot_gs).plain KF.entry_gs ?_
  refine (KF.slot_gs).check _ _ _ _ _ _ _ _ KF.type_class (KF.args_gs _ _ _) ?_
  unfold Builtin.«getset_descriptor.__get__» descrGet; rw [dga_obj]
  refine wpAny_bind (wpAny_pure ?_)
  unfold descrGetter descrCheckInstance descrNameAndClass isInstance; simp only [KF.owner_class]
  repeat lk
  refine ⟨Code.quiet_builtin _ (by decide +kernel), codeAny_builtin KF.entry_class ?_⟩; unfold Builtin.«object.__class__» shownTypeOf
  repeat lk
  exact h
theorem exc_class {Q : Option Value → Shared → Prop} (c : ExcCls K D) (X : K.In s.heap) (I : OfCls x D s.heap) (h : Q (some (.ref D)) { s with toks := s.toks + 1 }) :
    wpAny (model prog w) A (getAttr? (.ref x) "__class__") Q E s := by
  obtain ⟨hh, g, d, t, os⟩ := s
  have L0 := I.type (M := model prog w)
  have L1 := looks_findIn (M := model prog w) X c.ga
  have L2 := looks_findIn (M := model prog w) X c.gt
  have LB := looks_mroIn (M := model prog w) X c.hb
  have L3 := exc_find (M := model prog w) (x := x) c X
  unfold getAttr? getAttrBy? getAttrBy
  refine wpAny_bind (wpAny_mkText (wpAny_bind (wpAny_attempt (wpAny_holding (wpAny_bind (L0.at (wpAny_bind (L1.at ?_))))))))
  show wpAny _ _ (getAttrByItsOwn (.ref x) _ (.ref D) (.builtin "BaseException.__getattribute__") false false) _ _ _
  unfold getAttrByItsOwn
  show wpAny _ _ (typeLookup (.ref D) "__getattr__" >>= _) _ _ _
  refine wpAny_bind (L2.at ?_)
  refine wpAny_bind (wpAny_attempt (wpAny_holding ?_))
  show wpAny _ _ (boundAndCalled (.builtin "BaseException.__getattribute__") (.ref x) _) _ _ _
  unfold boundAndCalled
  have FB := (F.attrBase_ValueError).ga
  refine wpAny_bind (wpAny_of_eq (FB.bind (.ref x)) ?_)
  show wpAny _ _ (call (.builtin "BaseException.__getattribute__") [.ref x, _]) _ _ _
  refine wpAny_call (codeAny_call_builtin FB.plain F.entry_bexc_ga ?_)
  have kd : builtinKind "BaseException.__getattribute__" = some .slot := by decide +kernel
  have sp : splitId "BaseException.__getattribute__" = some ("BaseException", "__getattribute__") := by decide +kernel
  have ar := F.args_bexc_ga (.ref x) (.str "__class__" t)
  simp only [checkBuiltinCall, kd, sp]
  unfold isInstance
  refine wpAny_bind (wpAny_bind (L0.at (LB.at ?_)))
  rw [if_neg (by decide)]
  refine wpAny_of_eq ar ?_
  unfold Builtin.«object.__getattribute__»
  refine wpAny_bind (wpAny_pure (wpAny_bind (wpAny_pure (wpAny_bind (L0.at (wpAny_bind (L3.at ?_)))))))
  unfold Builtin.ObjectAttr.bindTo
  refine wpAny_bind (wpAny_holding (wpAny_call (exc_get (s := ⟨hh, g, d, t + 1, os⟩) c X I ?_)))
  refine wpAny_pure ?_
  exact handed_on rfl (wpAny_pure h)
theorem kitx_exc (c : ExcCls K D) : KitX K (.ref x) (.ref D) (OfCls x D) where
  ty := fun _ _ _ I => I.type
  it := fun _ _ X _ => by
    obtain ⟨cd, hcd⟩ := c.cl
    unfold clsIn at hcd
    split at hcd
    · rename_i c' d' cd' sl' ho
      intro A' Q' E' s' k q
      unfold isType loadHead
      exact wpAny_bind (wpAny_loadPart (k _ _ (X _ _ ho)) (wpAny_pure q))
    · cases hcd
  ne := fun h tp dd its n sl X htp => by
    obtain ⟨cd, hcd⟩ := c.cl
    refine Bool.eq_false_iff.mpr fun q => ?_
    have e : D = tp := Value.ref.inj (beq_iff_eq.mp q)
    subst e
    unfold clsIn at hcd
    split at hcd
    · rename_i c' d' cd' sl' ho
      have z := (X _ _ ho).symm.trans htp
      cases z
    · cases hcd
  ca := fun X I k => exc_class c X I k
end
end L2


set_option Elab.async false
set_option linter.all false
set_option maxRecDepth 100000
set_option maxHeartbeats 4000000
namespace L2
open PySem PySem.Spec PyProof.Rows
section
variable {P : Program} {w : World} {H : Hp} {h : Heap} {a : Addr} {o : HO}
theorem ObjOk.there (x : ObjOk P w H h a o) : ∃ ob, h.get? a = some ob := by
  cases o with
  | lst xs => obtain ⟨_, _, _, _, e⟩ := x; exact ⟨_, e⟩
  | tup xs => obtain ⟨_, _, _, ⟨_, e, _⟩⟩ := x; exact ⟨_, e⟩
  | dK kvs => obtain ⟨_, _, _, _, o, _, _, e, _⟩ := x; exact ⟨_, e⟩
  | dT kvs => obtain ⟨_, _, _, _, o, _, _, e, _⟩ := x; exact ⟨_, e⟩
  | set S n => obtain ⟨o, _, _, _, e, _⟩ := x; exact ⟨_, e⟩
  | ins C dx fs => obtain ⟨_, _, _, e, _⟩ := x; exact ⟨_, e⟩
  | own y => exact x
  | xd fs => obtain ⟨_, ⟨_, _, _, e, _⟩, _⟩ := x; exact ⟨_, e⟩
  | rng lo hi => obtain ⟨_, _, _, e⟩ := x; exact ⟨_, e⟩
  | frz ob u => obtain ⟨e, _⟩ := x; exact ⟨_, e⟩
  | tbl ps => exact ⟨_, (show h.get? a = some _ from x)⟩
  | met f y => exact ⟨_, (show h.get? a = some _ from x)⟩
  | ext φ => obtain ⟨_, e, _⟩ := x; exact e
end

/-! ### how an exception lies behind a call: ea the object, C its class; whatever is tracked, or stood ahead of the call, stands in B, which stays -/

/-! ### raise: the exception leaves the def -/
section
variable {P : Program} {w : World} {K : PySem.W.Frag} {mg : Str → Option Value} {base : Heap} {N : List Str} {qual : Str} {scope : Scope} {f : Addr} {cd : Value} {A : Around} {outer : List Env} {s : Shared} {H : Hp} {E : XK}
end
end L2


set_option Elab.async false
set_option linter.all false
set_option maxRecDepth 100000
set_option maxHeartbeats 4000000
namespace L2
open PySem PySem.Spec PyProof.Rows PySem.W

/-! ### raise X(..) of an own class without __init__ -/
abbrev bmV : List Value := [.type "ValueError", .type "Exception", .type "BaseException", .type "object"]
theorem exc_obj {K : Frag} {h : Heap} {C : Addr} {bmB : List Value} {newId : String} (X : K.In h) (q : excIn K C bmB newId = true) :
    ∃ bm N nm qn bs hd sn sub ab col dd k0 k1 k2 k3 k5 mN, h.get? C = some (excClassObj nm qn C N bs bm hd sn sub ab col dd k0 k1 k2 k3 k5 newId) ∧ h.Ns N mN ∧ mN "__init__" = none ∧ OwnTail h bmB bm := by
  unfold excIn at q
  split at q
  · rename_i d0 c0 sl0 lk
    split at q
    · rename_i C1 bm1 j0 j1 j2 j3 n1 j5 em es
      simp only [Bool.not_eq_true', beq_iff_eq, Bool.and_eq_true] at q
      obtain ⟨⟨⟨⟨⟨e1, e2⟩, nodel⟩, tl⟩, ok⟩, ni⟩ := q
      subst e1 e2
      obtain ⟨nm1, bs1, mro1, ns1, qn1, hd1, sn1, sub1, ab1, col1, del1⟩ := c0
      dsimp only at em nodel ok ni
      subst em nodel
      have esl : sl0 = #[j0, j1, j2, j3, some (.builtin n1), j5] := by
        obtain ⟨l0⟩ := sl0
        simp only at es
        rw [es]
      subst esl
      exact ⟨_, _, _, _, _, _, _, _, _, _, _, _, _, _, _, _, _, X _ _ lk, .of_isNs (isNs_of_in X ok), nsMap_none_of_in X ok ni, tail_of_in X tl⟩
    · cases q
  · cases q

section
variable {P : Program} {w : World} {K : Frag} {mg : Str → Option Value} {base : Heap} {N : List Str} {qual : Str} {scope : Scope} {f : Addr} {cd : Value} {A : Around} {outer : List Env} {s : Shared} {H : Hp} {E : XK}
end

/-! ### a def that may raise -/

/-! ### except X -/
structure CatchCls (K : Frag) (D : Addr) : Prop where
  cl : ∃ cd, clsIn K D = some cd
  ty : typeIn K (.ref D) = some (.type "type")
  hb : mroIn K D (.type "BaseException") = some true
theorem exc_matches {M : Model} {A : Around} {E : Value → Shared → Prop} {s : Shared} {K : Frag} {e C D : Addr} {Q : Bool → Shared → Prop} (X : K.In s.heap) (I : OfCls e C s.heap) (c : CatchCls K D) {b : Bool} (hm : mroIn K C (.ref D) = some b) (hq : Q b s) :
    wpAny M A (excMatches (.ref e) (.ref D)) Q E s := by
  obtain ⟨hh, g, d, t, os⟩ := s
  have l0 := I.type (M := M)
  obtain ⟨ob, ho, hc⟩ := Option.map_eq_some_iff.mp c.ty
  have l1 : Looks M hh (typeOf (.ref D)) (.type "type") := hc ▸ (Looks.ld (X _ _ ho)).andThen .now
  have l2 : Looks M hh (isType (.ref D)) true := by
    obtain ⟨cd, hcd⟩ := c.cl
    unfold clsIn at hcd
    split at hcd
    · rename_i c' d' cd' sl' lo
      intro A' Q' E' s' k q
      unfold isType loadHead
      exact wpAny_bind (wpAny_loadPart (k _ _ (X _ _ lo)) (wpAny_pure q))
    · cases hcd
  have l3 := looks_mroIn (M := M) X c.hb
  have l4 := looks_mroIn (M := M) X hm
  have l5 : Looks M hh (isInstance (.ref D) (.type "tuple")) false := l1.andThen (Looks.of_pure tc_notTuple)
  have l6 : Looks M hh (isExcClass (.ref D)) true := l2.andThen (by exact l3)
  unfold excMatches
  refine wpAny_bind (l5.at ?_)
  rw [if_neg (by decide)]
  refine wpAny_bind (wpAny_pure ?_)
  simp only [List.forIn_cons, List.forIn_nil]
  refine wpAny_bind (wpAny_bind (wpAny_bind (l6.at ?_)))
  rw [if_neg (by decide)]
  refine wpAny_pure (wpAny_pure (wpAny_bind (l0.at (wpAny_bind (wpAny_bind (wpAny_bind (l4.at ?_)))))))
  cases b with
  | true => exact wpAny_pure (wpAny_pure (wpAny_pure hq))
  | false => exact wpAny_pure (wpAny_pure (wpAny_pure hq))
end L2


set_option Elab.async false
set_option linter.all false
set_option maxRecDepth 100000
set_option maxHeartbeats 4000000
namespace L2
open PySem PySem.Spec PyProof.Rows PySem.W

/-- the context of an except suite -/
def Cx.mark (X : Cx) (ea : Addr) : Cx := { X with A := X.A.mark (some (.ref ea)), calm := false }
section
variable {X : Cx} {pins : List (Addr × Obj)} {σ : St} {H H' : Hp} {s s' : Shared}
theorem Inv.mark (I : Inv X pins σ H s) (ea : Addr) : Inv (X.mark ea) pins σ H s :=
  ⟨⟨I.ok.mod, I.ok.kind, I.ok.glob, I.ok.blt, I.ok.above, I.ok.inj, I.ok.has, I.ok.cab, (fun z => by cases z), I.ok.frames, I.ok.stk, I.ok.exf, I.ok.bs, I.ok.bsz, I.ok.noex, I.ok.exfs, I.ok.funs, I.ok.frf⟩,
    I.os, I.bare, I.base, I.loc, I.cell, I.free, I.freeC, I.pin, I.hok, I.len⟩
theorem Inv.unmark {ea : Addr} (I : Inv (X.mark ea) pins σ H s) (ok : X.Ok) : Inv X pins σ H s :=
  ⟨ok, I.os, I.bare, I.base, I.loc, I.cell, I.free, I.freeC, I.pin, I.hok, I.len⟩
/-- an untracked object of ours is tracked from now on -/
theorem Inv.track {a : Addr} {φ : Heap → Prop} (I : Inv X pins σ H s) (n : H a = none) (new : X.s₀.heap.get? a = none) (hL : a ≠ X.env.locals) (hc : ∀ x c, X.env.cells.lookup x = some c → c ≠ a) (hp : ∀ p ∈ X.pn ++ pins, p.1 ≠ a)
    (p : φ s.heap) (there : ∃ o, s.heap.get? a = some o) (st : ∀ h1 h2 : Heap, φ h1 → (∀ o, h1.get? a = some o → h2.get? a = some o) → φ h2) : Inv X pins σ (upd H a (.ext φ)) s :=
  ⟨I.ok, I.os, I.bare, ⟨I.base.keep, I.base.slot, fun b o e z hx => by rw [upd_ne (fun q => by rw [q, new] at e; cases e)]; exact I.base.free b o e z hx, I.base.there,
      fun b xs e => by have q := I.base.tups b xs e; rw [upd_ne (ne_of_none q n)]; exact q, fun b o u e => by have q := I.base.frzs b o u e; rw [upd_ne (ne_of_none q n)]; exact q,
      fun b ps e => by obtain ⟨m, q⟩ := I.base.tbls b ps e; exact ⟨m, by rw [upd_ne (ne_of_none q n)]; exact q⟩⟩,
    I.loc, I.cell, by rw [upd_ne (Ne.symm hL)]; exact I.free, fun x c e => by rw [upd_ne (hc x c e)]; exact I.freeC x c e,
    fun q hq => by obtain ⟨a1, a2, a3⟩ := I.pin q hq; exact ⟨a1, by rw [upd_ne (hp q hq)]; exact a2, a3⟩,
    fun b u e => by
      by_cases hb : b = a
      · subst hb
        rw [upd_same] at e
        cases e
        exact ⟨p, there, st⟩
      · rw [upd_ne hb] at e
        exact (I.hok b u e).stay (fun _ _ _ z => z) (fun c z => by rw [upd_ne (ne_of_none z n)]; exact z) fun c xs z => by rw [upd_ne (ne_of_none z n)]; exact z,
    I.len⟩
/-- a name of the frame's is gone -/
theorem Inv.unname {i : Nat} {x : Str} {v : Option Value} {m : Str → Option Value} {h' : Heap} {tk : Nat} (I : Inv X pins σ H s) (hN : X.N.Nodup) (hi : X.N[i]? = some x)
    (hm : s.heap.Ns X.env.locals m) (hn : h'.Ns X.env.locals fun y => if y = x then v else m y) (hs : Heap.SameBut X.env.locals s.heap h') : Inv X pins (σ.set i none) H { s with heap := h', toks := tk } := by
  have old : ∀ b o, X.s₀.heap.get? b = some o → b ≠ X.env.locals := fun b o e => Nat.ne_of_lt (Nat.lt_of_lt_of_le (Heap.lt_size e) I.ok.above)
  have cellK : ∀ y c, X.env.cells.lookup y = some c → ∀ u, s.heap.IsCell c u → h'.IsCell c u := fun y c e u z => z.sameBut hs (I.cne y c e)
  refine ⟨I.ok, I.os, I.bare, ⟨fun b o e n hb hx => (hs.2 b (old b o e)).trans (I.base.keep b o e n hb hx), fun b o e n hb hx => ?_, I.base.free, fun b o e hx => ?_, I.base.tups, I.base.frzs, I.base.tbls⟩, ⟨_, hn, fun j y u e1 e2 e3 => ?_⟩,
    fun y c e => ?_, I.free, I.freeC, fun p hp => ?_, fun b u e => ?_, by simpa using I.len⟩
  · obtain ⟨sl, z⟩ := I.base.slot b o e n hb hx
    exact ⟨sl, (hs.2 b (old b o e)).trans z⟩
  · obtain ⟨o', z⟩ := I.base.there b o e hx
    exact ⟨o', (hs.2 b (old b o e)).trans z⟩
  · by_cases hj : j = i
    · subst hj
      have e4 : (σ.set j none)[j]? = some (some u) := e2
      by_cases hl : j < σ.length
      · rw [List.getElem?_set_self hl] at e4
        cases e4
      · rw [List.getElem?_eq_none (by rw [List.length_set]; omega)] at e4
        cases e4
    · have e4 : (σ.set i none)[j]? = some (some u) := e2
      rw [List.getElem?_set_ne (Ne.symm hj)] at e4
      obtain ⟨m0, hm0, hl⟩ := I.loc
      have em : m0 = m := by
        obtain ⟨o1, es1, ep1, g1, d1, _, r1⟩ := hm0
        obtain ⟨o2, es2, ep2, g2, d2, _, r2⟩ := hm
        rw [g1] at g2
        cases g2
        rw [d1] at d2
        cases d2
        funext z
        exact (r1 z).symm.trans (r2 z)
      subst em
      obtain ⟨u', r', q⟩ := hl j y u e1 e4 e3
      refine ⟨u', r', ?_⟩
      rcases q with ⟨k, e⟩ | ⟨k, c, e, z⟩
      · refine .inl ⟨k, ?_⟩
        have ne : y ≠ x := fun e => hj (nodup_ix hN e1 (e ▸ hi))
        show (if y = x then v else m0 y) = some u'
        rw [if_neg ne]
        exact e
      · exact .inr ⟨k, c, e, cellK y c e _ z⟩
  · obtain ⟨u, z⟩ := I.cell y c e
    exact ⟨u, cellK y c e u z⟩
  · obtain ⟨a1, a2, a3, a4⟩ := I.pin p hp
    exact ⟨(hs.2 _ a3).trans a1, a2, a3, a4⟩
  · have nl : ∀ c z, H c = some z → c ≠ X.env.locals := fun c z q e => by rw [e, I.free] at q; cases q
    exact (I.hok b u e).stay (fun c z hc q => (hs.2 c (hc.elim (fun k => by rw [k]; exact nl b u e) fun k => nl c _ k)).trans q) (fun _ z => z) fun _ _ z => z
/-- the frame again, at a heap in which B stays -/
theorem Inv.caught {ea : Addr} {C : Value} (I : Inv X pins σ H s) {t : Addr} {B : Heap} {h6 : Heap} {tk : Nat} (ho : s'.os = s.os) (hg : AllBare s'.gens) (un : Un (frs X.stack) [] H H' s.heap s'.heap) (hok : HOk X.prog X.w H' s'.heap)
    (cov : ∀ b o, s'.heap.get? b = some o → b ∉ frs X.stack → ((∃ u, H' b = some u) ∨ ∃ o', s.heap.get? b = some o') → B.get? b = some o) (st : B.StaysIn h6) (up : s'.heap.UpToSlots h6) : Inv X pins σ H' { s' with heap := h6, toks := tk } := by
  have fr := I.stack
  have frf : ∀ b u, H' b = some u → b ∉ frs X.stack := fun b u e z => by
    obtain ⟨_, o, e2, _⟩ := fr.mem z
    have q := un.free b o e2 (I.stkFree b z) (by simp)
    rw [e] at q; cases q
  have slotK : ∀ b o, s.heap.get? b = some o → b ∈ frs X.stack → ∃ sl, h6.get? b = some { o with slots := sl } := fun b o e hb => by
    obtain ⟨_, o', e2, nf⟩ := fr.mem hb
    have e3 : some o' = some o := e2.symm.trans e
    cases e3
    obtain ⟨sl, e4⟩ := un.slot b _ e (I.stkFree b hb) hb (by simp)
    obtain ⟨sl', e5⟩ := up b _ e4 nf
    exact ⟨sl', e5⟩
  have u6 : Un (frs X.stack) [] H H' s.heap h6 := by
    refine ⟨fun b o e n hb hx => st b o (cov b o (un.keep b o e n hb hx) hb (.inr ⟨o, e⟩)), fun b o e n hb hx => slotK b o e hb, un.free, fun b o e hx => ?_, un.tups, un.frzs, un.tbls⟩
    by_cases hb : b ∈ frs X.stack
    · obtain ⟨sl, z⟩ := slotK b o e hb
      exact ⟨_, z⟩
    · obtain ⟨o', z⟩ := un.there b o e hx
      exact ⟨o', st b o' (cov b o' z hb (.inr ⟨o, e⟩))⟩
  have k6 : HOk X.prog X.w H' h6 := fun b u e => (hok b u e).stay (fun c z hc q => by
    have tr : ∃ v, H' c = some v := hc.elim (fun k => ⟨u, by rw [k]; exact e⟩) fun k => ⟨_, k⟩
    obtain ⟨v, hv⟩ := tr
    exact st c z (cov c z q (frf c v hv) (.inl ⟨v, hv⟩))) (fun _ z => z) fun _ _ z => z
  exact I.call' (s' := { s' with heap := h6, toks := tk }) (ch := []) ho u6 k6 hg fun b hb => nomatch hb
end
end L2


set_option Elab.async false
set_option linter.all false
set_option maxRecDepth 100000
set_option maxHeartbeats 4000000
namespace L2
open PySem PySem.Spec PyProof.Rows PySem.W

/-! ### try: f(..) except Y as n: suite -/

/-! ### isinstance(an exception that was caught, c) -/
end L2


set_option Elab.async false
set_option linter.all false
set_option maxRecDepth 100000
set_option maxHeartbeats 4000000
namespace L2
open PySem PySem.Spec PyProof.Rows PySem.W
section
variable {X : Cx}
/-! ### == of two tuples of ints -/

/-! ### a, b = a list -/

/-! ### a comprehension's free names -/
theorem clo_aux {env : Env} : ∀ (names : List (Str × NameKind)) (acc : List (Str × Addr)), (∀ y, (y, NameKind.free) ∈ names → ∃ c, env.cells.lookup y = some c) →
    ∃ cl : List (Str × Addr), (forIn names acc (fun x r => match x with
        | (name, kind) => if (kind == NameKind.free) = true then do let a ← cellOf env name; pure (ForInStep.yield ((name, a) :: r)) else pure (ForInStep.yield r)) : Sem _) = pure cl ∧
      (∀ y c, cl.lookup y = some c → acc.lookup y = some c ∨ env.cells.lookup y = some c) ∧ (∀ y, (y, NameKind.free) ∈ names → ∃ c, cl.lookup y = some c) ∧ ∀ y, (∃ c, acc.lookup y = some c) → ∃ c, cl.lookup y = some c
  | [], acc, _ => ⟨acc, rfl, fun _ _ h => .inl h, (fun _ h => nomatch h), fun _ h => h⟩
  | (nm, kd) :: r, acc, h => by
    by_cases hk : kd = .free
    · subst hk
      obtain ⟨c, hc⟩ := h nm List.mem_cons_self
      obtain ⟨cl, e, p1, p2, p3⟩ := clo_aux r ((nm, c) :: acc) fun y hy => h y (List.mem_cons_of_mem _ hy)
      refine ⟨cl, ?_, fun y d hd => ?_, fun y hy => ?_, fun y hy => ?_⟩
      · rw [List.forIn_cons]
        have z : cellOf env nm = pure c := by unfold cellOf; rw [hc]
        simp only [z, beq_self_eq_true, if_true]
        exact e
      · rcases p1 y d hd with q | q
        · rw [List.lookup_cons] at q
          cases hy : y == nm with
          | true =>
            rw [hy] at q
            have e1 := beq_iff_eq.mp hy
            subst e1
            cases q
            exact .inr hc
          | false => rw [hy] at q; exact .inl q
        · exact .inr q
      · rcases List.mem_cons.mp hy with q | q
        · cases q
          exact p3 nm ⟨c, by rw [List.lookup_cons, beq_self_eq_true]⟩
        · exact p2 y q
      · obtain ⟨d, hd⟩ := hy
        refine p3 y ?_
        rw [List.lookup_cons]
        cases y == nm with
        | true => exact ⟨c, rfl⟩
        | false => exact ⟨d, hd⟩
    · obtain ⟨cl, e, p1, p2, p3⟩ := clo_aux r acc fun y hy => h y (List.mem_cons_of_mem _ hy)
      refine ⟨cl, ?_, p1, fun y hy => ?_, p3⟩
      · rw [List.forIn_cons]
        have z : (kd == NameKind.free) = false := by simpa using hk
        simp only [z, Bool.false_eq_true, if_false]
        exact e
      · rcases List.mem_cons.mp hy with q | q
        · cases q; exact absurd rfl hk
        · exact p2 y q
theorem clo_of {scope : Scope} {env : Env} (h : ∀ y, (y, NameKind.free) ∈ scope.names → ∃ c, env.cells.lookup y = some c) :
    ∃ cl, closureFor scope env = pure cl ∧ (∀ y c, cl.lookup y = some c → env.cells.lookup y = some c) ∧ ∀ y, (y, NameKind.free) ∈ scope.names → ∃ c, cl.lookup y = some c := by
  obtain ⟨cl, e, p1, p2, _⟩ := clo_aux (env := env) scope.names [] h
  refine ⟨cl, ?_, fun y c hc => (p1 y c hc).elim (fun z => by cases z) fun z => z, p2⟩
  unfold closureFor
  show (forIn scope.names [] _ >>= fun s => pure s) = pure cl
  rw [bind_pure]
  exact e
/-- what the block's free names ask: each is one of those at js -/
theorem free_of {scope : Scope} {js : List Nat} {pins : List (Addr × Obj)} {σ : St} {H : Hp} {s : Shared} (I : Inv X pins σ H s) (hf : ∀ y, (y, NameKind.free) ∈ scope.names → X.env.kindOf y = some .cell ∨ X.env.kindOf y = some .free) :
    ∀ y, (y, NameKind.free) ∈ scope.names → ∃ c, X.env.cells.lookup y = some c := fun y hy => I.ok.has y (hf y hy)
variable {elt iter : Expr} {x : Str} {px pos : Pos} {ifs : List Expr} {scope : Scope} {wi : TI} {tc : TT} {te : TE} {js : List Nat}
theorem ps_setF {y : Str} {i : Nat} {py spos : Pos} (hN : X.N.Nodup) (hy : X.N[i]? = some y) (hyl : Loc X.env.scope y) (hyf : X.fn y = true ∨ X.env.scope.names.lookup y = some .local)
    (hsw : swapsWith (.ListComp elt [⟨.Name x px, iter, ifs, 0⟩] scope pos) (some (.Name y py)) spos.line X.env = pure true)
    (hc : X.calm = true) (hi : PI X (.Name x px) iter wi) (hk : scope.kind = .function) (hcell : ∀ y ∈ scope.names, y.2 ≠ .cell) (hnames : ∀ y ∈ scope.names, y.2 = .local → scope.names.lookup y.1 = some .local) (hx : (relabel scope X.env).names.lookup x = some .local)
    (hf : ∀ p ∈ scope.names, p.2 = .free → X.env.kindOf p.1 = some .cell ∨ X.env.kindOf p.1 = some .free) (hjs : FreeAt X scope js) (hnd : (cNames X x js).Nodup)
    (ht : ∀ cl s' H' fp, PIf (cxComp X scope cl (cNames X x js) s' H' fp) ifs tc) (he : ∀ cl s' H' fp, PE (cxComp X scope cl (cNames X x js) s' H' fp) elt te)
    (hs : ∀ x, foldedSetIterable iter X.env x = pure x := by intro _; rfl) :
    PS X (.Assign [.Name y py] (.ListComp elt [⟨.Name x px, iter, ifs, 0⟩] scope pos) spos) (tAsgC i (tComp wi tc te js)) := by
  intro pins s σ H D I h
  obtain ⟨cl, e, p1, p2⟩ := clo_of (free_of (js := js) I fun y hy => hf (y, .free) hy rfl)
  exact ps_setC hN hy hyl hyf hsw hc hi hk hcell hnames hx e p1 p2 hjs hnd (ht cl) (he cl) hs pins s σ H D I h
end
end L2


set_option Elab.async false
set_option linter.all false
set_option maxRecDepth 100000
set_option maxHeartbeats 4000000
namespace L2
open PySem PySem.Spec PyProof.Rows

/-! ### data in the heap: ints, truths, texts, None, and tuples of these -/
mutual
def Dat (K : PySem.W.Frag) (H : Hp) : PyData → V → Prop
  | .none, v => v = .non
  | .bool b, v => v = .bl b
  | .int i, v => v = .int i
  | .str x, v => v = .str x
  | .tuple ds, v => ∃ a xs, v = .ref a ∧ SqT K H a xs ∧ DatAll K H ds xs
  | .list _, _ => False
  | .dict _, _ => False
def DatAll (K : PySem.W.Frag) (H : Hp) : List PyData → List V → Prop
  | [], xs => xs = []
  | d :: ds, xs => ∃ x r, xs = x :: r ∧ Dat K H d x ∧ DatAll K H ds r
end
/-- tuples, and what is frozen, stay -/
structure Tst (H H' : Hp) : Prop where
  t : ∀ b xs, H b = some (.tup xs) → H' b = some (.tup xs)
  f : ∀ b o u, H b = some (.frz o u) → H' b = some (.frz o u)
theorem Tst.trans {H H1 H2 : Hp} (a : Tst H H1) (b : Tst H1 H2) : Tst H H2 := ⟨fun c xs h => b.t c xs (a.t c xs h), fun c o u h => b.f c o u (a.f c o u h)⟩
theorem Same.ts {H H' : Hp} (e : Same H H') : Tst H H' := ⟨fun b xs h => e b _ h, fun b o u h => e b _ h⟩
theorem ts_mut {H : Hp} {l : Addr} {xs : List V} {o : HO} (e : H l = some (.lst xs)) : Tst H (upd H l o) :=
  ⟨fun b ys h => by rw [upd_ne (ne_of h e (by intro z; cases z))]; exact h, fun b o u h => by rw [upd_ne (ne_of h e (by intro z; cases z))]; exact h⟩
theorem SqT.ts {K : PySem.W.Frag} {H H' : Hp} {a : Addr} {xs : List V} (h : SqT K H a xs) (e : Tst H H') : SqT K H' a xs := by
  rcases h with (h | ⟨o, h⟩) | h
  · exact .inl (.inl (e.t _ _ h))
  · exact .inl (.inr ⟨o, e.f _ _ _ h⟩)
  · exact .inr h
mutual
theorem Dat.ts {K : PySem.W.Frag} {H H' : Hp} (e : Tst H H') : ∀ {d : PyData} {v : V}, Dat K H d v → Dat K H' d v
  | .none, _, h => h
  | .bool _, _, h => h
  | .int _, _, h => h
  | .str _, _, h => h
  | .tuple _, _, ⟨a, xs, h1, h2, h3⟩ => ⟨a, xs, h1, h2.ts e, DatAll.ts e h3⟩
  | .list _, _, h => h
  | .dict _, _, h => h
theorem DatAll.ts {K : PySem.W.Frag} {H H' : Hp} (e : Tst H H') : ∀ {ds : List PyData} {xs : List V}, DatAll K H ds xs → DatAll K H' ds xs
  | [], _, h => h
  | _ :: _, _, ⟨x, r, h1, h2, h3⟩ => ⟨x, r, h1, Dat.ts e h2, DatAll.ts e h3⟩
end
theorem DatAll.len {K : PySem.W.Frag} {H : Hp} : ∀ {ds : List PyData} {xs : List V}, DatAll K H ds xs → xs.length = ds.length
  | [], _, h => by subst h; rfl
  | _ :: _, _, ⟨x, r, h1, _, h3⟩ => by subst h1; simp [h3.len]
theorem DatAll.get {K : PySem.W.Frag} {H : Hp} : ∀ {ds : List PyData} {xs : List V} {i : Nat} {d : PyData}, DatAll K H ds xs → ds[i]? = some d → ∃ x, xs[i]? = some x ∧ Dat K H d x
  | [], _, _, _, _, e => by cases e
  | _ :: _, _, 0, _, ⟨x, r, h1, h2, _⟩, e => by subst h1; cases e; exact ⟨x, rfl, h2⟩
  | _ :: _, _, i + 1, _, ⟨x, r, h1, _, h3⟩, e => by
    subst h1
    obtain ⟨y, e1, e2⟩ := h3.get (i := i) (by simpa using e)
    exact ⟨y, by simpa using e1, e2⟩
theorem DatAll.get' {K : PySem.W.Frag} {H : Hp} {ds : List PyData} {xs : List V} {i : Nat} {x : V} (h : DatAll K H ds xs) (e : xs[i]? = some x) : ∃ d, ds[i]? = some d ∧ Dat K H d x := by
  have hl := h.len
  have hi := (List.getElem?_eq_some_iff.mp e).1
  have hd : ds[i]? = some (ds[i]'(by omega)) := List.getElem?_eq_getElem (by omega)
  obtain ⟨y, e1, e2⟩ := h.get hd
  rw [e] at e1
  cases e1
  exact ⟨_, hd, e2⟩
theorem DatAll.append {K : PySem.W.Frag} {H : Hp} : ∀ {ds es : List PyData} {xs ys : List V}, DatAll K H ds xs → DatAll K H es ys → DatAll K H (ds ++ es) (xs ++ ys)
  | [], _, _, _, h, g => by subst h; exact g
  | _ :: _, _, _, _, ⟨x, r, h1, h2, h3⟩, g => by subst h1; exact ⟨x, _, rfl, h2, h3.append g⟩
theorem DatAll.snoc {K : PySem.W.Frag} {H : Hp} {ds : List PyData} {xs : List V} {d : PyData} {x : V} (h : DatAll K H ds xs) (g : Dat K H d x) : DatAll K H (ds ++ [d]) (xs ++ [x]) := h.append ⟨x, [], rfl, g, rfl⟩
mutual
theorem Dat.reads {X : Cx} {pins : List (Addr × Obj)} {σ : St} {H : Hp} {s : Shared} (I : Inv X pins σ H s) : ∀ (d : PyData) {v : V} {u : Value}, Dat X.K H d v → RelV v u → ∃ as, Reads s.heap u d as
  | .none, _, _, h, r => by
    cases (show _ = V.non from h)
    cases (show _ = Value.none from r)
    exact ⟨[], .none⟩
  | .bool b, _, _, h, r => by
    cases (show _ = V.bl b from h)
    cases (show _ = Value.bool b from r)
    exact ⟨[], .bool b⟩
  | .int i, _, _, h, r => by
    cases (show _ = V.int i from h)
    obtain ⟨t, q⟩ := (show ∃ t, _ = Value.int i t from r)
    cases q
    exact ⟨[], .int i t⟩
  | .str x, _, _, h, r => by
    cases (show _ = V.str x from h)
    obtain ⟨t, q⟩ := (show ∃ t, _ = Value.str x t from r)
    cases q
    exact ⟨[], .str x t⟩
  | .tuple ds, _, _, ⟨a, xs, h1, h2, h3⟩, r => by
    cases h1
    cases (show _ = Value.ref a from r)
    obtain ⟨its, rv, ⟨o, ho, hc, n, hd⟩, _⟩ := I.tuple h2
    obtain ⟨as, ra⟩ := DatAll.reads I ds h3 rv
    exact ⟨as, .tuple ho hc hd (by simpa using ra)⟩
  | .list _, _, _, h, _ => False.elim h
  | .dict _, _, _, h, _ => False.elim h
theorem DatAll.reads {X : Cx} {pins : List (Addr × Obj)} {σ : St} {H : Hp} {s : Shared} (I : Inv X pins σ H s) : ∀ (ds : List PyData) {xs : List V} {us : List Value}, DatAll X.K H ds xs → Vals xs us → ∃ as, ReadsAll s.heap us ds as
  | [], _, _, h, r => by
    cases (show _ = ([] : List V) from h)
    cases r
    exact ⟨[], .nil⟩
  | d :: ds, _, _, ⟨x, t, h1, h2, h3⟩, r => by
    cases h1
    cases r with
    | cons r1 r2 =>
      obtain ⟨as, a1⟩ := Dat.reads I d h2 r1
      obtain ⟨bs, b1⟩ := DatAll.reads I ds h3 r2
      exact ⟨as ++ bs, .cons a1 b1⟩
end
/-- such data, or a list of such data -/
def DatX (K : PySem.W.Frag) (H : Hp) (d : PyData) (v : V) : Prop := Dat K H d v ∨ ∃ ds a xs, d = .list ds ∧ v = .ref a ∧ SqL K H a xs ∧ DatAll K H ds xs
theorem DatX.reads {X : Cx} {pins : List (Addr × Obj)} {σ : St} {H : Hp} {s : Shared} {d : PyData} {v : V} {u : Value} (I : Inv X pins σ H s) (h : DatX X.K H d v) (r : RelV v u) : ∃ as, Reads s.heap u d as := by
  rcases h with h | ⟨ds, a, xs, rfl, rfl, h2, h3⟩
  · exact Dat.reads I d h r
  · cases (show _ = Value.ref a from r)
    obtain ⟨its, rv, ⟨o, n, ho, hc, _, hd⟩, _⟩ := I.list h2
    obtain ⟨as, ra⟩ := DatAll.reads I ds h3 rv
    exact ⟨a :: as, .list ho hc hd (by simpa using ra)⟩
section
variable {X : Cx}
def rEqD (K : PySem.W.Frag) : R2 := fun x y H Q => ∃ d e, DatX K H d x ∧ DatX K H e y ∧ SeqAt.shaped d = true ∧ SeqAt.shaped e = true ∧ Q (.bl (PyData.eqv d e)) H
def rNeD (K : PySem.W.Frag) : R2 := fun x y H Q => ∃ d e, DatX K H d x ∧ DatX K H e y ∧ SeqAt.shaped d = true ∧ SeqAt.shaped e = true ∧ Q (.bl (!PyData.eqv d e)) H
theorem op_eqD (hu : X.A.units + 64 < cLine) : OpR X (compareOp .Eq) (rEqD X.K) := by
  intro pins s σ H x y v u Q I rx ry h
  obtain ⟨d, e, hd, he, sd, se, q⟩ := h
  obtain ⟨as, ra⟩ := hd.reads I rx
  obtain ⟨bs, rb⟩ := he.reads I ry
  exact eq_dataH ra rb sd se hu ⟨.bl _, H, I, rfl, q⟩
theorem op_neD (hu : X.A.units + 64 < cLine) : OpR X (compareOp .NotEq) (rNeD X.K) := by
  intro pins s σ H x y v u Q I rx ry h
  obtain ⟨d, e, hd, he, sd, se, q⟩ := h
  obtain ⟨as, ra⟩ := hd.reads I rx
  obtain ⟨bs, rb⟩ := he.reads I ry
  exact ne_dataH ra rb sd se hu ⟨.bl _, H, I, rfl, q⟩
/-! ### isinstance of a tuple, a list that is read -/
/-! ### all, any of a list of truths -/
end
/-! ### the same, where the context's K is named (within a comprehension the reading may not name the context) -/
section
variable {X : Cx} {K : PySem.W.Frag}
end
/-! ### what such data say when they are compared -/
theorem lay_map {α : Type} {f : α → PyData} (h : ∀ a, (f a).canLay0 = true) : ∀ L : List α, PyData.canLayAll0 (L.map f) = true
  | [] => by simp [PyData.canLayAll0]
  | a :: r => by simp [PyData.canLayAll0, h a, lay_map h r]
theorem depth_map {α : Type} {f : α → PyData} {n : Nat} (h : ∀ a, (f a).depth ≤ n) : ∀ L : List α, PyData.depthAll (L.map f) ≤ n
  | [] => by simp [PyData.depthAll]
  | a :: r => by
    have h1 := h a
    have h2 := depth_map h r
    simp only [List.map_cons, PyData.depthAll]
    omega
theorem eqv_map {α : Type} [DecidableEq α] {f : α → PyData} (h : ∀ a b, PyData.eqv (f a) (f b) = decide (a = b)) : ∀ L M : List α, PyData.eqvAll (L.map f) (M.map f) = decide (L = M)
  | [], [] => by simp [PyData.eqvAll]
  | [], _ :: _ => by simp [PyData.eqvAll]
  | _ :: _, [] => by simp [PyData.eqvAll]
  | a :: r, b :: t => by
    simp only [List.map_cons, PyData.eqvAll, h a b, eqv_map h r t]
    by_cases h1 : a = b <;> by_cases h2 : r = t <;> simp [h1, h2]
/-! ### a tuple, an int that stands at the top -/
structure TopTup (K : PySem.W.Frag) (mg : Str → Option Value) (x : Str) (ns : List Int) : Prop where
  ex : ∃ a, mg x = some (.ref a) ∧ ∀ H, SqT K H a (ns.map V.int)
theorem toptup_mk {K : PySem.W.Frag} {h : Heap} {mg : Str → Option Value} {x : Str} {a : Addr} {od : Option Addr} {its : Array Value} {n : Nat} {osl : Array (Option Value)} {ns : List Int} (X : K.In h) (G : h.Ns mainGlobals mg)
    (e : PySem.W.nsIn K mainGlobals x = some (some (.ref a))) (l : K.lookup a = some ⟨.type "tuple", od, .seq its n, osl⟩) (hz : its.size ≤ sizeLine) (v : Vals (ns.map V.int) its.toList) : TopTup K mg x ns :=
  ⟨a, PySem.W.mg_of X G e, fun _ => .inr ⟨_, its, n, l, rfl, rfl, hz, v⟩⟩
theorem topint_mk {K : PySem.W.Frag} {h : Heap} {mg : Str → Option Value} {x : Str} {v : Value} {n : Int} (X : K.In h) (G : h.Ns mainGlobals mg) (e : PySem.W.nsIn K mainGlobals x = some (some v)) (q : ∃ t, v = .int n t) : ∃ t, mg x = some (.int n t) := by
  obtain ⟨t, rfl⟩ := q
  exact ⟨t, PySem.W.mg_of X G e⟩
end L2


set_option Elab.async false
set_option linter.all false
set_option maxRecDepth 100000
set_option maxHeartbeats 4000000
namespace L2
open PySem PySem.Spec PyProof.Rows
section
variable {X : Cx} {pins : List (Addr × Obj)} {σ : St} {H H' : Hp} {s s' : Shared} {h' : Heap}
/-- several records of ours have turned -/
theorem Inv.turnedL {t' : Nat} {fp : List Addr} (I : Inv X pins σ H s) (kp : ∀ b o, b ∉ fp → s.heap.get? b = some o → h'.get? b = some o) (hf : ∀ b ∈ fp, FpOk X pins H b) : Inv X pins σ H { s with heap := h', toks := t' } := by
  have far : ∀ b u, H b = some u → b ∉ fp := fun b u e z => by
    have := (hf b z).1
    rw [e] at this; cases this
  refine I.step (ch := fp) (g' := s.gens) (d' := s.drawn) (fun b hb => ⟨(hf b hb).2.2.2.1, (hf b hb).2.1, (hf b hb).2.2.2.2.1, (hf b hb).2.2.2.2.2⟩) (fun b o _ _ hc e _ => kp b o hc e) (fun b o _ _ hc e _ => ⟨o.slots, kp b o hc e⟩) (fun _ _ _ _ n => n)
    (fun b o hc e => ⟨o, kp b o hc e⟩) (fun _ _ e => e) (fun _ _ _ e => e) (fun b ps e => ⟨#[], by rw [e]; simp⟩) (fun m hm => ?_) (fun b u e => ?_) I.bare
  · obtain ⟨o, es, ep, ho, r⟩ := hm
    exact ⟨o, es, ep, kp _ o (fun z => (hf _ z).2.1 rfl) ho, r⟩
  · exact (I.hok b u e).stay (fun c v hc q => kp c v (hc.elim (fun z => by rw [z]; exact far b u e) fun z => far c _ z) q) (fun _ q => q) fun _ _ q => q
/-- what lies there untracked is tracked from now on -/
theorem Inv.trackO {a : Addr} {o : HO} (I : Inv X pins σ H s) (n : H a = none) (new : X.s₀.heap.get? a = none) (hL : a ≠ X.env.locals) (hc : ∀ x c, X.env.cells.lookup x = some c → c ≠ a) (hp : ∀ p ∈ X.pn ++ pins, p.1 ≠ a)
    (p : ObjOk X.prog X.w (upd H a o) s.heap a o) : Inv X pins σ (upd H a o) s :=
  ⟨I.ok, I.os, I.bare, ⟨I.base.keep, I.base.slot, fun b o e z hx => by rw [upd_ne (fun q => by rw [q, new] at e; cases e)]; exact I.base.free b o e z hx, I.base.there,
      fun b xs e => by have q := I.base.tups b xs e; rw [upd_ne (ne_of_none q n)]; exact q, fun b o u e => by have q := I.base.frzs b o u e; rw [upd_ne (ne_of_none q n)]; exact q,
      fun b ps e => by obtain ⟨m, q⟩ := I.base.tbls b ps e; exact ⟨m, by rw [upd_ne (ne_of_none q n)]; exact q⟩⟩,
    I.loc, I.cell, by rw [upd_ne (Ne.symm hL)]; exact I.free, fun x c e => by rw [upd_ne (hc x c e)]; exact I.freeC x c e,
    fun q hq => by obtain ⟨a1, a2, a3⟩ := I.pin q hq; exact ⟨a1, by rw [upd_ne (hp q hq)]; exact a2, a3⟩,
    fun b u e => by
      by_cases hb : b = a
      · subst hb
        rw [upd_same] at e
        cases e
        exact p
      · rw [upd_ne hb] at e
        exact (I.hok b u e).stay (fun _ _ _ z => z) (fun c z => by rw [upd_ne (ne_of_none z n)]; exact z) fun c xs z => by rw [upd_ne (ne_of_none z n)]; exact z,
    I.len⟩
end

/-! ### what yields a new tuple at each turn -/
/-- src: what stands in the tuple of turn i -/
def ItT (go : Nat → Hp → Prop) (src : Nat → Hp → List V → Prop) (n : Nat → Hp → Prop) : It :=
  ⟨go, fun i H v H' => ∃ (T : Addr) (vs : List V), H T = none ∧ v = .ref T ∧ H' = upd H T (.tup vs) ∧ src i H vs, n⟩
/-- one turn, by the library's walk that yields tuples -/
theorem turn_item {X : Cx} {elts : List Expr} {kk : Nat} {tpos : Pos} {I₀ : Addr} {fp' wr fp : List Addr} {n : Nat} {Pt : Nat → Array Value → Prop} {St : Nat → Heap → Prop} {Mid : Nat → Addr → Heap → Prop} (W : WalksT X.prog X.w X.A I₀ fp' wr n Pt St Mid)
    {pins : List (Addr × Obj)} {s : Shared} {σ : L2.St} {H : Hp} {E : Value → Shared → Prop} {i : Nat} {vs : List V} {src : Nat → Hp → List V → Prop} {tn : Nat → Heap → Prop} (I : Inv X pins σ H s) (hf : ∀ b ∈ fp, FpOk X pins H b) (hob : ∀ b ∈ fp, ∃ o, s.heap.get? b = some o) (hw : ∀ b ∈ wr, b ∈ fp) (hi : i < n) (st : St i s.heap)
    (hv : ∀ vals, Pt i vals → Vals vs vals.toList) (hz : vs.length ≤ sizeLine) (hsrc : src i H vs) (htn : ∀ h, St (i + 1) h → tn (i + 1) h) {gop stp : Nat → Hp → Prop} :
    wpAny (model X.prog X.w) X.A (pyNext (.ref I₀)) (fun r s1 => ∃ u, r = some u ∧
      wpAny (model X.prog X.w) X.A (letOwnedTupleGo (.Tuple elts kk tpos) (.ref I₀) u) (fun _ s2 => ∃ x H', Inv X pins σ H' s2 ∧ RelV x u ∧ (ItT gop src stp).yld i H x H' ∧ tn (i + 1) s2.heap ∧ ∀ b ∈ fp, H' b = none) E s1) E s := by
  refine W.item i s _ _ hi st fun T vals h1 tk hP hT hTup hM kp => ?_
  refine ⟨.ref T, rfl, W.go elts kk tpos i T { s with heap := h1, toks := tk } _ _ hM fun h2 hst kp2 => ?_⟩
  have I1 : Inv X pins σ H { s with heap := h2, toks := tk } := I.turnedL (fun b o hb e => kp2 b o (fun z => hb (hw b z)) (kp b o (fun z => hb (hw b z)) e)) hf
  have nT : H T = none := I.hok.fresh hT
  have tup : h2.IsTuple T vals := by
    obtain ⟨o, e, r⟩ := hTup
    exact ⟨o, kp2 T o (W.apart i T h1 hM) e, r⟩
  have new : X.s₀.heap.get? T = none := by
    cases z : X.s₀.heap.get? T with
    | none => rfl
    | some o => exact absurd (Nat.lt_of_lt_of_le (Heap.lt_size z) (Nat.le_trans I.sz hT)) (Nat.lt_irrefl _)
  refine ⟨.ref T, upd H T (.tup vs), I1.trackO nT new (Nat.ne_of_gt (Nat.lt_of_lt_of_le I.lt hT)) (fun x c e z => ?_) (fun p hp z => ?_) ⟨hz, vals.toList, hv vals hP, (by rw [Array.toArray_toList]; exact tup)⟩, rfl, ⟨T, vs, nT, rfl, rfl, hsrc⟩, htn _ hst, fun b hb => ?_⟩
  · obtain ⟨v, o, ho, _⟩ := I.cell x c e
    exact absurd (Nat.lt_of_lt_of_le (Heap.lt_size ho) (by rw [z]; exact hT)) (Nat.lt_irrefl _)
  · exact absurd (Nat.lt_of_lt_of_le (Heap.lt_size (I.pin p hp).1) (by rw [z]; exact hT)) (Nat.lt_irrefl _)
  · have e0 := (hf b hb).1
    obtain ⟨o, ho⟩ := hob b hb
    have bT : b ≠ T := fun z => absurd (Nat.lt_of_lt_of_le (Heap.lt_size ho) (by rw [z]; exact hT)) (Nat.lt_irrefl _)
    rw [upd_ne bT]
    exact e0
/-! ### enumerate of a list -/
def srcE (K : PySem.W.Frag) (a : Addr) : Nat → Hp → List V → Prop := fun i H vs => ∃ x, vs = [.int i, x] ∧ ∀ xs, SqL K H a xs → xs[i]? = some x
def ItE (K : PySem.W.Frag) (a : Addr) : It := ItT (fun i H => ∃ xs x, SqL K H a xs ∧ xs[i]? = some x) (srcE K a) fun i H => ∃ xs, SqL K H a xs ∧ xs.length ≤ i
theorem isList_ne {h : Heap} {a b : Addr} {its : Array Value} {o : Obj} {T : String} (l : h.IsList a its) (e : h.get? b = some o) (c : o.cls = .type T) (n : T ≠ "list") : a ≠ b := fun z => by
  obtain ⟨o', e', c', _⟩ := l
  rw [z, e] at e'
  cases e'
  rw [c] at c'
  exact n (Value.type.inj c')
theorem turn_enum {P : Program} {w : World} {K : PySem.W.Frag} {elts : List Expr} {kk : Nat} {tpos : Pos} (a e it : Addr) (hei : e ≠ it) :
    Turn P w K (.Tuple elts kk tpos) (ItE K a) [e, it] e (fun i h => (∃ old, IsEnum h e it i old) ∧ h.IsListIter it a i) where
  mem := by simp
  obj := fun i h st b hb => by
    obtain ⟨⟨old, he⟩, o, ho, _, hd⟩ := st
    rcases List.mem_cons.mp hb with rfl | hb
    · exact ⟨_, he, fun v z => by cases z⟩
    · rw [List.mem_singleton.mp hb]
      exact ⟨o, ho, fun v z => by rw [hd] at z; cases z⟩
  keep := fun i h h' st k => by
    obtain ⟨⟨old, he⟩, l⟩ := st
    exact ⟨⟨old, k e (by simp) _ he⟩, l.at fun o z => k it (by simp) o z⟩
  item := by
    intro X hP hw hK hc i pins s σ H E I hf st hg
    subst hP hw hK
    obtain ⟨xs, x, hq, hx⟩ := hg
    obtain ⟨its, rv, p, hz⟩ := I.list hq
    obtain ⟨u, hu, ru⟩ := rv.get hx
    obtain ⟨⟨old, he⟩, hit⟩ := st
    have hL := p.isList
    have ne1 : a ≠ e := isList_ne hL he rfl (by decide)
    have ne2 : a ≠ it := by
      obtain ⟨o, ho, hc', _⟩ := id hit
      exact isList_ne hL ho hc' (by decide)
    have W := WalksT.enumerateD (A := X.A) (Draws.list (prog := X.prog) (w := X.w) (A := X.A.in1) (I.ok.hd hc) it a ne2 its.toArray) e hei (by simp; exact ⟨hei, Ne.symm ne1⟩) (by simp)
    refine turn_item (fp := [e, it]) (vs := [.int i, x]) (src := srcE X.K a) (tn := fun i h => (∃ old, IsEnum h e it i old) ∧ h.IsListIter it a i) W I hf (fun b hb => ?_) (fun b hb => hb) (by have := (List.getElem?_eq_some_iff.mp hu).1; simpa using this) ⟨⟨old, he⟩, hit, hL⟩ (fun vals hP => ?_) (by show 2 ≤ sizeLine; decide) ⟨x, rfl, fun ys hy => by rw [I.list_inj hy hq]; exact hx⟩ fun h st => ⟨?_, st.2.1⟩
    · rcases List.mem_cons.mp hb with rfl | hb
      · exact ⟨_, he⟩
      · rw [List.mem_singleton.mp hb]
        obtain ⟨o, ho, _⟩ := id hit
        exact ⟨o, ho⟩
    · obtain ⟨t, y, hy, rfl⟩ := hP
      have ey : y = u := by
        have : its[i]? = some y := by simpa using hy
        rw [hu] at this
        exact (Option.some.inj this).symm
      subst ey
      exact .cons ⟨t, rfl⟩ (.cons ru .nil)
    · obtain ⟨old', z⟩ := st.1
      exact ⟨old', z⟩
  done := by
    intro X hP hw hK hc i pins s σ H E I hf st hg
    subst hP hw hK
    obtain ⟨xs, hq, hx⟩ := hg
    obtain ⟨its, rv, p, hz⟩ := I.list hq
    obtain ⟨⟨old, he⟩, hit⟩ := st
    have hl := rv.length
    obtain ⟨f0, f1, f2, f3, f4, f5⟩ := hf it (by simp)
    exact wpAny_pyNext_enum_end (I.ok.hd hc) he hit p.isList (by simp; omega) fun h' eb => ⟨rfl, I.turned (t' := s.toks) (fun b o hb e => eb b o hb e) f0 f1 f3 f4 f5⟩
  self := fun _ _ _ _ _ st h => by
    obtain ⟨⟨old, he⟩, _⟩ := st
    exact wpAny_pyIter_enum he h
section
variable {X : Cx}
def iEnum (K : PySem.W.Frag) (tl : TE) : TI := fun σ H R => tl σ H fun x H1 => ∃ a, x = .ref a ∧ (∃ xs, SqL K H1 a xs) ∧ R (ItE K a) H1
theorem pi_enum {elts : List Expr} {kk : Nat} {tpos p pos : Pos} {e : Expr} {te : TE} (hg : Gl X "enumerate") (hm : X.mg "enumerate" = none) (he : PE X e te)
    (hs : starEach [e] X.env = [(false, eval e X.env)] := by rfl) : PI X (.Tuple elts kk tpos) (.Call (.Name "enumerate" p) [e] [] pos) (iEnum X.K te) := by
  intro pins s σ H R I h
  have b1 : bootBuiltins "enumerate" = some (.type "enumerate") := by decide +kernel
  refine wpAny_Call_Name_kw (ld_blt I hg hm b1 ?_ (by decide) (by decide))
  refine PyProof.Rows.callWith_type1 ?_ hs (by rfl)
  rw [hs]
  refine Calls.spliced_cons (thn (he pins s σ H _ I h) fun u s1 ⟨y, H1, I1, ry, a, ey, ⟨xs, hq⟩, q⟩ => ?_)
  subst ey
  have eu : u = Value.ref a := ry
  subst eu
  refine Calls.spliced_nil ?_
  obtain ⟨its, rv, pl, hz⟩ := I1.list hq
  refine call_enumerate_list pl.isList fun h' e1 e2 e3 kp => ?_
  have I2 : Inv X pins σ H1 { s1 with heap := h' } := I1.kept (t' := s1.toks) kp
  refine wpAny_pyIter_enum (s := { s1 with heap := h' }) e1 ?_
  refine ⟨_, [s1.heap.objs.size + 1, s1.heap.objs.size], _, ItE X.K a, H1, rfl, I2, turn_enum a _ _ (Nat.ne_of_gt (Nat.lt_succ_self _)), ⟨⟨_, e1⟩, e2⟩, fun b hb => ?_, q⟩
  have nb : s1.heap.objs.size ≤ b := by
    rcases List.mem_cons.mp hb with rfl | hb
    · exact Nat.le_succ _
    · rw [List.mem_singleton.mp hb]; exact Nat.le_refl _
  exact I1.fpOk nb (I1.hok.fresh nb)
end
/-- over a list that the body leaves as it is, with the turns' numbers -/
theorem for_enum {K : PySem.W.Frag} {a : Addr} {xs : List V} {g : TG} {tb : TS} {D : Ends} {σ : St} {H : Hp} (Pv : Nat → St → Hp → Prop) (h0 : Pv 0 σ H) (hl : ∀ i σ H, i ≤ xs.length → Pv i σ H → SqL K H a xs)
    (hs : ∀ i x T σ H, xs[i]? = some x → Pv i σ H → H T = none → g (.ref T) σ (upd H T (.tup [.int i, x])) fun σ2 H2 => tb { D with nx := Pv (i + 1), ct := Pv (i + 1), bk := D.nx } σ2 H2) (hd : ∀ σ H, Pv xs.length σ H → D.nx σ H) :
    ∃ W : Nat → Nat → St → Hp → Prop, (∃ m, W 0 m σ H) ∧ ∀ i m σ H, W i m σ H →
      ((ItE K a).stop i H ∧ D.nx σ H) ∨ ((ItE K a).go i H ∧ ∃ N : St → Hp → Prop, (∀ σ' H', N σ' H' → ∃ m', m' < m ∧ W (i + 1) m' σ' H') ∧ ∀ x H', (ItE K a).yld i H x H' → g x σ H' fun σ2 H2 => tb { D with nx := N, ct := N, bk := D.nx } σ2 H2) := by
  refine ⟨fun i m σ H => m = xs.length - i ∧ i ≤ xs.length ∧ Pv i σ H, ⟨xs.length, by simp, Nat.zero_le _, h0⟩, ?_⟩
  rintro i m σ H ⟨rfl, hi, p⟩
  have q := hl i σ H hi p
  by_cases hlt : i < xs.length
  · refine .inr ⟨⟨xs, xs[i], q, by simp [hlt]⟩, Pv (i + 1), fun σ' H' p' => ⟨xs.length - (i + 1), by omega, rfl, hlt, p'⟩, fun x H' y => ?_⟩
    obtain ⟨T, vs, nT, rfl, rfl, x, rfl, hx⟩ := y
    exact hs i x T σ H (hx xs q) p nT
  · have e : i = xs.length := by omega
    subst e
    exact .inl ⟨⟨xs, q, Nat.le_refl _⟩, hd σ H p⟩
end L2


set_option Elab.async false
set_option linter.all false
set_option maxRecDepth 100000
set_option maxHeartbeats 4000000
namespace L2
open PySem PySem.Spec PyProof.Rows PySem.AutoSeq1
/-! ### enumerate of a tuple -/
section
variable {prog : Program} {w : World} {A : Around} {E : Value → Shared → Prop} {s : Shared}
end
section
variable {X : Cx}
end
end L2


set_option Elab.async false
set_option linter.all false
set_option maxRecDepth 100000
set_option maxHeartbeats 4000000
namespace L2
open PySem PySem.Spec PyProof.Rows
/-! ### list.insert at a place that is not below nought -/
section
variable {X : Cx}
end
end L2


set_option Elab.async false
set_option linter.all false
set_option maxRecDepth 100000
set_option maxHeartbeats 4000000
namespace L2
open PySem PySem.Spec PyProof.Rows
/-! ### in and not in, of data in a list -/
section
variable {X : Cx}
end
end L2


set_option Elab.async false
set_option linter.all false
set_option maxRecDepth 100000
set_option maxHeartbeats 4000000
namespace L2
open PySem PySem.Spec PyProof.Rows
/-! ### a list comprehension with a tuple as its target: its block has the names xs of its own -/
def cNamesT (X : Cx) (xs : List Str) (js : List Nat) : List Str := xs ++ js.map fun j => X.N.getD j ""
section
variable {X : Cx} {pins : List (Addr × Obj)} {σ : St} {H : Hp} {s : Shared} {scope : Scope} {cl : List (Str × Addr)} {xs : List Str} {js : List Nat} {fp : List Addr} {N : List Str}
theorem comp_okT (I : Inv X pins σ H s) (hk : scope.kind = .function) (hcell : ∀ y ∈ scope.names, y.2 ≠ .cell)
    (hcl1 : ∀ y c, cl.lookup y = some c → X.env.cells.lookup y = some c) (hcl2 : ∀ y, (y, NameKind.free) ∈ scope.names → ∃ c, cl.lookup y = some c)
    (hf : ∀ b ∈ fp, FpOk X pins H b) (hlt : ∀ b ∈ fp, b < s.heap.objs.size) : (cxComp X scope cl N s H fp).Ok where
  mod := I.ok.mod
  kind := hk
  glob := I.ok.glob
  blt := I.ok.blt
  above := Nat.le_refl _
  inj := fun y z c h1 h2 => I.ok.inj y z c (hcl1 y c h1) (hcl1 z c h2)
  has := fun y hy => by
    have hy' : (relabel scope X.env).names.lookup y = some .cell ∨ (relabel scope X.env).names.lookup y = some .free := hy
    rcases hy' with h | h
    · obtain ⟨k', m, q⟩ := lookup_relabel h
      rcases q with q | ⟨_, q⟩
      · exact absurd q (hcell _ m)
      · subst q; exact hcl2 y m
    · obtain ⟨k', m, q⟩ := lookup_relabel h
      rcases q with q | ⟨q, _⟩
      · subst q; exact hcl2 y m
      · cases q
  cab := fun y c h _ => by cases h
  hd := I.ok.hd
  frames := I.ok.frames
  stk := .inl rfl
  exf := fun b hb => ⟨Nat.ne_of_lt (hlt b hb), fun y c h => (hf b hb).2.2.2.2.1 y c (hcl1 y c h)⟩
  bs := I.bs
  bsz := Nat.le_trans I.ok.bsz I.sz
  noex := fun b o e hb => by
    rcases (hf b hb).2.2.2.1 with z | z
    · exact I.ok.noex b o e z
    · exact absurd (Nat.lt_of_lt_of_le (Heap.lt_size e) (Nat.le_trans I.ok.bsz z)) (Nat.lt_irrefl _)
  exfs := fun b hb hz => (List.mem_cons.mp (I.stkSub b hz)).elim (hf b hb).2.1 (hf b hb).2.2.1
  funs := I.stack
  frf := I.stkFree

theorem comp_startT {h₁ : Heap} {tk : Nat} (I : Inv X pins σ H s) (hk : scope.kind = .function) (hcell : ∀ y ∈ scope.names, y.2 ≠ .cell)
    (hcl1 : ∀ y c, cl.lookup y = some c → X.env.cells.lookup y = some c) (hcl2 : ∀ y, (y, NameKind.free) ∈ scope.names → ∃ c, cl.lookup y = some c) (hjs : FreeAt X scope js)
    (hf : ∀ b ∈ fp, FpOk X pins H b) (hlt : ∀ b ∈ fp, b < s.heap.objs.size) {m : Str → Option Value} (hn : h₁.Ns s.heap.objs.size m) (hkeep : ∀ b o, s.heap.get? b = some o → h₁.get? b = some o) :
    Inv (cxComp X scope cl (cNamesT X xs js) s H fp) [] (List.replicate xs.length none ++ cVals js σ) H { s with heap := h₁, toks := tk } where
  ok := comp_okT I hk hcell hcl1 hcl2 hf hlt
  os := rfl
  bare := I.bare
  base := Un.kept hkeep
  loc := by
    refine ⟨m, hn, fun i y v h1 h2 h3 => ?_⟩
    by_cases hik : i < xs.length
    · rw [List.getElem?_append_left (by simpa using hik), List.getElem?_replicate_of_lt hik] at h2
      cases h2
    · generalize hkk : i - xs.length = k
      have h1' : (js.map fun j => X.N.getD j "")[k]? = some y := by
        have q : (xs ++ js.map fun j => X.N.getD j "")[i]? = some y := h1
        rw [List.getElem?_append_right (by omega), hkk] at q
        exact q
      have h2' : (js.map fun j => (σ[j]?).getD none)[k]? = some (some v) := by
        rw [List.getElem?_append_right (by simp; omega), List.length_replicate, hkk] at h2
        exact h2
      rw [List.getElem?_map] at h1' h2'
      cases hj : js[k]? with
      | none => rw [hj] at h1'; cases h1'
      | some j =>
        rw [hj] at h1' h2'
        have e1 : X.N.getD j "" = y := Option.some.inj h1'
        have e2 : (σ[j]?).getD none = some v := Option.some.inj h2'
        obtain ⟨y', n1, n2, n3, n4⟩ := hjs.all j (List.mem_of_getElem? hj)
        have e3 : y' = y := by rw [← e1, List.getD_eq_getElem?_getD, n1]; rfl
        subst e3
        have e4 : σ[j]? = some (some v) := by
          cases q : σ[j]? with
          | none => rw [q] at e2; cases e2
          | some a => rw [q] at e2; exact congrArg some e2
        obtain ⟨m0, _, hl⟩ := I.loc
        obtain ⟨u, r, l⟩ := hl j y' v n1 e4 (n2.elim (fun z => Or.inr (Or.inl z)) fun z => Or.inr (Or.inr z))
        refine ⟨u, r, .inr ⟨n4, ?_⟩⟩
        rcases l with ⟨l, _⟩ | ⟨_, c, hc, hi⟩
        · exfalso
          rcases n2 with z | z <;> (rw [z] at l; cases l)
        · obtain ⟨c', hc'⟩ := hcl2 y' n3
          have e5 := hcl1 y' c' hc'
          rw [hc] at e5
          have e6 := Option.some.inj e5
          subst e6
          obtain ⟨o, ho, hd⟩ := hi
          exact ⟨c, hc', o, hkeep c o ho, hd⟩
  cell := fun y c h => by
    obtain ⟨v, o, ho, hd⟩ := I.cell y c (hcl1 y c h)
    exact ⟨v, o, hkeep c o ho, hd⟩
  free := I.hok.fresh (Nat.le_refl _)
  freeC := fun y c h => I.freeC y c (hcl1 y c h)
  pin := fun p hp => absurd (show p ∈ ([] : List (Addr × Obj)) from hp) (by simp)
  hok := I.hok.kept hkeep
  len := by
    show (List.replicate xs.length none ++ cVals js σ).length = (cNamesT X xs js).length
    simp [cVals, cNamesT]
end

/-- [elt for a, b, .. in iter]: n names of the block's own -/
def tCompT (n : Nat) (wi : TI) (g : TG) (te : TE) (js : List Nat) : TE := fun σ H Q => wi σ H fun J H1 => ∀ D, H1 D = none →
  ∃ W : Nat → Nat → Hp → Prop, (∃ m, W 0 m (upd H1 D (.lst []))) ∧ ∀ i m H2, W i m H2 → (J.stop i H2 ∧ Q (.ref D) H2) ∨
    (J.go i H2 ∧ ∀ o : St, o.length = n → ∀ v H3, J.yld i H2 v H3 → g v (o ++ cVals js σ) H3 fun σ4 H4 => ∃ o', o'.length = n ∧ σ4 = o' ++ cVals js σ ∧ te (o' ++ cVals js σ) H4 fun y H5 =>
      ∃ ys, H5 D = some (.lst ys) ∧ ys.length < sizeLine ∧ ∃ m', m' < m ∧ W (i + 1) m' (upd H5 D (.lst (ys ++ [y]))))
section
variable {X : Cx} {elt iter : Expr} {xs : List Str} {elts : List Expr} {kk : Nat} {tp pos : Pos} {scope : Scope} {cl : List (Str × Addr)} {wi : TI} {g : TG} {te : TE} {js : List Nat}
theorem comp_coreT {use : Option (Value → Sem Unit)} {Qv : Value → Shared → Prop} {pins : List (Addr × Obj)} {s : Shared} {σ : St} {H : Hp} {Q : VK}
    (hc : X.calm = true) (hi : PI X (.Tuple elts kk tp) iter wi) (hk : scope.kind = .function) (hcell : ∀ y ∈ scope.names, y.2 ≠ .cell)
    (hcl1 : ∀ y c, cl.lookup y = some c → X.env.cells.lookup y = some c) (hcl2 : ∀ y, (y, NameKind.free) ∈ scope.names → ∃ c, cl.lookup y = some c) (hjs : FreeAt X scope js) (hnd : (cNamesT X xs js).Nodup)
    (hg : ∀ s' H' fp, PG (cxComp X scope cl (cNamesT X xs js) s' H' fp) (.Tuple elts kk tp) g) (he : ∀ s' H' fp, PE (cxComp X scope cl (cNamesT X xs js) s' H' fp) elt te)
    (I : Inv X pins σ H s) (h : tCompT xs.length wi g te js σ H Q)
    (fin : ∀ (D C : Addr) (H' : Hp) (s' : Shared), Inv X pins σ H' s' → FpOk X pins H' C → (∃ m, s'.heap.Ns C m) → Q (.ref D) H' → compPost (model X.prog X.w) X.A X.xe use Qv (.ref D) C (.ok .next) s') :
    wpAny (model X.prog X.w) X.A (eval iter X.env) (fun xv s₁ => wpAny (model X.prog X.w) X.A (pyIter xv) (fun it s₂ => wpAny (model X.prog X.w) X.A (newList []) (fun acc s₃ =>
      wpAny (model X.prog X.w) X.A (newFunctionEnv scope X.env.globals cl [] X.env.qual none .none (some X.env)) (fun cenv s₄ =>
        codeAny (model X.prog X.w) X.A (.compStart (.ListComp elt [⟨.Tuple elts kk tp, iter, [], 0⟩] scope pos) 0 it acc { cenv with scope := relabel scope X.env })
          (compPost (model X.prog X.w) X.A X.xe use Qv acc cenv.locals) s₄) X.xe s₃) X.xe s₂) X.xe s₁) X.xe s := by
  refine thn (hi pins s σ H _ I h) fun v s1 h1 => thn h1 fun itv s2 h2 => ?_
  obtain ⟨it, fp, tn, J, H2, e, I2, T, st2, f2, hW⟩ := h2
  subst e
  obtain ⟨W, ⟨m0, w0⟩, turn⟩ := hW s2.heap.objs.size (I2.hok.fresh (Nat.le_refl _))
  have hlt2 : ∀ b ∈ fp, b < s2.heap.objs.size := fun b hb => let ⟨_, e, _⟩ := T.obj _ _ st2 b hb; Heap.lt_size e
  have I3 : Inv X pins σ (upd H2 s2.heap.objs.size (.lst [])) { s2 with heap := s2.heap.push { cls := .type "list", data := .seq ([] : List Value).toArray } } :=
    I2.lnew (t' := s2.toks) (its := []) .nil (Nat.zero_le _)
  refine wpAny_newObj_type ?_
  have k23 : ∀ b o, s2.heap.get? b = some o → (s2.heap.push { cls := .type "list", data := .seq ([] : List Value).toArray }).get? b = some o := fun b o e => Heap.get?_push_of_some _ e
  have sz3 : (s2.heap.push { cls := .type "list", data := .seq ([] : List Value).toArray }).objs.size = s2.heap.objs.size + 1 := Heap.size_push ..
  generalize hs3 : ({ s2 with heap := s2.heap.push { cls := .type "list", data := .seq ([] : List Value).toArray } } : Shared) = s3 at I3
  have hs3' : s3.heap = s2.heap.push { cls := .type "list", data := .seq ([] : List Value).toArray } := by rw [← hs3]
  have hlt3 : ∀ b ∈ fp, b < s3.heap.objs.size := fun b hb => by rw [hs3', sz3]; exact Nat.lt_succ_of_lt (hlt2 b hb)
  have f3 : ∀ b ∈ fp, FpOk X pins (upd H2 s2.heap.objs.size (.lst [])) b := fun b hb => ⟨by rw [upd_ne (Nat.ne_of_lt (hlt2 b hb))]; exact (f2 b hb).1, (f2 b hb).2⟩
  refine wpAny_newFunctionEnv hcell (by intro y hy; simp at hy) (fun h₁ hns hsb => ?_) hk
  have k34 : ∀ b o, s3.heap.get? b = some o → h₁.get? b = some o := fun b o e => hsb.extBut b o (Nat.ne_of_lt (Heap.lt_size e)) (Heap.get?_push_of_some _ e)
  have I4 := comp_startT (xs := xs) (js := js) (tk := s3.toks + ([] : List (Str × Value)).length) I3 hk hcell hcl1 hcl2 hjs f3 hlt3 hns k34
  have st4 : tn 0 h₁ := T.keep 0 _ _ st2 fun b hb o e => k34 b o (by rw [hs3']; exact k23 b o e)
  -- the iterator's records stay what they are
  have stat : ∀ {H' : Hp}, (∀ b ∈ fp, H' b = none) → ∀ b ∈ fp, FpOk (cxComp X scope cl (cNamesT X xs js) s3 (upd H2 s2.heap.objs.size (.lst [])) fp) [] H' b := fun hn b hb =>
    ⟨hn b hb, Nat.ne_of_lt (hlt3 b hb), fun hz => (List.mem_cons.mp (I3.stkSub b hz)).elim (f2 b hb).2.1 (f2 b hb).2.2.1, .inl hb, fun y c q => (f2 b hb).2.2.2.2.1 y c (hcl1 y c q), fun p hp => absurd (show p ∈ ([] : List (Addr × Obj)) from hp) (by simp)⟩
  have back : ∀ {σ' : St} {H' : Hp} {s' : Shared}, Inv (cxComp X scope cl (cNamesT X xs js) s3 (upd H2 s2.heap.objs.size (.lst [])) fp) [] σ' H' s' → Inv X pins σ H' s' := fun {σ' H' s'} J' =>
    I3.call' (ch := fp) J'.os J'.base J'.hok J'.bare fun b hb => ⟨(f2 b hb).2.2.2.1, (f2 b hb).2.1, (f2 b hb).2.2.2.2.1, (f2 b hb).2.2.2.2.2⟩
  have loop : codeAny (model X.prog X.w) X.A (.compLoop (.ListComp elt [⟨.Tuple elts kk tp, iter, [], 0⟩] scope pos) 0 (.ref it) (.ref s2.heap.objs.size) (compEnvC scope cl s3.heap.objs.size X.env))
      (compPost (model X.prog X.w) X.A X.xe use Qv (.ref s2.heap.objs.size) s3.heap.objs.size) { s3 with heap := h₁, toks := s3.toks + ([] : List (Str × Value)).length } := by
    refine PyProof.Rows.LCp.codeAny_compLoop_pair (fun n s' => ∃ (i : Nat) (o : St) (H' : Hp), o.length = xs.length ∧ Inv (cxComp X scope cl (cNamesT X xs js) s3 (upd H2 s2.heap.objs.size (.lst [])) fp) [] (o ++ cVals js σ) H' s' ∧ tn i s'.heap ∧ (∀ b ∈ fp, H' b = none) ∧ W i n H') ?_ m0
      ⟨0, _, _, List.length_replicate, I4, st4, fun b hb => (f3 b hb).1, w0⟩
    rintro n s5 ⟨i, o, H5, ho, I5, st5, fr5, w5⟩
    rcases turn i n H5 w5 with ⟨stop, q⟩ | ⟨go, step⟩
    · refine thn (T.done (cxComp X scope cl (cNamesT X xs js) s3 (upd H2 s2.heap.objs.size (.lst [])) fp) rfl rfl rfl hc i [] s5 _ H5 _ I5 (stat fr5) st5 stop) fun r s6 ⟨hr, I6⟩ => ?_
      subst hr
      exact fin _ _ H5 s6 (back I6) (I3.fpOk (Nat.le_refl _) I6.free) (let ⟨m, hm, _⟩ := I6.loc; ⟨m, hm⟩) q
    · refine thn (T.item (cxComp X scope cl (cNamesT X xs js) s3 (upd H2 s2.heap.objs.size (.lst [])) fp) rfl rfl rfl hc i [] s5 _ H5 _ I5 (stat fr5) st5 go) fun r s6 ⟨u, hr, h6⟩ => ?_
      subst hr
      refine wpAny_mono h6 (fun _ s6' q6 => ?_) (fun _ _ f => f)
      obtain ⟨v, H6, I6, r6, y6, st6, fr6⟩ := q6
      have I6' := I6.pinned (stat fr6) (T.obj _ _ st6)
      refine wpAny_mono (hg s3 _ fp _ s6' _ H6 v u _ I6' r6 (step o ho v H6 y6)) (fun _ s7 q7 => ?_) (fun _ _ f => False.elim f)
      obtain ⟨σ7, H7, I7, o7, ho7, e7, q7⟩ := q7
      subst e7
      refine wpAny_mono (he s3 _ fp _ s7 _ H7 _ I7 q7) (fun y s9 q9 => ?_) (fun _ _ f => False.elim f)
      obtain ⟨yv, H9, I9, r9, ys, hD, hl, m', hm, w9⟩ := q9
      refine wpAny_mono (mt_append (X := cxComp X scope cl (cNamesT X xs js) s3 (upd H2 s2.heap.objs.size (.lst [])) fp) _ s9 _ H9 (.ref s2.heap.objs.size) [yv] (.ref s2.heap.objs.size) [y] (fun _ H' => H' = upd H9 s2.heap.objs.size (.lst (ys ++ [yv]))) I9 rfl (.cons r9 .nil) ⟨_, ys, yv, rfl, rfl, hD, hl, rfl⟩) (fun _ s10 q10 => ?_) (fun _ _ f => False.elim f)
      obtain ⟨_, H10, I10, _, e10⟩ := q10
      subst e10
      refine ⟨m', hm, i + 1, o7, _, ho7, I10.unpinned, T.keep _ _ _ st6 fun b hb o e => (I10.pin (b, o) (List.mem_append_right _ (List.mem_append_right _ (mem_pinsAt hb e)))).1, fun b hb => ?_, w9⟩
      obtain ⟨o, e, d⟩ := T.obj _ _ st6 b hb
      exact (I10.pin (b, o) (List.mem_append_right _ (List.mem_append_right _ (mem_pinsAt hb e)))).2.1
  exact codeAny_compStart_list loop (T.self _ 0 _ _ _ st4 loop)

/-- the comprehension as an expression -/
theorem pe_compT (hc : X.calm = true) (hi : PI X (.Tuple elts kk tp) iter wi) (hk : scope.kind = .function) (hcell : ∀ y ∈ scope.names, y.2 ≠ .cell) (hnames : ∀ y ∈ scope.names, y.2 = .local → scope.names.lookup y.1 = some .local)
    (hclos : closureFor scope X.env = pure cl) (hcl1 : ∀ y c, cl.lookup y = some c → X.env.cells.lookup y = some c) (hcl2 : ∀ y, (y, NameKind.free) ∈ scope.names → ∃ c, cl.lookup y = some c) (hjs : FreeAt X scope js) (hnd : (cNamesT X xs js).Nodup)
    (hg : ∀ s' H' fp, PG (cxComp X scope cl (cNamesT X xs js) s' H' fp) (.Tuple elts kk tp) g) (he : ∀ s' H' fp, PE (cxComp X scope cl (cNamesT X xs js) s' H' fp) elt te)
    (hs : ∀ x, foldedSetIterable iter X.env x = pure x := by intro _; rfl) : PE X (.ListComp elt [⟨.Tuple elts kk tp, iter, [], 0⟩] scope pos) (tCompT xs.length wi g te js) := by
  intro pins s σ H Q I h
  rw [eval_ListComp]
  refine wpAny_comprehension_free (use := none) rfl hs hclos hk hnames (comp_coreT hc hi hk hcell hcl1 hcl2 hjs hnd hg he I h fun D C H' s' I' fC hC q => ?_)
  obtain ⟨m, hm⟩ := hC
  refine ⟨m, hm, fun h' sb => ?_⟩
  obtain ⟨f0, f1, f2, f3, f4, f5⟩ := fC
  exact ⟨.ref D, H', I'.turned (t' := s'.toks) (fun b o hb e => (sb.2 b hb).trans e) f0 f1 f3 f4 f5, rfl, q⟩

/-- the closure found from the scope -/
theorem pe_compTF (hc : X.calm = true) (hi : PI X (.Tuple elts kk tp) iter wi) (hk : scope.kind = .function) (hcell : ∀ y ∈ scope.names, y.2 ≠ .cell) (hnames : ∀ y ∈ scope.names, y.2 = .local → scope.names.lookup y.1 = some .local)
    (hf : ∀ p ∈ scope.names, p.2 = .free → X.env.kindOf p.1 = some .cell ∨ X.env.kindOf p.1 = some .free) (hjs : FreeAt X scope js) (hnd : (cNamesT X xs js).Nodup)
    (hg : ∀ cl s' H' fp, PG (cxComp X scope cl (cNamesT X xs js) s' H' fp) (.Tuple elts kk tp) g) (he : ∀ cl s' H' fp, PE (cxComp X scope cl (cNamesT X xs js) s' H' fp) elt te)
    (hs : ∀ x, foldedSetIterable iter X.env x = pure x := by intro _; rfl) : PE X (.ListComp elt [⟨.Tuple elts kk tp, iter, [], 0⟩] scope pos) (tCompT xs.length wi g te js) := by
  intro pins s σ H Q I h
  obtain ⟨cl, e, p1, p2⟩ := clo_of (free_of (js := js) I fun y hy => hf (y, .free) hy rfl)
  exact pe_compT hc hi hk hcell hnames e p1 p2 hjs hnd (hg cl) (he cl) hs pins s σ H Q I h
end
end L2


set_option Elab.async false
namespace Mine
theorem int_or (a b : Int) : a < b ∨ b ≤ a := by omega
namespace Lo
/-- the greatest common factor, as an int -/
def gc (a b : Int) : Int := (Int.gcd a b : Nat)
theorem gc_pos {a b : Int} (h : b ≠ 0) : 0 < gc a b := by
  have := Int.gcd_pos_of_ne_zero_right a h
  unfold gc; omega
theorem gc_zero {a : Int} (h : 0 ≤ a) : gc a 0 = a := by
  unfold gc; rw [Int.gcd_zero_right]; omega
theorem gc_natAbs (a b : Int) : gc a.natAbs b.natAbs = gc a b := by
  unfold gc Int.gcd; simp
theorem gc_turn (g l : Int) : gc l (g.fmod l) = gc g l := by
  unfold gc
  congr 1
  rw [Int.fmod_def]
  rw [Int.gcd_comm g l]
  have : g - l * g.fdiv l = g + l * (-(g.fdiv l)) := by rw [Int.mul_neg]; omega
  rw [this]
  exact Int.gcd_add_mul_left_right ..
theorem gc_dvd_left (a b : Int) : gc a b ∣ a := Int.gcd_dvd_left ..
theorem gc_dvd_right (a b : Int) : gc a b ∣ b := Int.gcd_dvd_right ..
/-- the factor with the bottom's sign -/
def sg (t b : Int) : Int := if b < 0 then -(gc t b) else gc t b
def lowT (t b : Int) : Int := t.fdiv (sg t b)
def lowB (t b : Int) : Int := b.fdiv (sg t b)
theorem sg_ne {t b : Int} (h : b ≠ 0) : sg t b ≠ 0 := by
  have := gc_pos (a := t) h
  unfold sg; split <;> omega
theorem sg_dvd_t (t b : Int) : sg t b ∣ t := by
  unfold sg; split
  · exact Int.neg_dvd.mpr (gc_dvd_left t b)
  · exact gc_dvd_left t b
theorem sg_dvd_b (t b : Int) : sg t b ∣ b := by
  unfold sg; split
  · exact Int.neg_dvd.mpr (gc_dvd_right t b)
  · exact gc_dvd_right t b
theorem lowT_eq (t b : Int) : sg t b * lowT t b = t := by
  unfold lowT
  rw [Int.fdiv_eq_ediv_of_dvd (sg_dvd_t t b)]
  exact Int.mul_ediv_cancel' (sg_dvd_t t b)
theorem lowB_eq (t b : Int) : sg t b * lowB t b = b := by
  unfold lowB
  rw [Int.fdiv_eq_ediv_of_dvd (sg_dvd_b t b)]
  exact Int.mul_ediv_cancel' (sg_dvd_b t b)
theorem lowB_pos {t b : Int} (h : b ≠ 0) : 0 < lowB t b := by
  have e := lowB_eq t b
  have g := gc_pos (a := t) h
  rcases Int.lt_trichotomy (lowB t b) 0 with q | q | q
  · exfalso
    by_cases c : b < 0
    · have s : sg t b = -(gc t b) := by unfold sg; rw [if_pos c]
      have s0 : sg t b < 0 := by omega
      have := Int.mul_pos_of_neg_of_neg s0 q
      omega
    · have s : sg t b = gc t b := by unfold sg; rw [if_neg c]
      have s0 : 0 < sg t b := by omega
      have := Int.mul_neg_of_pos_of_neg s0 q
      omega
  · rw [q] at e; simp at e; omega
  · exact q
theorem gc_mul (f t b : Int) : gc (f * t) (f * b) = f.natAbs * gc t b := by
  unfold gc
  rw [Int.gcd_mul_left]
  rfl
theorem sg_mul {f : Int} (hf : f ≠ 0) (t : Int) {b : Int} (hb : b ≠ 0) : sg (f * t) (f * b) = f * sg t b := by
  unfold sg
  rw [gc_mul]
  rcases (by omega : 0 < f ∨ f < 0) with p | n
  · have e : (f.natAbs : Int) = f := by omega
    rw [e]
    by_cases c : b < 0
    · rw [if_pos c, if_pos (Int.mul_neg_of_pos_of_neg p c), Int.mul_neg]
    · have := Int.mul_pos p (show 0 < b by omega)
      rw [if_neg c, if_neg (by omega)]
  · have e : (f.natAbs : Int) = -f := by omega
    rw [e]
    by_cases c : b < 0
    · have := Int.mul_pos_of_neg_of_neg n c
      rw [if_pos c, if_neg (by omega), Int.mul_neg, Int.neg_mul]
    · have := Int.mul_neg_of_neg_of_pos n (show 0 < b by omega)
      rw [if_neg c, if_pos (by omega), Int.neg_mul, Int.neg_neg]
theorem lowT_mul {f : Int} (hf : f ≠ 0) (t : Int) {b : Int} (hb : b ≠ 0) : lowT (f * t) (f * b) = lowT t b := by
  have h := lowT_eq (f * t) (f * b)
  rw [sg_mul hf t hb, Int.mul_assoc] at h
  have h2 := Int.eq_of_mul_eq_mul_left hf h
  have h3 := lowT_eq t b
  exact Int.eq_of_mul_eq_mul_left (sg_ne hb) (h2.trans h3.symm)
theorem lowB_mul {f : Int} (hf : f ≠ 0) (t : Int) {b : Int} (hb : b ≠ 0) : lowB (f * t) (f * b) = lowB t b := by
  have h := lowB_eq (f * t) (f * b)
  rw [sg_mul hf t hb, Int.mul_assoc] at h
  have h2 := Int.eq_of_mul_eq_mul_left hf h
  have h3 := lowB_eq t b
  exact Int.eq_of_mul_eq_mul_left (sg_ne hb) (h2.trans h3.symm)
/-- sizes -/
theorem natAbs_le_of_mul {s x n : Int} (hs : s ≠ 0) (e : s * x = n) : x.natAbs ≤ n.natAbs := by
  rw [← e, Int.natAbs_mul]
  have : 1 ≤ s.natAbs := by omega
  exact Nat.le_mul_of_pos_left _ this
theorem lowT_le {t b : Int} (hb : b ≠ 0) : (lowT t b).natAbs ≤ t.natAbs := natAbs_le_of_mul (sg_ne hb) (lowT_eq t b)
theorem lowB_le {t b : Int} (hb : b ≠ 0) : (lowB t b).natAbs ≤ b.natAbs := natAbs_le_of_mul (sg_ne hb) (lowB_eq t b)
theorem gc_le {t b : Int} (hb : b ≠ 0) : (gc t b).natAbs ≤ b.natAbs := by
  have h := Int.gcd_dvd_right (a := t) (b := b)
  have := Nat.le_of_dvd (by omega) (Int.natAbs_dvd_natAbs.mpr h)
  unfold gc; exact this
theorem sg_le {t b : Int} (hb : b ≠ 0) : (sg t b).natAbs ≤ b.natAbs := by
  have := gc_le (t := t) hb
  unfold sg; split <;> omega
theorem low_gc {t b : Int} (hb : b ≠ 0) : gc (lowT t b) (lowB t b) = 1 := by
  have h1 := lowT_eq t b
  have h2 := lowB_eq t b
  have h3 := gc_mul (sg t b) (lowT t b) (lowB t b)
  rw [h1, h2] at h3
  have h4 := gc_pos (a := t) hb
  have h5 : ((sg t b).natAbs : Int) = gc t b := by
    unfold sg; split <;> omega
  rw [h5] at h3
  have h6 : gc t b * gc (lowT t b) (lowB t b) = gc t b * 1 := by rw [← h3, Int.mul_one]
  exact Int.eq_of_mul_eq_mul_left (by omega) h6
/-- a fraction in lowest terms is its own -/
theorem low_own {p q : Int} (hq : 0 < q) (h : gc p q = 1) : lowT p q = p ∧ lowB p q = q := by
  have s : sg p q = 1 := by unfold sg; rw [if_neg (by omega), h]
  have h1 := lowT_eq p q
  have h2 := lowB_eq p q
  rw [s, Int.one_mul] at h1 h2
  exact ⟨h1, h2⟩
theorem sg_pos {t b : Int} (hb : 0 < b) : 0 < sg t b := by
  have := gc_pos (a := t) (b := b) (by omega)
  unfold sg; rw [if_neg (by omega)]; exact this
theorem sg_neg {t b : Int} (hb : b < 0) : sg t b < 0 := by
  have := gc_pos (a := t) (b := b) (by omega)
  unfold sg; rw [if_pos hb]; omega
end Lo

/-! ### stretches and lines, as they are told -/
structure St4 where
  p : Int
  q : Int
  m : Int
  h : Int
  deriving DecidableEq
namespace Ln
def Adj (s t : St4) : Prop := s.p * t.q < t.p * s.q ∧ (t.m - s.m) * s.p + (t.h - s.h) * s.q = 0 ∧ t.m ≠ s.m
def StOk (s : St4) : Prop := 0 < s.p ∧ s.p ≤ s.q ∧ Lo.gc s.p s.q = 1 ∧ s.q < 2 ^ 40 ∧ s.m.natAbs < 2 ^ 40 ∧ s.h.natAbs < 2 ^ 40
def Ch : List St4 → Prop
  | [] => True
  | [_] => True
  | s :: t :: r => Adj s t ∧ Ch (t :: r)
theorem Ch.snoc : ∀ {S : List St4} {t : St4}, Ch S → (∀ s, S.getLast? = some s → Adj s t) → Ch (S ++ [t])
  | [], _, _, _ => trivial
  | [s], t, _, h => ⟨h s rfl, trivial⟩
  | s :: u :: r, t, c, h => ⟨c.1, Ch.snoc (S := u :: r) c.2 fun x hx => h x (by rw [List.getLast?_cons_cons]; exact hx)⟩
structure Line (L : List St4) : Prop where
  ok : ∀ s ∈ L, StOk s
  ch : Ch L
  last : ∃ s, L.getLast? = some s ∧ s.p = 1 ∧ s.q = 1
  few : L.length ≤ 100
/-- where the law's maker of lines stands behind i turns -/
structure Bt (S : List St4) (p q m h : Int) (i : Nat) : Prop where
  ok : ∀ s ∈ S, StOk s
  ch : Ch S
  p0 : 0 ≤ p
  pq : p < q
  qb : q ≤ 100001
  mb : m.natAbs ≤ 1000000 + 200000 * i
  hb : h.natAbs ≤ 100000000 + 200000 * i
  len : S.length ≤ i
  join : ∀ s, S.getLast? = some s → s.p = p ∧ s.q = q ∧ (m - s.m) * p + (h - s.h) * q = 0 ∧ m ≠ s.m
theorem Bt.start {m h : Int} (hm : m.natAbs ≤ 1000000) (hh : h.natAbs ≤ 100000000) : Bt [] 0 1 m h 0 :=
  ⟨(fun _ h => nomatch h), trivial, by omega, by omega, by omega, by omega, by omega, Nat.le_refl _, (fun _ h => nomatch h)⟩
theorem Bt.skip {S : List St4} {p q m h : Int} {i : Nat} (b : Bt S p q m h i) : Bt S p q m h (i + 1) :=
  ⟨b.ok, b.ch, b.p0, b.pq, b.qb, by have := b.mb; omega, by have := b.hb; omega, by have := b.len; omega, b.join⟩
theorem low_between {p q d m : Int} (q0 : 0 < q) (hd : 2 ≤ d.natAbs)
    (hm : (0 < d ∧ (d * p) / q + 1 ≤ m ∧ m ≤ d - 1) ∨ (d < 0 ∧ d + 1 ≤ m ∧ m ≤ -(((-d) * p) / q) - 1)) :
    p * Lo.lowB m d < Lo.lowT m d * q ∧ Lo.lowT m d < Lo.lowB m d := by
  have hd0 : d ≠ 0 := by omega
  have e1 := Lo.lowT_eq m d
  have e2 := Lo.lowB_eq m d
  have key : ∀ x y s : Int, s * x = d → s * y = m → s * (p * x - y * q) = d * p - m * q := by
    intro x y s h1 h2
    rw [Int.mul_sub, ← Int.mul_assoc, ← Int.mul_assoc, Int.mul_comm s p, Int.mul_assoc, h1, h2, Int.mul_comm p d]
  have k1 := key _ _ _ e2 e1
  have k2 : Lo.sg m d * (Lo.lowT m d - Lo.lowB m d) = m - d := by rw [Int.mul_sub, e1, e2]
  rcases hm with ⟨dp, lo, hi⟩ | ⟨dn, lo, hi⟩
  · have s0 := Lo.sg_pos (t := m) dp
    have f : d * p < m * q := by
      have := Int.lt_ediv_add_one_mul_self (d * p) q0
      have h2 : (d * p / q + 1) * q ≤ m * q := Int.mul_le_mul_of_nonneg_right lo (by omega)
      omega
    refine ⟨?_, ?_⟩
    · rcases int_or (p * Lo.lowB m d) (Lo.lowT m d * q) with z | z
      · exact z
      · exfalso
        have : 0 ≤ Lo.sg m d * (p * Lo.lowB m d - Lo.lowT m d * q) := Int.mul_nonneg (by omega) (by omega)
        omega
    · rcases int_or (Lo.lowT m d) (Lo.lowB m d) with z | z
      · exact z
      · exfalso
        have : 0 ≤ Lo.sg m d * (Lo.lowT m d - Lo.lowB m d) := Int.mul_nonneg (by omega) (by omega)
        omega
  · have s0 := Lo.sg_neg (t := m) dn
    have f : m * q < d * p := by
      have := Int.lt_ediv_add_one_mul_self ((-d) * p) q0
      have h2 : ((-d) * p / q + 1) * q ≤ (-m) * q := Int.mul_le_mul_of_nonneg_right (by omega) (by omega)
      rw [Int.neg_mul, Int.neg_mul] at *
      omega
    refine ⟨?_, ?_⟩
    · rcases int_or (p * Lo.lowB m d) (Lo.lowT m d * q) with z | z
      · exact z
      · exfalso
        have := Int.mul_nonneg (a := -(Lo.sg m d)) (b := p * Lo.lowB m d - Lo.lowT m d * q) (by omega) (by omega)
        rw [Int.neg_mul] at this
        omega
    · rcases int_or (Lo.lowT m d) (Lo.lowB m d) with z | z
      · exact z
      · exfalso
        have := Int.mul_nonneg (a := -(Lo.sg m d)) (b := Lo.lowT m d - Lo.lowB m d) (by omega) (by omega)
        rw [Int.neg_mul] at this
        omega
theorem rule_at {m d : Int} (hd : d ≠ 0) : d * Lo.lowT m d = m * Lo.lowB m d := by
  have e1 := Lo.lowT_eq m d
  have e2 := Lo.lowB_eq m d
  have : Lo.sg m d * (d * Lo.lowT m d) = Lo.sg m d * (m * Lo.lowB m d) := by
    rw [← Int.mul_assoc, Int.mul_comm (Lo.sg m d) d, Int.mul_assoc, e1, ← Int.mul_assoc, Int.mul_comm (Lo.sg m d) m, Int.mul_assoc, e2, Int.mul_comm]
  exact Int.eq_of_mul_eq_mul_left (Lo.sg_ne hd) this
theorem Bt.step {S : List St4} {p q m h d mm : Int} {i : Nat} (b : Bt S p q m h i) (hi : i < 64) (hd : 2 ≤ d.natAbs) (hd2 : d.natAbs ≤ 100001)
    (hm : (0 < d ∧ (d * p) / q + 1 ≤ mm ∧ mm ≤ d - 1) ∨ (d < 0 ∧ d + 1 ≤ mm ∧ mm ≤ -(((-d) * p) / q) - 1)) :
    Bt (S ++ [⟨Lo.lowT mm d, Lo.lowB mm d, m, h⟩]) (Lo.lowT mm d) (Lo.lowB mm d) (m - d) (h + mm) (i + 1) := by
  have q0 : 0 < q := by have := b.p0; have := b.pq; omega
  have hd0 : d ≠ 0 := by omega
  obtain ⟨r1, r2⟩ := low_between q0 hd hm
  have g := Lo.low_gc (t := mm) hd0
  have bp := Lo.lowB_pos (t := mm) hd0
  have bl := Lo.lowB_le (t := mm) hd0
  have tp : 0 < Lo.lowT mm d := by
    rcases int_or 0 (Lo.lowT mm d) with z | z
    · exact z
    · exfalso
      have h1 := Int.mul_nonneg b.p0 (show 0 ≤ Lo.lowB mm d by omega)
      have h2 : Lo.lowT mm d * q ≤ 0 := Int.mul_nonpos_of_nonpos_of_nonneg z (by omega)
      omega
  have e := rule_at (m := mm) hd0
  have dv : 0 ≤ (d * p) / q ∨ d < 0 := by
    rcases int_or d 0 with z | z
    · exact .inr z
    · exact .inl (Int.ediv_nonneg (Int.mul_nonneg z b.p0) (by omega))
  have dv2 : 0 ≤ ((-d) * p) / q ∨ 0 < d := by
    rcases int_or 0 d with z | z
    · exact .inr z
    · exact .inl (Int.ediv_nonneg (Int.mul_nonneg (by omega) b.p0) (by omega))
  have mb : mm.natAbs ≤ 100001 := by omega
  have so : StOk ⟨Lo.lowT mm d, Lo.lowB mm d, m, h⟩ := ⟨tp, by show Lo.lowT mm d ≤ Lo.lowB mm d; omega, g, by show Lo.lowB mm d < 2 ^ 40; omega, by have := b.mb; show m.natAbs < 2 ^ 40; omega, by have := b.hb; show h.natAbs < 2 ^ 40; omega⟩
  refine ⟨?_, ?_, by omega, r2, by omega, by have := b.mb; omega, by have := b.hb; omega, by have := b.len; simp; omega, ?_⟩
  · intro s hs
    rcases List.mem_append.mp hs with z | z
    · exact b.ok s z
    · have := List.mem_singleton.mp z
      subst this
      exact so
  · refine b.ch.snoc fun s hs => ?_
    obtain ⟨j1, j2, j3, j4⟩ := b.join s hs
    refine ⟨?_, ?_, j4⟩
    · show s.p * Lo.lowB mm d < Lo.lowT mm d * s.q
      rw [j1, j2]; exact r1
    · show (m - s.m) * s.p + (h - s.h) * s.q = 0
      rw [j1, j2]; exact j3
  · intro s hs
    rw [List.getLast?_append, List.getLast?_singleton, Option.some_or] at hs
    cases hs
    refine ⟨rfl, rfl, ?_, ?_⟩
    · show (m - d - m) * Lo.lowT mm d + (h + mm - h) * Lo.lowB mm d = 0
      have z1 : m - d - m = -d := by omega
      have z2 : h + mm - h = mm := by omega
      rw [z1, z2, Int.neg_mul, e]
      omega
    · show m - d ≠ m
      omega
theorem Bt.line {S : List St4} {p q m h : Int} {i : Nat} (b : Bt S p q m h i) (hi : i ≤ 64) : Line (S ++ [⟨1, 1, m, h⟩]) := by
  refine ⟨?_, ?_, ⟨⟨1, 1, m, h⟩, by rw [List.getLast?_append, List.getLast?_singleton, Option.some_or], rfl, rfl⟩, by have := b.len; simp; omega⟩
  · intro s hs
    rcases List.mem_append.mp hs with z | z
    · exact b.ok s z
    · have := List.mem_singleton.mp z
      subst this
      exact ⟨by show (0 : Int) < 1; omega, by show (1 : Int) ≤ 1; omega, (by show Lo.gc 1 1 = 1; decide), by show (1 : Int) < 2 ^ 40; decide, by have := b.mb; show m.natAbs < 2 ^ 40; omega, by have := b.hb; show h.natAbs < 2 ^ 40; omega⟩
  · refine b.ch.snoc fun s hs => ?_
    obtain ⟨j1, j2, j3, j4⟩ := b.join s hs
    refine ⟨?_, ?_, j4⟩
    · show s.p * 1 < 1 * s.q
      have := b.pq
      omega
    · show (m - s.m) * s.p + (h - s.h) * s.q = 0
      rw [j1, j2]; exact j3
/-! ### the stretch in which x lies -/
theorem last_at {L : List St4} {s : St4} (h : L.getLast? = some s) : 0 < L.length ∧ L[L.length - 1]? = some s := by
  rw [List.getLast?_eq_getElem?] at h
  refine ⟨?_, h⟩
  rcases Nat.eq_zero_or_pos L.length with z | z
  · rw [List.length_eq_zero_iff.mp z] at h; cases h
  · exact z
end Ln
end Mine


set_option Elab.async false
set_option linter.all false
namespace Mine
namespace Ln
/-- the end ahead of the i-th stretch -/
def bef (M : List St4) : Nat → Int × Int
  | 0 => (0, 1)
  | i + 1 => match M[i]? with
    | some s => (s.p, s.q)
    | none => (0, 1)
theorem bef_succ {M : List St4} {i : Nat} {s : St4} (h : M[i]? = some s) : bef M (i + 1) = (s.p, s.q) := by
  show (match M[i]? with | some s => (s.p, s.q) | none => (0, 1)) = _
  rw [h]
theorem bef_app {M : List St4} {t : St4} : ∀ {i : Nat}, i ≤ M.length → bef (M ++ [t]) i = bef M i
  | 0, _ => rfl
  | i + 1, h => by
    have e : M[i]? = some M[i] := List.getElem?_eq_getElem (by omega)
    have e2 : (M ++ [t])[i]? = some M[i] := by rw [List.getElem?_append_left (by omega)]; exact e
    rw [bef_succ e, bef_succ e2]
def Fit (s : St4) : Prop := 0 < s.q ∧ s.p.natAbs < 2 ^ 90 ∧ s.q.natAbs < 2 ^ 90 ∧ s.m.natAbs < 2 ^ 90 ∧ s.h.natAbs < 2 ^ 90
theorem StOk.fit {s : St4} (h : StOk s) : Fit s := by
  obtain ⟨h1, h2, h3, h4, h5, h6⟩ := h
  exact ⟨by omega, by omega, by omega, by omega, by omega⟩
/-! ### neighbours of one rule become one -/
def jnStep (A : List St4) (s : St4) : List St4 := match A.getLast? with
  | some t => if t.m = s.m ∧ t.h = s.h then A.dropLast ++ [s] else A ++ [s]
  | none => A ++ [s]
def jn (M : List St4) : List St4 := M.foldl jnStep []
theorem jn_snoc (M : List St4) (t : St4) : jn (M ++ [t]) = jnStep (jn M) t := by
  unfold jn
  rw [List.foldl_append]
  rfl
theorem jnStep_new {A : List St4} {s : St4} (h : ∀ t, A.getLast? = some t → t.m ≠ s.m) : jnStep A s = A ++ [s] := by
  unfold jnStep
  cases e : A.getLast? with
  | none => rfl
  | some t => simp [h t e]
end Ln
end Mine


set_option Elab.async false
set_option linter.all false
namespace Mine
namespace Ln
/-! ### what is amiss with stretches: the first thing, by its word (0 count, 1 end, 2 short, 3 jump) and place -/
def gd (M : List St4) (i : Nat) : Bool := match M[i]? with
  | some s => decide ((bef M i).1 * s.q < s.p * (bef M i).2 ∧ s.p ≤ s.q)
  | none => true
def nj (M : List St4) (i : Nat) : Bool := match M[i]?, M[i + 1]? with
  | some s, some t => decide ((t.m - s.m) * s.p + (t.h - s.h) * s.q = 0)
  | _, _ => true
def amE (M : List St4) : Option (Nat × Int) := match (List.range M.length).find? fun i => !gd M i with
  | some k => some (1, (k : Int))
  | none => if (bef M M.length).1 = 1 ∧ (bef M M.length).2 = 1 then none else some (2, (M.length : Int) - 1)
def amJ (M : List St4) : Option (Nat × Int) := match (List.range (M.length - 1)).find? fun i => !nj M i with
  | some k => some (3, 1 + (k : Int))
  | none => none
def am (M : List St4) : Option (Nat × Int) := if 1 ≤ M.length ∧ M.length ≤ 60 then (match amE M with | some x => some x | none => amJ M) else some (0, (M.length : Int))
theorem find_at {p : Nat → Bool} : ∀ {n k : Nat}, k < n → (∀ j, j < k → p j = false) → p k = true → (List.range n).find? p = some k
  | n, k, h, a, b => by
    rw [List.find?_range_eq_some]
    refine ⟨b, List.mem_range.mpr h, fun j hj => ?_⟩
    rw [a j hj]
    rfl
theorem find_no {p : Nat → Bool} {n : Nat} (a : ∀ j, j < n → p j = false) : (List.range n).find? p = none := by
  rw [List.find?_eq_none]
  intro j hj
  rw [a j (List.mem_range.mp hj)]
  exact Bool.false_ne_true
theorem amE_end {M : List St4} {k : Nat} (h : k < M.length) (a : ∀ j, j < k → gd M j = true) (b : gd M k = false) : amE M = some (1, (k : Int)) := by
  unfold amE
  rw [find_at (p := fun i => !gd M i) h (fun j hj => by rw [a j hj]; rfl) (by rw [b]; rfl)]
theorem amE_go {M : List St4} (a : ∀ j, j < M.length → gd M j = true) : amE M = if (bef M M.length).1 = 1 ∧ (bef M M.length).2 = 1 then none else some (2, (M.length : Int) - 1) := by
  unfold amE
  rw [find_no (p := fun i => !gd M i) fun j hj => by rw [a j hj]; rfl]
theorem amJ_at {M : List St4} {k : Nat} (h : k < M.length - 1) (a : ∀ j, j < k → nj M j = true) (b : nj M k = false) : amJ M = some (3, 1 + (k : Int)) := by
  unfold amJ
  rw [find_at (p := fun i => !nj M i) h (fun j hj => by rw [a j hj]; rfl) (by rw [b]; rfl)]
theorem amJ_no {M : List St4} (a : ∀ j, j < M.length - 1 → nj M j = true) : amJ M = none := by
  unfold amJ
  rw [find_no (p := fun i => !nj M i) fun j hj => by rw [a j hj]; rfl]
theorem gd_of {M : List St4} {i : Nat} {s : St4} (h : M[i]? = some s) : gd M i = decide ((bef M i).1 * s.q < s.p * (bef M i).2 ∧ s.p ≤ s.q) := by
  unfold gd
  rw [h]
theorem nj_of {M : List St4} {i : Nat} {s t : St4} (h : M[i]? = some s) (g : M[i + 1]? = some t) : nj M i = decide ((t.m - s.m) * s.p + (t.h - s.h) * s.q = 0) := by
  unfold nj
  rw [h, g]
theorem am_count {M : List St4} (h : ¬ (1 ≤ M.length ∧ M.length ≤ 60)) : am M = some (0, (M.length : Int)) := by
  unfold am
  rw [if_neg h]
theorem am_E {M : List St4} (h : 1 ≤ M.length ∧ M.length ≤ 60) {x : Nat × Int} (e : amE M = some x) : am M = some x := by
  unfold am
  rw [if_pos h, e]
theorem am_J {M : List St4} (h : 1 ≤ M.length ∧ M.length ≤ 60) (e : amE M = none) : am M = amJ M := by
  unfold am
  rw [if_pos h, e]
/-- numbers within a bound, the bottom above nought -/
def FitB (b : Nat) (s : St4) : Prop := 0 < s.q ∧ s.p.natAbs < 2 ^ b ∧ s.q.natAbs < 2 ^ b ∧ s.m.natAbs < 2 ^ b ∧ s.h.natAbs < 2 ^ b
theorem StOk.fitB {s : St4} (h : StOk s) : FitB 40 s := by
  obtain ⟨h1, h2, h3, h4, h5, h6⟩ := h
  exact ⟨by omega, by omega, by omega, h5, h6⟩
theorem FitB.mono {b c : Nat} {s : St4} (h : FitB b s) (e : b ≤ c) : FitB c s := by
  have := Nat.pow_le_pow_right (show 0 < 2 by decide) e
  obtain ⟨h1, h2, h3, h4, h5⟩ := h
  exact ⟨h1, by omega, by omega, by omega, by omega⟩
theorem pow2 (b : Nat) : 2 ^ (b + 2) = 4 * 2 ^ b := by rw [Nat.pow_add]; omega
end Ln
/-- two fractions of one bottom, made lowest, are the same just where their tops are -/
theorem Lo.low_same {t u b : Int} (hb : 0 < b) : (Lo.lowT t b = Lo.lowT u b ∧ Lo.lowB t b = Lo.lowB u b) ↔ t = u := by
  refine ⟨fun ⟨h1, h2⟩ => ?_, fun h => by rw [h]; exact ⟨rfl, rfl⟩⟩
  have e1 := Lo.lowT_eq t b
  have e2 := Lo.lowB_eq t b
  have e3 := Lo.lowT_eq u b
  have e4 := Lo.lowB_eq u b
  have p := Lo.lowB_pos (t := u) (show b ≠ 0 by omega)
  rw [h2] at e2
  have e5 : Lo.sg t b = Lo.sg u b := Int.eq_of_mul_eq_mul_right (show Lo.lowB u b ≠ 0 by omega) (e2.trans e4.symm)
  rw [← e1, ← e3, e5, h1]
end Mine


set_option Elab.async false
set_option linter.all false
set_option maxRecDepth 100000
set_option maxHeartbeats 4000000
namespace Mine
open PySem L2
/-! ### small numbers -/
def Sm (x : Int) : Prop := x.natAbs < 2 ^ 200
abbrev bits (x : Int) : Nat := Builtin.Int.intBits x
theorem bits_of {x : Int} {m : Nat} (h : x.natAbs < 2 ^ m) : bits x ≤ m := intBits_le_iff.mpr h
theorem mulS {a b : Int} (ha : Sm a) (hb : Sm b) : IntMulOk a b := IntMulOk.of_le (m := 200) (n := 200) (bits_of ha) (bits_of hb) (by decide)
theorem sm_of {x : Int} (h : x.natAbs ≤ 10 ^ 50) : Sm x := Nat.lt_of_le_of_lt h (by decide +kernel)
theorem div_ok {t x : Int} (h0 : x ≠ 0) (h : Sm x) : CDivK t x := ⟨h0, Nat.lt_of_lt_of_le ((Nat.log2_lt (by omega)).mpr h) (by decide)⟩
theorem abs_is (i : Int) : (if i < 0 then -i else i) = (i.natAbs : Int) := by split <;> omega
theorem Sm.neg {x : Int} (h : Sm x) : Sm (-x) := by unfold Sm at *; rw [Int.natAbs_neg]; exact h
/-! ### items of the script -/
theorem at_script {ns : List Int} {i : Int} (h0 : 0 ≤ i) (h : i < (ns.length : Int)) : ∃ v : Int, atI (ns.map V.int) i = some (.int v) ∧ v ∈ ns := by
  have hi : i.toNat < ns.length := by omega
  have ek : i = ((i.toNat : Nat) : Int) := by omega
  have q : atI (ns.map V.int) ((i.toNat : Nat) : Int) = some (.int ns[i.toNat]) := atI_nat (by rw [List.getElem?_map, List.getElem?_eq_getElem hi] <;> rfl)
  rw [← ek] at q
  exact ⟨_, q, List.getElem_mem hi⟩
theorem at_of {xs : List V} {i : Int} {x : V} (h0 : 0 ≤ i) (h : xs[i.toNat]? = some x) : atI xs i = some x := by
  have ek : i = ((i.toNat : Nat) : Int) := by omega
  rw [ek]
  exact atI_nat h
/-- a script as the law has it: a list of at most 63 ints, each of at most 2 ** 20 bits; it is frozen -/
structure Scr (K : PySem.W.Frag) (H : Hp) (a : Addr) (ns : List Int) : Prop where
  sq : (∃ o, H a = some (.frz o (.lst (ns.map V.int)))) ∨ ∃ (o : Obj) (its : Array Value) (n : Nat), K.lookup a = some o ∧ o.cls = .type "list" ∧ o.dict = none ∧ o.data = .seq its n ∧ its.size ≤ sizeLine ∧ Vals (ns.map V.int) its.toList
  few : ns.length ≤ 63
  bit : ∀ n ∈ ns, bits n ≤ 1048576
theorem Scr.l {K : PySem.W.Frag} {H : Hp} {a : Addr} {ns : List Int} (S : Scr K H a ns) : SqL K H a (ns.map V.int) := S.sq.elim (fun h => .inl (.inr h)) .inr
theorem Scr.ts {K : PySem.W.Frag} {H H' : Hp} {a : Addr} {ns : List Int} (S : Scr K H a ns) (e : Tst H H') : Scr K H' a ns := ⟨S.sq.elim (fun ⟨o, h⟩ => .inl ⟨o, e.f _ _ _ h⟩) .inr, S.few, S.bit⟩
theorem scr_of {K : PySem.W.Frag} {H : Hp} {a : Addr} {ns : List Int} (O : Only H) (h : SqL K H a (ns.map V.int)) (few : ns.length ≤ 63) (bit : ∀ n ∈ ns, bits n ≤ 1048576) : Scr K H a ns := by
  refine ⟨?_, few, bit⟩
  rcases h with (h | h) | h
  · exfalso
    rcases O a with z | ⟨o, xs, z⟩
    · rw [h] at z; cases z
    · rw [h] at z; cases z
  · exact .inl h
  · exact .inr h
theorem same_new {H : Hp} {p : Addr} (h : H p = none) (o : HO) : Same H (upd H p o) := fun b u q => by rw [upd_ne (ne_of_none q h)]; exact q
/-- a change at what was not there at first -/
theorem same_mut {H H' : Hp} {l : Addr} (e : Same H H') (h : H l = none) (o : HO) : Same H (upd H' l o) := fun b u q => by rw [upd_ne (ne_of_none q h)]; exact e b u q
/-! ### fractions, stretches, lines as data -/
def frD (p q : Int) : PyData := .tuple [.int p, .int q]
def stD (s : St4) : PyData := .tuple [frD s.p s.q, .int s.m, .int s.h]
def lnD (L : List St4) : PyData := .tuple (L.map stD)
section
variable {K : PySem.W.Frag} {H H' : Hp} {a : Addr} {v e : V} {p q m h : Int} {s : St4} {L : List St4}
theorem fr_mk (g : SqT K H a [.int p, .int q]) : Dat K H (frD p q) (.ref a) := ⟨a, _, rfl, g, _, _, rfl, rfl, _, _, rfl, rfl, rfl⟩
theorem fr_el (g : Dat K H (frD p q) v) : ∃ a, v = .ref a ∧ SqT K H a [.int p, .int q] := by
  obtain ⟨a, xs, rfl, g, x, r, rfl, hx, y, t, rfl, hy, ht⟩ := g
  cases (show x = V.int p from hx)
  cases (show y = V.int q from hy)
  cases (show t = [] from ht)
  exact ⟨a, rfl, g⟩
theorem st_mk (g : SqT K H a [e, .int s.m, .int s.h]) (f : Dat K H (frD s.p s.q) e) : Dat K H (stD s) (.ref a) := ⟨a, _, rfl, g, _, _, rfl, f, _, _, rfl, rfl, _, _, rfl, rfl, rfl⟩
theorem st_el (g : Dat K H (stD s) v) : ∃ a e, v = .ref a ∧ SqT K H a [e, .int s.m, .int s.h] ∧ Dat K H (frD s.p s.q) e := by
  obtain ⟨a, xs, rfl, g, x, r, rfl, hx, y, t, rfl, hy, z, u, rfl, hz, hu⟩ := g
  cases (show y = V.int s.m from hy)
  cases (show z = V.int s.h from hz)
  cases (show u = [] from hu)
  exact ⟨a, x, rfl, g, hx⟩
theorem ln_at {xs : List V} (g : DatAll K H (L.map stD) xs) {i : Nat} (h : L[i]? = some s) : ∃ x, xs[i]? = some x ∧ Dat K H (stD s) x := g.get (by rw [List.getElem?_map, h]; rfl)
theorem ln_at' {xs : List V} (g : DatAll K H (L.map stD) xs) {i : Nat} {x : V} (h : xs[i]? = some x) : ∃ s, L[i]? = some s ∧ Dat K H (stD s) x := by
  obtain ⟨d, e1, e2⟩ := g.get' h
  rw [List.getElem?_map] at e1
  cases z : L[i]? with
  | none => rw [z] at e1; cases e1
  | some s => rw [z] at e1; cases e1; exact ⟨s, rfl, e2⟩
theorem ln_len {xs : List V} (g : DatAll K H (L.map stD) xs) : xs.length = L.length := by rw [g.len, List.length_map]
end
theorem fr_lay (p q : Int) : (frD p q).canLay0 = true := by simp [frD, PyData.canLay0, PyData.canLayAll0]
theorem fr_depth (p q : Int) : (frD p q).depth = 1 := by simp [frD, PyData.depth, PyData.depthAll]
theorem st_lay (s : St4) : (stD s).canLay0 = true := by simp [stD, PyData.canLay0, PyData.canLayAll0, fr_lay]
theorem st_depth (s : St4) : (stD s).depth = 2 := by simp [stD, PyData.depth, PyData.depthAll, fr_depth]
theorem ln_shaped (L : List St4) : SeqAt.shaped (lnD L) = true := by
  have h1 := lay_map st_lay L
  have h2 := depth_map (f := stD) (n := 2) (fun s => by rw [st_depth]; exact Nat.le_refl _) L
  have h3 : PyData.depthAll (L.map stD) + 1 ≤ 64 := by omega
  simp only [SeqAt.shaped, lnD, PyData.canLay0, h1, PyData.depth, Bool.true_and]
  exact decide_eq_true h3
theorem lnl_shaped (L : List St4) : SeqAt.shaped (.list (L.map stD)) = true := by
  have h1 := lay_map st_lay L
  have h2 := depth_map (f := stD) (n := 2) (fun s => by rw [st_depth]; exact Nat.le_refl _) L
  have h3 : PyData.depthAll (L.map stD) + 1 ≤ 64 := by omega
  simp only [SeqAt.shaped, PyData.canLay0, h1, PyData.depth, Bool.true_and]
  exact decide_eq_true h3
theorem fr_shaped (p q : Int) : SeqAt.shaped (frD p q) = true := by simp [SeqAt.shaped, fr_lay, fr_depth]
theorem fr_eqv (p q r s : Int) : PyData.eqv (frD p q) (frD r s) = decide (p = r ∧ q = s) := by
  simp only [frD, PyData.eqv, PyData.eqvAll, Bool.and_true]
  by_cases h1 : p = r <;> by_cases h2 : q = s <;> simp [h1, h2]
theorem st_eqv (s t : St4) : PyData.eqv (stD s) (stD t) = decide (s = t) := by
  obtain ⟨p, q, m, h⟩ := s
  obtain ⟨p', q', m', h'⟩ := t
  simp only [stD, PyData.eqv, PyData.eqvAll, Bool.and_true, fr_eqv, St4.mk.injEq]
  by_cases h1 : p = p' <;> by_cases h2 : q = q' <;> by_cases h3 : m = m' <;> by_cases h4 : h = h' <;> simp [h1, h2, h3, h4]
mutual
theorem eqv_self : ∀ d : PyData, d.canLay0 = true → PyData.eqv d d = true
  | .none, _ => by simp [PyData.eqv]
  | .bool _, _ => by simp [PyData.eqv]
  | .int _, _ => by simp [PyData.eqv]
  | .str _, _ => by simp [PyData.eqv]
  | .list xs, h => by simp only [PyData.eqv]; exact eqvAll_self xs (by simpa [PyData.canLay0] using h)
  | .tuple xs, h => by simp only [PyData.eqv]; exact eqvAll_self xs (by simpa [PyData.canLay0] using h)
  | .dict _, h => by simp [PyData.canLay0] at h
theorem eqvAll_self : ∀ xs : List PyData, PyData.canLayAll0 xs = true → PyData.eqvAll xs xs = true
  | [], _ => by simp [PyData.eqvAll]
  | x :: xs, h => by
    have h' : x.canLay0 = true ∧ PyData.canLayAll0 xs = true := by simpa [PyData.canLayAll0] using h
    simp [PyData.eqvAll, eqv_self x h'.1, eqvAll_self xs h'.2]
end
theorem eqv_shaped {d : PyData} (h : SeqAt.shaped d = true) : PyData.eqv d d = true := eqv_self d (SeqAt.canLay_of_shaped h)
end Mine


set_option Elab.async false
set_option linter.all false
set_option maxRecDepth 100000
set_option maxHeartbeats 4000000
namespace L2
open PySem
/-- an own class of exceptions, above which others of one's own may stand, with an __init__ of its own -/
def XAt (h : Heap) (C : Addr) (bmB : List Value) (newId : String) (fI : Addr) : Prop :=
  ∃ nm qn N bs bm hd sn sub ab col dd k0 k1 k2 k3 k5 mN oI, h.get? C = some (excClassObj nm qn C N bs bm hd sn sub ab col dd k0 k1 k2 k3 k5 newId) ∧ h.Ns N mN ∧ mN "__init__" = some (.ref fI) ∧ OwnTail h bmB bm ∧ h.get? fI = some oI ∧ oI.cls = .type "function"
section
variable {prog : Program} {w : World} {A : Around} {E : Value → Shared → Prop} {h : Heap} {g : Array GenState} {d : Drawn} {t : Nat} {os : OsState}
variable {C fI : Addr} {bmB : List Value} {B newId initId : String}
/-- what the new exception and its tuple lie as -/
abbrev withTup (h : Heap) (us : List Value) : Heap := h.push { cls := .type "tuple", data := .seq us.toArray }
abbrev withExc (h : Heap) (C : Addr) (us : List Value) : Heap := (withTup h us).push { cls := .ref C, data := .fields #[.ref h.objs.size, .none, .none, .none, .bool false, .none] }
theorem withExc_keeps (us : List Value) {b : Addr} {o : Obj} (e : h.get? b = some o) : (withExc h C us).get? b = some o := Heap.get?_push_of_some _ (Heap.get?_push_of_some _ e)
theorem withExc_at (us : List Value) : (withExc h C us).get? (h.objs.size + 1) = some { cls := .ref C, data := .fields #[.ref h.objs.size, .none, .none, .none, .bool false, .none] } := by heap_get
theorem type_call_init (F : ExcBaseFacts B newId initId bmB) {us : List Value} {Q : Fin → Shared → Prop} (x : XAt h C bmB newId fI) (hz : us.length ≤ sizeLine)
    (hq : wpAny (model prog w) A (call (.ref fI) (.ref (h.objs.size + 1) :: us)) (fun r s' => r = .none ∧ Q (.done (.ret (.ref (h.objs.size + 1)))) s') E ⟨withExc h C us, g, d, t, os⟩) :
    wpAny (model prog w) A (Builtin.«type.__call__» ⟨.ref C :: us, []⟩) Q E ⟨h, g, d, t, os⟩ := by
  obtain ⟨nm, qn, N, bs, bm, hd, sn, sub, ab, col, dd, k0, k1, k2, k3, k5, mN, oI, hC, hn, hi, T, hfI, hfc⟩ := x
  have hself : (Value.ref C :: bm).contains (.ref C) = true := by simp
  have hC2 := withExc_keeps (C := C) us hC
  have hn2 : (withExc h C us).Ns N mN := hn.keeps fun b o e => withExc_keeps us e
  have T2 : OwnTail (withExc h C us) bmB bm := T.keeps fun b o e => withExc_keeps us e
  have he2 := withExc_at (h := h) (C := C) us
  repeat (first | with_reducible refine wpAny_loadPart_at hC ?_ | with_reducible refine wpAny_madeBy_exc hC ?_ | wp_step)
  refine codeAny_call_builtin_code (Code.quiet_builtin _ F.quiet) (wpAny_check_new_subT F T hC (codeAny_exc_new_subT F T hC ?_ hz))
  show wpAny _ _ _ _ _ _
  unfold isInstance
  repeat (first | with_reducible refine wpAny_loadPart_at he2 ?_ | (with_reducible refine wpAny_isSubtype_exc hC2 ?_; rw [hself]) | wp_step)
  show wpAny _ _ (typeLookup (.ref C) _) _ _ _
  refine wpAny_typeLookup_tail hC2 hn2 T2 F.mroIs F.init.lookup ?_
  rw [hi]
  refine wpAny_holding (wpAny_bind ?_)
  unfold bindSpecial
  refine wpAny_bind (wpAny_typeOf (T := "function") ⟨_, withExc_keeps us hfI, hfc⟩ ?_)
  rw [if_pos (by decide)]
  refine wpAny_pure (wpAny_bind (wpAny_mono hq (fun r s' z => ?_) fun _ _ z => z))
  obtain ⟨rfl, z⟩ := z
  wp_walk
  exact z
theorem call_init (F : ExcBaseFacts B newId initId bmB) {us : List Value} {Q : Value → Shared → Prop} (x : XAt h C bmB newId fI) (hz : us.length ≤ sizeLine)
    (hq : wpAny (model prog w) (A.under (.builtin "type.__call__" ⟨.ref C :: us, []⟩)) (call (.ref fI) (.ref (h.objs.size + 1) :: us)) (fun r s' => r = .none ∧ Q (.ref (h.objs.size + 1)) s') E ⟨withExc h C us, g, d, t, os⟩) :
    wpAny (model prog w) A (call (.ref C) us) Q E ⟨h, g, d, t, os⟩ := by
  obtain ⟨nm, qn, N, bs, bm, hd, sn, sub, ab, col, dd, k0, k1, k2, k3, k5, mN, oI, hC, r⟩ := id x
  have f1 := tc_lookup
  have f2 := tc_bind (.ref C)
  have hT : (⟨h, g, d, t, os⟩ : Shared).TypeIs (.ref C) "type" := ⟨_, hC, rfl⟩
  refine wpAny_call (codeAny_of_tree ?_)
  show wpAny _ _ (callAny (.ref C) _) _ _ _
  repeat (any_goals (first | assumption | with_reducible refine wpAny_loadPart_at hC ?_ | wp_step))
  exact ⟨rfl, codeAny_call_builtin_at (Code.quiet_builtin _ (by decide +kernel)) entry_typeCall (wpAny_check_type_call_sub hC (type_call_init F x hz hq))⟩
end
end L2


set_option Elab.async false
set_option linter.all false
set_option maxRecDepth 100000
set_option maxHeartbeats 4000000
namespace L2
open PySem
/-! ### an exception on its way, with its own dict: what is known of the object at e -/
def XTr (g base : Heap) (e : Addr) (cl : Value) (dc : Option Addr) (fl : Value) : Prop :=
  ∃ oe vs T oT ts, g.get? e = some oe ∧ (oe.cls = cl ∧ oe.dict = dc) ∧ oe.data = .fields vs ∧ vs[1]? = some (.ref T) ∧ base.get? T = none ∧ T ≠ e ∧ g.get? T = some oT ∧ oT.data = .fields ts ∧ ts[3]? = some fl
def XNote (base : Heap) (l : List Env) (e : Addr) (cl : Value) (dc : Option Addr) (fl : Value) (g g' : Heap) : Prop := base.StaysIn g' ∧ g'.FunFrames base l ∧ XTr g' base e cl dc fl ∧ g.UpToSlots g'
def XFly (base : Heap) (l : List Env) (e : Addr) (cl : Value) (dc : Option Addr) (fl : Value) (g : Heap) : Prop := base.StaysIn g ∧ base.get? e = none ∧ g.FunFrames base l ∧ XTr g base e cl dc fl
theorem no_record {g : Heap} {e b : Addr} {oe o : Obj} {vs : Array Value} (he : g.get? e = some oe) (hd : oe.data = .fields vs) (hb : g.get? b = some o) (n : ∀ ws, o.data ≠ .fields ws) : b ≠ e := fun z => by
  subst z
  rw [he] at hb
  cases hb
  exact n vs hd
theorem dict_mapFields (f : Array Value → Array Value) (o : Obj) : (Obj.mapFields f o).dict = o.dict := by
  obtain ⟨c, d, dt, sl⟩ := o
  cases dt <;> rfl
section
variable {M : Model} {A : Around} {E : Value → Shared → Prop} {s : Shared} {base : Heap} {env : Env} {outer l : List Env} {L e : Addr} {cl fl : Value} {dc : Option Addr} {Q : Unit → Shared → Prop}
/-- a new entry of the traceback is put at the exception's head -/
theorem entered {oe : Obj} {vs : Array Value} {hd0 : Value} {more : Bool} (hfr : A.frames = some (env :: outer)) (hl : s.heap.FunFrames base (env :: outer)) (hf : env.frame = some L)
    (he : s.heap.get? e = some oe) (kb : base.StaysIn s.heap) (en : base.get? e = none) (hd : oe.data = .fields vs) (z1 : 1 < vs.size) (k : ∀ g', XNote base (env :: outer) e oe.cls oe.dict (rawInt L) s.heap g' → Q () { s with heap := g' }) :
    wpAny M A (do let a ← frameOf env; let pl ← entryPlaceOf L more; let b ← EntryCells.newEntry hd0 a .none (rawInt L) .none pl; setField (.ref e) 1 b) Q E s := by
  have nf : e ∉ (env :: outer).filterMap (·.frame) := fun hm => by
    obtain ⟨_, o, ho, n⟩ := hl.mem hm
    exact no_record he hd ho n rfl
  refine wpAny_bind (wpAny_frameOf_fun hfr hl hf fun g1 sm => wpAny_bind (wpAny_entryPlaceOf fun pl hpl => ?_))
  unfold EntryCells.newEntry newFields
  refine wpAny_bind (wpAny_newObj_type ?_ (hpl.sizeOk5 _ _ _ _ _))
  have a1 : g1.get? e = some oe := (sm.2.1 e nf).trans he
  have b1 : base.StaysIn g1 := fun b o z => (sm.2.1 b fun hm => by rw [(hl.mem hm).1] at z; cases z).trans (kb b o z)
  have a2 := Heap.get?_push_of_some (h := g1) { cls := .type "traceback", dict := none, data := .fields ([hd0, .ref L, .none, rawInt L, .none] ++ (if pl.isEmpty then List.replicate 6 Value.none else pl)).toArray } a1
  refine wpAny_setField a2 hd z1 (k _ ?_)
  have ne : g1.objs.size ≠ e := Nat.ne_of_gt (Heap.lt_size a1)
  have d3 := Obj.data_mapFields hd (·.setIfInBounds 1 (Value.ref g1.objs.size))
  have a3 := Heap.get?_update_self (Obj.mapFields (·.setIfInBounds 1 (Value.ref g1.objs.size))) a2 (Obj.isFreed_of_fields d3)
  have t3 := (Heap.get?_update_other (g1.push { cls := .type "traceback", dict := none, data := .fields ([hd0, .ref L, .none, rawInt L, .none] ++ (if pl.isEmpty then List.replicate 6 Value.none else pl)).toArray })
    (Obj.mapFields (·.setIfInBounds 1 (Value.ref g1.objs.size))) (Ne.symm ne)).trans (Heap.get?_push_size g1 rfl)
  have stay : ∀ b o, b ≠ e → g1.get? b = some o → ((g1.push { cls := .type "traceback", dict := none, data := .fields ([hd0, .ref L, .none, rawInt L, .none] ++ (if pl.isEmpty then List.replicate 6 Value.none else pl)).toArray }).update e
      (Obj.mapFields (·.setIfInBounds 1 (Value.ref g1.objs.size)))).get? b = some o := fun b o z hb => by
    rw [Heap.get?_update_other _ _ (Ne.symm z)]
    exact Heap.get?_push_of_some _ hb
  refine ⟨fun b o z => stay b o (fun q => by rw [q, en] at z; cases z) (b1 b o z), hl.of_keeps fun b o hb n => ?_, ?_, fun b o hb n => ?_⟩
  · obtain ⟨sl, z⟩ := sm.2.2 b o hb
    exact ⟨_, stay b _ (no_record he hd hb n) z, rfl⟩
  · exact ⟨_, _, g1.objs.size, _, _, a3, ⟨Obj.cls_mapFields _ _, dict_mapFields _ _⟩, d3, by simp [z1], b1.fresh, ne, t3, rfl, by first | (simp; done) | (rcases hpl with rfl | ⟨_, _, _, _, _, _, _, rfl⟩ <;> simp)⟩
  · obtain ⟨sl, z⟩ := sm.2.2 b o hb
    exact ⟨sl, stay b _ (no_record he hd hb n) z⟩
/-- no frame holds the exception -/
theorem unheld (kb : base.StaysIn s.heap) (hl : s.heap.FunFrames base l) (ht : XTr s.heap base e cl dc fl) (k : ∀ g', XNote base l e cl dc .none s.heap g' → Q () { s with heap := g' }) : wpAny M A (setFlight (.ref e) none) Q E s := by
  obtain ⟨oe, vs, T, oT, ts, he, hc, hd, h1, nT, ne, hT, dT, h3⟩ := ht
  have z3 : 3 < ts.size := (Array.getElem?_eq_some_iff.mp h3).1
  have other : ∀ b, b ≠ T → (s.heap.update T (Obj.mapFields (·.setIfInBounds 3 ((none : Option Addr).elim Value.none fun f => rawInt f)))).get? b = s.heap.get? b := fun b z => Heap.get?_update_other _ _ (Ne.symm z)
  unfold setFlight
  refine wpAny_bind (wpAny_field he hd h1 ?_)
  rw [if_pos (show (Value.ref T != Value.none) = true by simp)]
  refine wpAny_setField hT dT z3 (k _ ⟨fun b o z => (other b fun q => by rw [q, nT] at z; cases z).trans (kb b o z), hl.of_keeps fun b o hb n => ⟨o, (other b (no_record hT dT hb n)).trans hb, rfl⟩, ?_, fun b o hb n => ⟨o.slots, (other b (no_record hT dT hb n)).trans hb⟩⟩)
  exact ⟨oe, vs, T, _, _, (other e (Ne.symm ne)).trans he, hc, hd, h1, nT, ne, Heap.get?_update_self _ hT (Obj.isFreed_of_fields (Obj.data_mapFields dT _)), Obj.data_mapFields dT _, by simp [z3]⟩
/-- the frame's entry, the first one -/
theorem noted_first {oe : Obj} {vs : Array Value} (hfr : A.frames = some (env :: outer)) (hl : s.heap.FunFrames base (env :: outer)) (hf : env.frame = some L) (he : s.heap.get? e = some oe) (kb : base.StaysIn s.heap) (en : base.get? e = none)
    (hd : oe.data = .fields vs) (h1 : vs[1]? = some .none) (k : ∀ g', XNote base (env :: outer) e oe.cls oe.dict (rawInt L) s.heap g' → Q () { s with heap := g' }) : wpAny M A (noteFrame (.ref e) env) Q E s := by
  unfold noteFrame
  simp only [hf]
  refine wpAny_bind (wpAny_field he hd h1 ?_)
  rw [if_neg (by decide)]
  exact entered hfr hl hf he kb en hd (Array.getElem?_eq_some_iff.mp h1).1 k
/-- .. a further one -/
theorem noted_next (hfr : A.frames = some (env :: outer)) (hl : s.heap.FunFrames base (env :: outer)) (hf : env.frame = some L) (ht : XTr s.heap base e cl dc .none) (kb : base.StaysIn s.heap) (en : base.get? e = none)
    (k : ∀ g', XNote base (env :: outer) e cl dc (rawInt L) s.heap g' → Q () { s with heap := g' }) : wpAny M A (noteFrame (.ref e) env) Q E s := by
  obtain ⟨oe, vs, T, oT, ts, he, ⟨rfl, rfl⟩, hd, h1, nT, ne, hT, dT, h3⟩ := ht
  unfold noteFrame
  simp only [hf]
  refine wpAny_bind (wpAny_field he hd h1 ?_)
  rw [if_pos (show (Value.ref T != Value.none) = true by simp)]
  refine wpAny_bind (wpAny_field hT dT h3 ?_)
  rw [if_neg (show ¬ ((Value.none == rawInt L) = true) by simp [rawInt])]
  refine wpAny_bind (wpAny_setField hT dT (Array.getElem?_eq_some_iff.mp h3).1 ?_)
  have other : ∀ b, b ≠ T → (s.heap.update T (Obj.mapFields (·.setIfInBounds 3 Value.none))).get? b = s.heap.get? b := fun b z => Heap.get?_update_other _ _ (Ne.symm z)
  refine entered hfr (hl.of_keeps fun b o hb n => ⟨o, (other b (no_record hT dT hb n)).trans hb, rfl⟩) hf ((other e (Ne.symm ne)).trans he) (fun b o z => (other b fun q => by rw [q, nT] at z; cases z).trans (kb b o z)) en hd (Array.getElem?_eq_some_iff.mp h1).1 fun g' x => k g' ?_
  exact ⟨x.1, x.2.1, x.2.2.1, fun b o hb n => x.2.2.2 b o ((other b (no_record hT dT hb n)).trans hb) n⟩
/-- the exception leaves the frame in which it was raised -/
theorem leaves_first {oe : Obj} {vs : Array Value} (hfr : A.frames = some (env :: outer)) (hl : s.heap.FunFrames base (env :: outer)) (hf : env.frame = some L) (he : s.heap.get? e = some oe) (kb : base.StaysIn s.heap) (en : base.get? e = none)
    (hd : oe.data = .fields vs) (h1 : vs[1]? = some .none) (k : ∀ g', XFly base outer e oe.cls oe.dict .none g' → s.heap.UpToSlots g' → Q () { s with heap := g' }) : wpAny M A (leaving env (.ref e)) Q E s := by
  unfold leaving
  refine wpAny_bind (noted_first hfr hl hf he kb en hd h1 fun g1 ⟨k1, k2, k3, k4⟩ => ?_)
  refine unheld (s := { s with heap := g1 }) k1 k2 k3 fun g2 ⟨j1, ⟨_, _, j2⟩, j3, j4⟩ => ?_
  exact k g2 ⟨j1, en, j2, j3⟩ (k4.trans j4)
/-- .. one through which it goes -/
theorem leaves_next (hfr : A.frames = some (env :: outer)) (hf : env.frame = some L) (x : XFly base (env :: outer) e cl dc .none s.heap) (k : ∀ g', XFly base outer e cl dc .none g' → s.heap.UpToSlots g' → Q () { s with heap := g' }) : wpAny M A (leaving env (.ref e)) Q E s := by
  obtain ⟨f1, f2, f3, f4⟩ := x
  unfold leaving
  refine wpAny_bind (noted_next hfr f3 hf f4 f1 f2 fun g1 ⟨k1, k2, k3, k4⟩ => ?_)
  refine unheld (s := { s with heap := g1 }) k1 k2 k3 fun g2 ⟨j1, ⟨_, _, j2⟩, j3, j4⟩ => ?_
  exact k g2 ⟨j1, f2, j2, j3⟩ (k4.trans j4)
/-- it is looked at by the frame that may catch it; it lands there -/
theorem looked (hfr : A.frames = some (env :: outer)) (hf : env.frame = some L) (x : XFly base (env :: outer) e cl dc .none s.heap) (k : ∀ g', XFly base (env :: outer) e cl dc (rawInt L) g' → s.heap.UpToSlots g' → Q () { s with heap := g' }) : wpAny M A (noteFrame (.ref e) env) Q E s := by
  obtain ⟨f1, f2, f3, f4⟩ := x
  exact noted_next hfr f3 hf f4 f1 f2 fun g1 ⟨k1, k2, k3, k4⟩ => k g1 ⟨k1, f2, k2, k3⟩ k4
theorem landed (x : XFly base l e cl dc fl s.heap) (k : ∀ g', XFly base l e cl dc .none g' → s.heap.UpToSlots g' → Q () { s with heap := g' }) : wpAny M A (setFlight (.ref e) none) Q E s := by
  obtain ⟨f1, f2, f3, f4⟩ := x
  exact unheld f1 f3 f4 fun g1 ⟨k1, k2, k3, k4⟩ => k g1 ⟨k1, f2, k2, k3⟩ k4
end
end L2


set_option Elab.async false
set_option linter.all false
set_option maxRecDepth 100000
set_option maxHeartbeats 4000000
namespace L2
open PySem PySem.Spec PySem.Calls PyProof.Rows PySem.W PySem.Builtin PySem.Builtin.ObjectAttr
/-- above the class stand own ones, then ValueError -/
def overV : List Value → Bool
  | [] => false
  | v :: r => (v :: r == bmV) || (match v with | .ref _ => overV r | _ => false)
theorem refuse_overV (self : Value) : ∀ {l : List Value}, overV l = true → refuseLoop self "__setattr__" l = pure ()
  | [], e => by cases e
  | v :: r, e => by
    rcases (Bool.or_eq_true _ _).mp e with z | z
    · rw [beq_iff_eq.mp z]
      exact PySem.F.store_ValueError.passes self
    · cases v with
      | ref c => rw [refuseLoop_ref]; exact refuse_overV self z
      | _ => cases z
/-- what the fragment says of such a class, for the fields of its exceptions -/
structure XFld (K : Frag) (C : Addr) : Prop where
  ex : ∃ cd, clsIn K C = some cd ∧ overV cd.mro = true ∧ cd.hasDict = true
  sa : findIn K (.ref C) "__setattr__" = some (some (.builtin "object.__setattr__"))
  ec : ExcCls K C
section
variable {prog : Program} {w : World} {A : Around} {s : Shared} {K : Frag} {x C : Addr} {ox : Obj} {od : Option Obj} {name : Str} {v : Value}
theorem x_osa {R : Result → Shared → Prop} {tk : Tok} (X : K.In s.heap) (c : XFld K C) (I : W.InstAt s.heap x ox C od) (ha : NoAttr K C name)
    (h : wpAny (model prog w) A.in1 (storeInOwnDict (.ref x) (.ref C) (.str name tk) name v false)
      (fun fin s' => match fin with | .done f => R (.ok f) s' | .again c' => c'.quiet = true ∧ codeAny (model prog w) A c' R s') (fun e s' => R (.error e) s') s) :
    codeAny (model prog w) A (.call (.builtin "object.__setattr__") ⟨[.ref x, .str name tk, v], []⟩) R s := by
  obtain ⟨cd, hc, ho, _⟩ := c.ex
  have SF := PySem.F.store_object
  have T := I.type (M := model prog w)
  have inst : Looks (model prog w) s.heap (isInstance (.ref x) (.type "object")) true := T.andThen (looks_mroIn X c.ec.hm)
  have mro : Looks (model prog w) s.heap (mroOf (.ref C)) cd.mro := (looks_clsIn X hc).andThen .now
  refine codeAny_call_builtin SF.slot.plain SF.entry (check_slot (M := model prog w) (s := s) (i := "object.__setattr__") (owner := "object") (n := "__setattr__") (self := .ref x) (rest := [.str name tk, v]) (kw := []) SF.kind SF.split inst (SF.args (.ref x) (.str name tk) v) ?_)
  rw [osa_eq, refuse_eq]
  refine wpAny_bind (wpAny_bind (T.here (wpAny_bind (mro.here ?_))))
  rw [refuse_overV _ ho]
  exact wpAny_pure (wpAny_bind (T.here (wpAny_bind ((looks_findIn X (show findIn K (.ref C) name = some none from ha)).here (wpAny_bind (wpAny_pure h))))))
/-- a field is put where there is a dict already -/
theorem x_put {E : Value → Shared → Prop} {dx : Addr} {mA : Str → Option Value} {ns : List Str} {Q : Unit → Shared → Prop} (X : K.In s.heap) (c : XFld K C) (hx : s.heap.get? x = some ox) (hcl : ox.cls = .ref C) (nc : notCls ox = true) (hd : ox.dict = some dx) (ne : dx ≠ x) (nsd : s.heap.Ns1 dx mA) (ha : NoAttr K C name)
    (hw : PySem.Within mA ns) (hsz : ns.length ≤ sizeLine) (h : ∀ h', h'.Ns1 dx (fun y => if y = name then some v else mA y) → Heap.SameBut dx s.heap h' → Q () { s with heap := h', toks := s.toks + 2 }) :
    wpAny (model prog w) A (setAttr (.ref x) name v) Q E s := by
  obtain ⟨ob, ho, _⟩ := lookIn_ns nsd
  have I : W.InstAt s.heap x ox C (some ob) := ⟨hx, hcl, nc, by rw [hd]; exact ho⟩
  refine set_plain X I c.sa (x_osa (s := { s with toks := s.toks + 1 }) X c I ha ?_)
  obtain ⟨cd, hc, _, hdd⟩ := c.ex
  obtain ⟨oc, odi, oda, osl⟩ := ox
  dsimp only at hcl hd
  subst hcl hd
  refine wpAny_bind (wpAny_pure (wpAny_bind (wpAny_bind (wpAny_loadPart hx (wpAny_bind (W.Looks.here (s := { s with toks := s.toks + 1 }) (looks_clsIn X hc) ?_))))))
  rw [hdd]
  refine wpAny_pure (a := some dx) (wpAny_bind (wpAny_pure (wpAny_bind ?_)))
  refine wpAny_nsSet1 (s := { s with toks := s.toks + 1 }) nsd fun h2 hn2 hs2 => ?_
  obtain ⟨oD, esD, epD, hoD, hdD, hcD⟩ := hn2.count (PySem.Within.cons name v hw)
  refine wpAny_bind (wpAny_lookBehind hoD (by rw [hdD]; exact pastItsLine_dict (Nat.le_trans hcD (by rw [List.length_cons]; omega))) ?_)
  exact wpAny_pure (h _ hn2 hs2)
/-- the first field: the dict is made -/
theorem x_put0 {E : Value → Shared → Prop} {Q : Unit → Shared → Prop} (X : K.In s.heap) (c : XFld K C) (hx : s.heap.get? x = some ox) (hcl : ox.cls = .ref C) (hdt : ∃ vs, ox.data = .fields vs) (hd : ox.dict = none) (ha : NoAttr K C name)
    (h : ∀ h', h'.get? x = some { ox with dict := some s.heap.objs.size } → h'.Ns1 s.heap.objs.size (fun y => if y = name then some v else none) → (∀ b o, b ≠ x → s.heap.get? b = some o → h'.get? b = some o) → Q () { s with heap := h', toks := s.toks + 2 }) :
    wpAny (model prog w) A (setAttr (.ref x) name v) Q E s := by
  obtain ⟨vs, hdt⟩ := hdt
  have I : W.InstAt s.heap x ox C none := ⟨hx, hcl, by unfold notCls; rw [hdt], by rw [hd]; exact True.intro⟩
  refine set_plain X I c.sa (x_osa (s := { s with toks := s.toks + 1 }) X c I ha ?_)
  obtain ⟨cd, hc, _, hdd⟩ := c.ex
  obtain ⟨oc, odi, oda, osl⟩ := ox
  dsimp only at hcl hd hdt
  subst hcl hd hdt
  have lt := Heap.lt_size hx
  have e1 : (s.heap.push { cls := .type "dict", data := .dict #[] }).get? x = some ⟨.ref C, none, .fields vs, osl⟩ := Heap.get?_push_of_some _ hx
  refine wpAny_bind (wpAny_pure (wpAny_bind (wpAny_bind (wpAny_loadPart hx (wpAny_bind (W.Looks.here (s := { s with toks := s.toks + 1 }) (looks_clsIn X hc) ?_))))))
  rw [hdd]
  have go : wpAny (model prog w) A.in1 (do let d ← alloc { cls := .type "dict", data := .dict #[] }; update x fun o => { o with dict := some d }; dictMade (.ref C) x d)
      (fun r s1 => ∃ h1, r = some s.heap.objs.size ∧ s1 = { s with heap := h1, toks := s.toks + 1 } ∧ h1.get? x = some ⟨.ref C, some s.heap.objs.size, .fields vs, osl⟩ ∧ h1.Ns s.heap.objs.size (fun _ => none) ∧ ∀ b o, b ≠ x → s.heap.get? b = some o → h1.get? b = some o) (fun _ _ => False) { s with toks := s.toks + 1 } := by
    refine wpAny_bind (wpAny_alloc' (wpAny_bind (wpAny_update' e1 (wpAny_pure ⟨_, rfl, rfl, ?_, ?_, ?_⟩))))
    · exact Heap.get?_update_self _ e1 rfl
    · exact ⟨_, #[], _, (Heap.get?_update_ne _ _ _ _ (Nat.ne_of_gt lt)).trans (Heap.get?_push_at rfl rfl), rfl, (fun e z => absurd z (by simp)), fun _ => rfl⟩
    · exact fun b o nb z => (Heap.get?_update_ne _ _ _ _ nb).trans (Heap.get?_push_of_some _ z)
  change wpAny (model prog w) A.in1 (do let d ← alloc { cls := .type "dict", data := .dict #[] }; update x fun o => { o with dict := some d }; dictMade (.ref C) x d) _ _ _
  refine wpAny_mono go (fun r s1 z => ?_) (fun _ _ z => z.elim)
  obtain ⟨h1, rfl, rfl, gx, gn, gk⟩ := z
  show wpAny _ _ (storeInDict s.heap.objs.size (.str name s.toks) name v) _ _ _
  unfold storeInDict newKeyGuard
  refine wpAny_bind (wpAny_pure (wpAny_bind (wpAny_nsSet1 (s := { s with heap := h1, toks := s.toks + 1 }) (Heap.Ns1.of_empty gn) fun h2 hn2 hs2 => ?_)))
  obtain ⟨oD, esD, epD, hoD, hdD, hcD⟩ := hn2.count (PySem.Within.cons name v PySem.Within.nil)
  refine wpAny_bind (wpAny_lookBehind hoD (by rw [hdD]; exact pastItsLine_dict (Nat.le_trans hcD (by rw [List.length_cons, List.length_nil, sizeLine_eq]; omega))) ?_)
  refine wpAny_pure (h _ ((hs2.2 x (Nat.ne_of_lt lt)).trans gx) hn2 fun b o nb z => (hs2.2 b (Nat.ne_of_lt (Heap.lt_size z))).trans (gk b o nb z))
end
end L2


set_option Elab.async false
set_option linter.all false
set_option maxRecDepth 100000
set_option maxHeartbeats 4000000
namespace L2
open PySem PySem.Spec PySem.Calls PyProof.Rows PySem.W
/-- an exception that was made and not yet raised: its class, its dict -/
def XNew (e C : Addr) (dc : Option Addr) (h : Heap) : Prop := ∃ t, h.get? e = some { cls := .ref C, dict := dc, data := .fields #[.ref t, .none, .none, .none, .bool false, .none] }
/-- the dict of an exception -/
def XDict (d : Addr) (fs : List (Str × V)) (h : Heap) : Prop := ∃ mA, h.Ns1 d mA ∧ (∀ f, RelO (fs.lookup f) (mA f)) ∧ PySem.Within mA (fs.map (·.1)) ∧ fs.length ≤ 100
/-- an exception that was caught -/
def XGot (e C : Addr) (dc : Option Addr) (h : Heap) : Prop := ∃ o vs, h.get? e = some o ∧ o.cls = .ref C ∧ o.dict = dc ∧ o.data = .fields vs
theorem XNew.stay {e C : Addr} {dc : Option Addr} {h1 h2 : Heap} (x : XNew e C dc h1) (k : ∀ o, h1.get? e = some o → h2.get? e = some o) : XNew e C dc h2 := let ⟨t, z⟩ := x; ⟨t, k _ z⟩
theorem XGot.stay {e C : Addr} {dc : Option Addr} {h1 h2 : Heap} (x : XGot e C dc h1) (k : ∀ o, h1.get? e = some o → h2.get? e = some o) : XGot e C dc h2 := let ⟨o, vs, z, r⟩ := x; ⟨o, vs, k _ z, r⟩
theorem XDict.stay {d : Addr} {fs : List (Str × V)} {h1 h2 : Heap} (x : XDict d fs h1) (k : ∀ o, h1.get? d = some o → h2.get? d = some o) : XDict d fs h2 := by
  obtain ⟨mA, ⟨od, es, ep, e, c⟩, r⟩ := x
  exact ⟨mA, ⟨od, es, ep, k _ e, c⟩, r⟩
theorem XDict.there {d : Addr} {fs : List (Str × V)} {h : Heap} (x : XDict d fs h) : ∃ o, h.get? d = some o := by
  obtain ⟨mA, ⟨od, es, ep, e, c⟩, r⟩ := x
  exact ⟨_, e⟩
section
variable {P : Program} {w : World} {H : Hp} {h : Heap} {e C d : Addr} {dc : Option Addr} {fs : List (Str × V)}
theorem xnew_ok (x : XNew e C dc h) : ObjOk P w H h e (.ext (XNew e C dc)) := ⟨x, let ⟨_, z⟩ := x; ⟨_, z⟩, fun _ _ a k => a.stay k⟩
theorem xdict_ok (x : XDict d fs h) : ObjOk P w H h d (.ext (XDict d fs)) := ⟨x, x.there, fun _ _ a k => a.stay k⟩
end
/-- the field put, as a map and as a list of pairs -/
theorem xdict_put {d : Addr} {fs : List (Str × V)} {h h' : Heap} {mA : Str → Option Value} {f : Str} {y : V} {u : Value} (r : ∀ g, RelO (fs.lookup g) (mA g)) (wi : PySem.Within mA (fs.map (·.1))) (z : fs.length < 100) (ry : RelV y u)
    (n : h'.Ns1 d (fun g => if g = f then some u else mA g)) : XDict d (putF f y fs) h' := by
  refine ⟨_, n, fun g => ?_, fun g hg => ?_, ?_⟩
  · show RelO ((putF f y fs).lookup g) (if g = f then some u else mA g)
    rw [lookup_putF]
    by_cases q : g = f
    · rw [if_pos q, if_pos q]; exact ry
    · rw [if_neg q, if_neg q]; exact r g
  · by_cases q : g = f
    · rw [q]; exact (keys_putF f y fs).1
    · exact (keys_putF f y fs).2 g (wi g fun z => hg (by show (if g = f then some u else mA g) = none; rw [if_neg q]; exact z))
  · have := length_putF f y fs
    omega
section
variable {X : Cx} {pins : List (Addr × Obj)} {σ : St} {H : Hp} {s : Shared} {a C d : Addr} {fs : List (Str × V)} {f : Str} {y : V} {u : Value} {A : Around} {E : Value → Shared → Prop} {Q : Unit → Shared → Prop}
theorem xset_ok (I : Inv X pins σ H s) (ea : H a = some (.ext (XNew a C (some d)))) (ed : H d = some (.ext (XDict d fs))) (ne : d ≠ a) (c : XFld X.K C) (n : NoAttr X.K C f) (hl : fs.length < 100) (ry : RelV y u)
    (h : ∀ s', Inv X pins σ (upd H d (.ext (XDict d (putF f y fs)))) s' → Q () s') : wpAny (model X.prog X.w) A (setAttr (.ref a) f u) Q E s := by
  obtain ⟨⟨t, gx⟩, _, _⟩ := (show ObjOk X.prog X.w H s.heap a (.ext (XNew a C (some d))) from I.hok a _ ea)
  obtain ⟨⟨mA, nsd, r, wi, _⟩, _, _⟩ := (show ObjOk X.prog X.w H s.heap d (.ext (XDict d fs)) from I.hok d _ ed)
  refine x_put I.kIn c gx rfl rfl rfl ne nsd n wi (by rw [List.length_map, sizeLine_eq]; omega) fun h' n' sb => h _ ?_
  have x' := xdict_put (d := d) (h := s.heap) r wi hl ry n'
  exact I.write (x := d) (e := d) (by rw [ed]; exact True.intro) (.inl rfl) (fun b q hb z => (sb.2 b hb).trans z) x'.there (xdict_ok x')
theorem xset0_ok (I : Inv X pins σ H s) (ea : H a = some (.ext (XNew a C none))) (c : XFld X.K C) (n : NoAttr X.K C f) (ry : RelV y u)
    (hL : ∀ b, s.heap.objs.size ≤ b → b ≠ X.env.locals ∧ (∀ x c, X.env.cells.lookup x = some c → c ≠ b) ∧ (∀ p ∈ X.pn ++ pins, p.1 ≠ b) ∧ X.s₀.heap.get? b = none)
    (h : ∀ s' b, H b = none → Inv X pins σ (upd (upd H a (.ext (XNew a C (some b)))) b (.ext (XDict b [(f, y)]))) s' → Q () s') : wpAny (model X.prog X.w) A (setAttr (.ref a) f u) Q E s := by
  obtain ⟨⟨t, gx⟩, _, _⟩ := (show ObjOk X.prog X.w H s.heap a (.ext (XNew a C none)) from I.hok a _ ea)
  refine x_put0 I.kIn c gx rfl ⟨_, rfl⟩ rfl n fun h' g' n' kp => ?_
  have fr : H s.heap.objs.size = none := I.hok.fresh (Nat.le_refl _)
  have ne : s.heap.objs.size ≠ a := fun z => by rw [z, ea] at fr; cases fr
  have x' : XDict s.heap.objs.size [(f, y)] h' := xdict_put (fs := []) (h := s.heap) (mA := fun _ => none) (fun _ => True.intro) (fun g z => absurd rfl z) (by decide) ry n'
  have I1 : Inv X pins σ (upd H a (.ext (XNew a C (some s.heap.objs.size)))) { s with heap := h', toks := s.toks + 2 } :=
    I.write (x := a) (e := a) (by rw [ea]; exact True.intro) (.inl rfl) (fun b q hb z => kp b q hb z) ⟨_, g'⟩ (xnew_ok ⟨t, g'⟩)
  obtain ⟨l1, l2, l3, l4⟩ := hL _ (Nat.le_refl _)
  exact h _ s.heap.objs.size fr (I1.track (by rw [upd_ne ne]; exact fr) l4 l1 l2 l3 x' x'.there fun _ _ z k => z.stay k)
end
/-- what is known of addresses above the heap -/
theorem Inv.above {X : Cx} {pins : List (Addr × Obj)} {σ : St} {H : Hp} {s : Shared} (I : Inv X pins σ H s) : ∀ b, s.heap.objs.size ≤ b → b ≠ X.env.locals ∧ (∀ x c, X.env.cells.lookup x = some c → c ≠ b) ∧ (∀ p ∈ X.pn ++ pins, p.1 ≠ b) ∧ X.s₀.heap.get? b = none := fun b hb => by
  have no : ∀ o, s.heap.get? b = some o → False := fun o z => absurd (Heap.lt_size z) (Nat.not_lt.mpr hb)
  refine ⟨fun z => ?_, fun x c k q => ?_, fun p hp q => ?_, ?_⟩
  · obtain ⟨mm, ⟨o, _, _, g, _⟩, _⟩ := I.loc
    rw [← z] at g
    exact no _ g
  · obtain ⟨v, o, g, _⟩ := I.cell x c k
    rw [q] at g
    exact no _ g
  · obtain ⟨g, _⟩ := I.pin p hp
    rw [q] at g
    exact no _ g
  · exact Heap.get?_none_of_le (Nat.le_trans I.sz hb)
/-! ### self.f = value, in the __init__ of an exception -/
def sFldX (K : Frag) (ta tv : TE) (f : Str) : TS := fun D σ H => tv σ H fun y H1 => ta σ H1 fun x H2 => ∃ a C, x = .ref a ∧ XFld K C ∧ NoAttr K C f ∧
  ((H2 a = some (.ext (XNew a C none)) ∧ ∀ d, H2 d = none → D.nx σ (upd (upd H2 a (.ext (XNew a C (some d)))) d (.ext (XDict d [(f, y)])))) ∨
   ∃ d fs, H2 a = some (.ext (XNew a C (some d))) ∧ H2 d = some (.ext (XDict d fs)) ∧ d ≠ a ∧ fs.length < 100 ∧ D.nx σ (upd H2 d (.ext (XDict d (putF f y fs)))))
theorem ps_fldX {X : Cx} {o value : Expr} {f : Str} {pos pos' : Pos} {ta tv : TE} (ha : PE X o ta) (hv : PE X value tv) (hs : swapsWith value (some (.Attribute o f pos')) pos.line X.env = pure false) : PS X (.Assign [.Attribute o f pos'] value pos) (sFldX X.K ta tv f) := by
  intro pins s σ H D I h
  refine plainObj_wpAny_Assign_Attribute (thn (hv pins s σ H _ I h) fun u s1 ⟨y, H1, I1, ry, q⟩ => thn (ha pins s1 σ H1 _ I1 q) fun ov s2 ⟨x, H2, I2, rx, a, C, ex, c, n, q2⟩ => ?_) hs
  subst ex
  cases (show ov = Value.ref a from rx)
  rcases q2 with ⟨ea, q2⟩ | ⟨d, fs, ea, ed, ne, l, q2⟩
  · exact xset0_ok I2 ea c n ry I2.above fun s3 b hb I3 => ⟨σ, _, I3, q2 b hb⟩
  · exact xset_ok I2 ea ed ne c n l ry fun s3 I3 => ⟨σ, _, I3, q2⟩
end L2


set_option Elab.async false
set_option linter.all false
set_option maxRecDepth 100000
set_option maxHeartbeats 4000000
namespace L2
open PySem PySem.Spec PySem.Calls PyProof.Rows PySem.W
/-! ### what the fragment says of a class of exceptions with an __init__ of its own -/
def excInI (K : Frag) (C : Addr) (bmB : List Value) (newId : String) (fI : Addr) : Bool := match K.lookup C with
  | some ⟨.type "type", _, .cls cl, sl⟩ => (match cl.mro, sl.toList with
    | .ref C1 :: bm, [_, _, _, _, some (.builtin i), _] => (C1 == C && i == newId && !cl.hasDel && tailIn K bmB bm) && (nsOkIn K cl.ns && nsIn K cl.ns "__init__" == some (some (.ref fI)) && isFn K (.ref fI))
    | _, _ => false)
  | _ => false
theorem ns_some_of {K : Frag} {h : Heap} {N : Addr} {m : Str → Option Value} {n : Str} {v : Value} (X : K.In h) (G : h.Ns N m) (q : nsIn K N n = some (some v)) : m n = some v := by
  obtain ⟨o, es, ep, ho, hd, _, hf⟩ := G
  unfold nsIn at q
  split at q
  · rename_i z
    have e := X _ _ z
    rw [ho] at e
    cases e
    cases hd
    split at q
    · rename_i en he
      cases q
      rw [← hf]
      unfold nsFind findBy
      rw [← Array.find?_toList, he]
      rfl
    · split at q <;> cases q
  · cases q
theorem xat_of {K : Frag} {h : Heap} {C fI : Addr} {bmB : List Value} {newId : String} (X : K.In h) (q : excInI K C bmB newId fI = true) : XAt h C bmB newId fI := by
  unfold excInI at q
  split at q
  · rename_i d0 c0 sl0 lk
    split at q
    · rename_i C1 bm1 j0 j1 j2 j3 n1 j5 em es
      simp only [Bool.not_eq_true', beq_iff_eq, Bool.and_eq_true] at q
      obtain ⟨⟨⟨⟨e1, e2⟩, nodel⟩, tl⟩, ⟨ok, ni⟩, fn⟩ := q
      subst e1 e2
      obtain ⟨nm1, bs1, mro1, ns1, qn1, hd1, sn1, sub1, ab1, col1, del1⟩ := c0
      dsimp only at em nodel ok ni
      subst em nodel
      have esl : sl0 = #[j0, j1, j2, j3, some (.builtin n1), j5] := by
        obtain ⟨l0⟩ := sl0
        simp only at es
        rw [es]
      subst esl
      have G : h.Ns ns1 (h.nsMap ns1) := .of_isNs (isNs_of_in X ok)
      obtain ⟨ob, ho, hc⟩ := Option.map_eq_some_iff.mp (show typeIn K (.ref fI) = some (.type "function") from beq_iff_eq.mp fn)
      exact ⟨_, _, _, _, _, _, _, _, _, _, _, _, _, _, _, _, _, ob, X _ _ lk, G, ns_some_of X G ni, tail_of_in X tl, X _ _ ho, hc⟩
    · cases q
  · cases q
/-! ### C(..) of such a class -/
section
variable {X : Cx} {k : Nat} {f C : Addr} {fd : FuncData} {ps : List Str} {sp : Sp} {x : Str} {p pos : Pos} {e : Expr} {es : List Expr} {t : TA}
theorem run_makeX0 {pins : List (Addr × Obj)} {σ : St} {H : Hp} {s : Shared} {R : Hp → Prop} {us : List Value} {vs : List V} (F : FnOk X.prog X.w X.K X.mg X.base CX0 k f fd ps sp) (xi : excInI X.K C bmV "ValueError.__new__" f = true) (hr : Room (k + 1) X.A) (hb : Binds X.K fd ps [])
    (I : Inv X pins σ H s) (r : Vals vs us) (hz : vs.length ≤ 1000) (q : sp (.ref (s.heap.objs.size + 1) :: vs) (upd H (s.heap.objs.size + 1) (.ext (XNew (s.heap.objs.size + 1) C none))) (fun v H2 => v = .non ∧ R H2) E0) : wpAny (model X.prog X.w) X.A (call (.ref C) us) (fun u s' => u = .ref (s.heap.objs.size + 1) ∧ ∃ H', Inv X pins σ H' s' ∧ R H') X.xe s := by
  have lz : us.length ≤ sizeLine := by rw [← r.length, sizeLine_eq]; omega
  have I1 : Inv X pins σ (upd H (s.heap.objs.size + 1) (.ext (XNew (s.heap.objs.size + 1) C none))) { s with heap := withExc s.heap C us, toks := s.toks } :=
    I.laid (fun b o z => withExc_keeps us z) (Nat.le_succ _) (xnew_ok ⟨_, withExc_at us⟩)
  have r1 : Vals (V.ref (s.heap.objs.size + 1) :: vs) (Value.ref (s.heap.objs.size + 1) :: us) := .cons rfl r
  have hl : (Value.ref (s.heap.objs.size + 1) :: us).length = ps.length := by rw [← r1.length]; exact F.len _ _ _ _ q
  have bnd := hb { s with heap := withExc s.heap C us, toks := s.toks } (Value.ref (s.heap.objs.size + 1) :: us) I1.kIn (by rw [List.append_nil]; exact hl)
  rw [List.append_nil] at bnd
  obtain ⟨hh, g, d, tk, os⟩ := s
  refine call_init PySem.F.excBase_ValueError (xat_of I.kIn xi) lz ?_
  refine wpAny_call (codeAny_mono (F.run _ X.stack _ _ ⟨_, []⟩ _ _ _ E0 (hr.make C us []) (I1.env0.make C us []) bnd r1 q) fun res s1 hq => ?_)
  cases res with
  | error ex => exact hq.elim
  | ok fl =>
    cases fl with
    | ret u =>
      obtain ⟨v, H2, I2, rv, ev, q2⟩ := I1.after hq
      subst ev
      exact ⟨rv, rfl, H2, I2, q2⟩
    | next => exact False.elim hq
    | brk => exact False.elim hq
    | cont => exact False.elim hq
end
/-! ### raise of an exception that was made -/
theorem x_raise {prog : Program} {w : World} {A : Around} {E : Value → Shared → Prop} {s : Shared} {env : Env} {ex : Expr} {pos : Pos} {Q : Flow → Shared → Prop} {C : Addr} {bmB : List Value} {newId : String} (hbase : bmB.contains (.type "BaseException") = true) (hh : A.handled = none)
    (h : wpAny (model prog w) A (eval ex env) (fun v s₁ => ∃ e dc, v = .ref e ∧ (∃ fI, XAt s₁.heap C bmB newId fI) ∧ XNew e C dc s₁.heap ∧ E (.ref e) s₁) E s) : wpAny (model prog w) A (exec (.Raise (some ex) none pos) env) Q E s := by
  rw [arm_exec_Raise]
  refine wpAny_bind (wpAny_standAt ?_)
  show wpAny _ _ (raiseStmt env (some (do let v ← eval ex env; standAt pos; pure v)) none) _ _ _
  unfold raiseStmt
  refine wpAny_bind (wpAny_bind (wpAny_mono h (fun v s1 z => wpAny_bind (wpAny_standAt (wpAny_pure ?_))) fun _ _ z => z))
  obtain ⟨e, dc, rfl, ⟨fI, nm, qn, N, bs, bm, hd, sn, sub, ab, col, dd, k0, k1, k2, k3, k5, mN, oI, gC, _, _, T, _, _⟩, ⟨t, ge⟩, hE⟩ := z
  have hcB : (Value.ref C :: bm).contains (.type "BaseException") = true := by rw [List.contains_cons, T.hasType hbase, Bool.or_true]
  obtain ⟨hp, g, d, tk, os⟩ := s1
  repeat (first | with_reducible refine wpAny_loadPart_at ge ?_ | with_reducible refine wpAny_loadPart_at gC ?_ | (with_reducible refine wpAny_isSubtype_exc gC ?_; rw [hcB]) | wp_step)
  exact wpAny_raiseNew_none hh hE
end L2


set_option Elab.async false
set_option linter.all false
set_option maxRecDepth 100000
set_option maxHeartbeats 4000000
namespace L2
open PySem PySem.Spec PySem.Calls PyProof.Rows PySem.W
/-- a is tracked no more -/
def del (a : Addr) (H : Hp) : Hp := fun b => if b = a then none else H b
theorem del_same {a : Addr} {H : Hp} : del a H a = none := if_pos rfl
theorem del_ne {a b : Addr} {H : Hp} (n : b ≠ a) : del a H b = H b := if_neg n
/-! ### how an exception lies behind a call: ea the object, C its class, dc its dict; whatever is tracked, or stood ahead of the call, stands in B, which stays -/
def FliesD (P : Program) (w : World) (outer : List Env) (H : Hp) (s : Shared) (ea : Addr) (C : Value) (dc : Option Addr) (H' : Hp) (s' : Shared) : Prop := ∃ (B : Heap),
  s'.os = s.os ∧ AllBare s'.gens ∧ Un (frs outer) [] H H' s.heap s'.heap ∧ HOk P w H' s'.heap ∧ XFly B outer ea C dc .none s'.heap ∧ H' ea = none ∧ s.heap.get? ea = none ∧
  ∀ b o, s'.heap.get? b = some o → b ∉ frs outer → ((∃ u, H' b = some u) ∨ ∃ o', s.heap.get? b = some o') → B.get? b = some o
def CXd (P : Program) (w : World) : CXT := fun outer H s E e s' => ∃ (ea : Addr) (C : Value) (dc : Option Addr) (H' : Hp), e = .ref ea ∧ FliesD P w outer H s ea C dc H' s' ∧ E C dc H'
section
variable {P : Program} {w : World} {K : PySem.W.Frag} {mg : Str → Option Value} {base : Heap} {N : List Str} {qual : Str} {scope : Scope} {f : Addr} {cd : Value} {A : Around} {outer : List Env} {s : Shared} {H : Hp} {E : XK}
/-- the one that was made here leaves the def -/
theorem leaves_made {pins : List (Addr × Obj)} {σ : St} {H1 : Hp} {s₂ : Shared} {ea C : Addr} {dc : Option Addr} (I : Inv (cxOf (CXd P w) P w K mg base N qual scope f cd A outer s H E) pins σ H1 s₂)
    (hx : H1 ea = some (.ext (XNew ea C dc))) (new : s.heap.get? ea = none) (q : E (.ref C) dc (del ea H1)) : (cxOf (CXd P w) P w K mg base N qual scope f cd A outer s H E).xe (.ref ea) s₂ := by
  have FR : ∀ b, b ∈ frs (envOfC qual scope s.heap.objs.size f cd :: outer) → b = s.heap.objs.size ∨ b ∈ frs outer := fun b z => List.mem_cons.mp (I.stkSub b z)
  have hin : ∀ en ∈ (envOfC qual scope s.heap.objs.size f cd :: outer), ∀ b, en.frame = some b → b ∈ ea :: frs (envOfC qual scope s.heap.objs.size f cd :: outer) := fun en he b hb => List.mem_cons_of_mem _ (List.mem_filterMap.mpr ⟨en, he, hb⟩)
  obtain ⟨⟨t, ge⟩, _, _⟩ := (show ObjOk P w H1 s₂.heap ea (.ext (XNew ea C dc)) from I.hok ea _ hx)
  show wpAny (model P w) (A.deeper (envOfC qual scope s.heap.objs.size f cd)) (leaving (envOfC qual scope s.heap.objs.size f cd) (.ref ea)) _ _ _
  refine leaves_first (base := PySem.W.hideAll s₂.heap (ea :: frs (envOfC qual scope s.heap.objs.size f cd :: outer))) I.ok.frames (PySem.W.funFrames_hide I.stack hin) rfl ge (fun b o z => PySem.W.of_hideAll _ z) (PySem.W.hideAll_none _ List.mem_cons_self) rfl rfl fun h'' fl up => ?_
  have trk : ∀ b u, H1 b = some u → b ∉ frs (envOfC qual scope s.heap.objs.size f cd :: outer) := fun b u e z => by
    have := I.stkFree b z
    rw [e] at this; cases this
  have keepB : ∀ b o, s₂.heap.get? b = some o → b ≠ ea → b ∉ frs (envOfC qual scope s.heap.objs.size f cd :: outer) → h''.get? b = some o := fun b o e z n =>
    fl.1 b o (PySem.W.hideAll_get _ e fun k => (List.mem_cons.mp k).elim z n)
  have neS : ∀ b o, s.heap.get? b = some o → b ≠ ea := fun b o e z => by rw [z, new] at e; cases e
  have notF : ∀ b o, s.heap.get? b = some o → b ∉ frs outer → b ∉ frs (envOfC qual scope s.heap.objs.size f cd :: outer) := fun b o e n z =>
    (FR b z).elim (fun z => absurd (Nat.lt_of_lt_of_le (Heap.lt_size e) I.ok.above) (by rw [z]; exact Nat.lt_irrefl _)) n
  have hthere : ∀ b o, s.heap.get? b = some o → ∃ o', s₂.heap.get? b = some o' := fun b o e => I.base.there b o e (fun z => nomatch z)
  have slotK : ∀ b o, s.heap.get? b = some o → b ∈ frs outer → ∃ sl, h''.get? b = some { o with slots := sl } := fun b o e hb => by
    obtain ⟨sl, e1⟩ := I.base.slot b o e (I.ok.frf b hb) hb (fun z => nomatch z)
    obtain ⟨_, o', e2, nf⟩ := I.ok.funs.mem hb
    have e3 : some o' = some o := e2.symm.trans e
    cases e3
    obtain ⟨sl', e4⟩ := up b _ e1 nf
    exact ⟨sl', e4⟩
  refine ⟨ea, .ref C, dc, del ea H1, rfl, ⟨_, I.os, I.bare, ⟨?_, ?_, ?_, ?_, ?_, ?_, ?_⟩, ?_, fl, del_same, new, ?_⟩, q⟩
  · exact fun b o e n hb z => keepB b o (I.base.keep b o e n hb z) (neS b o e) (notF b o e hb)
  · exact fun b o e n hb z => slotK b o e hb
  · exact fun b o e n z => by rw [del_ne (neS b o e)]; exact I.base.free b o e n z
  · intro b o e z
    by_cases hb : b ∈ frs outer
    · obtain ⟨sl, e1⟩ := slotK b o e hb
      exact ⟨_, e1⟩
    · obtain ⟨o', e1⟩ := hthere b o e
      exact ⟨o', keepB b o' e1 (neS b o e) (notF b o e hb)⟩
  · intro b xs e
    have z := I.base.tups b xs e
    rw [del_ne fun k => by rw [k, hx] at z; cases z]
    exact z
  · intro b o u e
    have z := I.base.frzs b o u e
    rw [del_ne fun k => by rw [k, hx] at z; cases z]
    exact z
  · intro b ps e
    obtain ⟨m, z⟩ := I.base.tbls b ps e
    exact ⟨m, by rw [del_ne fun k => by rw [k, hx] at z; cases z]; exact z⟩
  · intro b u e
    have nb : b ≠ ea := fun z => by rw [z, del_same] at e; cases e
    rw [del_ne nb] at e
    refine (I.hok b u e).stay (fun c v hc e' => ?_) (fun c z => ?_) fun c xs z => ?_
    · have tc : ∃ v', H1 c = some v' ∧ c ≠ ea := hc.elim (fun z => ⟨u, by rw [z]; exact e, by rw [z]; exact nb⟩) fun z => ⟨_, z, fun k => by rw [k, hx] at z; cases z⟩
      obtain ⟨v', z1, z2⟩ := tc
      exact keepB c v e' z2 (trk c v' z1)
    · rw [del_ne fun k => by rw [k, hx] at z; cases z]
      exact z
    · rw [del_ne fun k => by rw [k, hx] at z; cases z]
      exact z
  · intro b o e n hb
    have key : ∃ o2, s₂.heap.get? b = some o2 ∧ b ≠ ea ∧ b ∉ frs (envOfC qual scope s.heap.objs.size f cd :: outer) := by
      rcases hb with ⟨u, hu⟩ | ⟨o', ho⟩
      · have nb : b ≠ ea := fun z => by rw [z, del_same] at hu; cases hu
        rw [del_ne nb] at hu
        obtain ⟨ob, e2⟩ := (I.hok b u hu).there
        exact ⟨ob, e2, nb, trk b u hu⟩
      · obtain ⟨o2, e2⟩ := hthere b o' ho
        exact ⟨o2, e2, neS b o' ho, notF b o' ho n⟩
    obtain ⟨o2, e2, n1, n2⟩ := key
    have e3 := keepB b o2 e2 n1 n2
    rw [e] at e3
    cases e3
    exact PySem.W.hideAll_get _ e2 fun k => (List.mem_cons.mp k).elim n1 n2
/-! ### raise C(..) -/
end
end L2


set_option Elab.async false
set_option linter.all false
set_option maxRecDepth 100000
set_option maxHeartbeats 4000000
namespace L2
open PySem PySem.Spec PySem.Calls PyProof.Rows PySem.W PySem.Builtin.Getset_descriptor
theorem XFly.got {base g : Heap} {l : List Env} {e C : Addr} {fl : Value} {dc : Option Addr} (x : XFly base l e (.ref C) dc fl g) : XGot e C dc g := by
  obtain ⟨_, _, _, oe, vs, _, _, _, a, b, c, _⟩ := x
  exact ⟨oe, vs, a, b.1, b.2, c⟩
theorem XGot.of {e C : Addr} {dc : Option Addr} {h : Heap} (x : XGot e C dc h) : OfCls e C h := let ⟨o, _, a, b, _⟩ := x; ⟨o, a, b⟩
/-! ### a def that may raise an exception with fields -/
structure DefD (P : Program) (w : World) (K : Frag) (mg : Str → Option Value) (base : Heap) (n : Nat) (x : Str) (ps : List Str) (sp : Sp) : Prop where
  ex : ∃ (f : Addr) (fd : FuncData), FnOk P w K mg base (CXd P w) n f fd ps sp ∧ Binds K fd ps [] ∧ keepIn K (.ref f) = true ∧ mg x = some (.ref f)
theorem defd_of {P : Program} {w : World} {K : Frag} {mg : Str → Option Value} {base : Heap} {x : Str} {st : Stmt} {N ps : List Str} {k : Nat} {sp : Sp} (T : TopDef K mg x st) (S : FnScope N ps (defScope st))
    (bd : ∀ (kV doc pm : Value) (an : Option Addr) (cdv ct : Value) (us : List Value), us.length = ps.length → bindArgs (fnOf x x (defArgs st) (defBody st) (defScope st) .none kV doc pm an cdv ct) ⟨us, []⟩ = pure (ps.zip us))
    (len : ∀ vs H Q E, sp vs H Q E → vs.length = ps.length)
    (body : ∀ (f : Addr) (cdv : Value) (A : Around) (outer : List Env) (s : Shared) (H : Hp) (vs : List V) (Q : VK) (E : XK), Room k (A.deeper (envOfC x (defScope st) s.heap.objs.size f cdv)) → sp vs H Q E →
      ∃ t, PSs (cxOf (CXd P w) P w K mg base N x (defScope st) f cdv A outer s H E) (defBody st) t ∧ t { nx := fun _ H' => Q .non H', rt := Q } (start N vs) H) :
    DefD P w K mg base (k + 1) x ps sp := by
  obtain ⟨f, fd, F, m⟩ := T.ex
  obtain ⟨oc, od, kV, doc, pm, an, cdv, ct, osl, rfl, lk, hcd⟩ := id F.ex
  exact ⟨f, _, fn_of lk hcd S len fun A outer s H vs Q E hr h => body f cdv A outer s H vs Q E hr h, F.binds bd, F.kp, m⟩
section
variable {P : Program} {w : World} {K : PySem.W.Frag} {mg : Str → Option Value} {base : Heap} {N : List Str} {qual : Str} {scope : Scope} {f : Addr} {cd : Value} {A : Around} {outer : List Env} {s : Shared} {H : Hp} {E : XK}
/-- a callee's exception goes on through this def -/
theorem pass_on : Passes (CXd P w) (cxOf (CXd P w) P w K mg base N qual scope f cd A outer s H E) E := by
  intro pins σ H1 s1 e s' I hq
  obtain ⟨ea, C, dc, H2, rfl, ⟨B, ho, hgn, un, hok, fl, h0, h1, cov⟩, q⟩ := hq
  have hthere : ∀ b o, s.heap.get? b = some o → ∃ o', s1.heap.get? b = some o' := fun b o z => I.base.there b o z (fun z => nomatch z)
  show wpAny (model P w) (A.deeper (envOfC qual scope s.heap.objs.size f cd)) (leaving (envOfC qual scope s.heap.objs.size f cd) (.ref ea)) _ _ _
  refine leaves_next I.ok.frames rfl fl fun g fl2 up => ?_
  have I2 : Inv (cxOf (CXd P w) P w K mg base N qual scope f cd A outer s H E) pins σ H2 { s' with heap := g, toks := s'.toks } := I.caught (C := C) (ea := ea) (t := ea) ho hgn un hok cov fl2.1 up
  have new : s.heap.get? ea = none := by
    cases z : s.heap.get? ea with
    | none => rfl
    | some o => obtain ⟨o', e'⟩ := hthere ea o z; rw [h1] at e'; cases e'
  refine ⟨ea, C, dc, H2, rfl, ⟨B, I2.os, I2.bare, I2.base, I2.hok, fl2, h0, new, fun b o z n hb => ?_⟩, q⟩
  have nf : b ∉ frs (envOfC qual scope s.heap.objs.size f cd :: outer) := fun k => by
    rcases hb with ⟨u, hu⟩ | ⟨o', ho'⟩
    · have := I2.stkFree b k
      rw [hu] at this; cases this
    · exact (List.mem_cons.mp (I.stkSub b k)).elim (fun y => absurd (Nat.lt_of_lt_of_le (Heap.lt_size ho') I.ok.above) (by rw [y]; exact Nat.lt_irrefl _)) n
  have key : (∃ o1, s'.heap.get? b = some o1) ∧ ((∃ u, H2 b = some u) ∨ ∃ o', s1.heap.get? b = some o') := by
    rcases hb with ⟨u, hu⟩ | ⟨o', ho'⟩
    · exact ⟨(hok b u hu).there, .inl ⟨u, hu⟩⟩
    · obtain ⟨o2, e2⟩ := hthere b o' ho'
      exact ⟨un.there b o2 e2 (fun z => nomatch z), .inr ⟨o2, e2⟩⟩
  obtain ⟨⟨o1, e1⟩, k2⟩ := key
  have e2 := cov b o1 e1 nf k2
  have e3 := fl2.1 b o1 e2
  have e4 : some o = some o1 := z.symm.trans e3
  cases e4
  exact e2
theorem pe_defP {n : Nat} {x : Str} {ps : List Str} {sp : Sp} {e : Expr} {es : List Expr} {t : TA} {p pos : Pos} (D : DefD P w K mg base n x ps sp) (hr : Room n (cxOf (CXd P w) P w K mg base N qual scope f cd A outer s H E).A) (hg : Gl (cxOf (CXd P w) P w K mg base N qual scope f cd A outer s H E) x) (ha : PA (cxOf (CXd P w) P w K mg base N qual scope f cd A outer s H E) (e :: es) t)
    (hdb : (x == ("__debug__" : Str)) = false := by decide) (he : starEach (e :: es) (envOfC qual scope s.heap.objs.size f cd) = (false, eval e (envOfC qual scope s.heap.objs.size f cd)) :: starEach es (envOfC qual scope s.heap.objs.size f cd) := by rfl) (hpl : (backTo pos (starEach es (envOfC qual scope s.heap.objs.size f cd))).any (·.1) = false := by rfl) :
    PE (cxOf (CXd P w) P w K mg base N qual scope f cd A outer s H E) (.Call (.Name x p) (e :: es) [] pos) (tCall sp [] E t) := by
  obtain ⟨g, fd, F, b, kp, m⟩ := D.ex
  exact pe_call F hr hg m kp b .nil pass_on ha hdb he hpl
end
/-! ### e.f of an exception that was caught -/
theorem x_get {prog : Program} {w : World} {A : Around} {E : Value → Shared → Prop} {s : Shared} {K : Frag} {x C dx : Addr} {mA : Str → Option Value} {name : Str} {v : Value} {expr : Bool} {Q : Value → Shared → Prop} (X : K.In s.heap) (c : XFld K C) (g : XGot x C (some dx) s.heap) (n : s.heap.Ns1 dx mA) (ha : NoAttr K C name) (hv : mA name = some v) (hh : handedIn v = true) (h : Q v { s with toks := s.toks + 1 }) :
    wpAny (model prog w) A (getAttr (.ref x) name expr) Q E s := by
  obtain ⟨ox, vs, hx, hcl, hdx, hdt⟩ := g
  obtain ⟨od, ho, hl⟩ := lookIn_ns n
  have I : W.InstAt s.heap x ox C (some od) := ⟨hx, hcl, by unfold notCls; rw [hdt], by rw [hdx]; exact ho⟩
  obtain ⟨cd, hc, _, hdd⟩ := c.ex
  have hf : findObj K C (some od) name = some (.value v) := findObj_own (by unfold hasDictIn; rw [hc]; exact hdd) (show findIn K (.ref C) name = some none from ha) rfl (by rw [hl, hv])
  obtain ⟨hh', g, d, t, os⟩ := s
  have L0 := I.type (M := model prog w)
  have L1 := looks_findIn (M := model prog w) X c.ec.ga
  have L2 := looks_findIn (M := model prog w) X c.ec.gt
  have LB := looks_mroIn (M := model prog w) X c.ec.hb
  have L3 := looks_find (M := model prog w) X I hf
  unfold getAttr getAttrBy
  refine wpAny_bind (wpAny_mkText (wpAny_holding (wpAny_bind (L0.at (wpAny_bind (L1.at ?_))))))
  show wpAny _ _ (getAttrByItsOwn (.ref x) _ (.ref C) (.builtin "BaseException.__getattribute__") _ _) _ _ _
  unfold getAttrByItsOwn
  show wpAny _ _ (typeLookup (.ref C) "__getattr__" >>= _) _ _ _
  refine wpAny_bind (L2.at ?_)
  refine wpAny_bind (wpAny_attempt (wpAny_holding ?_))
  have FB := (F.attrBase_ValueError).ga
  have kd : builtinKind "BaseException.__getattribute__" = some .slot := by decide +kernel
  have spl : splitId "BaseException.__getattribute__" = some ("BaseException", "__getattribute__") := by decide +kernel
  have ar := F.args_bexc_ga (.ref x) (.str name t)
  rw [show callGetattribute (.ref x) (.str name t) (.builtin "BaseException.__getattribute__") expr = boundAndCalled (.builtin "BaseException.__getattribute__") (.ref x) (.str name t) by unfold callGetattribute; cases expr <;> rfl]
  unfold boundAndCalled
  refine wpAny_bind (wpAny_of_eq (FB.bind (.ref x)) ?_)
  show wpAny _ _ (call (.builtin "BaseException.__getattribute__") [.ref x, _]) _ _ _
  refine wpAny_call (codeAny_call_builtin FB.plain F.entry_bexc_ga ?_)
  simp only [checkBuiltinCall, kd, spl]
  unfold isInstance
  refine wpAny_bind (wpAny_bind (L0.at (LB.at ?_)))
  rw [if_neg (by decide)]
  refine wpAny_of_eq ar ?_
  unfold Builtin.«object.__getattribute__»
  refine wpAny_bind (wpAny_pure (wpAny_bind (wpAny_pure (wpAny_bind (L0.at (wpAny_bind (L3.at ?_)))))))
  refine wpAny_pure ?_
  exact handed_on hh h
section
variable {X : Cx}
def tFldG (K : Frag) (ta : TE) (f : Str) : TE := fun σ H Q => ta σ H fun x H1 => ∃ a C d fs v, x = .ref a ∧ H1 a = some (.ext (XGot a C (some d))) ∧ H1 d = some (.ext (XDict d fs)) ∧ XFld K C ∧ NoAttr K C f ∧ fs.lookup f = some v ∧ Q v H1
theorem pe_fldGK {K : Frag} {e : Expr} {f : Str} {pos : Pos} {ta : TE} (eK : X.K = K) (he : PE X e ta) (hb : attributeBase e f X.env (eval e X.env) = eval e X.env) : PE X (.Attribute e f pos) (tFldG K ta f) := by
  subst eK
  intro pins s σ H Q I h
  refine attr_of hb (thn (he pins s σ H _ I h) fun u s1 ⟨x, H1, I1, rx, a, C, d, fs, v, ex, ea, ed, c, n, l, q⟩ => ?_)
  subst ex
  cases (show u = Value.ref a from rx)
  obtain ⟨mA, nsd, r, _, _⟩ := (show ObjOk X.prog X.w H1 s1.heap d (.ext (XDict d fs)) from I1.hok d _ ed).1
  obtain ⟨u, hu, ru⟩ := RelO.some_of (v := v) (o := mA f) (by rw [← l]; exact r f)
  exact x_get I1.kIn c (show ObjOk X.prog X.w H1 s1.heap a (.ext (XGot a C (some d))) from I1.hok a _ ea).1 nsd n hu (handed_of ru) ⟨v, H1, I1.tok _, ru, q⟩
/-! ### isinstance(such an exception, c) -/
theorem call_isiGK {K : Frag} (eK : X.K = K) : CallR X (.builtin "isinstance") (fun xs H Q => ∃ (ea : Addr) (c : V) (cv : Value) (C : Addr) (dc : Option Addr) (k : Bool), xs = [.ref ea, c] ∧ (∀ u, RelV c u → u = cv) ∧ H ea = some (.ext (XGot ea C dc)) ∧ ExcCls K C ∧ kitOne K (.ref C) cv = some k ∧ Q (.bl k) H) := by
  subst eK
  intro pins s σ H xs us Q I r h
  obtain ⟨ea, c, cv, C, dc, k, rfl, hc, he, ec, kt, q⟩ := h
  obtain ⟨u, w', rfl, r1, r2⟩ := vals2 r
  have e := hc _ r2
  subst e
  cases (show u = Value.ref ea from r1)
  obtain ⟨p, _, _⟩ := (show ObjOk X.prog X.w H s.heap ea (.ext (XGot ea C dc)) from I.hok ea _ he)
  exact kia_one (kitx_exc ec) I.kIn p.of kt (fun z => nomatch z) fun tk => ⟨.bl k, H, I.tok tk, rfl, q⟩
end
/-! ### try: z = f(..) except Y as n: suite -/
def tTryG (K : Frag) (i j : Nat) (Dc : Addr) (sp : Sp) (ta : TA) (ts : TS) : TS := fun D σ H => ta σ H fun vs H1 => sp vs H1 (fun v H2 => D.nx (σ.set i (some v)) H2) fun C dc H2 => ∃ Cn, C = .ref Cn ∧ mroIn K Cn (.ref Dc) = some true ∧
  ∀ ea, H2 ea = none → ts { nx := fun σ' H3 => D.nx (σ'.set j none) H3, rt := D.rt, bk := fun σ' H3 => D.bk (σ'.set j none) H3, ct := fun σ' H3 => D.ct (σ'.set j none) H3 } (σ.set j (some (.ref ea))) (upd H2 ea (.ext (XGot ea Cn dc)))
theorem ps_tryG {X : Cx} {m i j : Nat} {x y z n : Str} {ps : List Str} {sp : Sp} {e : Expr} {es : List Expr} {ta : TA} {ts : TS} {p pos pos' pz np hpos tpos : Pos} {b₀ : Stmt} {suite : List Stmt} {Dc : Addr}
    (hxe : X.xe = fun _ _ => False) (hstk : X.stack = X.env :: X.outer) (hfr : X.env.frame = some X.env.locals) (hex : X.ex = [])
    (Df : DefD X.prog X.w X.K X.mg X.base m x ps sp) (hr : Room m X.A) (hg : Gl X x) (ha : PA X (e :: es) ta) (hgy : Gl X y) (hmy : X.mg y = some (.ref Dc)) (cc : CatchCls X.K Dc)
    (hN : X.N.Nodup) (hi : X.N[i]? = some z) (hlz : X.env.scope.names.lookup z = some .local) (hj : X.N[j]? = some n) (hl : X.env.scope.names.lookup n = some .local) (hs : ∀ ea, PSs (X.mark ea) (b₀ :: suite) ts)
    (hdb : (x == ("__debug__" : Str)) = false := by decide) (hdy : (y == ("__debug__" : Str)) = false := by decide) (he : starEach (e :: es) X.env = (false, eval e X.env) :: starEach es X.env := by rfl)
    (hpl : (backTo pos (starEach es X.env)).any (·.1) = false := by rfl) (hsw : swapsWith (.Call (.Name x p) (e :: es) [] pos) (some (.Name z pz)) pos'.line X.env = pure false := by rfl) :
    PS X (.Try [.Assign [.Name z pz] (.Call (.Name x p) (e :: es) [] pos) pos'] [.ExceptHandler (some (.Name y np)) (some n) (b₀ :: suite) hpos] [] [] tpos) (tTryG X.K i j Dc sp ta ts) := by
  intro pins s σ H D I h
  obtain ⟨f, fd, F, b, kp, mf⟩ := Df.ex
  refine wpAny_Try_except (wpAny_execs_cons (wpAny_Assign_Name ?_ hsw))
  refine wpAny_Call_Name_kw (ld_glob I hg mf ?_ hdb)
  refine callWith_K (h₀ := X.base) I.ok.mod.kin kp (wpAny_mono (ha pos pins s σ H _ I h) (fun us s1 z => ?_) (fun _ _ z => by rw [hxe] at z; exact z.elim)) he hpl
  obtain ⟨vs, H1, I1, r, q⟩ := z
  refine ⟨I1.kIn, ?_⟩
  have hlen : us.length = ps.length := by rw [← r.length]; exact F.len _ _ _ _ q
  have bnd : BindsTo s1 fd ⟨us, []⟩ (ps.zip us) := by
    have z := b s1 us I1.kIn (by rw [List.append_nil]; exact hlen)
    rw [List.append_nil] at z
    exact z
  refine wpAny_call (codeAny_mono (F.run X.A X.stack s1 H1 ⟨us, []⟩ us vs _ _ hr I1.env0 bnd r q) fun res s' hq => ?_)
  cases res with
  | ok fl =>
    cases fl with
    | ret u =>
      obtain ⟨v, H2, I2, rv, q2⟩ := I1.after hq
      exact store_ok I2 hN hi (.inl hlz) rv (fun s3 I3 => wpAny_execs_nil (wpAny_execs_nil ⟨_, H2, I3, q2⟩)) (.inr hlz)
    | next => exact False.elim hq
    | brk => exact False.elim hq
    | cont => exact False.elim hq
  | error ex =>
    obtain ⟨ea, C, dc, H2, rfl, ⟨B, ho, hgn, un, hok, fl, h0, h1, cov⟩, Cn, rfl, hm, q3⟩ := hq
    have hfrm : X.A.frames = some (X.env :: X.outer) := by rw [← hstk]; exact I.ok.frames
    rw [hstk] at fl
    refine looked (L := X.env.locals) hfrm hfr fl fun h4 held up4 => ?_
    refine landed (s := { s' with heap := h4 }) held fun h5 fl5 up5' => ?_
    have up5 := up4.trans up5'
    have I5 : Inv X pins σ H2 { s' with heap := h5 } := I1.caught (C := .ref Cn) (ea := ea) (t := ea) (tk := s'.toks) ho hgn un hok cov fl5.1 up5
    refine wpAny_handleBy_cons (codeAny_handlers_test (ld_glob (X := X.mark ea) (I5.mark ea) hgy hmy ?_ hdy)) (by intro z; cases z)
    refine exc_matches (K := X.K) I5.kIn fl5.got.of cc hm ?_
    show codeAny _ _ (.handlers (.ref ea) [.ExceptHandler none (some n) (b₀ :: suite) hpos] X.env) _ _
    refine codeAny_handlers_suite_as ?_
    refine landed (s := { s' with heap := h5 }) fl5 fun h6 fl6 up6 => ?_
    have I6 : Inv X pins σ H2 { s' with heap := h6 } := I1.caught (C := .ref Cn) (ea := ea) (t := ea) (tk := s'.toks) ho hgn un hok cov fl6.1 (up5.trans up6)
    have new : X.s₀.heap.get? ea = none := by
      cases z : X.s₀.heap.get? ea with
      | none => rfl
      | some o => obtain ⟨o', e'⟩ := I1.base.there ea o z (by rw [hex]; simp); rw [h1] at e'; cases e'
    have nl : ea ≠ X.env.locals := fun z => by
      obtain ⟨mm, ⟨o, _, _, g, _⟩, _⟩ := I1.loc
      rw [← z, h1] at g; cases g
    have nc : ∀ z c, X.env.cells.lookup z = some c → c ≠ ea := fun z c k q => by
      obtain ⟨v, o, g, _⟩ := I1.cell z c k
      rw [q, h1] at g; cases g
    have np' : ∀ z ∈ X.pn ++ pins, z.1 ≠ ea := fun z hz q => by
      obtain ⟨g, _⟩ := I1.pin z hz
      rw [q, h1] at g; cases g
    have I7 := I6.track (a := ea) (φ := XGot ea Cn dc) h0 new nl nc np' fl6.got (let ⟨o, _, z, _⟩ := fl6.got; ⟨o, z⟩) fun _ _ z k => z.stay k
    refine store_ok (X := X.mark ea) (I7.mark ea) hN hj (.inl hl) (v := .ref ea) rfl (fun s7 I8 => ?_) (.inr hl)
    refine wpAny_mono (hs ea pins s7 _ _ _ I8 (q3 ea h0)) (fun fl8 s8 q8 => ?_) (fun ee ss z => by
      have z' : X.xe ee ss := z
      rw [hxe] at z'
      exact z'.elim)
    have hcls : (X.env.scope.kind == .class || (X.env.scope.kind == .module && X.env.locals != X.env.globals)) = false := by rw [I.ok.kind]; rfl
    cases fl8 with
    | next =>
      obtain ⟨σ8, H8, J, n8⟩ := q8
      have J' := J.unmark I.ok
      obtain ⟨mm, hn, _⟩ := id J'.loc
      exact wpAny_nameGoes_keeps hl hn hcls fun h9 v9 hn9 hs9 => ⟨_, H8, J'.unname hN hj hn hn9 hs9, n8⟩
    | brk =>
      obtain ⟨σ8, H8, J, n8⟩ := q8
      have J' := J.unmark I.ok
      obtain ⟨mm, hn, _⟩ := id J'.loc
      exact wpAny_nameGoes_keeps hl hn hcls fun h9 v9 hn9 hs9 => ⟨_, H8, J'.unname hN hj hn hn9 hs9, n8⟩
    | cont =>
      obtain ⟨σ8, H8, J, n8⟩ := q8
      have J' := J.unmark I.ok
      obtain ⟨mm, hn, _⟩ := id J'.loc
      exact wpAny_nameGoes_keeps hl hn hcls fun h9 v9 hn9 hs9 => ⟨_, H8, J'.unname hN hj hn hn9 hs9, n8⟩
    | ret u =>
      obtain ⟨v, σ8, H8, J, rv, n8⟩ := q8
      have J' := J.unmark I.ok
      obtain ⟨mm, hn, _⟩ := id J'.loc
      exact wpAny_nameGoes_keeps hl hn hcls fun h9 v9 hn9 hs9 => ⟨v, _, H8, J'.unname hN hj hn hn9 hs9, rv, n8⟩
end L2


set_option Elab.async false
set_option linter.all false
set_option maxRecDepth 100000
set_option maxHeartbeats 4000000
namespace L2
open PySem PySem.Spec PySem.Calls PyProof.Rows PySem.W
/-! ### a function of the text, by its address -/
structure FunE (K : Frag) (x qual : Str) (st : Stmt) (f : Addr) : Prop where
  ex : ∃ fd : FuncData, Fun K x qual st f fd
theorem funE_mk {K : Frag} {x qual : Str} {st : Stmt} {f : Addr} {oc kV doc pm cdv ct : Value} {od an : Option Addr} {osl : Array (Option Value)} (l : K.lookup f = some ⟨oc, od, .func (fnOf x qual (defArgs st) (defBody st) (defScope st) .none kV doc pm an cdv ct), osl⟩)
    (c : codeIn K cdv qual = true) (k : keepIn K (.ref f) = true) : FunE K x qual st f := ⟨⟨_, fun_mk l c k⟩⟩
/-- the class's own facts in one -/
def xfldIn (K : Frag) (C : Addr) : Bool := (clsIn K C).any fun cd => overV cd.mro && cd.hasDict
theorem xfld_mk {K : Frag} {C : Addr} (a : xfldIn K C = true) (s : findIn K (.ref C) "__setattr__" = some (some (.builtin "object.__setattr__"))) (e : ExcCls K C) : XFld K C := by
  refine ⟨?_, s, e⟩
  unfold xfldIn at a
  cases h : clsIn K C with
  | none => rw [h] at a; cases a
  | some cd =>
    rw [h] at a
    have z : (overV cd.mro && cd.hasDict) = true := a
    exact ⟨cd, rfl, (Bool.and_eq_true_iff.mp z).1, (Bool.and_eq_true_iff.mp z).2⟩
/-! ### an exception with the fields word and at, or at alone -/
/-- what an __init__ that puts fields leaves: the exception, its dict with the fields -/
def Put (a C d : Addr) (fs : List (Str × V)) (H H' : Hp) : Prop := H d = none ∧ d ≠ a ∧ H' a = some (.ext (XNew a C (some d))) ∧ H' d = some (.ext (XDict d fs)) ∧ ∀ b, b ≠ a → b ≠ d → H' b = H b
theorem Put.del {a C d : Addr} {fs : List (Str × V)} {H H' : Hp} (n : H a = none) (p : Put a C d fs (upd H a (.ext (XNew a C none))) H') : del a H' = upd H d (.ext (XDict d fs)) ∧ H d = none := by
  obtain ⟨h1, h2, h3, h4, h5⟩ := p
  rw [upd_ne h2] at h1
  refine ⟨funext fun b => ?_, h1⟩
  by_cases z : b = a
  · subst z
    rw [del_same, upd_ne (Ne.symm h2)]
    exact n.symm
  · rw [del_ne z]
    by_cases y : b = d
    · subst y
      rw [upd_same]
      exact h4
    · rw [upd_ne y, h5 b z y, upd_ne z]
def spInit2 (C : Addr) (f g : Str) : Sp := fun vs H Q _ => ∃ a y z, vs = [.ref a, y, z] ∧ H a = some (.ext (XNew a C none)) ∧ ∀ d H', Put a C d [(f, y), (g, z)] H H' → Q .non H'
/-- a class of exceptions with two fields, by its name in the text -/
structure XC2 (P : Program) (w : World) (K : Frag) (mg : Str → Option Value) (base : Heap) (x : Str) (C : Addr) (f g : Str) : Prop where
  m : mg x = some (.ref C)
  kc : keepIn K (.ref C) = true
  ex : ∃ (fI : Addr) (fd : FuncData) (ps : List Str), FnOk P w K mg base CX0 1 fI fd ps (spInit2 C f g) ∧ Binds K fd ps [] ∧ excInI K C bmV "ValueError.__new__" fI = true
  fl : XFld K C
  n1 : NoAttr K C f
  n2 : NoAttr K C g
def tRaise2 (C : Addr) (f g : Str) (E : XK) (ta : TA) : TS := fun _ σ H => ta σ H fun vs H1 => ∃ y z, vs = [y, z] ∧ ∀ d, H1 d = none → E (.ref C) (some d) (upd H1 d (.ext (XDict d [(f, y), (g, z)])))
section
variable {P : Program} {w : World} {K : PySem.W.Frag} {mg : Str → Option Value} {base : Heap} {N : List Str} {qual : Str} {scope : Scope} {f : Addr} {cd : Value} {A : Around} {outer : List Env} {s : Shared} {H : Hp} {E : XK}
theorem ps_raise2 {C : Addr} {x f1 f2 : Str} {e₀ : Expr} {es : List Expr} {ta : TA} {np cpos pos : Pos} (c : XC2 P w K mg base x C f1 f2)
    (hr : Room 2 (cxOf (CXd P w) P w K mg base N qual scope f cd A outer s H E).A) (hg : Gl (cxOf (CXd P w) P w K mg base N qual scope f cd A outer s H E) x) (ha : PA (cxOf (CXd P w) P w K mg base N qual scope f cd A outer s H E) (e₀ :: es) ta)
    (hdb : (x == ("__debug__" : Str)) = false := by decide) (he : starEach (e₀ :: es) (envOfC qual scope s.heap.objs.size f cd) = (false, eval e₀ (envOfC qual scope s.heap.objs.size f cd)) :: starEach es (envOfC qual scope s.heap.objs.size f cd) := by rfl)
    (hpl : (backTo cpos (starEach es (envOfC qual scope s.heap.objs.size f cd))).any (·.1) = false := by rfl) :
    PS (cxOf (CXd P w) P w K mg base N qual scope f cd A outer s H E) (.Raise (some (.Call (.Name x np) (e₀ :: es) [] cpos)) none pos) (tRaise2 C f1 f2 E ta) := by
  obtain ⟨fI, fd, ps, F, b, xi⟩ := c.ex
  intro pins s₁ σ H1 D I h
  refine x_raise (C := C) (bmB := bmV) (newId := "ValueError.__new__") (by decide) (I.ok.hd rfl) ?_
  refine wpAny_Call_Name_kw (ld_glob I hg c.m ?_ hdb)
  refine callWith_K (h₀ := base) I.ok.mod.kin c.kc (thn (ha cpos pins s₁ σ H1 _ I h) fun us s2 ⟨vs, H2, I2, r, y, z, ev, q⟩ => ⟨I2.kIn, ?_⟩) he hpl
  subst ev
  have fr : H2 (s2.heap.objs.size + 1) = none := I2.hok.fresh (Nat.le_succ _)
  refine wpAny_mono (run_makeX0 (R := fun H3 => ∃ dc, H3 (s2.heap.objs.size + 1) = some (.ext (XNew (s2.heap.objs.size + 1) C dc)) ∧ E (.ref C) dc (del (s2.heap.objs.size + 1) H3)) F xi hr b I2 r (by show 2 ≤ 1000; decide) ⟨_, y, z, rfl, upd_same, fun d H3 p => ⟨rfl, some d, p.2.2.1, ?_⟩⟩) (fun v s3 t => ?_) fun _ _ t => t
  · obtain ⟨e1, e2⟩ := p.del fr
    rw [e1]
    exact q d e2
  · obtain ⟨rfl, H3, I3, dc, hx, hE⟩ := t
    have nw : s.heap.get? (s2.heap.objs.size + 1) = none := Heap.get?_none_of_le (Nat.le_trans I2.sz (Nat.le_succ _))
    exact ⟨_, dc, rfl, ⟨fI, xat_of I3.kIn xi⟩, (show ObjOk P w H3 s3.heap _ (.ext (XNew _ C dc)) from I3.hok _ _ hx).1, leaves_made I3 hx nw hE⟩
end
end L2


set_option Elab.async false
set_option linter.all false
set_option maxRecDepth 100000
set_option maxHeartbeats 4000000
namespace L2
open PySem PySem.Spec PySem.Calls PyProof.Rows PySem.W
/-! ### isinstance(an exception that was caught, (A, B, ..)) -/
theorem call_isiGTK {X : Cx} {K : Frag} (eK : X.K = K) : CallR X (.builtin "isinstance") (fun xs H Q => ∃ (ea t C : Addr) (ys : List V) (its : List Value) (dc : Option Addr) (k : Bool), xs = [.ref ea, .ref t] ∧ H t = some (.tup ys) ∧ (∀ us, Vals ys us → us = its) ∧ H ea = some (.ext (XGot ea C dc)) ∧ ExcCls K C ∧ kitAny K (.ref C) its = some k ∧ Q (.bl k) H) := by
  subst eK
  intro pins s σ H xs us Q I r h
  obtain ⟨ea, t, C, ys, its, dc, k, rfl, ht, hi, he, ec, kt, q⟩ := h
  obtain ⟨u, w', rfl, r1, r2⟩ := vals2 r
  cases (show u = Value.ref ea from r1)
  cases (show w' = Value.ref t from r2)
  obtain ⟨p, _, _⟩ := (show ObjOk X.prog X.w H s.heap ea (.ext (XGot ea C dc)) from I.hok ea _ he)
  obtain ⟨_, its', rv, tp⟩ := (show ObjOk X.prog X.w H s.heap t (.tup ys) from I.hok t _ ht)
  cases hi _ rv
  obtain ⟨o, ho, hc, n, hd⟩ := tp
  obtain ⟨oc, od, oda, osl⟩ := o
  dsimp only at hc hd
  subst hc hd
  exact kia_tup (kitx_exc ec) I.kIn p.of ho kt (fun z => nomatch z) fun tk => ⟨.bl k, H, I.tok tk, rfl, q⟩
end L2


set_option Elab.async false
set_option linter.all false
set_option maxRecDepth 100000
set_option maxHeartbeats 4000000

namespace Mine
open PySem L2
def top (i : Nat) : Stmt := PySem.Challenge.pw_leansay_k16_lines_refused.main.body.getD i (.Pass ⟨0, 0, 0, 0⟩)
abbrev s_NoLine_init : Stmt := inClass (top 4) 0
abbrev n_NoLine_init : List Str := ["self", "word", "at"]
theorem sc_NoLine_init : FnScope n_NoLine_init ["self", "word", "at"] (defScope s_NoLine_init) := ⟨rfl, rfl, rfl, by decide +kernel, rfl, by decide +kernel, by decide +kernel⟩
abbrev s_common_factor : Stmt := top 8
abbrev n_common_factor : List Str := ["one", "other", "greater", "lesser", "rest"]
theorem sc_common_factor : FnScope n_common_factor ["one", "other"] (defScope s_common_factor) := ⟨rfl, rfl, rfl, by decide +kernel, rfl, by decide +kernel, by decide +kernel⟩
abbrev s_fraction : Stmt := top 9
abbrev n_fraction : List Str := ["top", "bottom", "factor"]
theorem sc_fraction : FnScope n_fraction ["top", "bottom"] (defScope s_fraction) := ⟨rfl, rfl, rfl, by decide +kernel, rfl, by decide +kernel, by decide +kernel⟩
abbrev s_less : Stmt := top 10
abbrev n_less : List Str := ["one", "other"]
theorem sc_less : FnScope n_less ["one", "other"] (defScope s_less) := ⟨rfl, rfl, rfl, by decide +kernel, rfl, by decide +kernel, by decide +kernel⟩
abbrev s_told_by_stretch : Stmt := top 15
abbrev n_told_by_stretch : List Str := ["stretch", "x"]
theorem sc_told_by_stretch : FnScope n_told_by_stretch ["stretch", "x"] (defScope s_told_by_stretch) := ⟨rfl, rfl, rfl, by decide +kernel, rfl, by decide +kernel, by decide +kernel⟩
abbrev s_must_have_ends : Stmt := top 16
abbrev n_must_have_ends : List Str := ["stretches", "ahead", "k", "stretch"]
theorem sc_must_have_ends : FnScope n_must_have_ends ["stretches"] (defScope s_must_have_ends) := ⟨rfl, rfl, rfl, by decide +kernel, rfl, by decide +kernel, by decide +kernel⟩
abbrev s_must_not_jump : Stmt := top 17
abbrev n_must_not_jump : List Str := ["stretches", "k", "x"]
theorem sc_must_not_jump : FnScope n_must_not_jump ["stretches"] (defScope s_must_not_jump) := ⟨rfl, rfl, rfl, by decide +kernel, rfl, by decide +kernel, by decide +kernel⟩
abbrev s_joined : Stmt := top 18
abbrev n_joined : List Str := ["stretches", "line", "stretch"]
theorem sc_joined : FnScope n_joined ["stretches"] (defScope s_joined) := ⟨rfl, rfl, rfl, by decide +kernel, rfl, by decide +kernel, by decide +kernel⟩
abbrev s_line_made : Stmt := top 19
abbrev n_line_made : List Str := ["stretches"]
theorem sc_line_made : FnScope n_line_made ["stretches"] (defScope s_line_made) := ⟨rfl, rfl, rfl, by decide +kernel, rfl, by decide +kernel, by decide +kernel⟩
abbrev s_l_cell_at : Stmt := top 21
abbrev n_l_cell_at : List Str := ["_law_script", "_law_k", "_law_cell"]
theorem sc_l_cell_at : FnScope n_l_cell_at ["_law_script", "_law_k"] (defScope s_l_cell_at) := ⟨rfl, rfl, rfl, by decide +kernel, rfl, by decide +kernel, by decide +kernel⟩
abbrev s_l_divisor : Stmt := top 22
abbrev n_l_divisor : List Str := ["_law_a", "_law_b", "_law_rest"]
theorem sc_l_divisor : FnScope n_l_divisor ["_law_a", "_law_b"] (defScope s_l_divisor) := ⟨rfl, rfl, rfl, by decide +kernel, rfl, by decide +kernel, by decide +kernel⟩
abbrev s_l_lowest : Stmt := top 23
abbrev n_l_lowest : List Str := ["_law_top", "_law_bottom", "_law_by"]
theorem sc_l_lowest : FnScope n_l_lowest ["_law_top", "_law_bottom"] (defScope s_l_lowest) := ⟨rfl, rfl, rfl, by decide +kernel, rfl, by decide +kernel, by decide +kernel⟩
abbrev s_l_built : Stmt := top 24
abbrev n_l_built : List Str := ["_law_script", "_law_first", "_law_last", "_law_cell", "_law_slope", "_law_height", "_law_stretches", "_law_start", "_law_k", "_law_d", "_law_low", "_law_high", "_law_m"]
theorem sc_l_built : FnScope n_l_built ["_law_script", "_law_first", "_law_last"] (defScope s_l_built) := ⟨rfl, rfl, rfl, by decide +kernel, rfl, by decide +kernel, by decide +kernel⟩
abbrev s_l_changed : Stmt := top 25
abbrev n_l_changed : List Str := ["_law_stretches", "_law_cell", "_law_at", "_law_one", "_law_way", "_law_by", "_law_other", "_law_found", "_law_end"]
theorem sc_l_changed : FnScope n_l_changed ["_law_stretches", "_law_cell"] (defScope s_l_changed) := ⟨rfl, rfl, rfl, by decide +kernel, rfl, by decide +kernel, by decide +kernel⟩
abbrev s_l_amiss : Stmt := top 26
abbrev n_l_amiss : List Str := ["_law_stretches", "_law_start", "_law_k", "_law_one", "_law_end", "_law_ahead"]
theorem sc_l_amiss : FnScope n_l_amiss ["_law_stretches"] (defScope s_l_amiss) := ⟨rfl, rfl, rfl, by decide +kernel, rfl, by decide +kernel, by decide +kernel⟩
abbrev s_l_joined : Stmt := top 27
abbrev n_l_joined : List Str := ["_law_stretches", "_law_found", "_law_one"]
theorem sc_l_joined : FnScope n_l_joined ["_law_stretches"] (defScope s_l_joined) := ⟨rfl, rfl, rfl, by decide +kernel, rfl, by decide +kernel, by decide +kernel⟩
abbrev s_l_heard : Stmt := top 28
abbrev n_l_heard : List Str := ["_law_stretches", "_law_heard_here", "e", "_law_own"]
theorem sc_l_heard : FnScope n_l_heard ["_law_stretches"] (defScope s_l_heard) := ⟨rfl, rfl, rfl, by decide +kernel, rfl, by decide +kernel, by decide +kernel⟩
abbrev s_law : Stmt := top 29
abbrev n_law : List Str := ["_law_script", "_law_stretches", "_law_k", "_law_many", "_law_handed", "_law_found", "_law_due"]
theorem sc_law : FnScope n_law ["_law_script"] (defScope s_law) := ⟨rfl, rfl, rfl, by decide +kernel, rfl, by decide +kernel, by decide +kernel⟩
end Mine

namespace Mine
open PySem L2
local macro_rules | `(tactic| walk_at "mul") => `(tactic| first | exact mulS (by assumption) (by assumption) | exact mulS (by first | assumption | exact sm_of (by omega) | exact sm_of (by decide) | exact sm_mod (by decide) (by decide)) (by first | assumption | exact sm_of (by omega) | exact sm_of (by decide) | exact sm_mod (by decide) (by decide)))
local macro_rules | `(tactic| walk_at "rd1") => `(tactic| first
  | refine ⟨_, rfl, ?_⟩
  | refine ⟨_, _, rfl, rfl, ?_⟩
  | (refine' ⟨_, _, _, _, rfl, rfl, ?sq, ?ia, ?k⟩; (case' sq => first | assumption | exact Scr.l (by assumption)); (case' ia => rfl))
  | refine ⟨rfl, ?_⟩
  | (refine ⟨?m, ?_⟩; (case' m => walk_at "mul"))
  | (refine ⟨?m, ?_⟩; (case' m => show (0 : Int) < _; decide))
  | (refine ⟨?m, ?_⟩; (case' m => exact ⟨by decide, by decide⟩))
  | (refine ⟨?m, ?_⟩; (case' m => exact ⟨by decide, by decide, by decide⟩)))
local macro_rules | `(tactic| walk_at "rd") => `(tactic| repeat walk_at "rd1")
/-! ### what the defs promise -/
def spFactor : Sp := fun vs H Q _ => ∃ a b : Int, vs = [.int a, .int b] ∧ Q (.int (Lo.gc a b)) H
def spLow : Sp := fun vs H Q _ => ∃ t b : Int, vs = [.int t, .int b] ∧ b ≠ 0 ∧ Sm b ∧ ∀ a H', Same H H' → H' a = some (.tup [.int (Lo.lowT t b), .int (Lo.lowB t b)]) → Q (.ref a) H'
def spLess (K : PySem.W.Frag) : Sp := fun vs H Q _ => ∃ (x y : V) (p q r s : Int), vs = [x, y] ∧ Dat K H (frD p q) x ∧ Dat K H (frD r s) y ∧ Sm p ∧ Sm q ∧ Sm r ∧ Sm s ∧ Q (.bl (decide (p * s < r * q))) H
def spCell (K : PySem.W.Frag) : Sp := fun vs H Q _ => ∃ (a : Addr) (ns : List Int) (k : Int), vs = [.ref a, .int k] ∧ Scr K H a ns ∧ 0 ≤ k ∧ k ≤ 100 ∧ ∀ v : Int, 0 ≤ v → v < 10 ^ 18 → Q (.int v) H
def spBuilt (K : PySem.W.Frag) : Sp := fun vs H Q _ => ∃ (a : Addr) (ns : List Int) (f l : Int), vs = [.ref a, .int f, .int l] ∧ Scr K H a ns ∧ 0 ≤ f ∧ f < l ∧ l ≤ 60 ∧
  ∀ (L : List St4) (b : Addr) (us : List V) (H' : Hp), Same H H' → H b = none → H' b = some (.lst us) → DatAll K H' (L.map stD) us → Ln.Line L → (L.length : Int) ≤ l - f → Q (.ref b) H'
section
variable {P : Program} {w : World} {K : PySem.W.Frag} {mg : Str → Option Value} {base : Heap}
theorem ok_factor (T : TopDef K mg "common_factor" s_common_factor) (Z_abs : mg "abs" = none) : Def P w K mg base 1 "common_factor" ["one", "other"] spFactor := by
  refine def_of T sc_common_factor (fun _ _ _ _ _ _ us hl => match us, hl with | [_, _], _ => rfl) (fun vs H Q E h => ?_) (fun f cdv A outer s H vs Q E hr h => ?_)
  · obtain ⟨a, b, rfl, _⟩ := h
    rfl
  obtain ⟨a, b, rfl, q⟩ := h
  have nd := sc_common_factor.nd
  refine ⟨_, (pss_cons (ps_set (i := 2) nd rfl (Or.inl rfl) (pe_callB call_abs rfl Z_abs (by decide +kernel) (pa_cons (pv 0) pa_nil)))
    (pss_cons (ps_set (i := 3) nd rfl (Or.inl rfl) (pe_callB call_abs rfl Z_abs (by decide +kernel) (pa_cons (pv 1) pa_nil)))
    (pss_cons (ps_while PassesOwn.never (pt_cmpR op_ne (pv 3) pe_int (nomark _)) (pss_cons (ps_set (i := 4) nd rfl (Or.inl rfl) (pe_op op_modN (pv 2) (pv 3)))
    (pss_cons (ps_set (i := 2) nd rfl (Or.inl rfl) (pv 3))
    (pss_one (ps_set (i := 3) nd rfl (Or.inl rfl) (pv 4))))))
    (pss_one (ps_ret (pv 2)))))), ?_⟩
  refine ⟨_, rfl, _, rfl, _, rfl, _, rfl, ?_⟩
  rw [abs_is, abs_is]
  refine ⟨fun m σ H' => H' = H ∧ ∃ (g l : Int) (o : Option V), σ = [some (.int a), some (.int b), some (.int g), some (.int l), o] ∧ 0 ≤ g ∧ 0 ≤ l ∧ l.toNat = m ∧ Lo.gc g l = Lo.gc a b, ⟨_, rfl, _, _, _, rfl, by omega, by omega, rfl, Lo.gc_natAbs a b⟩, ?_⟩
  rintro m σ H' ⟨rfl, g, l, o, rfl, hg, hl, rfl, e⟩
  refine ⟨_, rfl, rfl, _, rfl, ?_⟩
  refine ite2 (fun c => ?_) (fun c => ?_)
  · have c' : l ≠ 0 := fun z => by
      rw [z, decide_eq_true (rfl : V.int 0 = V.int 0)] at c
      cases c
    have c2 : 0 < l := by omega
    refine ⟨fun σ' H'' => H'' = H' ∧ σ' = [some (.int a), some (.int b), some (.int l), some (.int (g.fmod l)), some (.int (g.fmod l))], ?_, ?_⟩
    · rintro σ' H'' ⟨rfl, rfl⟩
      have z0 := Int.fmod_nonneg_of_pos g c2
      have z1 := Int.fmod_lt_of_pos g c2
      exact ⟨_, (show (g.fmod l).toNat < l.toNat by omega), rfl, l, g.fmod l, _, rfl, by omega, z0, rfl, by rw [Lo.gc_turn]; exact e⟩
    · exact ⟨_, rfl, _, rfl, _, _, rfl, rfl, c', _, rfl, _, rfl, rfl, rfl⟩
  · have l0 : l = 0 := by
      by_cases z : l = 0
      · exact z
      · exfalso
        refine c ?_
        have n : ¬ (V.int l = V.int 0) := fun q => z (V.int.inj q)
        rw [decide_eq_false n]
        rfl
    subst l0
    rw [Lo.gc_zero hg] at e
    subst e
    exact ⟨_, rfl, q⟩
theorem ok_fraction (T : TopDef K mg "fraction" s_fraction) (D_common_factor : Def P w K mg base 1 "common_factor" ["one", "other"] spFactor) : Def P w K mg base 2 "fraction" ["top", "bottom"] spLow := by
  refine def_of T sc_fraction (fun _ _ _ _ _ _ us hl => match us, hl with | [_, _], _ => rfl) (fun vs H Q E h => ?_) (fun f cdv A outer s H vs Q E hr h => ?_)
  · obtain ⟨t, b, rfl, _⟩ := h
    rfl
  obtain ⟨t, b, rfl, hb, hs, q⟩ := h
  have nd := sc_fraction.nd
  refine ⟨_, (pss_cons (ps_if (pt_cmpR op_eq (pv 1) pe_int (nomark _)) (pss_one ps_never) pss_nil)
    (pss_cons (ps_set (i := 2) nd rfl (Or.inl rfl) (pe_def D_common_factor (hr.mono (by decide)) rfl (pa_cons (pv 0) (pa_cons (pv 1) pa_nil))))
    (pss_cons (ps_if (pt_cmpR op_lt (pv 1) pe_int (nomark _)) (pss_one (ps_set (i := 2) nd rfl (Or.inl rfl) (pe_un un_neg (pv 2)))) pss_nil)
    (pss_one (ps_ret (pe_tup (pa_cons (pe_op op_fdivK (pv 0) (pv 2)) (pa_cons (pe_op op_fdivK (pv 1) (pv 2)) pa_nil)))))))), ?_⟩
  refine ⟨_, rfl, rfl, _, rfl, ?_⟩
  refine ite2 (fun c => absurd (V.int.inj (of_decide_eq_true c)) hb) (fun c => ?_)
  have hg2 : Sm (Lo.sg t b) := Nat.lt_of_le_of_lt (Lo.sg_le hb) hs
  refine ⟨_, rfl, _, rfl, t, b, rfl, ?_⟩
  refine ⟨_, rfl, _, _, rfl, rfl, _, rfl, ?_⟩
  refine ite2 (fun c => ?_) (fun c => ?_)
  · have c2 : b < 0 := of_decide_eq_true c
    have es : -(Lo.gc t b) = Lo.sg t b := by unfold Lo.sg; rw [if_pos c2]
    refine ⟨_, rfl, _, rfl, _, rfl, _, rfl, _, _, rfl, rfl, (by rw [es]; exact div_ok (Lo.sg_ne hb) hg2), _, rfl, _, rfl, _, _, rfl, rfl, (by rw [es]; exact div_ok (Lo.sg_ne hb) hg2), (by show 2 ≤ sizeLine; decide), fun p hp => ?_⟩
    rw [es]
    exact q p _ (same_new hp _) upd_same
  · have c2 : ¬ b < 0 := fun z => c (decide_eq_true z)
    have es : Lo.gc t b = Lo.sg t b := by unfold Lo.sg; rw [if_neg c2]
    refine ⟨_, rfl, _, rfl, _, _, rfl, rfl, (by rw [es]; exact div_ok (Lo.sg_ne hb) hg2), _, rfl, _, rfl, _, _, rfl, rfl, (by rw [es]; exact div_ok (Lo.sg_ne hb) hg2), (by show 2 ≤ sizeLine; decide), fun p hp => ?_⟩
    rw [es]
    exact q p _ (same_new hp _) upd_same
theorem ok_less (T : TopDef K mg "less" s_less) : Def P w K mg base 1 "less" ["one", "other"] (spLess K) := by
  refine def_of T sc_less (fun _ _ _ _ _ _ us hl => match us, hl with | [_, _], _ => rfl) (fun vs H Q E h => ?_) (fun f cdv A outer s H vs Q E hr h => ?_)
  · obtain ⟨x, y, p, q, r, s, rfl, _⟩ := h
    rfl
  obtain ⟨x, y, p, q, r, s, rfl, hx, hy, b1, b2, b3, b4, k⟩ := h
  obtain ⟨a, rfl, sa⟩ := fr_el hx
  obtain ⟨c, rfl, sc⟩ := fr_el hy
  have nd := sc_less.nd
  refine ⟨_, (pss_one (ps_ret (pe_cmpR op_lt (pe_op op_mulK (pe_ix ix_tup (pv 0) pe_int (fun _ _ => rfl)) (pe_ix ix_tup (pv 1) pe_int (fun _ _ => rfl))) (pe_op op_mulK (pe_ix ix_tup (pv 1) pe_int (fun _ _ => rfl)) (pe_ix ix_tup (pv 0) pe_int (fun _ _ => rfl))) (nomark _)))), ?_⟩
  walk_at "rd"
  exact k
theorem ok_cell_at (T : TopDef K mg "_law_cell_at" s_l_cell_at) (Z_len : mg "len" = none) : Def P w K mg base 1 "_law_cell_at" ["_law_script", "_law_k"] (spCell K) := by
  refine def_of T sc_l_cell_at (fun _ _ _ _ _ _ us hl => match us, hl with | [_, _], _ => rfl) (fun vs H Q E h => ?_) (fun f cdv A outer s H vs Q E hr h => ?_)
  · obtain ⟨a, ns, k, rfl, _⟩ := h
    rfl
  obtain ⟨a, ns, k, rfl, S, h0, h1, q⟩ := h
  have nd := sc_l_cell_at.nd
  have hl : (ns.map V.int).length = ns.length := List.length_map _
  have tail : ∃ t, PSs (cxOf CX0 P w K mg base n_l_cell_at "_law_cell_at" (defScope s_l_cell_at) f cdv A outer s H E).nox ((defBody s_l_cell_at).drop 2) t ∧
      ∀ v : Int, 0 ≤ v → v < 10 ^ 18 → t { nx := fun _ H' => Q .non H', rt := Q } [some (.ref a), some (.int k), some (.int v)] H := by
    refine ⟨_, (pss_cons (ps_if (PW.pt (pw_and (pt_cmpR op_gt (pe_callB call_len rfl Z_len (by decide +kernel) (pa_cons (pv 0) pa_nil)) pe_int (nomark _)) (pw_and1 (pt_cmpR op_eq (pe_op op_mod (pe_ix ix_list (pv 0) pe_int (fun _ _ => rfl)) pe_int) pe_int (nomark _))))) (pss_one (ps_ret (pv 2))) pss_nil)
    (pss_one (ps_ret (pe_op op_mod (pe_op op_mulK (pe_op op_mod (pe_op op_add (pe_op op_mulK (pv 2) pe_int) (pe_op op_mulK pe_int (pv 1))) pe_int) pe_int) pe_int)))), fun v v0 v1 => ?_⟩
    have fin : ∀ x : Int, Q (.int (x % 2147483629)) H := fun x => q _ (Int.emod_nonneg _ (by decide)) (Int.lt_trans (Int.emod_lt_of_pos x (by decide)) (by decide))
    have sv : Sm v := sm_of (by omega)
    have sk : Sm k := sm_of (by omega)
    refine ⟨_, rfl, _, _, rfl, .inl ⟨_, S.l, rfl⟩, ?_⟩
    walk_at "rd"
    refine ite2 (fun c => ?_) (fun c => iteF ?_)
    · have c' : (0 : Int) < ((ns.map V.int).length : Nat) := of_decide_eq_true c
      rw [hl] at c'
      obtain ⟨u, hu, mu⟩ := at_script (ns := ns) (Int.le_refl 0) c'
      refine ⟨_, rfl, _, _, _, _, rfl, rfl, S.l, hu, _, _, rfl, rfl, (show (0 : Int) < _ by decide), rfl, _, rfl, ?_⟩
      refine ite2 (fun c2 => ⟨_, rfl, q v v0 v1⟩) (fun c2 => ?_)
      walk_at "rd"
      exact fin _
    · walk_at "rd"
      exact fin _
  obtain ⟨t2, ht2, hq2⟩ := tail
  refine ⟨_, pss_cons (ps_set (i := 2) nd rfl (Or.inl rfl) pe_int) (pss_cons (ps_if (pt_cmpR op_lt (pv 1) (pe_callB call_len rfl Z_len (by decide +kernel) (pa_cons (pv 0) pa_nil)) (nomark _)) (pss_one (ps_set (i := 2) nd rfl (Or.inl rfl) (pe_op op_mod (pe_ix ix_list (pv 0) (pv 1) (fun _ _ => rfl)) (pe_op op_pow pe_int pe_int)))) pss_nil) ht2), ?_⟩
  refine ⟨_, rfl, _, rfl, _, _, rfl, .inl ⟨_, S.l, rfl⟩, _, _, rfl, rfl, _, rfl, ?_⟩
  refine ite2 (fun c => ?_) (fun c => ?_)
  · have c' : k < (((ns.map V.int).length : Nat) : Int) := of_decide_eq_true c
    rw [hl] at c'
    obtain ⟨u, hu, mu⟩ := at_script (ns := ns) h0 c'
    refine ⟨_, rfl, _, rfl, _, _, _, _, rfl, rfl, S.l, hu, _, _, rfl, rfl, ⟨by decide, by decide, by decide⟩, _, _, rfl, rfl, (show (0 : Int) < _ by decide), ?_⟩
    exact hq2 _ (Int.emod_nonneg _ (by decide)) (Int.emod_lt_of_pos _ (by decide))
  · exact hq2 0 (by decide) (by decide)
theorem ok_divisor (T : TopDef K mg "_law_divisor" s_l_divisor) (Z_abs : mg "abs" = none) : Def P w K mg base 1 "_law_divisor" ["_law_a", "_law_b"] spFactor := by
  refine def_of T sc_l_divisor (fun _ _ _ _ _ _ us hl => match us, hl with | [_, _], _ => rfl) (fun vs H Q E h => ?_) (fun f cdv A outer s H vs Q E hr h => ?_)
  · obtain ⟨a, b, rfl, _⟩ := h
    rfl
  obtain ⟨a, b, rfl, q⟩ := h
  have nd := sc_l_divisor.nd
  refine ⟨_, (pss_cons (ps_set (i := 0) nd rfl (Or.inl rfl) (pe_callB call_abs rfl Z_abs (by decide +kernel) (pa_cons (pv 0) pa_nil)))
    (pss_cons (ps_set (i := 1) nd rfl (Or.inl rfl) (pe_callB call_abs rfl Z_abs (by decide +kernel) (pa_cons (pv 1) pa_nil)))
    (pss_cons (ps_while PassesOwn.never (pt_cmpR op_gt (pv 1) pe_int (nomark _)) (pss_cons (ps_set (i := 2) nd rfl (Or.inl rfl) (pe_op op_modN (pv 0) (pv 1)))
    (pss_cons (ps_set (i := 0) nd rfl (Or.inl rfl) (pv 1))
    (pss_one (ps_set (i := 1) nd rfl (Or.inl rfl) (pv 2))))))
    (pss_one (ps_ret (pv 0)))))), ?_⟩
  refine ⟨_, rfl, _, rfl, _, rfl, _, rfl, ?_⟩
  rw [abs_is, abs_is]
  refine ⟨fun m σ H' => H' = H ∧ ∃ (g l : Int) (o : Option V), σ = [some (.int g), some (.int l), o] ∧ 0 ≤ g ∧ 0 ≤ l ∧ l.toNat = m ∧ Lo.gc g l = Lo.gc a b, ⟨_, rfl, _, _, _, rfl, by omega, by omega, rfl, Lo.gc_natAbs a b⟩, ?_⟩
  rintro m σ H' ⟨rfl, g, l, o, rfl, hg, hl, rfl, e⟩
  refine ⟨_, rfl, _, _, rfl, rfl, _, rfl, ?_⟩
  refine ite2 (fun c => ?_) (fun c => ?_)
  · have c2 : 0 < l := of_decide_eq_true c
    refine ⟨fun σ' H'' => H'' = H' ∧ σ' = [some (.int l), some (.int (g.fmod l)), some (.int (g.fmod l))], ?_, ?_⟩
    · rintro σ' H'' ⟨rfl, rfl⟩
      have z0 := Int.fmod_nonneg_of_pos g c2
      have z1 := Int.fmod_lt_of_pos g c2
      exact ⟨_, (show (g.fmod l).toNat < l.toNat by omega), rfl, l, g.fmod l, _, rfl, by omega, z0, rfl, by rw [Lo.gc_turn]; exact e⟩
    · exact ⟨_, rfl, _, rfl, _, _, rfl, rfl, (by omega), _, rfl, _, rfl, rfl, rfl⟩
  · have c2 : ¬ 0 < l := fun z => c (decide_eq_true z)
    have l0 : l = 0 := by omega
    subst l0
    rw [Lo.gc_zero hg] at e
    subst e
    exact ⟨_, rfl, q⟩
theorem ok_lowest (T : TopDef K mg "_law_lowest" s_l_lowest) (D__law_divisor : Def P w K mg base 1 "_law_divisor" ["_law_a", "_law_b"] spFactor) : Def P w K mg base 2 "_law_lowest" ["_law_top", "_law_bottom"] spLow := by
  refine def_of T sc_l_lowest (fun _ _ _ _ _ _ us hl => match us, hl with | [_, _], _ => rfl) (fun vs H Q E h => ?_) (fun f cdv A outer s H vs Q E hr h => ?_)
  · obtain ⟨t, b, rfl, _⟩ := h
    rfl
  obtain ⟨t, b, rfl, hb, hs, q⟩ := h
  have nd := sc_l_lowest.nd
  have tail : ∃ tt, PSs (cxOf CX0 P w K mg base n_l_lowest "_law_lowest" (defScope s_l_lowest) f cdv A outer s H E).nox ((defBody s_l_lowest).drop 1) tt ∧
      ∀ t' b' : Int, 0 < b' → Sm b' → Lo.lowT t' b' = Lo.lowT t b → Lo.lowB t' b' = Lo.lowB t b → tt { nx := fun _ H' => Q .non H', rt := Q } [some (.int t'), some (.int b'), none] H := by
    refine ⟨_, (pss_cons (ps_set (i := 2) nd rfl (Or.inl rfl) (pe_def D__law_divisor (hr.mono (by decide)) rfl (pa_cons (pv 0) (pa_cons (pv 1) pa_nil))))
    (pss_one (ps_ret (pe_tup (pa_cons (pe_op op_fdivK (pv 0) (pv 2)) (pa_cons (pe_op op_fdivK (pv 1) (pv 2)) pa_nil)))))), fun t' b' h0 hs' e1 e2 => ?_⟩
    have es : Lo.gc t' b' = Lo.sg t' b' := by unfold Lo.sg; rw [if_neg (by omega)]
    have hg2 : Sm (Lo.sg t' b') := Nat.lt_of_le_of_lt (Lo.sg_le (by omega)) hs'
    refine ⟨_, rfl, _, rfl, t', b', rfl, ?_⟩
    refine ⟨_, rfl, _, rfl, _, _, rfl, rfl, (by rw [es]; exact div_ok (Lo.sg_ne (by omega)) hg2), _, rfl, _, rfl, _, _, rfl, rfl, (by rw [es]; exact div_ok (Lo.sg_ne (by omega)) hg2), (by show 2 ≤ sizeLine; decide), fun p hp => ?_⟩
    rw [es]
    refine q p _ (same_new hp _) ?_
    rw [upd_same, ← e1, ← e2]
    rfl
  obtain ⟨t2, ht2, hq2⟩ := tail
  refine ⟨_, pss_cons (ps_if (pt_cmpR op_lt (pv 1) pe_int (nomark _)) (pss_cons (ps_set (i := 0) nd rfl (Or.inl rfl) (pe_un un_neg (pv 0)))
    (pss_one (ps_set (i := 1) nd rfl (Or.inl rfl) (pe_un un_neg (pv 1))))) pss_nil) ht2, ?_⟩
  refine ⟨_, rfl, _, _, rfl, rfl, _, rfl, ?_⟩
  refine ite2 (fun c => ?_) (fun c => ?_)
  · have c2 : b < 0 := of_decide_eq_true c
    refine ⟨_, rfl, _, rfl, _, rfl, _, rfl, ?_⟩
    have m1 := Lo.lowT_mul (f := -1) (by decide) t hb
    have m2 := Lo.lowB_mul (f := -1) (by decide) t hb
    rw [Int.neg_one_mul, Int.neg_one_mul] at m1 m2
    exact hq2 (-t) (-b) (by omega) hs.neg m1 m2
  · have c2 : ¬ b < 0 := fun z => c (decide_eq_true z)
    exact hq2 t b (by omega) hs rfl rfl
end
end Mine

namespace Mine
open PySem L2
local macro_rules | `(tactic| walk_at "mul") => `(tactic| first | exact mulS (by assumption) (by assumption) | exact mulS (by first | assumption | exact sm_of (by omega) | exact sm_of (by decide) | exact sm_mod (by decide) (by decide)) (by first | assumption | exact sm_of (by omega) | exact sm_of (by decide) | exact sm_mod (by decide) (by decide)))
local macro_rules | `(tactic| walk_at "rd1") => `(tactic| first
  | refine ⟨_, rfl, ?_⟩
  | refine ⟨_, _, rfl, rfl, ?_⟩
  | (refine' ⟨_, _, _, _, rfl, rfl, ?sq, ?ia, ?k⟩; (case' sq => first | assumption | exact Scr.l (by assumption)); (case' ia => rfl))
  | refine ⟨rfl, ?_⟩
  | (refine ⟨?m, ?_⟩; (case' m => walk_at "mul"))
  | (refine ⟨?m, ?_⟩; (case' m => exact div_ok (by first | assumption | omega) (by assumption)))
  | (refine ⟨?m, ?_⟩; (case' m => show (0 : Int) < _; decide))
  | (refine ⟨?m, ?_⟩; (case' m => exact ⟨by decide, by decide⟩))
  | (refine ⟨?m, ?_⟩; (case' m => exact ⟨by decide, by decide, by decide⟩)))
local macro_rules | `(tactic| walk_at "rd") => `(tactic| repeat walk_at "rd1")
def forBody (s : Stmt) : List Stmt := match s with
  | .For _ _ b _ _ => b
  | _ => []
def stAt (s : Stmt) (i : Nat) : Stmt := (defBody s).getD i (.Pass ⟨0, 0, 0, 0⟩)
/-- between two turns of the maker's loop -/
def BtInv (K : PySem.W.Frag) (H : Hp) (a b : Addr) (f l : Int) (i : Nat) (σ : St) (H' : Hp) : Prop := ∃ (S : List St4) (us : List V) (t : Addr) (p q m h : Int) (o3 o8 o9 o10 o11 o12 : Option V),
  σ = [some (.ref a), some (.int f), some (.int l), o3, some (.int m), some (.int h), some (.ref b), some (.ref t), o8, o9, o10, o11, o12] ∧ Same H H' ∧ H' b = some (.lst us) ∧ DatAll K H' (S.map stD) us ∧ H' t = some (.tup [.int p, .int q]) ∧ Ln.Bt S p q m h i
section
variable {P : Program} {w : World} {K : PySem.W.Frag} {mg : Str → Option Value} {base : Heap}
theorem ok_built (T : TopDef K mg "_law_built" s_l_built) (Z_len : mg "len" = none) (Z_min : mg "min" = none) (Z_range : mg "range" = none) (D__law_cell_at : Def P w K mg base 1 "_law_cell_at" ["_law_script", "_law_k"] (spCell K))
    (D__law_lowest : Def P w K mg base 2 "_law_lowest" ["_law_top", "_law_bottom"] spLow) : Def P w K mg base 3 "_law_built" ["_law_script", "_law_first", "_law_last"] (spBuilt K) := by
  refine def_of T sc_l_built (fun _ _ _ _ _ _ us hl => match us, hl with | [_, _, _], _ => rfl) (fun vs H Q E h => ?_) (fun f cdv A outer s H vs Q E hr h => ?_)
  · obtain ⟨a, ns, f, l, rfl, _⟩ := h
    rfl
  obtain ⟨a, ns, f0, l, rfl, S, f1, f2, l2, q⟩ := h
  have nd := sc_l_built.nd
  -- the last statement of a turn
  have t6 : ∃ t, PSs (cxOf CX0 P w K mg base n_l_built "_law_built" (defScope s_l_built) f cdv A outer s H E).nox ((forBody (stAt s_l_built 6)).drop 6) t ∧
      ∀ (N B : St → Hp → Prop) (b tt : Addr) (S : List St4) (us : List V) (H' : Hp) (cell d low high m h p q : Int) (o8 o12 : Option V) (i : Nat), i < 64 → H b = none → Same H H' → H' b = some (.lst us) → DatAll K H' (S.map stD) us → H' tt = some (.tup [.int p, .int q]) → Ln.Bt S p q m h i →
        2 ≤ d.natAbs → d.natAbs ≤ 100001 → ((0 < d ∧ low = (d * p) / q + 1 ∧ high = d - 1) ∨ (d < 0 ∧ low = d + 1 ∧ high = -(((-d) * p) / q) - 1)) →
        (∀ σ' H'', BtInv K H a b f0 l (i + 1) σ' H'' → N σ' H'') →
        t { nx := N, ct := N, bk := B, rt := Q } [some (.ref a), some (.int f0), some (.int l), some (.int cell), some (.int m), some (.int h), some (.ref b), some (.ref tt), o8, some (.int d), some (.int low), some (.int high), o12] H' := by
    refine ⟨_, (pss_one (ps_if (pt_cmpR op_le (pv 10) (pv 11) (nomark _)) (pss_cons (ps_set (i := 12) nd rfl (Or.inl rfl) (pe_op op_add (pv 10) (pe_op op_modN (pe_op op_fdiv (pv 3) pe_int) (pe_op op_add (pe_op op_sub (pv 11) (pv 10)) pe_int))))
    (pss_cons (ps_set (i := 7) nd rfl (Or.inl rfl) (pe_def D__law_lowest (hr.mono (by decide)) rfl (pa_cons (pv 12) (pa_cons (pv 9) pa_nil))))
    (pss_cons (ps_expr (pe_bm PySem.F.plainAttrs_list PySem.F.slot_list_append PySem.F.type_list_append mt_append (pv 6) (pa_cons (pe_tup (pa_cons (pv 7) (pa_cons (pv 4) (pa_cons (pv 5) pa_nil)))) pa_nil)))
    (pss_cons (ps_set (i := 4) nd rfl (Or.inl rfl) (pe_op op_sub (pv 4) (pv 9)))
    (pss_one (ps_set (i := 5) nd rfl (Or.inl rfl) (pe_op op_add (pv 5) (pv 12)))))))) pss_nil)), ?_⟩
    intro N B b tt S us H' cell d low high m h p q' o8 o12 i hi hb sm hl da ht bt d1 d2 dd n
    walk_at "rd"
    refine ite2 (fun c => ?_) (fun c => ?_)
    · have c' : low ≤ high := of_decide_eq_true c
      have z0 : (0 : Int) < high - low + 1 := by omega
      have y0 := Int.fmod_nonneg_of_pos (cell / 9000000) z0
      have y1 := Int.fmod_lt_of_pos (cell / 9000000) z0
      refine ⟨_, rfl, _, rfl, _, _, rfl, rfl, ⟨by decide, by decide⟩, _, rfl, _, rfl, _, _, rfl, rfl, _, _, rfl, rfl, _, _, rfl, rfl, (by omega), _, _, rfl, rfl, ?_⟩
      have st := bt.step (d := d) (mm := (low + (cell / 9000000).fmod (high - low + 1))) hi d1 d2 (by
        rcases dd with ⟨x1, x2, x3⟩ | ⟨x1, x2, x3⟩
        · exact .inl ⟨x1, by omega, by omega⟩
        · exact .inr ⟨x1, by omega, by omega⟩)
      refine ⟨_, rfl, _, rfl, (low + (cell / 9000000).fmod (high - low + 1)), d, rfl, by omega, sm_of (by omega), fun t2 H2 s2 e2 => ?_⟩
      have hl2 := s2 _ _ hl
      refine ⟨_, rfl, .inl ⟨rfl, _, SqL.of hl2⟩, _, rfl, _, rfl, _, rfl, (by show 3 ≤ sizeLine; decide), fun p3 h3 => ?_⟩
      have s3 := same_new h3 (.tup [.ref t2, .int m, .int h])
      have hl3 := s3 _ _ hl2
      have len : us.length ≤ 1000 := by rw [ln_len da]; have := bt.len; omega
      refine ⟨b, us, _, rfl, rfl, hl3, small1000 len, ?_⟩
      refine ⟨_, rfl, _, rfl, _, _, rfl, rfl, ?_⟩
      refine ⟨_, rfl, _, rfl, _, _, rfl, rfl, ?_⟩
      have t4 : Tst (upd H2 p3 (.tup [.ref t2, .int m, .int h])) (upd (upd H2 p3 (.tup [.ref t2, .int m, .int h])) b (.lst (us ++ [.ref p3]))) := ts_mut hl3
      refine n _ _ ⟨S ++ [⟨Lo.lowT (low + (cell / 9000000).fmod (high - low + 1)) d, Lo.lowB (low + (cell / 9000000).fmod (high - low + 1)) d, m, h⟩], us ++ [.ref p3], t2, Lo.lowT (low + (cell / 9000000).fmod (high - low + 1)) d, Lo.lowB (low + (cell / 9000000).fmod (high - low + 1)) d, m - d, h + (low + (cell / 9000000).fmod (high - low + 1)), _, _, _, _, _, _, rfl, same_mut (sm.trans (s2.trans s3)) hb _, upd_same, ?_, t4.t _ _ (s3 _ _ e2), st⟩
      rw [List.map_append]
      refine (da.ts ((s2.trans s3).ts.trans t4)).snoc ?_
      exact st_mk (s := ⟨Lo.lowT (low + (cell / 9000000).fmod (high - low + 1)) d, Lo.lowB (low + (cell / 9000000).fmod (high - low + 1)) d, m, h⟩) (SqT.of (t4.t _ _ upd_same)) (fr_mk (SqT.of (t4.t _ _ (s3 _ _ e2))))
    · exact n _ _ ⟨S, us, tt, p, q', m, h, _, _, _, _, _, _, rfl, sm, hl, da, ht, bt.skip⟩
  obtain ⟨t6, ht6, hq6⟩ := t6
  have t3 : ∃ t, PSs (cxOf CX0 P w K mg base n_l_built "_law_built" (defScope s_l_built) f cdv A outer s H E).nox ((forBody (stAt s_l_built 6)).drop 3) t ∧
      ∀ (N B : St → Hp → Prop) (b tt : Addr) (S : List St4) (us : List V) (H' : Hp) (cell d m h p q : Int) (o8 o10 o11 o12 : Option V) (i : Nat), i < 64 → H b = none → Same H H' → H' b = some (.lst us) → DatAll K H' (S.map stD) us → H' tt = some (.tup [.int p, .int q]) → Ln.Bt S p q m h i →
        2 ≤ d → d ≤ 100001 → (∀ σ' H'', BtInv K H a b f0 l (i + 1) σ' H'' → N σ' H'') →
        t { nx := N, ct := N, bk := B, rt := Q } [some (.ref a), some (.int f0), some (.int l), some (.int cell), some (.int m), some (.int h), some (.ref b), some (.ref tt), o8, some (.int d), o10, o11, o12] H' := by
    refine ⟨_, pss_cons (ps_set (i := 10) nd rfl (Or.inl rfl) (pe_op op_add (pe_op op_fdivK (pe_op op_mulK (pv 9) (pe_ix ix_tup (pv 7) pe_int (fun _ _ => rfl))) (pe_ix ix_tup (pv 7) pe_int (fun _ _ => rfl))) pe_int)) (pss_cons (ps_set (i := 11) nd rfl (Or.inl rfl) (pe_op op_sub (pv 9) pe_int)) (pss_cons (ps_if (pt_cmpR op_eq (pe_op op_mod (pv 3) pe_int) pe_int (nomark _)) (pss_cons (ps_set (i := 9) nd rfl (Or.inl rfl) (pe_un un_neg (pv 9)))
    (pss_cons (ps_set (i := 10) nd rfl (Or.inl rfl) (pe_op op_add (pv 9) pe_int))
    (pss_one (ps_set (i := 11) nd rfl (Or.inl rfl) (pe_op op_sub (pe_un un_neg (pe_op op_fdivK (pe_op op_mulK (pe_un un_neg (pv 9)) (pe_ix ix_tup (pv 7) pe_int (fun _ _ => rfl))) (pe_ix ix_tup (pv 7) pe_int (fun _ _ => rfl)))) pe_int))))) pss_nil) ht6)), ?_⟩
    intro N B b tt S us H' cell d m h p q' o8 o10 o11 o12 i hi hb sm hl da ht bt d1 d2 n
    have sq : SqT K H' tt [.int p, .int q'] := SqT.of ht
    have b1 := bt.p0
    have b2 := bt.pq
    have b3 := bt.qb
    have sp : Sm p := sm_of (by omega)
    have sq' : Sm q' := sm_of (by omega)
    have sd : Sm d := sm_of (by omega)
    have sdn : Sm (- -d) := sm_of (by omega)
    have q0 : q' ≠ 0 := by omega
    have fd : ∀ x : Int, x.fdiv q' = x / q' := fun x => Int.fdiv_eq_ediv_of_nonneg x (by omega)
    walk_at "rd"
    refine ite2 (fun c => ?_) (fun c => ?_)
    · walk_at "rd"
      exact hq6 N B b tt S us H' cell (-d) _ _ m h p q' _ _ i hi hb sm hl da ht bt (by omega) (by omega) (.inr ⟨by omega, rfl, by rw [fd]⟩) n
    · exact hq6 N B b tt S us H' cell d _ _ m h p q' _ _ i hi hb sm hl da ht bt (by omega) (by omega) (.inl ⟨by omega, by rw [fd], rfl⟩) n
  obtain ⟨t3, ht3, hq3⟩ := t3
  -- from the empty list on
  have r4 : ∃ t, PSs (cxOf CX0 P w K mg base n_l_built "_law_built" (defScope s_l_built) f cdv A outer s H E).nox ((defBody s_l_built).drop 4) t ∧
      ∀ (m h : Int) (o3 : Option V), m.natAbs ≤ 1000000 → h.natAbs ≤ 100000000 → t { nx := fun _ H' => Q .non H', rt := Q } [some (.ref a), some (.int f0), some (.int l), o3, some (.int m), some (.int h), none, none, none, none, none, none, none] H := by
    refine ⟨_, pss_cons (ps_set (i := 6) nd rfl (Or.inl rfl) (pe_lst pa_nil)) (pss_cons (ps_set (i := 7) nd rfl (Or.inl rfl) (pe_tup (pa_cons pe_int (pa_cons pe_int pa_nil)))) (pss_cons (ps_for PassesOwn.never rfl (pi_range2 rfl Z_range (pa_cons (pe_op op_add (pv 1) pe_int) (pa_cons (pe_callB (call_min2 rfl) rfl Z_min (by decide +kernel) (pa_cons (pe_callB call_len rfl Z_len (by decide +kernel) (pa_cons (pv 0) pa_nil)) (pa_cons (pv 2) pa_nil))) pa_nil))) (pg_name (i := 8) nd rfl (Or.inl rfl)) (pss_cons (ps_set (i := 3) nd rfl (Or.inl rfl) (pe_def D__law_cell_at (hr.mono (by decide)) rfl (pa_cons (pv 0) (pa_cons (pv 8) pa_nil)))) (pss_cons (ps_set (i := 9) nd rfl (Or.inl rfl) (pe_op op_add pe_int (pe_op op_mod (pe_op op_fdiv (pv 3) pe_int) pe_int))) (pss_cons (ps_if (pt_cmpR op_eq (pe_op op_mod (pe_op op_fdiv (pv 3) pe_int) pe_int) pe_int (nomark _)) (pss_one (ps_set (i := 9) nd rfl (Or.inl rfl) (pe_op op_add pe_int (pe_op op_mod (pe_op op_fdiv (pv 3) pe_int) pe_int)))) pss_nil) ht3)))) (pss_one (ps_ret (pe_op op_cat (pv 6) (pe_lst (pa_cons (pe_tup (pa_cons (pe_tup (pa_cons pe_int (pa_cons pe_int pa_nil))) (pa_cons (pv 4) (pa_cons (pv 5) pa_nil)))) pa_nil))))))), ?_⟩
    intro m h o3 hm hh
    refine ⟨(by show 0 ≤ sizeLine; decide), fun b hb => ?_⟩
    have s1 := same_new hb (.lst [])
    refine ⟨(by show 2 ≤ sizeLine; decide), fun t0 h0 => ?_⟩
    have s2 := same_new h0 (.tup [.int 0, .int 1])
    have few := S.few
    refine ⟨_, rfl, _, _, rfl, rfl, _, rfl, _, _, rfl, .inl ⟨_, (S.ts (s1.trans s2).ts).l, rfl⟩, _, rfl, _, _, rfl, _, _, rfl, ⟨by omega, by omega, (by rw [List.length_map]; split <;> omega), (by rw [List.length_map]; split <;> omega)⟩, ?_⟩
    have nn : ∀ z : Int, z = (if l < ((ns.map V.int).length : Int) then l else ((ns.map V.int).length : Int)) - (f0 + 1) → z.toNat ≤ 63 ∧ (z.toNat : Int) ≤ l - f0 - 1 := by
      intro z hz
      rw [List.length_map] at hz
      split at hz <;> exact ⟨by omega, by omega⟩
    refine for_range (fun i σ H' => i ≤ 63 ∧ BtInv K H a b f0 l i σ H') ⟨by omega, [], [], t0, 0, 1, m, h, _, _, _, _, _, _, rfl, s1.trans s2, s2 _ _ upd_same, rfl, upd_same, Ln.Bt.start hm hh⟩ (fun i σ H' hi hI => ?_) (fun σ H' hI => ?_)
    · have hi2 : i < 63 := Nat.lt_of_lt_of_le hi (nn _ rfl).1
      obtain ⟨_, S', us, tt, p, q', m', h', p3, p8, p9, p10, p11, p12, rfl, sm, hl, da, ht, bt⟩ := hI
      refine ⟨_, rfl, _, rfl, a, ns, _, rfl, S.ts sm.ts, by omega, by omega, fun v v0 v1 => ?_⟩
      have e1 := Int.emod_nonneg (v / 2) (show (9 : Int) ≠ 0 by decide)
      have e2 := Int.emod_lt_of_pos (v / 2) (show (0 : Int) < 9 by decide)
      have e3 := Int.emod_nonneg (v / 90) (show (99999 : Int) ≠ 0 by decide)
      have e4 := Int.emod_lt_of_pos (v / 90) (show (0 : Int) < 99999 by decide)
      walk_at "rd"
      refine ite2 (fun c => ?_) (fun c => ?_)
      · walk_at "rd"
        exact hq3 _ _ b tt S' us H' v _ m' h' p q' _ _ _ _ i (by omega) hb sm hl da ht bt (by omega) (by omega) fun σ' H'' z => ⟨by omega, z⟩
      · exact hq3 _ _ b tt S' us H' v _ m' h' p q' _ _ _ _ i (by omega) hb sm hl da ht bt (by omega) (by omega) fun σ' H'' z => ⟨by omega, z⟩
    · obtain ⟨hn, S', us, tt, p, q', m', h', p3, p8, p9, p10, p11, p12, rfl, sm, hl, da, ht, bt⟩ := hI
      refine ⟨_, rfl, (by show 2 ≤ sizeLine; decide), fun t1 h1 => ?_⟩
      have u1 := same_new h1 (.tup [.int 1, .int 1])
      refine ⟨_, rfl, _, rfl, (by show 3 ≤ sizeLine; decide), fun t2 h2 => ?_⟩
      have u2 := same_new h2 (.tup [.ref t1, .int m', .int h'])
      refine ⟨(by show 1 ≤ sizeLine; decide), fun l3 h3 => ?_⟩
      have u3 := same_new h3 (.lst [.ref t2])
      have ua := u1.trans (u2.trans u3)
      have len : us.length ≤ 100 := by rw [ln_len da]; have := bt.len; omega
      refine ⟨b, l3, us, [.ref t2], rfl, rfl, ua _ _ hl, upd_same, Nat.le_of_lt (small1000 (by simp; omega)), fun l4 h4 => ?_⟩
      have u4 := same_new h4 (.lst (us ++ [.ref t2]))
      have ub := ua.trans u4
      refine q (S' ++ [⟨1, 1, m', h'⟩]) l4 (us ++ [.ref t2]) _ (sm.trans ub) ((sm.trans ua).free h4) upd_same ?_ (bt.line (by omega)) (by have z := (nn _ rfl).2; have := bt.len; rw [List.length_append]; show ((S'.length + 1 : Nat) : Int) ≤ l - f0; omega)
      rw [List.map_append]
      refine (da.ts ub.ts).snoc ?_
      exact st_mk (s := ⟨1, 1, m', h'⟩) (SqT.of ((u3.trans u4) _ _ upd_same)) (fr_mk (SqT.of (((u2.trans u3).trans u4) _ _ upd_same)))
  obtain ⟨t4, ht4, hq4⟩ := r4
  refine ⟨_, pss_cons (ps_set (i := 3) nd rfl (Or.inl rfl) (pe_def D__law_cell_at (hr.mono (by decide)) rfl (pa_cons (pv 0) (pa_cons (pv 1) pa_nil)))) (pss_cons (ps_set (i := 4) nd rfl (Or.inl rfl) (pe_op op_sub (pe_op op_mod (pv 3) pe_int) pe_int)) (pss_cons (ps_set (i := 5) nd rfl (Or.inl rfl) (pe_op op_sub (pe_op op_mod (pe_op op_fdiv (pv 3) pe_int) pe_int) pe_int)) (pss_cons (ps_if (pt_cmpR op_eq (pe_op op_mod (pe_op op_fdiv (pv 3) pe_int) pe_int) pe_int (nomark _)) (pss_cons (ps_set (i := 4) nd rfl (Or.inl rfl) (pe_op op_sub (pe_op op_mod (pe_op op_fdiv (pv 3) pe_int) pe_int) pe_int))
    (pss_one (ps_set (i := 5) nd rfl (Or.inl rfl) (pe_op op_sub (pe_op op_mod (pe_op op_fdiv (pv 3) pe_int) pe_int) pe_int)))) pss_nil) ht4))), ?_⟩
  refine ⟨_, rfl, _, rfl, a, ns, f0, rfl, S, f1, by omega, fun v v0 v1 => ?_⟩
  have e1 := Int.emod_nonneg v (show (25 : Int) ≠ 0 by decide)
  have e2 := Int.emod_lt_of_pos v (show (0 : Int) < 25 by decide)
  have e3 := Int.emod_nonneg (v / 25) (show (9 : Int) ≠ 0 by decide)
  have e4 := Int.emod_lt_of_pos (v / 25) (show (0 : Int) < 9 by decide)
  have e5 := Int.emod_nonneg (v / 900) (show (1999999 : Int) ≠ 0 by decide)
  have e6 := Int.emod_lt_of_pos (v / 900) (show (0 : Int) < 1999999 by decide)
  have e7 := Int.emod_nonneg (v / 7) (show (199999999 : Int) ≠ 0 by decide)
  have e8 := Int.emod_lt_of_pos (v / 7) (show (0 : Int) < 199999999 by decide)
  walk_at "rd"
  refine ite2 (fun c => ?_) (fun c => ?_)
  · walk_at "rd"
    exact hq4 _ _ _ (by omega) (by omega)
  · exact hq4 _ _ _ (by omega) (by omega)
end
end Mine



set_option Elab.async false
set_option linter.all false
set_option maxRecDepth 100000
set_option maxHeartbeats 4000000

namespace Mine
open PySem L2
local macro_rules | `(tactic| walk_at "mul") => `(tactic| first | exact mulS (by assumption) (by assumption) | exact mulS (by first | assumption | exact sm_of (by omega) | exact sm_of (by decide) | exact sm_mod (by decide) (by decide)) (by first | assumption | exact sm_of (by omega) | exact sm_of (by decide) | exact sm_mod (by decide) (by decide)))
local macro_rules | `(tactic| walk_at "rd1") => `(tactic| first
  | refine ⟨_, rfl, ?_⟩
  | refine ⟨_, _, rfl, rfl, ?_⟩
  | (refine' ⟨_, _, _, _, rfl, rfl, ?sq, ?ia, ?k⟩; (case' sq => first | assumption | exact Scr.l (by assumption)); (case' ia => first | rfl | assumption))
  | refine ⟨rfl, ?_⟩
  | (refine ⟨?m, ?_⟩; (case' m => walk_at "mul"))
  | (refine ⟨?m, ?_⟩; (case' m => exact div_ok (by first | assumption | omega) (by assumption)))
  | (refine ⟨?m, ?_⟩; (case' m => show (0 : Int) < _; decide))
  | (refine ⟨?m, ?_⟩; (case' m => exact ⟨by decide, by decide⟩))
  | (refine ⟨?m, ?_⟩; (case' m => exact ⟨by decide, by decide, by decide⟩)))
local macro_rules | `(tactic| walk_at "rd") => `(tactic| repeat walk_at "rd1")

/-- the height of the rule of s at p / q, in lowest terms -/
def hgD (s : St4) (p q : Int) : PyData := frD (Lo.lowT (s.m * p + s.h * q) q) (Lo.lowB (s.m * p + s.h * q) q)
def spTold (K : PySem.W.Frag) : Sp := fun vs H Q _ => ∃ (x y : V) (s : St4) (p q : Int), vs = [x, y] ∧ Dat K H (stD s) x ∧ Dat K H (frD p q) y ∧ 0 < q ∧ Sm p ∧ Sm q ∧ Sm s.m ∧ Sm s.h ∧ ∀ v H', Same H H' → Dat K H' (hgD s p q) v → Q v H'
section
variable {P : Program} {w : World} {K : PySem.W.Frag} {mg : Str → Option Value} {base : Heap}
theorem ok_told (T : TopDef K mg "told_by_stretch" s_told_by_stretch) (D_fraction : Def P w K mg base 2 "fraction" ["top", "bottom"] spLow) : Def P w K mg base 3 "told_by_stretch" ["stretch", "x"] (spTold K) := by
  refine def_of T sc_told_by_stretch (fun _ _ _ _ _ _ us hl => match us, hl with | [_, _], _ => rfl) (fun vs H Q E h => ?_) (fun f cdv A outer s H vs Q E hr h => ?_)
  · obtain ⟨x, y, s, p, q, rfl, _⟩ := h
    rfl
  obtain ⟨x, y, s, p, q, rfl, hx, hy, q0, b1, b2, b3, b4, k⟩ := h
  obtain ⟨a, e, rfl, sa, _⟩ := st_el hx
  obtain ⟨c, rfl, sc⟩ := fr_el hy
  have nd := sc_told_by_stretch.nd
  refine ⟨_, (pss_one (ps_ret (pe_def D_fraction (hr.mono (by decide)) rfl (pa_cons (pe_op op_add (pe_op op_mulK (pe_ix ix_tup (pv 0) pe_int (fun _ _ => rfl)) (pe_ix ix_tup (pv 1) pe_int (fun _ _ => rfl))) (pe_op op_mulK (pe_ix ix_tup (pv 0) pe_int (fun _ _ => rfl)) (pe_ix ix_tup (pv 1) pe_int (fun _ _ => rfl)))) (pa_cons (pe_ix ix_tup (pv 1) pe_int (fun _ _ => rfl)) pa_nil))))), ?_⟩
  walk_at "rd"
  exact ⟨_, q, rfl, by omega, b2, fun z H' sm e => k _ _ sm (fr_mk (SqT.of e))⟩
end
end Mine

namespace Mine
open PySem L2
local macro_rules | `(tactic| walk_at "mul") => `(tactic| first | exact mulS (by assumption) (by assumption) | exact mulS (by first | assumption | exact sm_of (by omega) | exact sm_of (by decide) | exact sm_mod (by decide) (by decide)) (by first | assumption | exact sm_of (by omega) | exact sm_of (by decide) | exact sm_mod (by decide) (by decide)))
local macro_rules | `(tactic| walk_at "rd1") => `(tactic| first
  | refine ⟨_, rfl, ?_⟩
  | refine ⟨_, _, rfl, rfl, ?_⟩
  | (refine' ⟨_, _, _, _, rfl, rfl, ?sq, ?ia, ?k⟩; (case' sq => first | assumption | exact Scr.l (by assumption)); (case' ia => first | rfl | assumption))
  | refine ⟨rfl, ?_⟩
  | (refine ⟨?m, ?_⟩; (case' m => walk_at "mul"))
  | (refine ⟨?m, ?_⟩; (case' m => exact div_ok (by first | assumption | omega) (by assumption)))
  | (refine ⟨?m, ?_⟩; (case' m => show (0 : Int) < _; decide))
  | (refine ⟨?m, ?_⟩; (case' m => exact ⟨by decide, by decide⟩))
  | (refine ⟨?m, ?_⟩; (case' m => exact ⟨by decide, by decide, by decide⟩)))
local macro_rules | `(tactic| walk_at "rd") => `(tactic| repeat walk_at "rd1")

theorem fit_sm {s : St4} (h : Ln.Fit s) : Sm s.p ∧ Sm s.q ∧ Sm s.m ∧ Sm s.h ∧ 0 < s.q := by
  obtain ⟨h0, h1, h2, h3, h4⟩ := h
  have big : (2 : Nat) ^ 90 < 2 ^ 200 := by decide
  exact ⟨Nat.lt_trans h1 big, Nat.lt_trans h2 big, Nat.lt_trans h3 big, Nat.lt_trans h4 big, h0⟩
/-- a list of stretches -/
def LnL (K : PySem.W.Frag) (H : Hp) (M : List St4) (v : V) : Prop := ∃ l us, v = .ref l ∧ SqL K H l us ∧ DatAll K H (M.map stD) us
def spJoined (K : PySem.W.Frag) : Sp := fun vs H Q _ => ∃ (x : V) (M : List St4), vs = [x] ∧ LnL K H M x ∧ M.length ≤ 1000 ∧ ∀ v H', Same H H' → Dat K H' (lnD (Ln.jn M)) v → Q v H'
theorem Same.l {K : PySem.W.Frag} {H H' : Hp} {M : List St4} {v : V} (h : LnL K H M v) (e : Same H H') : LnL K H' M v := by
  obtain ⟨l, us, h1, h2, h3⟩ := h
  exact ⟨l, us, h1, e.seq h2, h3.ts e.ts⟩
theorem at_last {xs : List V} {x : V} (h : xs.getLast? = some x) : atI xs (-1) = some x := by
  rw [List.getLast?_eq_getElem?] at h
  have hl := (List.getElem?_eq_some_iff.mp h).1
  have e : ixN xs.length (-1) = some (xs.length - 1) := by
    unfold ixN
    rw [if_neg (by decide), if_pos (by omega)]
    congr 1
    omega
  show (ixN xs.length (-1)).bind (fun j => xs[j]?) = some x
  rw [e]
  exact h
theorem cut1_ne (e m h : V) : ¬ (HT.sIx ([e, m, h] : List V).length 0 (some 1) = 0 ∧ HT.sIx ([e, m, h] : List V).length ([e, m, h] : List V).length none = ([e, m, h] : List V).length) := by
  rintro ⟨z, _⟩
  exact absurd (show (1 : Nat) = 0 from z) (by decide)
theorem jn_len : ∀ (M : List St4) (A : List St4), (M.foldl Ln.jnStep A).length ≤ A.length + M.length
  | [], A => by simp
  | s :: r, A => by
    have h := jn_len r (Ln.jnStep A s)
    have h2 : (Ln.jnStep A s).length ≤ A.length + 1 := by
      unfold Ln.jnStep
      split
      · split
        · simp <;> omega
        · simp
      · simp
    simp only [List.foldl_cons, List.length_cons]
    omega
theorem DatAll.take {K : PySem.W.Frag} {H : Hp} : ∀ {ds : List PyData} {xs : List V} (n : Nat), DatAll K H ds xs → DatAll K H (ds.take n) (xs.take n)
  | _, _, 0, _ => rfl
  | [], _, _ + 1, h => by cases (show _ = ([] : List V) from h); rfl
  | _ :: _, _, n + 1, ⟨x, r, h1, h2, h3⟩ => by subst h1; exact ⟨x, _, rfl, h2, DatAll.take n h3⟩

def wdS : Nat → Str
  | 0 => "count"
  | 1 => "end"
  | 2 => "short"
  | _ => "jump"
/-- the wish of an exception that tells x -/
def EX (C : Addr) (E : XK) (H : Hp) (x : Nat × Int) : Prop := ∀ d H', Same H H' → H' d = some (.ext (XDict d [("word", .str (wdS x.1)), ("at", .int x.2)])) → E (.ref C) (some d) H'
theorem EX.at {C : Addr} {E : XK} {H H1 : Hp} {x : Nat × Int} (e : EX C E H x) (s : Same H H1) {d : Addr} (hd : H1 d = none) : E (.ref C) (some d) (upd H1 d (.ext (XDict d [("word", .str (wdS x.1)), ("at", .int x.2)]))) := e d _ (s.trans (same_new hd _)) upd_same
def spEnds (K : PySem.W.Frag) (C : Addr) : Sp := fun vs H Q E => ∃ (x : V) (M : List St4), vs = [x] ∧ LnL K H M x ∧ (∀ s ∈ M, Ln.Fit s) ∧ 1 ≤ M.length ∧ (∀ y, Ln.amE M = some y → EX C E H y) ∧ (Ln.amE M = none → ∀ H', Same H H' → Q .non H')
def spJump (K : PySem.W.Frag) (C : Addr) : Sp := fun vs H Q E => ∃ (x : V) (M : List St4), vs = [x] ∧ LnL K H M x ∧ (∀ s ∈ M, Ln.Fit s) ∧ M.length ≤ 1000 ∧ (∀ y, Ln.amJ M = some y → EX C E H y) ∧ (Ln.amJ M = none → ∀ H', Same H H' → Q .non H')
def spMade (K : PySem.W.Frag) (C : Addr) : Sp := fun vs H Q E => ∃ (x : V) (M : List St4), vs = [x] ∧ LnL K H M x ∧ (∀ s ∈ M, Ln.Fit s) ∧ M.length ≤ 1000 ∧ (∀ y, Ln.am M = some y → EX C E H y) ∧ (Ln.am M = none → ∀ v H', Same H H' → Dat K H' (lnD (Ln.jn M)) v → Q v H')
theorem bef_sm {M : List St4} (fit : ∀ s ∈ M, Ln.Fit s) {i : Nat} (h : i ≤ M.length) : Sm (Ln.bef M i).1 ∧ Sm (Ln.bef M i).2 ∧ 0 < (Ln.bef M i).2 := by
  cases i with
  | zero => exact ⟨sm_of (by show (0 : Int).natAbs ≤ _; decide), sm_of (by show (1 : Int).natAbs ≤ _; decide), by show (0 : Int) < 1; decide⟩
  | succ j =>
    have ej : M[j]? = some (M[j]'(by omega)) := List.getElem?_eq_getElem (by omega)
    rw [Ln.bef_succ ej]
    have z := fit_sm (fit M[j] (List.mem_of_getElem? ej))
    exact ⟨z.1, z.2.1, z.2.2.2.2⟩
theorem step_all {p : Nat → Bool} {i : Nat} (a : ∀ j, j < i → p j = true) (b : p i = true) : ∀ j, j < i + 1 → p j = true := fun j hj => by
  rcases Nat.lt_or_ge j i with z | z
  · exact a j z
  · rw [show j = i by omega]; exact b
section
variable {P : Program} {w : World} {K : PySem.W.Frag} {mg : Str → Option Value} {base : Heap}
/-- NoLine(word, at): both are put as fields -/
theorem ok_init {fI C : Addr} {fd : FuncData} (F : Fun K "__init__" "NoLine.__init__" s_NoLine_init fI fd) (c : XFld K C) (n1 : NoAttr K C "word") (n2 : NoAttr K C "at") : FnOk P w K mg base CX0 1 fI fd ["self", "word", "at"] (spInit2 C "word" "at") := by
  refine F.ok sc_NoLine_init (fun vs H Q E h => ?_) (fun cdv Ar outer s H vs Q E hr h => ?_)
  · obtain ⟨a, y, z, rfl, _⟩ := h
    rfl
  obtain ⟨a, y, z, rfl, ea, q⟩ := h
  have nd := sc_NoLine_init.nd
  refine ⟨_, (pss_cons (ps_fldX (pv 0) (pv 1) rfl)
    (pss_one (ps_fldX (pv 0) (pv 2) rfl))), ?_⟩
  refine ⟨_, rfl, _, rfl, a, C, rfl, c, n1, .inl ⟨ea, fun d hd => ?_⟩⟩
  have ne : d ≠ a := fun z => by rw [z, ea] at hd; cases hd
  refine ⟨_, rfl, _, rfl, a, C, rfl, c, n2, .inr ⟨d, _, by rw [upd_ne (Ne.symm ne), upd_same], upd_same, ne, (show 1 < 100 by decide), ?_⟩⟩
  refine q d _ ⟨hd, ne, ?_, upd_same, fun b h1 h2 => ?_⟩
  · rw [upd_ne (Ne.symm ne), upd_ne (Ne.symm ne), upd_same]
  · rw [upd_ne h2, upd_ne h2, upd_ne h1]
theorem ok_ends {C : Addr} (T : TopDef K mg "must_have_ends" s_must_have_ends) (Z_enumerate : mg "enumerate" = none) (Z_len : mg "len" = none) (TN : TopTup K mg "NOUGHT" [0, 1]) (TW : TopTup K mg "WHOLE" [1, 1]) (X_NoLine : XC2 P w K mg base "NoLine" C "word" "at") (D_less : Def P w K mg base 1 "less" ["one", "other"] (spLess K)) : DefD P w K mg base 3 "must_have_ends" ["stretches"] (spEnds K C) := by
  refine defd_of T sc_must_have_ends (fun _ _ _ _ _ _ us hl => match us, hl with | [_], _ => rfl) (fun vs H Q E h => ?_) (fun f cdv A outer s H vs Q E hr h => ?_)
  · obtain ⟨x, M, rfl, _⟩ := h
    rfl
  obtain ⟨x, M, rfl, ⟨l, us, rfl, sl, da⟩, fit, l1, kE, k⟩ := h
  have nd := sc_must_have_ends.nd
  have hu := hr.units
  have lus := ln_len da
  obtain ⟨aN, M_NOUGHT, qN⟩ := TN.ex
  obtain ⟨aW, M_WHOLE, qW⟩ := TW.ex
  have s1 : Sm 1 := sm_of (by decide)
  refine ⟨_, (pss_cons (ps_set (i := 1) nd rfl (Or.inl rfl) (pe_glob (v := V.ref aN) rfl M_NOUGHT rfl))
    (pss_cons (ps_for PassesOwn.leaving rfl (pi_enum rfl Z_enumerate (pv 0)) (pg_tup rfl (pgs_cons (pg_name (i := 2) nd rfl (Or.inl rfl)) (pgs_cons (pg_name (i := 3) nd rfl (Or.inl rfl)) pgs_nil))) (pss_cons (ps_if (PW.pt (pw_or (pt_not (pt_val (pe_def D_less (hr.mono (by decide)) rfl (pa_cons (pv 1) (pa_cons (pe_ix ix_tup (pv 3) pe_int (fun _ _ => rfl)) pa_nil))))) (pw_or1 (pt_val (pe_def D_less (hr.mono (by decide)) rfl (pa_cons (pe_glob (v := V.ref aW) rfl M_WHOLE rfl) (pa_cons (pe_ix ix_tup (pv 3) pe_int (fun _ _ => rfl)) pa_nil))))))) (pss_one (ps_raise2 X_NoLine (hr.mono (by decide)) rfl (pa_cons pe_str (pa_cons (pv 2) pa_nil)))) pss_nil)
    (pss_one (ps_set (i := 1) nd rfl (Or.inl rfl) (pe_ix ix_tup (pv 3) pe_int (fun _ _ => rfl))))))
    (pss_one (ps_if (pt_cmpR (op_neD hu) (pv 1) (pe_glob (v := V.ref aW) rfl M_WHOLE rfl) (nomark _)) (pss_one (ps_raise2 X_NoLine (hr.mono (by decide)) rfl (pa_cons pe_str (pa_cons (pe_op op_sub (pe_callB call_len rfl Z_len (by decide +kernel) (pa_cons (pv 0) pa_nil)) pe_int) pa_nil)))) pss_nil)))), ?_⟩
  refine ⟨_, rfl, l, rfl, ⟨us, sl⟩, ?_⟩
  refine for_enum (xs := us) (fun i σ H' => Same H H' ∧ (∀ j, j < i → Ln.gd M j = true) ∧ ∃ av o2 o3, σ = [some (.ref l), some av, o2, o3] ∧ Dat K H' (frD (Ln.bef M i).1 (Ln.bef M i).2) av) ⟨Same.refl H, (fun j hj => absurd hj (Nat.not_lt_zero _)), _, _, _, rfl, fr_mk (qN H)⟩ (fun i σ H' _ h => h.1.seq sl) (fun i x T' σ H' hx h hT => ?_) (fun σ H' h => ?_)
  · obtain ⟨sm, al, av, o2, o3, rfl, dav⟩ := h
    obtain ⟨st, hst, dst⟩ := ln_at' (da.ts sm.ts) hx
    obtain ⟨c, e, rfl, q1, d1⟩ := st_el dst
    obtain ⟨m1, m2, m3, m4, m5⟩ := fit_sm (fit st (List.mem_of_getElem? hst))
    have iM : i < M.length := (List.getElem?_eq_some_iff.mp hst).1
    have u1 := same_new hT (.tup [.int i, .ref c])
    obtain ⟨b1, b2, _⟩ := bef_sm fit (Nat.le_of_lt iM)
    have gi := Ln.gd_of hst
    refine ⟨T', _, rfl, SqT.of upd_same, rfl, _, _, rfl, _, _, rfl, rfl, ?_⟩
    have q1' := q1.ts u1.ts
    have d1' := d1.ts u1.ts
    refine ⟨_, rfl, _, rfl, _, _, _, _, rfl, rfl, q1', rfl, av, e, _, _, st.p, st.q, rfl, dav.ts u1.ts, d1', b1, b2, m1, m2, _, rfl, ?_⟩
    by_cases r1 : (Ln.bef M i).1 * st.q < st.p * (Ln.bef M i).2
    case neg =>
      rw [decide_eq_false r1]
      refine iteT (iteT ?_)
      have bad : Ln.gd M i = false := by rw [gi]; exact decide_eq_false fun z => r1 z.1
      exact ⟨_, rfl, _, _, rfl, fun d hd => (kE _ (Ln.amE_end iM al bad)).at (sm.trans u1) hd⟩
    rw [decide_eq_true r1]
    refine iteF ?_
    refine ⟨_, rfl, _, _, _, _, rfl, rfl, q1', rfl, .ref aW, e, 1, 1, st.p, st.q, rfl, fr_mk (qW _), d1', s1, s1, m1, m2, _, rfl, ?_⟩
    by_cases r2 : st.p ≤ st.q
    case neg =>
      rw [decide_eq_true (show 1 * st.q < st.p * 1 by omega)]
      refine iteT ?_
      have bad : Ln.gd M i = false := by rw [gi]; exact decide_eq_false fun z => r2 z.2
      exact ⟨_, rfl, _, _, rfl, fun d hd => (kE _ (Ln.amE_end iM al bad)).at (sm.trans u1) hd⟩
    rw [decide_eq_false (show ¬ 1 * st.q < st.p * 1 by omega)]
    refine iteF ?_
    refine ⟨_, rfl, _, _, _, _, rfl, rfl, q1', rfl, ?_⟩
    refine ⟨sm.trans u1, step_all al (by rw [gi]; exact decide_eq_true ⟨r1, r2⟩), e, _, _, rfl, ?_⟩
    rw [Ln.bef_succ hst]
    exact d1'
  · obtain ⟨sm, al, av, o2, o3, rfl, dav⟩ := h
    rw [lus] at dav al
    have eg := Ln.amE_go al
    refine ⟨_, rfl, _, _, .inl dav, .inl (fr_mk (qW H')), fr_shaped _ _, fr_shaped _ _, _, rfl, ?_⟩
    rw [fr_eqv]
    by_cases c : (Ln.bef M M.length).1 = 1 ∧ (Ln.bef M M.length).2 = 1
    · rw [decide_eq_true c]
      rw [if_pos c] at eg
      exact iteF (k eg _ sm)
    · rw [decide_eq_false c]
      rw [if_neg c] at eg
      refine iteT ?_
      refine ⟨_, rfl, _, _, rfl, .inl ⟨_, sm.seq sl, rfl⟩, _, _, rfl, rfl, _, _, rfl, fun d hd => ?_⟩
      have z := (kE _ eg).at sm hd
      rw [← lus] at z
      exact z
theorem ok_jump {C : Addr} (T : TopDef K mg "must_not_jump" s_must_not_jump) (Z_range : mg "range" = none) (Z_len : mg "len" = none) (X_NoLine : XC2 P w K mg base "NoLine" C "word" "at") (D_told_by_stretch : Def P w K mg base 3 "told_by_stretch" ["stretch", "x"] (spTold K)) : DefD P w K mg base 4 "must_not_jump" ["stretches"] (spJump K C) := by
  refine defd_of T sc_must_not_jump (fun _ _ _ _ _ _ us hl => match us, hl with | [_], _ => rfl) (fun vs H Q E h => ?_) (fun f cdv A outer s H vs Q E hr h => ?_)
  · obtain ⟨x, M, rfl, _⟩ := h
    rfl
  obtain ⟨x, M, rfl, ⟨l, us, rfl, sl, da⟩, fit, few, kE, k⟩ := h
  have nd := sc_must_not_jump.nd
  have hu := hr.units
  have lus := ln_len da
  refine ⟨_, (pss_one (ps_for PassesOwn.leaving rfl (pi_range2 rfl Z_range (pa_cons pe_int (pa_cons (pe_callB call_len rfl Z_len (by decide +kernel) (pa_cons (pv 0) pa_nil)) pa_nil))) (pg_name (i := 1) nd rfl (Or.inl rfl)) (pss_cons (ps_set (i := 2) nd rfl (Or.inl rfl) (pe_ix ix_tup (pe_ix ix_list (pv 0) (pe_op op_sub (pv 1) pe_int) (fun _ _ => rfl)) pe_int (fun _ _ => rfl)))
    (pss_one (ps_if (pt_cmpR (op_neD hu) (pe_def D_told_by_stretch (hr.mono (by decide)) rfl (pa_cons (pe_ix ix_list (pv 0) (pe_op op_sub (pv 1) pe_int) (fun _ _ => rfl)) (pa_cons (pv 2) pa_nil))) (pe_def D_told_by_stretch (hr.mono (by decide)) rfl (pa_cons (pe_ix ix_list (pv 0) (pv 1) (fun _ _ => rfl)) (pa_cons (pv 2) pa_nil))) (nomark _)) (pss_one (ps_raise2 X_NoLine (hr.mono (by decide)) rfl (pa_cons pe_str (pa_cons (pv 1) pa_nil)))) pss_nil))))), ?_⟩
  refine ⟨_, rfl, _, _, rfl, .inl ⟨_, sl, rfl⟩, _, _, rfl, ⟨by decide, by decide, by omega, by omega⟩, ?_⟩
  refine for_range (fun i σ H' => Same H H' ∧ (∀ j, j < i → Ln.nj M j = true) ∧ ∃ o1 o2, σ = [some (.ref l), o1, o2]) ⟨Same.refl H, (fun j hj => absurd hj (Nat.not_lt_zero _)), _, _, rfl⟩ (fun i σ H' hi h => ?_) (fun σ H' h => ?_)
  · obtain ⟨sm, al, o1, o2, rfl⟩ := h
    have hi2 : i + 1 < M.length := by omega
    have e1 : M[i]? = some M[i] := List.getElem?_eq_getElem (by omega)
    have e2 : M[i + 1]? = some M[i + 1] := List.getElem?_eq_getElem hi2
    obtain ⟨v1, h1, d1⟩ := ln_at (da.ts sm.ts) e1
    obtain ⟨v2, h2, d2⟩ := ln_at (da.ts sm.ts) e2
    obtain ⟨c1, f1, rfl, q1, g1⟩ := st_el d1
    have at1 : atI us (1 + (i : Int) - 1) = some (.ref c1) := at_of (by omega) (by rw [show (1 + (i : Int) - 1).toNat = i by omega]; exact h1)
    have at2 : atI us (1 + (i : Int)) = some v2 := at_of (by omega) (by rw [show (1 + (i : Int)).toNat = i + 1 by omega]; exact h2)
    have sl' := sm.seq sl
    obtain ⟨m1, m2, m3, m4, m5⟩ := fit_sm (fit M[i] (List.mem_of_getElem? e1))
    obtain ⟨n1, n2, n3, n4, n5⟩ := fit_sm (fit M[i + 1] (List.mem_of_getElem? e2))
    refine ⟨_, rfl, _, rfl, _, _, rfl, rfl, _, _, _, _, rfl, rfl, sl', at1, _, _, _, _, rfl, rfl, q1, rfl, ?_⟩
    refine ⟨_, rfl, _, rfl, _, _, rfl, rfl, _, _, _, _, rfl, rfl, sl', at1, _, rfl, _, f1, M[i], M[i].p, M[i].q, rfl, d1, g1, m5, m1, m2, m3, m4, fun w1 H1 s1 x1 => ?_⟩
    refine ⟨_, rfl, _, rfl, _, _, _, _, rfl, rfl, (sm.trans s1).seq sl, at2, _, rfl, _, f1, M[i + 1], M[i].p, M[i].q, rfl, d2.ts s1.ts, g1.ts s1.ts, m5, m1, m2, n3, n4, fun w2 H2 s2 x2 => ?_⟩
    have m3' := sm.trans (s1.trans s2)
    have ev : PyData.eqv (hgD M[i] M[i].p M[i].q) (hgD M[i + 1] M[i].p M[i].q) = Ln.nj M i := by
      rw [Ln.nj_of e1 e2]
      unfold hgD
      rw [fr_eqv]
      have z := Lo.low_same (t := M[i].m * M[i].p + M[i].h * M[i].q) (u := M[i + 1].m * M[i].p + M[i + 1].h * M[i].q) m5
      by_cases c : M[i].m * M[i].p + M[i].h * M[i].q = M[i + 1].m * M[i].p + M[i + 1].h * M[i].q
      · rw [decide_eq_true (z.mpr c), decide_eq_true (show (M[i + 1].m - M[i].m) * M[i].p + (M[i + 1].h - M[i].h) * M[i].q = 0 by rw [Int.sub_mul, Int.sub_mul]; omega)]
      · rw [decide_eq_false fun y => c (z.mp y), decide_eq_false (show ¬ (M[i + 1].m - M[i].m) * M[i].p + (M[i + 1].h - M[i].h) * M[i].q = 0 by rw [Int.sub_mul, Int.sub_mul]; omega)]
    refine ⟨_, _, .inl (x1.ts s2.ts), .inl x2, fr_shaped _ _, fr_shaped _ _, _, rfl, ?_⟩
    rw [ev]
    cases c : Ln.nj M i with
    | true => exact iteF ⟨m3', step_all al c, _, _, rfl⟩
    | false =>
      refine iteT ?_
      exact ⟨_, rfl, _, _, rfl, fun d hd => (kE _ (Ln.amJ_at (by omega) al c)).at m3' hd⟩
  · obtain ⟨sm, al, o1, o2, rfl⟩ := h
    exact k (Ln.amJ_no fun j hj => al j (by omega)) _ sm
theorem ok_joined (T : TopDef K mg "joined" s_joined) (Z_tuple : mg "tuple" = none) : Def P w K mg base 1 "joined" ["stretches"] (spJoined K) := by
  refine def_of T sc_joined (fun _ _ _ _ _ _ us hl => match us, hl with | [_], _ => rfl) (fun vs H Q E h => ?_) (fun f cdv A outer s H vs Q E hr h => ?_)
  · obtain ⟨x, M, rfl, _⟩ := h
    rfl
  obtain ⟨x, M, rfl, ⟨l, us, rfl, sl, da⟩, few, k⟩ := h
  have nd := sc_joined.nd
  have hu := hr.units
  have lus := ln_len da
  refine ⟨_, (pss_cons (ps_set (i := 1) nd rfl (Or.inl rfl) (pe_lst pa_nil))
    (pss_cons (ps_for PassesOwn.never rfl (pi_list (pv 0)) (pg_name (i := 2) nd rfl (Or.inl rfl)) (pss_cons (ps_if (PW.pt (pw_and (pt_cmpR (op_neD hu) (pv 1) (pe_lst pa_nil) (nomark _)) (pw_and1 (pt_cmpR (op_eqD hu) (pe_slice sl_tup (pe_ix ix_list (pv 1) (pe_un un_neg pe_int) (fun _ _ => rfl)) (po_some pe_int) po_none) (pe_slice sl_tup (pv 2) (po_some pe_int) po_none) (nomark _))))) (pss_one (ps_expr (pe_bm0 PySem.F.plainAttrs_list PySem.F.slot_list_pop PySem.F.type_list_pop mt_pop (pv 1)))) pss_nil)
    (pss_one (ps_expr (pe_bm PySem.F.plainAttrs_list PySem.F.slot_list_append PySem.F.type_list_append mt_append (pv 1) (pa_cons (pv 2) pa_nil))))))
    (pss_one (ps_ret (pe_callTy call_tuple_of rfl Z_tuple (by decide +kernel) (pa_cons (pv 1) pa_nil)))))), ?_⟩
  refine ⟨(by show 0 ≤ sizeLine; decide), fun b hb => ?_⟩
  have u0 := same_new hb (.lst [])
  refine ⟨_, rfl, l, rfl, ⟨us, u0.seq sl⟩, ?_⟩
  refine for_list (xs := us) (fun i σ H' => Same H H' ∧ ∃ xs o2, σ = [some (.ref l), some (.ref b), o2] ∧ H' b = some (.lst xs) ∧ DatAll K H' ((Ln.jn (M.take i)).map stD) xs) ⟨u0, [], _, rfl, upd_same, rfl⟩ (fun i σ H' _ h => h.1.seq sl) (fun i x σ H' hx h => ?_) (fun σ H' h => ?_)
  · obtain ⟨sm, xs, o2, rfl, hbx, dx⟩ := h
    obtain ⟨st, hst, dst⟩ := ln_at' (da.ts sm.ts) hx
    have hi := (List.getElem?_eq_some_iff.mp hst).1
    have tk : Ln.jn (M.take (i + 1)) = Ln.jnStep (Ln.jn (M.take i)) st := by
      rw [List.take_add_one, hst]
      exact Ln.jn_snoc _ _
    have lx : xs.length ≤ 1000 := by
      rw [ln_len dx]
      have := jn_len (M.take i) []
      rw [List.length_take] at this
      show (Ln.jn (M.take i)).length ≤ 1000
      unfold Ln.jn
      simp at this
      omega
    rw [tk]
    refine ⟨_, rfl, (by show 0 ≤ sizeLine; decide), fun e he => ?_⟩
    have u1 := same_new he (.lst [])
    refine ⟨_, _, .inr ⟨(Ln.jn (M.take i)).map stD, b, xs, rfl, rfl, SqL.of (u1 _ _ hbx), dx.ts u1.ts⟩, .inr ⟨[], e, [], rfl, rfl, SqL.of upd_same, rfl⟩, lnl_shaped _, by decide, _, rfl, ?_⟩
    have eqn : PyData.eqv (.list ((Ln.jn (M.take i)).map stD)) (.list []) = decide (Ln.jn (M.take i) = []) := by
      simp only [PyData.eqv]
      exact eqv_map st_eqv _ []
    rw [eqn]
    -- the append behind both ways
    have app : ∀ (ys : List V) (B : List St4) (H2 : Hp), Same H H2 → Tst H' H2 → H2 b = some (.lst ys) → ys.length ≤ 1000 → DatAll K H2 (B.map stD) ys → B ++ [st] = Ln.jnStep (Ln.jn (M.take i)) st →
        (Same H (upd H2 b (.lst (ys ++ [x]))) ∧ ∃ xs o2, [some (V.ref l), some (V.ref b), some x] = [some (.ref l), some (.ref b), o2] ∧ upd H2 b (.lst (ys ++ [x])) b = some (.lst xs) ∧ DatAll K (upd H2 b (.lst (ys ++ [x]))) ((Ln.jnStep (Ln.jn (M.take i)) st).map stD) xs) := by
      intro ys B H2 s2 tH hy hl2 dy eB
      refine ⟨same_mut s2 hb _, ys ++ [x], _, rfl, upd_same, ?_⟩
      rw [← eB, List.map_append]
      have t2 : Tst H2 (upd H2 b (.lst (ys ++ [x]))) := ts_mut hy
      exact (dy.ts t2).snoc (dst.ts (tH.trans t2))
    by_cases hA : Ln.jn (M.take i) = []
    · rw [decide_eq_true hA]
      refine iteF (iteF ?_)
      have hb1 := u1 _ _ hbx
      refine ⟨_, rfl, .inl ⟨rfl, _, SqL.of hb1⟩, _, rfl, b, xs, _, rfl, rfl, hb1, small1000 lx, ?_⟩
      refine app xs (Ln.jn (M.take i)) _ (sm.trans u1) u1.ts hb1 lx (dx.ts u1.ts) ?_
      rw [Ln.jnStep_new (fun t ht => by rw [hA] at ht; cases ht)]
    · rw [decide_eq_false hA]
      refine iteT ?_
      have hb1 := u1 _ _ hbx
      have hlast : ∃ t, (Ln.jn (M.take i)).getLast? = some t := by
        cases z : (Ln.jn (M.take i)).getLast? with
        | none => exact absurd (List.getLast?_eq_none_iff.mp z) hA
        | some t => exact ⟨t, rfl⟩
      obtain ⟨t, ht⟩ := hlast
      obtain ⟨lp, ht'⟩ := Ln.last_at ht
      obtain ⟨y, hy, dy⟩ := ln_at dx ht'
      have hy2 : xs.getLast? = some y := by rw [List.getLast?_eq_getElem?, ln_len dx]; exact hy
      obtain ⟨c1, f1, rfl, q1, _⟩ := st_el (dy.ts u1.ts)
      obtain ⟨c2, f2, rfl, q2, _⟩ := st_el (dst.ts u1.ts)
      refine ⟨_, rfl, _, rfl, _, _, _, _, rfl, rfl, SqL.of hb1, at_last hy2, _, rfl, c1, _, rfl, q1, cut1_ne _ _ _, fun p3 h3 => ?_⟩
      have u3 := same_new h3 (.tup (cutV [f1, .int t.m, .int t.h] (some 1) none))
      refine ⟨_, rfl, _, rfl, c2, _, rfl, q2.ts u3.ts, cut1_ne _ _ _, fun p4 h4 => ?_⟩
      have u4 := same_new h4 (.tup (cutV [f2, .int st.m, .int st.h] (some 1) none))
      refine ⟨_, _, .inl (fr_mk (p := t.m) (q := t.h) (SqT.of (u4 _ _ upd_same))), .inl (fr_mk (p := st.m) (q := st.h) (SqT.of upd_same)), fr_shaped _ _, fr_shaped _ _, _, rfl, ?_⟩
      rw [fr_eqv]
      have ua := u1.trans (u3.trans u4)
      have hb4 := ua _ _ hbx
      have stepE : Ln.jnStep (Ln.jn (M.take i)) st = if t.m = st.m ∧ t.h = st.h then (Ln.jn (M.take i)).dropLast ++ [st] else Ln.jn (M.take i) ++ [st] := by
        show (match (Ln.jn (M.take i)).getLast? with | some t => if t.m = st.m ∧ t.h = st.h then (Ln.jn (M.take i)).dropLast ++ [st] else Ln.jn (M.take i) ++ [st] | none => _) = _
        rw [ht]
      by_cases same : t.m = st.m ∧ t.h = st.h
      · rw [decide_eq_true same]
        refine iteT ?_
        have lpx : 0 < xs.length := by rw [ln_len dx]; exact lp
        refine ⟨_, rfl, .inl ⟨rfl, _, SqL.of hb4⟩, b, xs, _, rfl, rfl, hb4, List.getElem?_eq_getElem (by omega), ?_⟩
        have t5 : Tst (upd (upd (upd H' e (.lst [])) p3 (.tup (cutV [f1, .int t.m, .int t.h] (some 1) none))) p4 (.tup (cutV [f2, .int st.m, .int st.h] (some 1) none))) (upd (upd (upd (upd H' e (.lst [])) p3 (.tup (cutV [f1, .int t.m, .int t.h] (some 1) none))) p4 (.tup (cutV [f2, .int st.m, .int st.h] (some 1) none))) b (.lst xs.dropLast)) := ts_mut hb4
        refine ⟨_, rfl, .inl ⟨rfl, _, SqL.of upd_same⟩, _, rfl, b, xs.dropLast, _, rfl, rfl, upd_same, small1000 (by rw [List.length_dropLast]; omega), ?_⟩
        refine app xs.dropLast (Ln.jn (M.take i)).dropLast _ (same_mut (sm.trans ua) hb _) (ua.ts.trans t5) upd_same (by rw [List.length_dropLast]; omega) ?_ (by rw [stepE, if_pos same])
        have dd := Mine.DatAll.take (xs.length - 1) ((dx.ts ua.ts).ts t5)
        have e1 : ((Ln.jn (M.take i)).map stD).take (xs.length - 1) = ((Ln.jn (M.take i)).dropLast).map stD := by rw [List.dropLast_eq_take, List.map_take, ln_len dx]
        rw [e1, ← List.dropLast_eq_take] at dd
        exact dd
      · rw [decide_eq_false same]
        refine iteF ?_
        refine ⟨_, rfl, .inl ⟨rfl, _, SqL.of hb4⟩, _, rfl, b, xs, _, rfl, rfl, hb4, small1000 lx, ?_⟩
        exact app xs (Ln.jn (M.take i)) _ (sm.trans ua) ua.ts hb4 lx (dx.ts ua.ts) (by rw [stepE, if_neg same])
  · obtain ⟨sm, xs, o2, rfl, hbx, dx⟩ := h
    refine ⟨_, rfl, b, xs, rfl, .inl ⟨SqL.of hbx, fun t ht => ?_⟩⟩
    have u1 := same_new ht (.tup xs)
    rw [lus, List.take_length] at dx
    exact k _ _ (sm.trans u1) ⟨t, xs, rfl, SqT.of upd_same, dx.ts u1.ts⟩
theorem ok_made {C : Addr} (T : TopDef K mg "line_made" s_line_made) (Z_len : mg "len" = none) (IM : ∃ t, mg "MOST_STRETCHES" = some (.int 60 t)) (X_NoLine : XC2 P w K mg base "NoLine" C "word" "at") (D_must_have_ends : DefD P w K mg base 3 "must_have_ends" ["stretches"] (spEnds K C)) (D_must_not_jump : DefD P w K mg base 4 "must_not_jump" ["stretches"] (spJump K C)) (D_joined : Def P w K mg base 1 "joined" ["stretches"] (spJoined K)) : DefD P w K mg base 5 "line_made" ["stretches"] (spMade K C) := by
  refine defd_of T sc_line_made (fun _ _ _ _ _ _ us hl => match us, hl with | [_], _ => rfl) (fun vs H Q E h => ?_) (fun f cdv A outer s H vs Q E hr h => ?_)
  · obtain ⟨x, M, rfl, _⟩ := h
    rfl
  obtain ⟨x, M, rfl, lnl, fit, few, kE, k⟩ := h
  obtain ⟨l, us, rfl, sl, da⟩ := id lnl
  have nd := sc_line_made.nd
  have lus := ln_len da
  obtain ⟨tM, M_MOST_STRETCHES⟩ := IM
  have cnt : ¬ (1 ≤ M.length ∧ M.length ≤ 60) → ∀ d, H d = none → E (.ref C) (some d) (upd H d (.ext (XDict d [("word", .str "count"), ("at", .int ((us.length : Nat) : Int))]))) := fun z d hd => by
    rw [lus]
    exact (kE _ (Ln.am_count z)).at (Same.refl H) hd
  have t1 : ∃ t, PSs (cxOf (CXd P w) P w K mg base n_line_made "line_made" (defScope s_line_made) f cdv A outer s H E) ((defBody s_line_made).drop 1) t ∧ (1 ≤ M.length ∧ M.length ≤ 60 → t { nx := fun _ H' => Q .non H', rt := Q } [some (.ref l)] H) := by
    refine ⟨_, (pss_cons (ps_expr (pe_defP D_must_have_ends (hr.mono (by decide)) rfl (pa_cons (pv 0) pa_nil)))
    (pss_cons (ps_expr (pe_defP D_must_not_jump (hr.mono (by decide)) rfl (pa_cons (pv 0) pa_nil)))
    (pss_one (ps_ret (pe_def D_joined (hr.mono (by decide)) rfl (pa_cons (pv 0) pa_nil)))))), fun z => ?_⟩
    refine ⟨_, rfl, .ref l, M, rfl, lnl, fit, z.1, (fun y hy => kE y (Ln.am_E z hy)), fun hn H1 s1 => ?_⟩
    refine ⟨_, rfl, .ref l, M, rfl, Same.l lnl s1, fit, few, (fun y hy d H' s' hd => kE y ((Ln.am_J z hn).trans hy) d H' (s1.trans s') hd), fun hj H2 s2 => ?_⟩
    have s12 := s1.trans s2
    exact ⟨_, rfl, .ref l, M, rfl, Same.l lnl s12, few, fun v H3 s3 dv => k ((Ln.am_J z hn).trans hj) v H3 (s12.trans s3) dv⟩
  obtain ⟨t1, ht1, hq1⟩ := t1
  refine ⟨_, pss_cons (ps_if (pt_not (pt_chain op_le op_le pe_int (pe_callB call_len rfl Z_len (by decide +kernel) (pa_cons (pv 0) pa_nil)) (pe_glob (v := V.int 60) rfl M_MOST_STRETCHES ⟨_, rfl⟩))) (pss_one (ps_raise2 X_NoLine (hr.mono (by decide)) rfl (pa_cons pe_str (pa_cons (pe_callB call_len rfl Z_len (by decide +kernel) (pa_cons (pv 0) pa_nil)) pa_nil)))) pss_nil) ht1, ?_⟩
  refine ⟨_, rfl, _, _, rfl, .inl ⟨_, sl, rfl⟩, _, _, rfl, rfl, _, rfl, ?_⟩
  refine ite2 (fun c => ?_) (fun c => ?_)
  · have c' : (1 : Int) ≤ ((us.length : Nat) : Int) := of_decide_eq_true c
    refine ⟨_, _, rfl, rfl, _, rfl, ?_⟩
    by_cases c2 : ((us.length : Nat) : Int) ≤ 60
    · rw [decide_eq_true c2]
      exact iteF (hq1 (by omega))
    · rw [decide_eq_false c2]
      refine iteT ?_
      exact ⟨_, rfl, _, _, rfl, .inl ⟨_, sl, rfl⟩, _, _, rfl, cnt (by omega)⟩
  · have c' : ¬ (1 : Int) ≤ ((us.length : Nat) : Int) := fun z => c (decide_eq_true z)
    refine ⟨_, rfl, iteT ?_⟩
    exact ⟨_, rfl, _, _, rfl, .inl ⟨_, sl, rfl⟩, _, _, rfl, cnt (by omega)⟩
end
end Mine



set_option Elab.async false
set_option linter.all false
set_option maxRecDepth 100000
set_option maxHeartbeats 4000000

namespace Mine
open PySem L2
local macro_rules | `(tactic| walk_at "mul") => `(tactic| first | exact mulS (by assumption) (by assumption) | exact mulS (by first | assumption | exact sm_of (by omega) | exact sm_of (by decide) | exact sm_mod (by decide) (by decide)) (by first | assumption | exact sm_of (by omega) | exact sm_of (by decide) | exact sm_mod (by decide) (by decide)))
local macro_rules | `(tactic| walk_at "rd1") => `(tactic| first
  | refine ⟨_, rfl, ?_⟩
  | refine ⟨_, _, rfl, rfl, ?_⟩
  | (refine' ⟨_, _, _, _, rfl, rfl, ?sq, ?ia, ?k⟩; (case' sq => first | assumption | exact Scr.l (by assumption)); (case' ia => first | rfl | assumption))
  | refine ⟨rfl, ?_⟩
  | (refine ⟨?m, ?_⟩; (case' m => walk_at "mul"))
  | (refine ⟨?m, ?_⟩; (case' m => exact div_ok (by first | assumption | omega) (by assumption)))
  | (refine ⟨?m, ?_⟩; (case' m => show (0 : Int) < _; decide))
  | (refine ⟨?m, ?_⟩; (case' m => exact ⟨by decide, by decide⟩))
  | (refine ⟨?m, ?_⟩; (case' m => exact ⟨by decide, by decide, by decide⟩)))
local macro_rules | `(tactic| walk_at "rd") => `(tactic| repeat walk_at "rd1")

def spHeard (K : PySem.W.Frag) : Sp := fun vs H Q _ => ∃ (x : V) (M : List St4), vs = [x] ∧ LnL K H M x ∧ (∀ s ∈ M, Ln.Fit s) ∧ M.length ≤ 1000 ∧ (∀ y, Ln.am M = some y → ∀ l H', Same H H' → H' l = some (.lst [.bl true, .str (wdS y.1), .int y.2]) → Q (.ref l) H') ∧ (Ln.am M = none → ∀ v H', Same H H' → Dat K H' (lnD (Ln.jn M)) v → Q v H')
def spAmiss (K : PySem.W.Frag) : Sp := fun vs H Q _ => ∃ (x : V) (M : List St4), vs = [x] ∧ LnL K H M x ∧ (∀ s ∈ M, Ln.FitB 60 s) ∧ M.length ≤ 1000 ∧ (∀ y, Ln.am M = some y → ∀ t H', Same H H' → H' t = some (.tup [.str (wdS y.1), .int y.2]) → Q (.ref t) H') ∧ (Ln.am M = none → ∀ H', Same H H' → Q .non H')
theorem vals3 {a b c : Addr} : ∀ us, Vals [.ref a, .ref b, .ref c] us → us = [.ref a, .ref b, .ref c] := by
  intro us h
  cases h with
  | cons r1 h =>
    cases h with
    | cons r2 h =>
      cases h with
      | cons r3 h =>
        cases h
        cases r1
        cases r2
        cases r3
        rfl
section
variable {P : Program} {w : World} {K : PySem.W.Frag} {mg : Str → Option Value} {base : Heap}
theorem ok_heard {C_NoLine C_SayError C_NoRows C_NoText C_NoPoint : Addr} (T : TopDef K mg "_law_heard" s_l_heard) (Z_isinstance : mg "isinstance" = none) (Z_ValueError : mg "ValueError" = none) (X_NoLine : XC2 P w K mg base "NoLine" C_NoLine "word" "at")
    (M_SayError : mg "SayError" = some (.ref C_SayError)) (M_NoRows : mg "NoRows" = some (.ref C_NoRows)) (M_NoText : mg "NoText" = some (.ref C_NoText)) (M_NoPoint : mg "NoPoint" = some (.ref C_NoPoint)) (CC_NoLine : CatchCls K C_NoLine) (sub : PySem.W.mroIn K C_NoLine (.ref C_NoLine) = some true)
    (k1 : PySem.W.kitOne K (.ref C_NoLine) (.ref C_SayError) = some true) (k2 : PySem.W.kitOne K (.ref C_NoLine) (.type "ValueError") = some true) (k3 : PySem.W.kitAny K (.ref C_NoLine) [.ref C_NoRows, .ref C_NoText, .ref C_NoPoint] = some false)
    (D_line_made : DefD P w K mg base 5 "line_made" ["stretches"] (spMade K C_NoLine)) : Def P w K mg base 6 "_law_heard" ["_law_stretches"] (spHeard K) := by
  refine def_of T sc_l_heard (fun _ _ _ _ _ _ us hl => match us, hl with | [_], _ => rfl) (fun vs H Q E h => ?_) (fun f cdv A outer s H vs Q E hr h => ?_)
  · obtain ⟨x, M, rfl, _⟩ := h
    rfl
  obtain ⟨x, M, rfl, lnl, fit, few, kS, kN⟩ := h
  have nd := sc_l_heard.nd
  have M_NoLine := X_NoLine.m
  have ec := X_NoLine.fl.ec
  refine ⟨_, (pss_cons (ps_set (i := 1) nd rfl (Or.inl rfl) pe_non)
    (pss_cons (ps_tryG (i := 1) (j := 2) rfl rfl rfl rfl D_line_made (hr.mono (by decide)) rfl (pa_cons (pv 0) pa_nil) rfl M_NoLine CC_NoLine nd rfl rfl rfl rfl (fun _ => (pss_cons (ps_set (i := 3) nd rfl (Or.inl rfl) (pe_and (pe_callB (call_isiGK (K := K) rfl) rfl Z_isinstance (by decide +kernel) (pa_cons (pv 2) (pa_cons (pe_glob (v := V.ref C_SayError) rfl M_SayError rfl) pa_nil))) (pe_one (pe_callB (call_isiGK (K := K) rfl) rfl Z_isinstance (by decide +kernel) (pa_cons (pv 2) (pa_cons (pe_bltn (v := V.ty "ValueError") rfl Z_ValueError (by decide +kernel) rfl) pa_nil))))))
    (pss_one (ps_set (i := 1) nd rfl (Or.inl rfl) (pe_lst (pa_cons (pe_and (pv 3) (pe_one (pe_not (pe_callB (call_isiGTK (K := K) rfl) rfl Z_isinstance (by decide +kernel) (pa_cons (pv 2) (pa_cons (pe_tup (pa_cons (pe_glob (v := V.ref C_NoRows) rfl M_NoRows rfl) (pa_cons (pe_glob (v := V.ref C_NoText) rfl M_NoText rfl) (pa_cons (pe_glob (v := V.ref C_NoPoint) rfl M_NoPoint rfl) pa_nil)))) pa_nil)))))) (pa_cons (pe_fldGK (K := K) rfl (pv 2) rfl) (pa_cons (pe_fldGK (K := K) rfl (pv 2) rfl) pa_nil)))))))))
    (pss_one (ps_ret (pv 1))))), ?_⟩
  refine ⟨_, rfl, x, M, rfl, lnl, fit, few, fun y hy d H1 s1 hd => ⟨C_NoLine, rfl, sub, fun ea hea => ?_⟩, fun hn v H1 s1 dv => ?_⟩
  · have u2 := same_new hea (.ext (XGot ea C_NoLine (some d)))
    have he : upd H1 ea (.ext (XGot ea C_NoLine (some d))) ea = some (.ext (XGot ea C_NoLine (some d))) := upd_same
    have hd2 := u2 _ _ hd
    have m2 := s1.trans u2
    generalize upd H1 ea (.ext (XGot ea C_NoLine (some d))) = H2 at he hd2 m2 ⊢
    refine ⟨_, rfl, ea, _, _, C_NoLine, _, true, rfl, (fun _ h => h), he, ec, k1, _, rfl, iteT ⟨_, rfl, ea, _, _, C_NoLine, _, true, rfl, (fun _ h => h), he, ec, k2, ?_⟩⟩
    refine ⟨_, rfl, _, rfl, iteT ?_⟩
    refine ⟨_, rfl, (by show 3 ≤ sizeLine; decide), fun t ht => ?_⟩
    have u3 := same_new ht (.tup [.ref C_NoRows, .ref C_NoText, .ref C_NoPoint])
    have he3 := u3 _ _ he
    have hd3 := u3 _ _ hd2
    refine ⟨ea, t, C_NoLine, _, _, _, false, rfl, upd_same, vals3, he3, ec, k3, _, rfl, ?_⟩
    refine ⟨_, rfl, ea, C_NoLine, d, _, _, rfl, he3, hd3, X_NoLine.fl, X_NoLine.n1, rfl, ?_⟩
    refine ⟨_, rfl, ea, C_NoLine, d, _, _, rfl, he3, hd3, X_NoLine.fl, X_NoLine.n2, rfl, ?_⟩
    refine ⟨(by show 3 ≤ sizeLine; decide), fun l hl => ?_⟩
    exact ⟨_, rfl, kS y hy l _ (m2.trans (u3.trans (same_new hl _))) upd_same⟩
  · exact ⟨_, rfl, kN hn v H1 s1 dv⟩
theorem ok_amiss (T : TopDef K mg "_law_amiss" s_l_amiss) (Z_len : mg "len" = none) (Z_enumerate : mg "enumerate" = none) (Z_range : mg "range" = none) : Def P w K mg base 1 "_law_amiss" ["_law_stretches"] (spAmiss K) := by
  refine def_of T sc_l_amiss (fun _ _ _ _ _ _ us hl => match us, hl with | [_], _ => rfl) (fun vs H Q E h => ?_) (fun f cdv A outer s H vs Q E hr h => ?_)
  · obtain ⟨x, M, rfl, _⟩ := h
    rfl
  obtain ⟨x, M, rfl, ⟨l, us, rfl, sl, da⟩, fitb, few, kS, kN⟩ := h
  have nd := sc_l_amiss.nd
  have hu := hr.units
  have lus := ln_len da
  have fit : ∀ s ∈ M, Ln.Fit s := fun s hs => by
    obtain ⟨h1, h2, h3, h4, h5⟩ := fitb s hs
    exact ⟨h1, by omega, by omega, by omega, by omega⟩
  have told : ∀ (y : Nat × Int) (H' : Hp), Ln.am M = some y → Same H H' → ∀ t, H' t = none → Q (.ref t) (upd H' t (.tup [.str (wdS y.1), .int y.2])) := fun y H' hy s' t ht => kS y hy t _ (s'.trans (same_new ht _)) upd_same
  have t1 : ∃ t, PSs (cxOf CX0 P w K mg base n_l_amiss "_law_amiss" (defScope s_l_amiss) f cdv A outer s H E).nox ((defBody s_l_amiss).drop 1) t ∧ (1 ≤ M.length ∧ M.length ≤ 60 → t { nx := fun _ H' => Q .non H', rt := Q } [some (.ref l), none, none, none, none, none] H) := by
    refine ⟨_, (pss_cons (ps_set (i := 1) nd rfl (Or.inl rfl) (pe_tup (pa_cons pe_int (pa_cons pe_int pa_nil))))
    (pss_cons (ps_for PassesOwn.never rfl (pi_enum rfl Z_enumerate (pv 0)) (pg_tup rfl (pgs_cons (pg_name (i := 2) nd rfl (Or.inl rfl)) (pgs_cons (pg_name (i := 3) nd rfl (Or.inl rfl)) pgs_nil))) (pss_cons (ps_set (i := 4) nd rfl (Or.inl rfl) (pe_ix ix_tup (pv 3) pe_int (fun _ _ => rfl)))
    (pss_cons (ps_if (PW.pt (pw_or (pt_cmpR op_le (pe_op op_mulK (pe_ix ix_tup (pv 4) pe_int (fun _ _ => rfl)) (pe_ix ix_tup (pv 1) pe_int (fun _ _ => rfl))) (pe_op op_mulK (pe_ix ix_tup (pv 1) pe_int (fun _ _ => rfl)) (pe_ix ix_tup (pv 4) pe_int (fun _ _ => rfl))) (nomark _)) (pw_or1 (pt_cmpR op_gt (pe_ix ix_tup (pv 4) pe_int (fun _ _ => rfl)) (pe_ix ix_tup (pv 4) pe_int (fun _ _ => rfl)) (nomark _))))) (pss_one (ps_ret (pe_tup (pa_cons pe_str (pa_cons (pv 2) pa_nil))))) pss_nil)
    (pss_one (ps_set (i := 1) nd rfl (Or.inl rfl) (pv 4))))))
    (pss_cons (ps_if (pt_cmpR (op_neD hu) (pv 1) (pe_tup (pa_cons pe_int (pa_cons pe_int pa_nil))) (nomark _)) (pss_one (ps_ret (pe_tup (pa_cons pe_str (pa_cons (pe_op op_sub (pe_callB call_len rfl Z_len (by decide +kernel) (pa_cons (pv 0) pa_nil)) pe_int) pa_nil))))) pss_nil)
    (pss_cons (ps_for PassesOwn.never rfl (pi_range2 rfl Z_range (pa_cons pe_int (pa_cons (pe_callB call_len rfl Z_len (by decide +kernel) (pa_cons (pv 0) pa_nil)) pa_nil))) (pg_name (i := 2) nd rfl (Or.inl rfl)) (pss_cons (ps_set (i := 5) nd rfl (Or.inl rfl) (pe_ix ix_list (pv 0) (pe_op op_sub (pv 2) pe_int) (fun _ _ => rfl)))
    (pss_cons (ps_set (i := 3) nd rfl (Or.inl rfl) (pe_ix ix_list (pv 0) (pv 2) (fun _ _ => rfl)))
    (pss_one (ps_if (pt_cmpR op_ne (pe_op op_add (pe_op op_mulK (pe_op op_sub (pe_ix ix_tup (pv 3) pe_int (fun _ _ => rfl)) (pe_ix ix_tup (pv 5) pe_int (fun _ _ => rfl))) (pe_ix ix_tup (pe_ix ix_tup (pv 5) pe_int (fun _ _ => rfl)) pe_int (fun _ _ => rfl))) (pe_op op_mulK (pe_op op_sub (pe_ix ix_tup (pv 3) pe_int (fun _ _ => rfl)) (pe_ix ix_tup (pv 5) pe_int (fun _ _ => rfl))) (pe_ix ix_tup (pe_ix ix_tup (pv 5) pe_int (fun _ _ => rfl)) pe_int (fun _ _ => rfl)))) pe_int (nomark _)) (pss_one (ps_ret (pe_tup (pa_cons pe_str (pa_cons (pv 2) pa_nil))))) pss_nil)))))
    (pss_one (ps_ret pe_non)))))), fun z => ?_⟩
    refine ⟨(by show 2 ≤ sizeLine; decide), fun t0 h0 => ?_⟩
    have u0 := same_new h0 (.tup [.int 0, .int 1])
    refine ⟨_, rfl, l, rfl, ⟨us, u0.seq sl⟩, ?_⟩
    refine for_enum (xs := us) (fun i σ H' => Same H H' ∧ (∀ j, j < i → Ln.gd M j = true) ∧ ∃ av o2 o3 o4 o5, σ = [some (.ref l), some av, o2, o3, o4, o5] ∧ Dat K H' (frD (Ln.bef M i).1 (Ln.bef M i).2) av) ⟨u0, (fun j hj => absurd hj (Nat.not_lt_zero _)), _, _, _, _, _, rfl, fr_mk (p := 0) (q := 1) (SqT.of upd_same)⟩ (fun i σ H' _ h => h.1.seq sl) (fun i x T' σ H' hx h hT => ?_) (fun σ H' h => ?_)
    · obtain ⟨sm, al, av, o2, o3, o4, o5, rfl, dav⟩ := h
      obtain ⟨st, hst, dst⟩ := ln_at' (da.ts sm.ts) hx
      obtain ⟨c, e, rfl, q1, d1⟩ := st_el dst
      obtain ⟨m1, m2, m3, m4, m5⟩ := fit_sm (fit st (List.mem_of_getElem? hst))
      have iM : i < M.length := (List.getElem?_eq_some_iff.mp hst).1
      have u1 := same_new hT (.tup [.int i, .ref c])
      obtain ⟨b1, b2, _⟩ := bef_sm fit (Nat.le_of_lt iM)
      have gi := Ln.gd_of hst
      obtain ⟨ae, rfl, qa⟩ := fr_el (d1.ts u1.ts)
      obtain ⟨ab, rfl, qb⟩ := fr_el (dav.ts u1.ts)
      have q1' := q1.ts u1.ts
      have m0 := sm.trans u1
      refine ⟨T', _, rfl, SqT.of upd_same, rfl, _, _, rfl, _, _, rfl, rfl, ?_⟩
      refine ⟨_, rfl, _, _, _, _, rfl, rfl, q1', rfl, ?_⟩
      walk_at "rd"
      by_cases r1 : (Ln.bef M i).1 * st.q < st.p * (Ln.bef M i).2
      case neg =>
        rw [decide_eq_true (show st.p * (Ln.bef M i).2 ≤ (Ln.bef M i).1 * st.q by omega)]
        refine iteT (iteT ?_)
        have bad : Ln.gd M i = false := by rw [gi]; exact decide_eq_false fun z => r1 z.1
        exact ⟨_, rfl, (by show 2 ≤ sizeLine; decide), told _ _ (Ln.am_E z (Ln.amE_end iM al bad)) m0⟩
      rw [decide_eq_false (show ¬ st.p * (Ln.bef M i).2 ≤ (Ln.bef M i).1 * st.q by omega)]
      refine iteF ?_
      walk_at "rd"
      by_cases r2 : st.p ≤ st.q
      case neg =>
        rw [decide_eq_true (show st.q < st.p by omega)]
        refine iteT ?_
        have bad : Ln.gd M i = false := by rw [gi]; exact decide_eq_false fun z => r2 z.2
        exact ⟨_, rfl, (by show 2 ≤ sizeLine; decide), told _ _ (Ln.am_E z (Ln.amE_end iM al bad)) m0⟩
      rw [decide_eq_false (show ¬ st.q < st.p by omega)]
      refine iteF ?_
      refine ⟨_, rfl, m0, step_all al (by rw [gi]; exact decide_eq_true ⟨r1, r2⟩), .ref ae, _, _, _, _, rfl, ?_⟩
      rw [Ln.bef_succ hst]
      exact fr_mk qa
    · obtain ⟨sm, al, av, o2, o3, o4, o5, rfl, dav⟩ := h
      rw [lus] at dav al
      have eg := Ln.amE_go al
      refine ⟨_, rfl, (by show 2 ≤ sizeLine; decide), fun p hp => ?_⟩
      have u1 := same_new hp (.tup [.int 1, .int 1])
      have m1 := sm.trans u1
      refine ⟨_, _, .inl (dav.ts u1.ts), .inl (fr_mk (p := 1) (q := 1) (SqT.of upd_same)), fr_shaped _ _, fr_shaped _ _, _, rfl, ?_⟩
      rw [fr_eqv]
      by_cases c : (Ln.bef M M.length).1 = 1 ∧ (Ln.bef M M.length).2 = 1
      case neg =>
        rw [decide_eq_false c]
        rw [if_neg c] at eg
        refine iteT ?_
        refine ⟨_, rfl, _, _, rfl, .inl ⟨_, m1.seq sl, rfl⟩, _, _, rfl, rfl, (by show 2 ≤ sizeLine; decide), ?_⟩
        have y := told _ _ (Ln.am_E z eg) m1
        rw [← lus] at y
        exact y
      rw [decide_eq_true c]
      rw [if_pos c] at eg
      refine iteF ?_
      have ej := Ln.am_J z eg
      refine ⟨_, rfl, _, _, rfl, .inl ⟨_, m1.seq sl, rfl⟩, _, _, rfl, ⟨by decide, by decide, by omega, by omega⟩, ?_⟩
      refine for_range (fun i σ H' => Same H H' ∧ (∀ j, j < i → Ln.nj M j = true) ∧ ∃ o1 o2 o3 o4 o5, σ = [some (.ref l), o1, o2, o3, o4, o5]) ⟨m1, (fun j hj => absurd hj (Nat.not_lt_zero _)), _, _, _, _, _, rfl⟩ (fun i σ H' hi h => ?_) (fun σ H' h => ?_)
      · obtain ⟨sm, al, o1, o2, o3, o4, o5, rfl⟩ := h
        have hi2 : i + 1 < M.length := by omega
        have e1 : M[i]? = some M[i] := List.getElem?_eq_getElem (by omega)
        have e2 : M[i + 1]? = some M[i + 1] := List.getElem?_eq_getElem hi2
        obtain ⟨v1, h1, d1⟩ := ln_at (da.ts sm.ts) e1
        obtain ⟨v2, h2, d2⟩ := ln_at (da.ts sm.ts) e2
        obtain ⟨c1, f1, rfl, q1, g1⟩ := st_el d1
        obtain ⟨c2, f2, rfl, q2, g2⟩ := st_el d2
        obtain ⟨a1, rfl, qa⟩ := fr_el g1
        have at1 : atI us (1 + (i : Int) - 1) = some (.ref c1) := at_of (by omega) (by rw [show (1 + (i : Int) - 1).toNat = i by omega]; exact h1)
        have at2 : atI us (1 + (i : Int)) = some (.ref c2) := at_of (by omega) (by rw [show (1 + (i : Int)).toNat = i + 1 by omega]; exact h2)
        have sl' := sm.seq sl
        obtain ⟨_, f2', f3', f4', f5'⟩ := fitb M[i] (List.mem_of_getElem? e1)
        obtain ⟨_, g2', g3', g4', g5'⟩ := fitb M[i + 1] (List.mem_of_getElem? e2)
        have y1 : Sm M[i].p := sm_of (by omega)
        have y2 : Sm M[i].q := sm_of (by omega)
        have y3 : Sm (M[i + 1].m - M[i].m) := sm_of (by omega)
        have y4 : Sm (M[i + 1].h - M[i].h) := sm_of (by omega)
        refine ⟨_, rfl, _, rfl, _, _, rfl, rfl, _, _, _, _, rfl, rfl, sl', at1, ?_⟩
        refine ⟨_, rfl, _, rfl, _, _, _, _, rfl, rfl, sl', at2, ?_⟩
        walk_at "rd"
        have ev := Ln.nj_of e1 e2
        cases c : Ln.nj M i with
        | true =>
          rw [c] at ev
          refine iteNS (congrArg V.int (of_decide_eq_true ev.symm)) ?_
          exact ⟨sm, step_all al c, _, _, _, _, _, rfl⟩
        | false =>
          rw [c] at ev
          have nz := of_decide_eq_false ev.symm
          rw [decide_eq_false (fun y => nz (V.int.inj y))]
          refine iteT ?_
          exact ⟨_, rfl, (by show 2 ≤ sizeLine; decide), told _ _ (ej.trans (Ln.amJ_at (by omega) al c)) sm⟩
      · obtain ⟨sm, al, o1, o2, o3, o4, o5, rfl⟩ := h
        exact kN (ej.trans (Ln.amJ_no fun j hj => al j (by omega))) _ sm
  obtain ⟨t1, ht1, hq1⟩ := t1
  have cnt : ¬ (1 ≤ M.length ∧ M.length ≤ 60) → ∀ t, H t = none → Q (.ref t) (upd H t (.tup [.str "count", .int ((us.length : Nat) : Int)])) := fun z t ht => by
    rw [lus]
    exact told _ _ (Ln.am_count z) (Same.refl H) t ht
  refine ⟨_, pss_cons (ps_if (PW.pt (pw_or (pt_cmpR op_lt (pe_callB call_len rfl Z_len (by decide +kernel) (pa_cons (pv 0) pa_nil)) pe_int (nomark _)) (pw_or1 (pt_cmpR op_gt (pe_callB call_len rfl Z_len (by decide +kernel) (pa_cons (pv 0) pa_nil)) pe_int (nomark _))))) (pss_one (ps_ret (pe_tup (pa_cons pe_str (pa_cons (pe_callB call_len rfl Z_len (by decide +kernel) (pa_cons (pv 0) pa_nil)) pa_nil))))) pss_nil) ht1, ?_⟩
  refine ⟨_, rfl, _, _, rfl, .inl ⟨_, sl, rfl⟩, _, _, rfl, rfl, _, rfl, ?_⟩
  by_cases c1 : 1 ≤ M.length
  case neg =>
    rw [decide_eq_true (show ((us.length : Nat) : Int) < 1 by omega)]
    refine iteT (iteT ?_)
    exact ⟨_, rfl, _, _, rfl, .inl ⟨_, sl, rfl⟩, (by show 2 ≤ sizeLine; decide), cnt (by omega)⟩
  rw [decide_eq_false (show ¬ ((us.length : Nat) : Int) < 1 by omega)]
  refine iteF ?_
  refine ⟨_, rfl, _, _, rfl, .inl ⟨_, sl, rfl⟩, _, _, rfl, rfl, _, rfl, ?_⟩
  by_cases c2 : M.length ≤ 60
  case neg =>
    rw [decide_eq_true (show (60 : Int) < ((us.length : Nat) : Int) by omega)]
    refine iteT ?_
    exact ⟨_, rfl, _, _, rfl, .inl ⟨_, sl, rfl⟩, (by show 2 ≤ sizeLine; decide), cnt (by omega)⟩
  rw [decide_eq_false (show ¬ (60 : Int) < ((us.length : Nat) : Int) by omega)]
  exact iteF (hq1 ⟨c1, c2⟩)
theorem ok_ljoined (T : TopDef K mg "_law_joined" s_l_joined) (Z_tuple : mg "tuple" = none) (Z_len : mg "len" = none) : Def P w K mg base 1 "_law_joined" ["_law_stretches"] (spJoined K) := by
  refine def_of T sc_l_joined (fun _ _ _ _ _ _ us hl => match us, hl with | [_], _ => rfl) (fun vs H Q E h => ?_) (fun f cdv A outer s H vs Q E hr h => ?_)
  · obtain ⟨x, M, rfl, _⟩ := h
    rfl
  obtain ⟨x, M, rfl, ⟨l, us, rfl, sl, da⟩, few, k⟩ := h
  have nd := sc_l_joined.nd
  have hu := hr.units
  have lus := ln_len da
  refine ⟨_, (pss_cons (ps_set (i := 1) nd rfl (Or.inl rfl) (pe_lst pa_nil))
    (pss_cons (ps_for PassesOwn.never rfl (pi_list (pv 0)) (pg_name (i := 2) nd rfl (Or.inl rfl)) (pss_cons (ps_if (PW.pt (pw_and (pt_cmpR op_gt (pe_callB call_len rfl Z_len (by decide +kernel) (pa_cons (pv 1) pa_nil)) pe_int (nomark _)) (pw_and1 (pt_cmpR (op_eqD hu) (pe_slice sl_tup (pe_ix ix_list (pv 1) (pe_un un_neg pe_int) (fun _ _ => rfl)) (po_some pe_int) po_none) (pe_slice sl_tup (pv 2) (po_some pe_int) po_none) (nomark _))))) (pss_one (ps_expr (pe_bm0 PySem.F.plainAttrs_list PySem.F.slot_list_pop PySem.F.type_list_pop mt_pop (pv 1)))) pss_nil)
    (pss_one (ps_expr (pe_bm PySem.F.plainAttrs_list PySem.F.slot_list_append PySem.F.type_list_append mt_append (pv 1) (pa_cons (pv 2) pa_nil))))))
    (pss_one (ps_ret (pe_callTy call_tuple_of rfl Z_tuple (by decide +kernel) (pa_cons (pv 1) pa_nil)))))), ?_⟩
  refine ⟨(by show 0 ≤ sizeLine; decide), fun b hb => ?_⟩
  have u0 := same_new hb (.lst [])
  refine ⟨_, rfl, l, rfl, ⟨us, u0.seq sl⟩, ?_⟩
  refine for_list (xs := us) (fun i σ H' => Same H H' ∧ ∃ xs o2, σ = [some (.ref l), some (.ref b), o2] ∧ H' b = some (.lst xs) ∧ DatAll K H' ((Ln.jn (M.take i)).map stD) xs) ⟨u0, [], _, rfl, upd_same, rfl⟩ (fun i σ H' _ h => h.1.seq sl) (fun i x σ H' hx h => ?_) (fun σ H' h => ?_)
  · obtain ⟨sm, xs, o2, rfl, hbx, dx⟩ := h
    obtain ⟨st, hst, dst⟩ := ln_at' (da.ts sm.ts) hx
    have hi := (List.getElem?_eq_some_iff.mp hst).1
    have tk : Ln.jn (M.take (i + 1)) = Ln.jnStep (Ln.jn (M.take i)) st := by
      rw [List.take_add_one, hst]
      exact Ln.jn_snoc _ _
    have lx : xs.length ≤ 1000 := by
      rw [ln_len dx]
      have := jn_len (M.take i) []
      rw [List.length_take] at this
      show (Ln.jn (M.take i)).length ≤ 1000
      unfold Ln.jn
      simp at this
      omega
    rw [tk]
    refine ⟨_, rfl, _, _, rfl, .inl ⟨_, SqL.of hbx, rfl⟩, _, _, rfl, rfl, _, rfl, ?_⟩
    have u1 : Same H' H' := Same.refl H'
    have lnx := ln_len dx
    -- the append behind both ways
    have app : ∀ (ys : List V) (B : List St4) (H2 : Hp), Same H H2 → Tst H' H2 → H2 b = some (.lst ys) → ys.length ≤ 1000 → DatAll K H2 (B.map stD) ys → B ++ [st] = Ln.jnStep (Ln.jn (M.take i)) st →
        (Same H (upd H2 b (.lst (ys ++ [x]))) ∧ ∃ xs o2, [some (V.ref l), some (V.ref b), some x] = [some (.ref l), some (.ref b), o2] ∧ upd H2 b (.lst (ys ++ [x])) b = some (.lst xs) ∧ DatAll K (upd H2 b (.lst (ys ++ [x]))) ((Ln.jnStep (Ln.jn (M.take i)) st).map stD) xs) := by
      intro ys B H2 s2 tH hy hl2 dy eB
      refine ⟨same_mut s2 hb _, ys ++ [x], _, rfl, upd_same, ?_⟩
      rw [← eB, List.map_append]
      have t2 : Tst H2 (upd H2 b (.lst (ys ++ [x]))) := ts_mut hy
      exact (dy.ts t2).snoc (dst.ts (tH.trans t2))
    by_cases hA : Ln.jn (M.take i) = []
    · rw [decide_eq_false (show ¬ ((0 : Int) < ((xs.length : Nat) : Int)) by rw [lnx, hA]; decide)]
      refine iteF (iteF ?_)
      have hb1 := u1 _ _ hbx
      refine ⟨_, rfl, .inl ⟨rfl, _, SqL.of hb1⟩, _, rfl, b, xs, _, rfl, rfl, hb1, small1000 lx, ?_⟩
      refine app xs (Ln.jn (M.take i)) _ (sm.trans u1) u1.ts hb1 lx (dx.ts u1.ts) ?_
      rw [Ln.jnStep_new (fun t ht => by rw [hA] at ht; cases ht)]
    · rw [decide_eq_true (show ((0 : Int) < ((xs.length : Nat) : Int)) by have := List.length_pos_iff.mpr hA; omega)]
      refine iteT ?_
      have hb1 := u1 _ _ hbx
      have hlast : ∃ t, (Ln.jn (M.take i)).getLast? = some t := by
        cases z : (Ln.jn (M.take i)).getLast? with
        | none => exact absurd (List.getLast?_eq_none_iff.mp z) hA
        | some t => exact ⟨t, rfl⟩
      obtain ⟨t, ht⟩ := hlast
      obtain ⟨lp, ht'⟩ := Ln.last_at ht
      obtain ⟨y, hy, dy⟩ := ln_at dx ht'
      have hy2 : xs.getLast? = some y := by rw [List.getLast?_eq_getElem?, ln_len dx]; exact hy
      obtain ⟨c1, f1, rfl, q1, _⟩ := st_el (dy.ts u1.ts)
      obtain ⟨c2, f2, rfl, q2, _⟩ := st_el (dst.ts u1.ts)
      refine ⟨_, rfl, _, rfl, _, _, _, _, rfl, rfl, SqL.of hb1, at_last hy2, _, rfl, c1, _, rfl, q1, cut1_ne _ _ _, fun p3 h3 => ?_⟩
      have u3 := same_new h3 (.tup (cutV [f1, .int t.m, .int t.h] (some 1) none))
      refine ⟨_, rfl, _, rfl, c2, _, rfl, q2.ts u3.ts, cut1_ne _ _ _, fun p4 h4 => ?_⟩
      have u4 := same_new h4 (.tup (cutV [f2, .int st.m, .int st.h] (some 1) none))
      refine ⟨_, _, .inl (fr_mk (p := t.m) (q := t.h) (SqT.of (u4 _ _ upd_same))), .inl (fr_mk (p := st.m) (q := st.h) (SqT.of upd_same)), fr_shaped _ _, fr_shaped _ _, _, rfl, ?_⟩
      rw [fr_eqv]
      have ua := u1.trans (u3.trans u4)
      have hb4 := ua _ _ hbx
      have stepE : Ln.jnStep (Ln.jn (M.take i)) st = if t.m = st.m ∧ t.h = st.h then (Ln.jn (M.take i)).dropLast ++ [st] else Ln.jn (M.take i) ++ [st] := by
        show (match (Ln.jn (M.take i)).getLast? with | some t => if t.m = st.m ∧ t.h = st.h then (Ln.jn (M.take i)).dropLast ++ [st] else Ln.jn (M.take i) ++ [st] | none => _) = _
        rw [ht]
      by_cases same : t.m = st.m ∧ t.h = st.h
      · rw [decide_eq_true same]
        refine iteT ?_
        have lpx : 0 < xs.length := by rw [ln_len dx]; exact lp
        refine ⟨_, rfl, .inl ⟨rfl, _, SqL.of hb4⟩, b, xs, _, rfl, rfl, hb4, List.getElem?_eq_getElem (by omega), ?_⟩
        have t5 : Tst (upd (upd H' p3 (.tup (cutV [f1, .int t.m, .int t.h] (some 1) none))) p4 (.tup (cutV [f2, .int st.m, .int st.h] (some 1) none))) (upd (upd (upd H' p3 (.tup (cutV [f1, .int t.m, .int t.h] (some 1) none))) p4 (.tup (cutV [f2, .int st.m, .int st.h] (some 1) none))) b (.lst xs.dropLast)) := ts_mut hb4
        refine ⟨_, rfl, .inl ⟨rfl, _, SqL.of upd_same⟩, _, rfl, b, xs.dropLast, _, rfl, rfl, upd_same, small1000 (by rw [List.length_dropLast]; omega), ?_⟩
        refine app xs.dropLast (Ln.jn (M.take i)).dropLast _ (same_mut (sm.trans ua) hb _) (ua.ts.trans t5) upd_same (by rw [List.length_dropLast]; omega) ?_ (by rw [stepE, if_pos same])
        have dd := Mine.DatAll.take (xs.length - 1) ((dx.ts ua.ts).ts t5)
        have e1 : ((Ln.jn (M.take i)).map stD).take (xs.length - 1) = ((Ln.jn (M.take i)).dropLast).map stD := by rw [List.dropLast_eq_take, List.map_take, ln_len dx]
        rw [e1, ← List.dropLast_eq_take] at dd
        exact dd
      · rw [decide_eq_false same]
        refine iteF ?_
        refine ⟨_, rfl, .inl ⟨rfl, _, SqL.of hb4⟩, _, rfl, b, xs, _, rfl, rfl, hb4, small1000 lx, ?_⟩
        exact app xs (Ln.jn (M.take i)) _ (sm.trans ua) ua.ts hb4 lx (dx.ts ua.ts) (by rw [stepE, if_neg same])
  · obtain ⟨sm, xs, o2, rfl, hbx, dx⟩ := h
    refine ⟨_, rfl, b, xs, rfl, .inl ⟨SqL.of hbx, fun t ht => ?_⟩⟩
    have u1 := same_new ht (.tup xs)
    rw [lus, List.take_length] at dx
    exact k _ _ (sm.trans u1) ⟨t, xs, rfl, SqT.of upd_same, dx.ts u1.ts⟩
end
end Mine



set_option Elab.async false
set_option linter.all false
set_option maxRecDepth 100000
set_option maxHeartbeats 4000000

namespace Mine
open PySem L2
local macro_rules | `(tactic| walk_at "mul") => `(tactic| first | exact mulS (by assumption) (by assumption) | exact mulS (by first | assumption | exact sm_of (by omega) | exact sm_of (by decide) | exact sm_mod (by decide) (by decide)) (by first | assumption | exact sm_of (by omega) | exact sm_of (by decide) | exact sm_mod (by decide) (by decide)))
local macro_rules | `(tactic| walk_at "rd1") => `(tactic| first
  | refine ⟨_, rfl, ?_⟩
  | refine ⟨_, _, rfl, rfl, ?_⟩
  | (refine' ⟨_, _, _, _, rfl, rfl, ?sq, ?ia, ?k⟩; (case' sq => first | assumption | exact Scr.l (by assumption)); (case' ia => first | rfl | assumption))
  | refine ⟨rfl, ?_⟩
  | (refine ⟨?m, ?_⟩; (case' m => walk_at "mul"))
  | (refine ⟨?m, ?_⟩; (case' m => exact div_ok (by first | assumption | omega) (by assumption)))
  | (refine ⟨?m, ?_⟩; (case' m => show (0 : Int) < _; decide))
  | (refine ⟨?m, ?_⟩; (case' m => exact ⟨by decide, by decide⟩))
  | (refine ⟨?m, ?_⟩; (case' m => exact ⟨by decide, by decide, by decide⟩)))
local macro_rules | `(tactic| walk_at "rd") => `(tactic| repeat walk_at "rd1")

theorem DatAll.drop {K : PySem.W.Frag} {H : Hp} : ∀ {ds : List PyData} {xs : List V} (n : Nat), DatAll K H ds xs → DatAll K H (ds.drop n) (xs.drop n)
  | _, _, 0, h => h
  | [], _, _ + 1, h => by cases (show _ = ([] : List V) from h); rfl
  | _ :: _, _, n + 1, ⟨x, r, h1, h2, h3⟩ => by subst h1; exact DatAll.drop n h3
/-- a slice of a list of stretches -/
theorem cut_dat {K : PySem.W.Frag} {H : Hp} {M : List St4} {us : List V} (d : DatAll K H (M.map stD) us) (lo hi : Option Int) : ∃ R : List St4, DatAll K H (R.map stD) (cutV us lo hi) ∧ (∀ s ∈ R, s ∈ M) ∧ R.length ≤ M.length := by
  refine ⟨(M.drop (HT.sIx us.length 0 lo)).take (HT.sIx us.length us.length hi - HT.sIx us.length 0 lo), ?_, fun s hs => List.mem_of_mem_drop (List.mem_of_mem_take hs), ?_⟩
  · rw [List.map_take, List.map_drop]
    exact Mine.DatAll.take _ (Mine.DatAll.drop _ d)
  · rw [List.length_take, List.length_drop]
    omega
def spChanged (K : PySem.W.Frag) : Sp := fun vs H Q _ => ∃ (l : Addr) (us : List V) (M : List St4) (b : Nat) (v : Int), vs = [.ref l, .int v] ∧ H l = some (.lst us) ∧ DatAll K H (M.map stD) us ∧ (∀ s ∈ M, Ln.FitB b s) ∧ 2 ≤ b ∧ b ≤ 50 ∧ 1 ≤ M.length ∧ M.length ≤ 100 ∧ 0 ≤ v ∧
  ∀ (l' : Addr) (us' : List V) (M' : List St4) (H' : Hp), Same H H' → H' l' = some (.lst us') → DatAll K H' (M'.map stD) us' → (∀ s ∈ M', Ln.FitB (b + 2) s) → M'.length ≤ 2 * M.length + 1 → Q (.ref l') H'
theorem up_fit {b : Nat} {M R : List St4} (fit : ∀ s ∈ M, Ln.FitB b s) (m : ∀ s ∈ R, s ∈ M) : ∀ s ∈ R, Ln.FitB (b + 2) s := fun s hs => (fit s (m s hs)).mono (by omega)
/-- (a slice + [x]) + a slice -/
theorem glue {K : PySem.W.Frag} {H H2 : Hp} {Q : VK} {l p1 p2 : Addr} {us : List V} {M : List St4} {b : Nat} {x : V} {s' : St4} {σ : St} {tk : TO} {lo hi : Option Int} (hl : H l = some (.lst us)) (da : DatAll K H (M.map stD) us) (fit : ∀ s ∈ M, Ln.FitB b s) (l100 : M.length ≤ 100)
    (k : ∀ (l' : Addr) (us' : List V) (M' : List St4) (H' : Hp), Same H H' → H' l' = some (.lst us') → DatAll K H' (M'.map stD) us' → (∀ s ∈ M', Ln.FitB (b + 2) s) → M'.length ≤ 2 * M.length + 1 → Q (.ref l') H')
    (s2 : Same H H2) (h1 : H2 p1 = some (.lst (cutV us lo hi))) (h2 : H2 p2 = some (.lst [x])) (dx : Dat K H2 (stD s') x) (fs : Ln.FitB (b + 2) s') (h0 : ∀ H3 (G : VK), G (.ref l) H3 → tVar 0 σ H3 G) (htk : ∀ H3 (G : Option Int → Hp → Prop), (∀ i, G i H3) → tk σ H3 G) :
    rCat (.ref p1) (.ref p2) H2 fun y H3 => tSl (rSlL K) (tVar 0) tk tNoPart σ H3 fun z H4 => rCat y z H4 Q := by
  obtain ⟨R1, d1, m1, n1⟩ := cut_dat da lo hi
  have c1 := ln_len d1
  refine ⟨p1, p2, _, _, rfl, rfl, h1, h2, Nat.le_of_lt (small1000 (by rw [List.length_singleton]; omega)), fun p3 hp3 => ?_⟩
  have u3 := same_new hp3 (.lst (cutV us lo hi ++ [x]))
  refine h0 _ _ (htk _ _ fun i => ?_)
  refine ⟨l, us, rfl, SqL.of ((s2.trans u3) _ _ hl), fun p4 hp4 => ?_⟩
  obtain ⟨R2, d2, m2, n2⟩ := cut_dat da i none
  have c2 := ln_len d2
  have u4 := same_new hp4 (.lst (cutV us i none))
  refine ⟨p3, p4, _, _, rfl, rfl, u4 _ _ upd_same, upd_same, Nat.le_of_lt (small1000 (by rw [List.length_append, List.length_singleton]; omega)), fun p5 hp5 => ?_⟩
  have u5 := same_new hp5 (.lst (cutV us lo hi ++ [x] ++ cutV us i none))
  have sx := u3.trans (u4.trans u5)
  have sa := s2.trans sx
  refine k p5 _ (R1 ++ [s'] ++ R2) _ sa upd_same ?_ ?_ (by simp; omega)
  · rw [List.map_append, List.map_append]
    exact ((d1.ts sa.ts).append (show DatAll K _ ([s'].map stD) [x] from ⟨_, _, rfl, dx.ts sx.ts, rfl⟩)).append (d2.ts sa.ts)
  · intro s hs
    rcases List.mem_append.mp hs with z | z
    · rcases List.mem_append.mp z with z | z
      · exact up_fit fit m1 s z
      · rw [List.mem_singleton.mp z]; exact fs
    · exact up_fit fit m2 s z
theorem low_fit {b : Nat} {t q m h : Int} (q0 : 0 < q) (ht : t.natAbs < 2 ^ b) (hq : q.natAbs < 2 ^ b) (hm : m.natAbs < 2 ^ b) (hh : h.natAbs < 2 ^ b) : Ln.FitB b ⟨Lo.lowT t q, Lo.lowB t q, m, h⟩ := by
  have z : q ≠ 0 := by omega
  have y1 := Lo.lowT_le (t := t) z
  have y2 := Lo.lowB_le (t := t) z
  exact ⟨Lo.lowB_pos (t := t) z, by show (Lo.lowT t q).natAbs < _; omega, by show (Lo.lowB t q).natAbs < _; omega, hm, hh⟩
section
variable {P : Program} {w : World} {K : PySem.W.Frag} {mg : Str → Option Value} {base : Heap}
theorem len3 {o : St} (h : o.length = 3) : ∃ a b c, o = [a, b, c] := by
  match o, h with
  | [a, b, c], _ => exact ⟨a, b, c, rfl⟩
theorem pg_tupK {X : Cx} {K : PySem.W.Frag} {es : List Expr} {k : Nat} {pos : Pos} {t : TGs} {n : Nat} (e : X.K = K) (hc : X.calm = true) (h : PGs X es t)
    (hn : (assignEach es X.env).length = n := by rfl) (hst : (assignEach es X.env).findIdx? (·.1) = none := by rfl) : PG X (.Tuple es k pos) (gTup K n t) := by
  subst e
  exact pg_tup hc h hn hst
def rsB (k : Int) (s : St4) : St4 := ⟨s.p, s.q, s.m, s.h + k⟩
theorem map_step {α : Type} {f : St4 → α} {L : List St4} {i : Nat} {s : St4} (h : L[i]? = some s) : (L.take (i + 1)).map f = (L.take i).map f ++ [f s] := by
  rw [List.take_add_one, h, List.map_append]
  rfl
theorem ne_lst {H : Hp} {t D : Addr} {zs : List V} (ht : H t = none) (h : H D = some (.lst zs)) : D ≠ t := fun e => by rw [e, ht] at h; cases h
theorem dat_set {H : Hp} : ∀ {M : List St4} {us : List V} {i : Nat} {s : St4} {x : V}, DatAll K H (M.map stD) us → Dat K H (stD s) x → DatAll K H ((M.set i s).map stD) (us.set i x)
  | [], us, _, _, _, h, _ => by cases (show us = [] from h); exact rfl
  | _ :: _, _, 0, _, _, ⟨y, r, h1, h2, h3⟩, d => by subst h1; exact ⟨_, _, rfl, d, h3⟩
  | _ :: M, _, i + 1, _, _, ⟨y, r, h1, h2, h3⟩, d => by subst h1; exact ⟨_, _, rfl, h2, dat_set (M := M) h3 d⟩
theorem ok_changed (T : TopDef K mg "_law_changed" s_l_changed) (Z_len : mg "len" = none) (Z_list : mg "list" = none) (D__law_lowest : Def P w K mg base 2 "_law_lowest" ["_law_top", "_law_bottom"] spLow) : Def P w K mg base 3 "_law_changed" ["_law_stretches", "_law_cell"] (spChanged K) := by
  refine def_of T sc_l_changed (fun _ _ _ _ _ _ us hl => match us, hl with | [_, _], _ => rfl) (fun vs H Q E h => ?_) (fun f cdv A outer s H vs Q E hr h => ?_)
  · obtain ⟨l, us, M, b, v, rfl, _⟩ := h
    rfl
  obtain ⟨l, us, M, b, v, rfl, hl, da, fit, b2, b50, l1, l100, v0, k⟩ := h
  have nd := sc_l_changed.nd
  have lus := ln_len da
  have up : ∀ s ∈ M, Ln.FitB (b + 2) s := fun s hs => (fit s hs).mono (by omega)
  have zl : (0 : Int) < (us.length : Int) := by omega
  have e0 := Int.fmod_nonneg_of_pos v zl
  have e1 := Int.fmod_lt_of_pos v zl
  obtain ⟨i, ei⟩ : ∃ i : Nat, v.fmod (us.length : Int) = (i : Int) := ⟨(v.fmod (us.length : Int)).toNat, by omega⟩
  have hs : M[i]? = some (M[i]'(by omega)) := List.getElem?_eq_getElem (by omega)
  obtain ⟨w0, hw, dst⟩ := ln_at da hs
  have at1 : atI us (v.fmod (us.length : Int)) = some w0 := by rw [ei]; exact atI_nat hw
  obtain ⟨c1, ev, rfl, q1, de⟩ := st_el dst
  obtain ⟨ce, rfl, qe⟩ := fr_el de
  have fs := fit _ (List.mem_of_getElem? hs)
  obtain ⟨f0, f1, f2, f3, f4⟩ := id fs
  have pw := Ln.pow2 b
  have pb : 4 ≤ 2 ^ b := by
    have := Nat.pow_le_pow_right (show 0 < 2 by decide) b2
    omega
  have big : 2 ^ (b + 2) ≤ 2 ^ 52 := Nat.pow_le_pow_right (by decide) (by omega)
  obtain ⟨y, ey, y1, y3⟩ : ∃ y : Int, y = v / 640 % 3 + 1 ∧ 1 ≤ y ∧ y ≤ 3 := ⟨_, rfl, by omega, by omega⟩
  obtain ⟨wy, ew⟩ : ∃ wy : Int, wy = v / 64 % 10 := ⟨_, rfl⟩
  obtain ⟨a, ea0⟩ : ∃ a : Int, a = v.fmod (us.length : Int) := ⟨_, rfl⟩
  have ea : a = (i : Int) := ea0.trans ei
  have iM : i < M.length := (List.getElem?_eq_some_iff.mp hs).1
  have t13 : ∃ t, PSs (cxOf CX0 P w K mg base n_l_changed "_law_changed" (defScope s_l_changed) f cdv A outer s H E).nox ((defBody s_l_changed).drop 13) t ∧ t { nx := fun _ H' => Q .non H', rt := Q } [some (.ref l), some (.int v), some (.int a), some (.ref c1), some (.int wy), some (.int y), none, none, none] H := by
    refine ⟨_, (pss_one (ps_ret (pv 0))), ?_⟩
    exact ⟨_, rfl, k l us M H (Same.refl H) hl da up (by omega)⟩
  obtain ⟨t13, ht13, hq13⟩ := t13
  have t12 : ∃ t, PSs (cxOf CX0 P w K mg base n_l_changed "_law_changed" (defScope s_l_changed) f cdv A outer s H E).nox ((defBody s_l_changed).drop 12) t ∧ t { nx := fun _ H' => Q .non H', rt := Q } [some (.ref l), some (.int v), some (.int a), some (.ref c1), some (.int wy), some (.int y), none, none, none] H := by
    refine ⟨_, pss_cons (ps_if (pt_cmpR op_eq (pv 4) pe_int (nomark _)) (pss_one (ps_ret (pe_op op_cat (pe_op op_cat (pe_slice sl_list (pv 0) po_none (po_some (pv 2))) (pe_lst (pa_cons (pe_tup (pa_cons (pe_ix ix_tup (pv 3) pe_int (fun _ _ => rfl)) (pa_cons (pe_op op_add (pe_ix ix_tup (pv 3) pe_int (fun _ _ => rfl)) (pv 5)) (pa_cons (pe_ix ix_tup (pv 3) pe_int (fun _ _ => rfl)) pa_nil)))) pa_nil))) (pe_slice sl_list (pv 0) (po_some (pe_op op_add (pv 2) pe_int)) po_none)))) pss_nil) ht13, ?_⟩
    refine ⟨_, rfl, rfl, _, rfl, ?_⟩
    refine ite2 (fun _ => ?_) (fun _ => hq13)
    refine ⟨_, rfl, _, rfl, _, rfl, l, us, rfl, SqL.of hl, fun p1 hp1 => ?_⟩
    have u1 := same_new hp1 (.lst (cutV us none (some a)))
    have q1' := q1.ts u1.ts
    refine ⟨_, rfl, _, _, _, _, rfl, rfl, q1', rfl, _, rfl, _, _, _, _, rfl, rfl, q1', rfl, _, rfl, _, _, rfl, rfl, _, rfl, _, _, _, _, rfl, rfl, q1', rfl, (by show 3 ≤ sizeLine; decide), fun t ht => ⟨(by show 1 ≤ sizeLine; decide), fun p2 hp2 => ?_⟩⟩
    have u3 := same_new ht (.tup [.ref ce, .int (M[i].m + y), .int (M[i].h)])
    have u4 := same_new hp2 (.lst [.ref t])
    have sa := u1.trans (u3.trans u4)
    refine glue (s' := ⟨M[i].p, M[i].q, M[i].m + y, M[i].h⟩) hl da fit l100 k sa ((u3.trans u4) _ _ upd_same) upd_same (st_mk (s := ⟨M[i].p, M[i].q, M[i].m + y, M[i].h⟩) (SqT.of (u4 _ _ upd_same)) (fr_mk (qe.ts sa.ts))) ⟨by show 0 < M[i].q; omega, by show M[i].p.natAbs < _; omega, by show M[i].q.natAbs < _; omega, by show (M[i].m + y).natAbs < _; omega, by show (M[i].h).natAbs < _; omega⟩ (fun H3 G g => ⟨_, rfl, g⟩) (fun H3 G g => ⟨_, rfl, _, _, rfl, rfl, _, rfl, g _⟩)
  obtain ⟨t12, ht12, hq12⟩ := t12
  have t11 : ∃ t, PSs (cxOf CX0 P w K mg base n_l_changed "_law_changed" (defScope s_l_changed) f cdv A outer s H E).nox ((defBody s_l_changed).drop 11) t ∧ t { nx := fun _ H' => Q .non H', rt := Q } [some (.ref l), some (.int v), some (.int a), some (.ref c1), some (.int wy), some (.int y), none, none, none] H := by
    refine ⟨_, pss_cons (ps_if (pt_cmpR op_eq (pv 4) pe_int (nomark _)) (pss_one (ps_ret (pe_op op_cat (pe_op op_cat (pe_slice sl_list (pv 0) po_none (po_some (pv 2))) (pe_lst (pa_cons (pe_tup (pa_cons (pe_ix ix_tup (pv 3) pe_int (fun _ _ => rfl)) (pa_cons (pe_ix ix_tup (pv 3) pe_int (fun _ _ => rfl)) (pa_cons (pe_op op_add (pe_ix ix_tup (pv 3) pe_int (fun _ _ => rfl)) (pv 5)) pa_nil)))) pa_nil))) (pe_slice sl_list (pv 0) (po_some (pe_op op_add (pv 2) pe_int)) po_none)))) pss_nil) ht12, ?_⟩
    refine ⟨_, rfl, rfl, _, rfl, ?_⟩
    refine ite2 (fun _ => ?_) (fun _ => hq12)
    refine ⟨_, rfl, _, rfl, _, rfl, l, us, rfl, SqL.of hl, fun p1 hp1 => ?_⟩
    have u1 := same_new hp1 (.lst (cutV us none (some a)))
    have q1' := q1.ts u1.ts
    refine ⟨_, rfl, _, _, _, _, rfl, rfl, q1', rfl, _, rfl, _, _, _, _, rfl, rfl, q1', rfl, _, rfl, _, _, _, _, rfl, rfl, q1', rfl, _, rfl, _, _, rfl, rfl, (by show 3 ≤ sizeLine; decide), fun t ht => ⟨(by show 1 ≤ sizeLine; decide), fun p2 hp2 => ?_⟩⟩
    have u3 := same_new ht (.tup [.ref ce, .int (M[i].m), .int (M[i].h + y)])
    have u4 := same_new hp2 (.lst [.ref t])
    have sa := u1.trans (u3.trans u4)
    refine glue (s' := ⟨M[i].p, M[i].q, M[i].m, M[i].h + y⟩) hl da fit l100 k sa ((u3.trans u4) _ _ upd_same) upd_same (st_mk (s := ⟨M[i].p, M[i].q, M[i].m, M[i].h + y⟩) (SqT.of (u4 _ _ upd_same)) (fr_mk (qe.ts sa.ts))) ⟨by show 0 < M[i].q; omega, by show M[i].p.natAbs < _; omega, by show M[i].q.natAbs < _; omega, by show (M[i].m).natAbs < _; omega, by show (M[i].h + y).natAbs < _; omega⟩ (fun H3 G g => ⟨_, rfl, g⟩) (fun H3 G g => ⟨_, rfl, _, _, rfl, rfl, _, rfl, g _⟩)
  obtain ⟨t11, ht11, hq11⟩ := t11
  have t10 : ∃ t, PSs (cxOf CX0 P w K mg base n_l_changed "_law_changed" (defScope s_l_changed) f cdv A outer s H E).nox ((defBody s_l_changed).drop 10) t ∧ t { nx := fun _ H' => Q .non H', rt := Q } [some (.ref l), some (.int v), some (.int a), some (.ref c1), some (.int wy), some (.int y), none, none, none] H := by
    refine ⟨_, pss_cons (ps_if (pt_cmpR op_eq (pv 4) pe_int (nomark _)) (pss_one (ps_ret (pe_op op_cat (pe_slice sl_list (pv 0) po_none (po_some (pv 2))) (pe_compTF (xs := ["_law_end", "_law_slope", "_law_height"]) rfl (pi_list (pe_slice sl_list (pv 0) (po_some (pv 2)) po_none)) rfl (by decide +kernel) (by decide +kernel) (show ∀ p ∈ Scope.names _, p.2 = NameKind.free → List.lookup p.1 (defScope s_l_changed).names = some .cell ∨ List.lookup p.1 (defScope s_l_changed).names = some .free by decide +kernel) (fa_cons (j := 5) rfl (Or.inl rfl) (by decide +kernel) (Or.inl rfl) fa_nil) (show (["_law_end", "_law_slope", "_law_height", "_law_by"] : List Str).Nodup by decide +kernel) (fun _ _ _ _ => pg_tupK (K := K) (n := 3) rfl rfl (pgs_cons (pg_name (i := 0) (show (["_law_end", "_law_slope", "_law_height", "_law_by"] : List Str).Nodup by decide +kernel) rfl (Or.inl rfl) (.inr rfl)) (pgs_cons (pg_name (i := 1) (show (["_law_end", "_law_slope", "_law_height", "_law_by"] : List Str).Nodup by decide +kernel) rfl (Or.inl rfl) (.inr rfl)) (pgs_cons (pg_name (i := 2) (show (["_law_end", "_law_slope", "_law_height", "_law_by"] : List Str).Nodup by decide +kernel) rfl (Or.inl rfl) (.inr rfl)) pgs_nil)))) (fun _ _ _ _ => (pe_tup (pa_cons (pv 0) (pa_cons (pv 1) (pa_cons (pe_op op_add (pv 2) (pv 3)) pa_nil))))))))) pss_nil) ht11, ?_⟩
    refine ⟨_, rfl, rfl, _, rfl, ?_⟩
    refine ite2 (fun _ => ?_) (fun _ => hq11)
    refine ⟨_, rfl, _, rfl, _, rfl, l, us, rfl, SqL.of hl, fun p1 hp1 => ?_⟩
    have u1 := same_new hp1 (.lst (cutV us none (some a)))
    refine ⟨_, rfl, _, rfl, _, rfl, l, us, rfl, SqL.of (u1 _ _ hl), fun p2 hp2 => ?_⟩
    have u2 := same_new hp2 (.lst (cutV us (some a) none))
    obtain ⟨R1, d1, m1, n1⟩ := cut_dat da none (some a)
    obtain ⟨R2, d2, m2, n2⟩ := cut_dat da (some a) none
    have g1 := ln_len d1
    have g2 := ln_len d2
    have hp2' : upd (upd H p1 (.lst (cutV us none (some a)))) p2 (.lst (cutV us (some a) none)) p2 = some (.lst (cutV us (some a) none)) := upd_same
    have hp1' := u2 _ _ (upd_same (H := H))
    have s12 := u1.trans u2
    refine ⟨p2, rfl, ⟨_, SqL.of hp2'⟩, fun D hD => ?_⟩
    refine ⟨fun j m H4 => m = (cutV us (some a) none).length - j ∧ j ≤ (cutV us (some a) none).length ∧ Same (upd (upd H p1 (.lst (cutV us none (some a)))) p2 (.lst (cutV us (some a) none))) H4 ∧ ∃ zs, H4 D = some (.lst zs) ∧ DatAll K H4 (((R2.take j).map (rsB y)).map stD) zs, ⟨_, rfl, Nat.zero_le _, same_new hD _, [], upd_same, rfl⟩, ?_⟩
    rintro j m H4 ⟨rfl, hj, sm, zs, hlD, dz⟩
    have lz : zs.length ≤ 900 := by rw [dz.len]; simp; omega
    have sl2 : SqL K H4 p2 (cutV us (some a) none) := SqL.of (sm _ _ hp2')
    by_cases hlt : j < (cutV us (some a) none).length
    · refine .inr ⟨⟨_, _, sl2, List.getElem?_eq_getElem hlt⟩, fun o ho v5 H5 yy => ?_⟩
      obtain ⟨rfl, yy⟩ := yy
      obtain ⟨st, hst, dst2⟩ := ln_at' (d2.ts (s12.trans sm).ts) (yy _ sl2)
      obtain ⟨c, e, rfl, q2, dd1⟩ := st_el dst2
      obtain ⟨o1, o2, o3, rfl⟩ := len3 ho
      refine ⟨c, _, rfl, q2, rfl, _, _, rfl, _, _, rfl, _, _, rfl, rfl, [some e, some (.int st.m), some (.int st.h)], rfl, rfl, ?_⟩
      refine ⟨_, rfl, _, rfl, _, rfl, _, rfl, _, _, rfl, rfl, (by show 3 ≤ sizeLine; decide), fun t ht => ?_⟩
      have w1 := same_new ht (.tup [e, .int st.m, .int (st.h + y)])
      have hD1 := w1 _ _ hlD
      have t2 : Tst (upd H5 t (.tup [e, .int st.m, .int (st.h + y)])) (upd (upd H5 t (.tup [e, .int st.m, .int (st.h + y)])) D (.lst (zs ++ [.ref t]))) := ts_mut hD1
      have tt := w1.ts.trans t2
      refine ⟨zs, hD1, small1000 (by omega), (cutV us (some a) none).length - (j + 1), by omega, rfl, hlt, same_mut (sm.trans w1) hD _, zs ++ [.ref t], upd_same, ?_⟩
      rw [map_step hst, List.map_append]
      exact (dz.ts tt).snoc (st_mk (s := rsB y st) (SqT.of (by rw [upd_ne (ne_lst ht hlD).symm]; exact upd_same)) (dd1.ts tt))
    have ej : j = (cutV us (some a) none).length := by omega
    subst ej
    refine .inl ⟨⟨_, sl2, Nat.le_refl _⟩, ?_⟩
    rw [g2, List.take_length] at dz
    have lz2 := dz.len
    rw [List.length_map, List.length_map] at lz2
    refine ⟨p1, D, _, zs, rfl, rfl, sm _ _ hp1', hlD, Nat.le_of_lt (small1000 (by omega)), fun p5 hp5 => ?_⟩
    have u5 := same_new hp5 (.lst (cutV us none (some a) ++ zs))
    have sa := s12.trans (sm.trans u5)
    refine k p5 _ (R1 ++ R2.map (rsB y)) _ sa upd_same ?_ (fun s hs => ?_) (by simp; omega)
    · rw [List.map_append]
      exact (d1.ts sa.ts).append (dz.ts u5.ts)
    · rcases List.mem_append.mp hs with z | z
      · exact up_fit fit m1 s z
      · obtain ⟨s0, hs0, rfl⟩ := List.mem_map.mp z
        obtain ⟨f1, f2, f3, f4, f5⟩ := fit s0 (m2 s0 hs0)
        exact ⟨f1, by show s0.p.natAbs < _; omega, by show s0.q.natAbs < _; omega, by show s0.m.natAbs < _; omega, by show (s0.h + y).natAbs < _; omega⟩
  obtain ⟨t10, ht10, hq10⟩ := t10
  have t9 : ∃ t, PSs (cxOf CX0 P w K mg base n_l_changed "_law_changed" (defScope s_l_changed) f cdv A outer s H E).nox ((defBody s_l_changed).drop 9) t ∧ t { nx := fun _ H' => Q .non H', rt := Q } [some (.ref l), some (.int v), some (.int a), some (.ref c1), some (.int wy), some (.int y), none, none, none] H := by
    refine ⟨_, pss_cons (ps_if (pt_cmpR op_eq (pv 4) pe_int (nomark _)) (pss_one (ps_ret (pe_op op_cat (pe_op op_cat (pe_slice sl_list (pv 0) po_none (po_some (pv 2))) (pe_lst (pa_cons (pe_tup (pa_cons (pe_def D__law_lowest (hr.mono (by decide)) rfl (pa_cons (pe_op op_add (pe_ix ix_tup (pe_ix ix_tup (pv 3) pe_int (fun _ _ => rfl)) pe_int (fun _ _ => rfl)) (pe_ix ix_tup (pe_ix ix_tup (pv 3) pe_int (fun _ _ => rfl)) pe_int (fun _ _ => rfl))) (pa_cons (pe_ix ix_tup (pe_ix ix_tup (pv 3) pe_int (fun _ _ => rfl)) pe_int (fun _ _ => rfl)) pa_nil))) (pa_cons (pe_ix ix_tup (pv 3) pe_int (fun _ _ => rfl)) (pa_cons (pe_ix ix_tup (pv 3) pe_int (fun _ _ => rfl)) pa_nil)))) pa_nil))) (pe_slice sl_list (pv 0) (po_some (pe_op op_add (pv 2) pe_int)) po_none)))) pss_nil) ht10, ?_⟩
    refine ⟨_, rfl, rfl, _, rfl, ?_⟩
    refine ite2 (fun _ => ?_) (fun _ => hq10)
    refine ⟨_, rfl, _, rfl, _, rfl, l, us, rfl, SqL.of hl, fun p1 hp1 => ?_⟩
    have u1 := same_new hp1 (.lst (cutV us none (some a)))
    have q1' := q1.ts u1.ts
    have qe' := qe.ts u1.ts
    refine ⟨_, rfl, _, _, _, _, rfl, rfl, q1', rfl, _, _, _, _, rfl, rfl, qe', rfl, _, rfl, _, _, _, _, rfl, rfl, q1', rfl, _, _, _, _, rfl, rfl, qe', rfl, _, _, rfl, rfl, _, rfl, _, _, _, _, rfl, rfl, q1', rfl, _, _, _, _, rfl, rfl, qe', rfl, M[i].p + M[i].q, M[i].q, rfl, by omega, sm_of (by omega), fun z H2 s2 hz => ?_⟩
    have q1'' := q1'.ts s2.ts
    refine ⟨_, rfl, _, _, _, _, rfl, rfl, q1'', rfl, _, rfl, _, _, _, _, rfl, rfl, q1'', rfl, (by show 3 ≤ sizeLine; decide), fun t ht => ⟨(by show 1 ≤ sizeLine; decide), fun p2 hp2 => ?_⟩⟩
    have u3 := same_new ht (.tup [.ref z, .int M[i].m, .int M[i].h])
    have u4 := same_new hp2 (.lst [.ref t])
    have sa := u1.trans (s2.trans (u3.trans u4))
    refine glue (s' := ⟨Lo.lowT (M[i].p + M[i].q) M[i].q, Lo.lowB (M[i].p + M[i].q) M[i].q, M[i].m, M[i].h⟩) hl da fit l100 k sa ((s2.trans (u3.trans u4)) _ _ upd_same) upd_same (st_mk (s := ⟨Lo.lowT (M[i].p + M[i].q) M[i].q, Lo.lowB (M[i].p + M[i].q) M[i].q, M[i].m, M[i].h⟩) (SqT.of (u4 _ _ upd_same)) (fr_mk (SqT.of ((u3.trans u4) _ _ hz)))) (low_fit (by omega) (by omega) (by omega) (by omega) (by omega)) (fun H3 G g => ⟨_, rfl, g⟩) (fun H3 G g => ⟨_, rfl, _, _, rfl, rfl, _, rfl, g _⟩)
  obtain ⟨t9, ht9, hq9⟩ := t9
  have t8 : ∃ t, PSs (cxOf CX0 P w K mg base n_l_changed "_law_changed" (defScope s_l_changed) f cdv A outer s H E).nox ((defBody s_l_changed).drop 8) t ∧ t { nx := fun _ H' => Q .non H', rt := Q } [some (.ref l), some (.int v), some (.int a), some (.ref c1), some (.int wy), some (.int y), none, none, none] H := by
    refine ⟨_, pss_cons (ps_if (pt_cmpR op_eq (pv 4) pe_int (nomark _)) (pss_cons (ps_set (i := 8) nd rfl (Or.inl rfl) (pe_ix ix_list (pe_lst (pa_cons (pe_tup (pa_cons pe_int (pa_cons pe_int pa_nil))) (pa_cons (pe_tup (pa_cons (pe_un un_neg pe_int) (pa_cons pe_int pa_nil))) (pa_cons (pe_tup (pa_cons pe_int (pa_cons pe_int pa_nil))) pa_nil)))) (pe_op op_sub (pv 5) pe_int) (fun _ _ => rfl)))
    (pss_one (ps_ret (pe_op op_cat (pe_op op_cat (pe_slice sl_list (pv 0) po_none (po_some (pv 2))) (pe_lst (pa_cons (pe_tup (pa_cons (pv 8) (pa_cons (pe_ix ix_tup (pv 3) pe_int (fun _ _ => rfl)) (pa_cons (pe_ix ix_tup (pv 3) pe_int (fun _ _ => rfl)) pa_nil)))) pa_nil))) (pe_slice sl_list (pv 0) (po_some (pe_op op_add (pv 2) pe_int)) po_none))))) pss_nil) ht9, ?_⟩
    refine ⟨_, rfl, rfl, _, rfl, ?_⟩
    refine ite2 (fun _ => ?_) (fun _ => hq9)
    refine ⟨(by show 2 ≤ sizeLine; decide), fun a1 ha1 => ⟨_, rfl, (by show 2 ≤ sizeLine; decide), fun a2 ha2 => ⟨(by show 2 ≤ sizeLine; decide), fun a3 ha3 => ⟨(by show 3 ≤ sizeLine; decide), fun a4 ha4 => ?_⟩⟩⟩⟩
    have w1 := same_new ha1 (.tup [.int 0, .int 1])
    have w2 := same_new ha2 (.tup [.int (-1), .int 3])
    have w3 := same_new ha3 (.tup [.int 1, .int 1])
    have w4 := same_new ha4 (.lst [.ref a1, .ref a2, .ref a3])
    have ww := w1.trans (w2.trans (w3.trans w4))
    have atE : ∃ (ae : Addr) (p q : Int), atI [V.ref a1, V.ref a2, V.ref a3] (y - 1) = some (.ref ae) ∧ upd (upd (upd (upd H a1 (.tup [.int 0, .int 1])) a2 (.tup [.int (-1), .int 3])) a3 (.tup [.int 1, .int 1])) a4 (.lst [.ref a1, .ref a2, .ref a3]) ae = some (.tup [.int p, .int q]) ∧ 0 < q ∧ p.natAbs < 4 ∧ q.natAbs < 4 := by
      rcases (by omega : y - 1 = 0 ∨ y - 1 = 1 ∨ y - 1 = 2) with z | z | z <;> rw [z]
      · exact ⟨a1, 0, 1, rfl, (w2.trans (w3.trans w4)) _ _ upd_same, by decide, by decide, by decide⟩
      · exact ⟨a2, -1, 3, rfl, (w3.trans w4) _ _ upd_same, by decide, by decide, by decide⟩
      · exact ⟨a3, 1, 1, rfl, w4 _ _ upd_same, by decide, by decide, by decide⟩
    obtain ⟨ae, pe, qe2, ate, hae, qe0, pe4, qe4⟩ := atE
    refine ⟨_, rfl, _, _, rfl, rfl, _, _, _, _, rfl, rfl, SqL.of upd_same, ate, ?_⟩
    have hlw := ww _ _ hl
    generalize upd (upd (upd (upd H a1 (.tup [.int 0, .int 1])) a2 (.tup [.int (-1), .int 3])) a3 (.tup [.int 1, .int 1])) a4 (.lst [.ref a1, .ref a2, .ref a3]) = HW at ww hae hlw ⊢
    refine ⟨_, rfl, _, rfl, _, rfl, l, us, rfl, SqL.of hlw, fun p1 hp1 => ?_⟩
    have u1 := same_new hp1 (.lst (cutV us none (some a)))
    have q1' := q1.ts (ww.trans u1).ts
    refine ⟨_, rfl, _, rfl, _, _, _, _, rfl, rfl, q1', rfl, _, rfl, _, _, _, _, rfl, rfl, q1', rfl, (by show 3 ≤ sizeLine; decide), fun t ht => ⟨(by show 1 ≤ sizeLine; decide), fun p2 hp2 => ?_⟩⟩
    have u3 := same_new ht (.tup [.ref ae, .int M[i].m, .int M[i].h])
    have u4 := same_new hp2 (.lst [.ref t])
    have sa := ww.trans (u1.trans (u3.trans u4))
    have p4 : 4 ≤ 2 ^ (b + 2) := by have := Ln.pow2 b; have := Nat.one_le_two_pow (n := b); omega
    refine glue (s' := ⟨pe, qe2, M[i].m, M[i].h⟩) hl da fit l100 k sa ((u3.trans u4) _ _ upd_same) upd_same (st_mk (s := ⟨pe, qe2, M[i].m, M[i].h⟩) (SqT.of (u4 _ _ upd_same)) (fr_mk (SqT.of ((u1.trans (u3.trans u4)) _ _ hae)))) ⟨qe0, by show pe.natAbs < _; omega, by show qe2.natAbs < _; omega, by show M[i].m.natAbs < _; omega, by show M[i].h.natAbs < _; omega⟩ (fun H3 G g => ⟨_, rfl, g⟩) (fun H3 G g => ⟨_, rfl, _, _, rfl, rfl, _, rfl, g _⟩)
  obtain ⟨t8, ht8, hq8⟩ := t8
  have t7 : ∃ t, PSs (cxOf CX0 P w K mg base n_l_changed "_law_changed" (defScope s_l_changed) f cdv A outer s H E).nox ((defBody s_l_changed).drop 7) t ∧ t { nx := fun _ H' => Q .non H', rt := Q } [some (.ref l), some (.int v), some (.int a), some (.ref c1), some (.int wy), some (.int y), none, none, none] H := by
    refine ⟨_, pss_cons (ps_if (pt_cmpR op_eq (pv 4) pe_int (nomark _)) (pss_one (ps_ret (pe_op op_cat (pe_op op_cat (pe_slice sl_list (pv 0) po_none (po_some (pv 2))) (pe_lst (pa_cons (pe_tup (pa_cons (pe_def D__law_lowest (hr.mono (by decide)) rfl (pa_cons (pe_ix ix_tup (pe_ix ix_tup (pv 3) pe_int (fun _ _ => rfl)) pe_int (fun _ _ => rfl)) (pa_cons (pe_op op_mulK (pe_ix ix_tup (pe_ix ix_tup (pv 3) pe_int (fun _ _ => rfl)) pe_int (fun _ _ => rfl)) (pe_op op_add (pv 5) pe_int)) pa_nil))) (pa_cons (pe_ix ix_tup (pv 3) pe_int (fun _ _ => rfl)) (pa_cons (pe_ix ix_tup (pv 3) pe_int (fun _ _ => rfl)) pa_nil)))) pa_nil))) (pe_slice sl_list (pv 0) (po_some (pe_op op_add (pv 2) pe_int)) po_none)))) pss_nil) ht8, ?_⟩
    refine ⟨_, rfl, rfl, _, rfl, ?_⟩
    refine ite2 (fun _ => ?_) (fun _ => hq8)
    refine ⟨_, rfl, _, rfl, _, rfl, l, us, rfl, SqL.of hl, fun p1 hp1 => ?_⟩
    have u1 := same_new hp1 (.lst (cutV us none (some a)))
    have q1' := q1.ts u1.ts
    have qe' := qe.ts u1.ts
    have sq : Sm M[i].q := sm_of (by omega)
    have sy : Sm (y + 1) := sm_of (by omega)
    have qy : M[i].q * (y + 1) ≤ M[i].q * 4 := Int.mul_le_mul_of_nonneg_left (by omega) (by omega)
    have qp : 0 < M[i].q * (y + 1) := Int.mul_pos (by omega) (by omega)
    refine ⟨_, rfl, _, _, _, _, rfl, rfl, q1', rfl, _, _, _, _, rfl, rfl, qe', rfl, _, rfl, _, _, _, _, rfl, rfl, q1', rfl, _, _, _, _, rfl, rfl, qe', rfl, _, rfl, _, _, rfl, rfl, _, _, rfl, rfl, mulS sq sy, M[i].p, M[i].q * (y + 1), rfl, by omega, sm_of (by omega), fun z H2 s2 hz => ?_⟩
    have q1'' := q1'.ts s2.ts
    refine ⟨_, rfl, _, _, _, _, rfl, rfl, q1'', rfl, _, rfl, _, _, _, _, rfl, rfl, q1'', rfl, (by show 3 ≤ sizeLine; decide), fun t ht => ⟨(by show 1 ≤ sizeLine; decide), fun p2 hp2 => ?_⟩⟩
    have u3 := same_new ht (.tup [.ref z, .int M[i].m, .int M[i].h])
    have u4 := same_new hp2 (.lst [.ref t])
    have sa := u1.trans (s2.trans (u3.trans u4))
    refine glue (s' := ⟨Lo.lowT M[i].p (M[i].q * (y + 1)), Lo.lowB M[i].p (M[i].q * (y + 1)), M[i].m, M[i].h⟩) hl da fit l100 k sa ((s2.trans (u3.trans u4)) _ _ upd_same) upd_same (st_mk (s := ⟨Lo.lowT M[i].p (M[i].q * (y + 1)), Lo.lowB M[i].p (M[i].q * (y + 1)), M[i].m, M[i].h⟩) (SqT.of (u4 _ _ upd_same)) (fr_mk (SqT.of ((u3.trans u4) _ _ hz)))) (low_fit qp (by omega) (by omega) (by omega) (by omega)) (fun H3 G g => ⟨_, rfl, g⟩) (fun H3 G g => ⟨_, rfl, _, _, rfl, rfl, _, rfl, g _⟩)
  obtain ⟨t7, ht7, hq7⟩ := t7
  have t6 : ∃ t, PSs (cxOf CX0 P w K mg base n_l_changed "_law_changed" (defScope s_l_changed) f cdv A outer s H E).nox ((defBody s_l_changed).drop 6) t ∧ t { nx := fun _ H' => Q .non H', rt := Q } [some (.ref l), some (.int v), some (.int a), some (.ref c1), some (.int wy), some (.int y), none, none, none] H := by
    refine ⟨_, pss_cons (ps_if (pt_cmpR op_eq (pv 4) pe_int (nomark _)) (pss_cons (ps_set (i := 6) nd rfl (Or.inl rfl) (pe_op op_modN (pe_op op_fdiv (pv 1) pe_int) (pe_callB call_len rfl Z_len (by decide +kernel) (pa_cons (pv 0) pa_nil))))
    (pss_cons (ps_set (i := 7) nd rfl (Or.inl rfl) (pe_callTy call_list_of rfl Z_list (by decide +kernel) (pa_cons (pv 0) pa_nil)))
    (pss_cons (ps_asg (pe_ix ix_list (pv 0) (pv 6) (fun _ _ => rfl)) (pg_sub (pv 7) (pv 2) set_list))
    (pss_cons (ps_asg (pv 3) (pg_sub (pv 7) (pv 6) set_list))
    (pss_one (ps_ret (pv 7))))))) pss_nil) ht7, ?_⟩
    refine ⟨_, rfl, rfl, _, rfl, ?_⟩
    refine ite2 (fun _ => ?_) (fun _ => hq7)
    have z1 := Int.fmod_nonneg_of_pos (v / 640) zl
    have z2 := Int.fmod_lt_of_pos (v / 640) zl
    obtain ⟨jo, ejo⟩ : ∃ j : Nat, (v / 640).fmod (us.length : Int) = (j : Int) := ⟨((v / 640).fmod (us.length : Int)).toNat, by omega⟩
    have hso : M[jo]? = some (M[jo]'(by omega)) := List.getElem?_eq_getElem (by omega)
    obtain ⟨wo, hwo, dwo⟩ := ln_at da hso
    have ato : atI us ((v / 640).fmod (us.length : Int)) = some wo := by rw [ejo]; exact atI_nat hwo
    refine ⟨_, rfl, _, _, rfl, rfl, ⟨by decide, by decide⟩, _, rfl, _, _, rfl, .inl ⟨_, SqL.of hl, rfl⟩, _, _, rfl, rfl, (by omega), ?_⟩
    refine ⟨_, rfl, l, us, rfl, .inl (SqL.of hl), fun l2 hl2 => ?_⟩
    have u1 := same_new hl2 (.lst us)
    have ix1 : ixN us.length a = some i := by
      unfold ixN
      rw [ea, if_pos (by omega), if_pos (by omega)]
      congr 1
    have ix2 : ixN us.length ((v / 640).fmod (us.length : Int)) = some jo := by
      unfold ixN
      rw [ejo, if_pos (by omega), if_pos (by omega)]
      congr 1
    refine ⟨_, rfl, _, rfl, _, _, _, _, rfl, rfl, SqL.of (u1 _ _ hl), ato, ?_⟩
    refine ⟨_, rfl, _, rfl, l2, us, a, i, rfl, rfl, upd_same, ix1, ?_⟩
    refine ⟨_, rfl, ?_⟩
    refine ⟨_, rfl, _, rfl, l2, us.set i wo, _, jo, rfl, rfl, upd_same, (by rw [List.length_set]; exact ix2), ?_⟩
    have sm2 : Same H (upd (upd (upd H l2 (.lst us)) l2 (.lst (us.set i wo))) l2 (.lst ((us.set i wo).set jo (.ref c1)))) := same_mut (same_mut u1 hl2 _) hl2 _
    refine ⟨_, rfl, k l2 _ ((M.set i M[jo]).set jo M[i]) _ sm2 upd_same ?_ (fun s hs => ?_) (by simp; omega)⟩
    · have q1 := dat_set (da.ts sm2.ts) (i := i) (dwo.ts sm2.ts)
      exact dat_set q1 (i := jo) (dst.ts sm2.ts)
    · rcases List.mem_or_eq_of_mem_set hs with z | z
      · rcases List.mem_or_eq_of_mem_set z with z | z
        · exact (fit s z).mono (by omega)
        · rw [z]; exact (fit _ (List.mem_of_getElem? hso)).mono (by omega)
      · rw [z]; exact fs.mono (by omega)
  obtain ⟨t6, ht6, hq6⟩ := t6
  have t5 : ∃ t, PSs (cxOf CX0 P w K mg base n_l_changed "_law_changed" (defScope s_l_changed) f cdv A outer s H E).nox ((defBody s_l_changed).drop 5) t ∧ t { nx := fun _ H' => Q .non H', rt := Q } [some (.ref l), some (.int v), some (.int a), some (.ref c1), some (.int wy), some (.int y), none, none, none] H := by
    refine ⟨_, pss_cons (ps_if (pt_cmpR op_eq (pv 4) pe_int (nomark _)) (pss_one (ps_ret (pe_op op_cat (pe_op op_cat (pe_slice sl_list (pv 0) po_none (po_some (pv 2))) (pe_lst (pa_cons (pv 3) pa_nil))) (pe_slice sl_list (pv 0) (po_some (pv 2)) po_none)))) pss_nil) ht6, ?_⟩
    refine ⟨_, rfl, rfl, _, rfl, ?_⟩
    refine ite2 (fun _ => ?_) (fun _ => hq6)
    refine ⟨_, rfl, _, rfl, _, rfl, l, us, rfl, SqL.of hl, fun p1 hp1 => ?_⟩
    have u1 := same_new hp1 (.lst (cutV us none (some a)))
    refine ⟨_, rfl, (by show 1 ≤ sizeLine; decide), fun p2 hp2 => ?_⟩
    have u2 := same_new hp2 (.lst [.ref c1])
    exact glue hl da fit l100 k (u1.trans u2) (u2 _ _ upd_same) upd_same (dst.ts (u1.trans u2).ts) (fs.mono (by omega)) (fun H3 G g => ⟨_, rfl, g⟩) (fun H3 G g => ⟨_, rfl, _, rfl, g _⟩)
  obtain ⟨t5, ht5, hq5⟩ := t5
  have t4 : ∃ t, PSs (cxOf CX0 P w K mg base n_l_changed "_law_changed" (defScope s_l_changed) f cdv A outer s H E).nox ((defBody s_l_changed).drop 4) t ∧ t { nx := fun _ H' => Q .non H', rt := Q } [some (.ref l), some (.int v), some (.int a), some (.ref c1), some (.int wy), some (.int y), none, none, none] H := by
    refine ⟨_, pss_cons (ps_if (pt_cmpR op_eq (pv 4) pe_int (nomark _)) (pss_one (ps_ret (pe_op op_cat (pe_slice sl_list (pv 0) po_none (po_some (pv 2))) (pe_slice sl_list (pv 0) (po_some (pe_op op_add (pv 2) pe_int)) po_none)))) pss_nil) ht5, ?_⟩
    refine ⟨_, rfl, rfl, _, rfl, ?_⟩
    refine ite2 (fun _ => ?_) (fun _ => hq5)
    refine ⟨_, rfl, _, rfl, _, rfl, l, us, rfl, SqL.of hl, fun p1 hp1 => ?_⟩
    have u1 := same_new hp1 (.lst (cutV us none (some a)))
    refine ⟨_, rfl, _, rfl, _, _, rfl, rfl, _, rfl, l, us, rfl, SqL.of (u1 _ _ hl), fun p2 hp2 => ?_⟩
    have u2 := same_new hp2 (.lst (cutV us (some (a + 1)) none))
    obtain ⟨R1, d1, m1, n1⟩ := cut_dat da none (some a)
    obtain ⟨R2, d2, m2, n2⟩ := cut_dat da (some (a + 1)) none
    have g1 := ln_len d1
    have g2 := ln_len d2
    refine ⟨p1, p2, _, _, rfl, rfl, u2 _ _ upd_same, upd_same, Nat.le_of_lt (small1000 (by omega)), fun p3 hp3 => ?_⟩
    have sa := u1.trans (u2.trans (same_new hp3 (.lst (cutV us none (some a) ++ cutV us (some (a + 1)) none))))
    refine k p3 _ (R1 ++ R2) _ sa upd_same ?_ (fun s hs => ?_) (by simp; omega)
    · rw [List.map_append]
      exact (d1.ts sa.ts).append (d2.ts sa.ts)
    · rcases List.mem_append.mp hs with z | z
      · exact up_fit fit m1 s z
      · exact up_fit fit m2 s z
  obtain ⟨t4, ht4, hq4⟩ := t4
  refine ⟨_, pss_cons (ps_set (i := 2) nd rfl (Or.inl rfl) (pe_op op_modN (pv 1) (pe_callB call_len rfl Z_len (by decide +kernel) (pa_cons (pv 0) pa_nil)))) (pss_cons (ps_set (i := 3) nd rfl (Or.inl rfl) (pe_ix ix_list (pv 0) (pv 2) (fun _ _ => rfl))) (pss_cons (ps_set (i := 4) nd rfl (Or.inl rfl) (pe_op op_mod (pe_op op_fdiv (pv 1) pe_int) pe_int)) (pss_cons (ps_set (i := 5) nd rfl (Or.inr rfl) (pe_op op_add (pe_op op_mod (pe_op op_fdiv (pv 1) pe_int) pe_int) pe_int)) ht4))), ?_⟩
  subst ea0 ey ew
  refine ⟨_, rfl, _, rfl, _, _, rfl, .inl ⟨_, SqL.of hl, rfl⟩, _, _, rfl, rfl, (by omega), ?_⟩
  refine ⟨_, rfl, _, rfl, _, _, _, _, rfl, rfl, SqL.of hl, at1, ?_⟩
  refine ⟨_, rfl, _, _, rfl, rfl, ⟨by decide, by decide⟩, _, _, rfl, rfl, (show (0 : Int) < _ by decide), ?_⟩
  refine ⟨_, rfl, _, _, rfl, rfl, ⟨by decide, by decide⟩, _, _, rfl, rfl, (show (0 : Int) < _ by decide), _, _, rfl, rfl, ?_⟩
  exact hq4
end
end Mine



set_option Elab.async false
set_option linter.all false
set_option maxRecDepth 100000
set_option maxHeartbeats 4000000

namespace Mine
open PySem L2
local macro_rules | `(tactic| walk_at "mul") => `(tactic| first | exact mulS (by assumption) (by assumption) | exact mulS (by first | assumption | exact sm_of (by omega) | exact sm_of (by decide) | exact sm_mod (by decide) (by decide)) (by first | assumption | exact sm_of (by omega) | exact sm_of (by decide) | exact sm_mod (by decide) (by decide)))
local macro_rules | `(tactic| walk_at "rd1") => `(tactic| first
  | refine ⟨_, rfl, ?_⟩
  | refine ⟨_, _, rfl, rfl, ?_⟩
  | (refine' ⟨_, _, _, _, rfl, rfl, ?sq, ?ia, ?k⟩; (case' sq => first | assumption | exact Scr.l (by assumption)); (case' ia => first | rfl | assumption))
  | refine ⟨rfl, ?_⟩
  | (refine ⟨?m, ?_⟩; (case' m => walk_at "mul"))
  | (refine ⟨?m, ?_⟩; (case' m => exact div_ok (by first | assumption | omega) (by assumption)))
  | (refine ⟨?m, ?_⟩; (case' m => show (0 : Int) < _; decide))
  | (refine ⟨?m, ?_⟩; (case' m => exact ⟨by decide, by decide⟩))
  | (refine ⟨?m, ?_⟩; (case' m => exact ⟨by decide, by decide, by decide⟩)))
local macro_rules | `(tactic| walk_at "rd") => `(tactic| repeat walk_at "rd1")

def spLaw (K : PySem.W.Frag) : Sp := fun vs H Q _ => ∃ (a : Addr) (ns : List Int), vs = [.ref a] ∧ Scr K H a ns ∧ ∀ H', Q (.bl true) H'
theorem wd_ok : ∀ k : Nat, PyData.strOk (wdS k) = true
  | 0 => by decide +kernel
  | 1 => by decide +kernel
  | 2 => by decide +kernel
  | _ + 3 => by show PyData.strOk "jump" = true; decide +kernel
theorem told_shaped (k : Nat) (n : Int) : SeqAt.shaped (.list [.bool true, .str (wdS k), .int n]) = true := by simp [SeqAt.shaped, PyData.canLay0, PyData.canLayAll0, PyData.depth, PyData.depthAll, wd_ok]
theorem fit90 {M : List St4} (h : ∀ s ∈ M, Ln.FitB 60 s) : ∀ s ∈ M, Ln.Fit s := fun s hs => by
  obtain ⟨h1, h2, h3, h4, h5⟩ := h s hs
  exact ⟨h1, by omega, by omega, by omega, by omega⟩
section
variable {P : Program} {w : World} {K : PySem.W.Frag} {mg : Str → Option Value} {base : Heap}
theorem tNoIf_go {σ : St} {H : Hp} {A B : Hp → Prop} (h : A H) : tNoIf σ H fun b H4 => if b = true then A H4 else B H4 := by
  show if true = true then A H else B H
  rw [if_pos rfl]
  exact h
theorem ok_law {f : Addr} {fd : FuncData} (F : Fun K "law" "law" s_law f fd) (Z_len : mg "len" = none) (Z_range : mg "range" = none) (Z_list : mg "list" = none) (D__law_cell_at : Def P w K mg base 1 "_law_cell_at" ["_law_script", "_law_k"] (spCell K)) (D__law_lowest : Def P w K mg base 2 "_law_lowest" ["_law_top", "_law_bottom"] spLow) (D__law_built : Def P w K mg base 3 "_law_built" ["_law_script", "_law_first", "_law_last"] (spBuilt K))
    (D__law_changed : Def P w K mg base 3 "_law_changed" ["_law_stretches", "_law_cell"] (spChanged K)) (D__law_heard : Def P w K mg base 6 "_law_heard" ["_law_stretches"] (spHeard K)) (D__law_amiss : Def P w K mg base 1 "_law_amiss" ["_law_stretches"] (spAmiss K)) (D__law_joined : Def P w K mg base 1 "_law_joined" ["_law_stretches"] (spJoined K)) : FnOk P w K mg base CX0 7 f fd ["_law_script"] (spLaw K) := by
  refine F.ok sc_law (fun vs H Q E h => ?_) (fun cdv Ar outer s H vs Q E hr h => ?_)
  · obtain ⟨a, ns, rfl, _⟩ := h
    rfl
  obtain ⟨a, ns, rfl, S, q⟩ := h
  have nd := sc_law.nd
  have hu := hr.units
  have t4 : ∃ t, PSs (cxOf CX0 P w K mg base n_law "law" (defScope s_law) f cdv Ar outer s H E).nox ((defBody s_law).drop 4) t ∧
      ∀ (l : Addr) (us : List V) (M : List St4) (H1 : Hp) (o2 o3 : Option V), H1 l = some (.lst us) → DatAll K H1 (M.map stD) us → (∀ s ∈ M, Ln.FitB 60 s) → M.length ≤ 1000 →
        t { nx := fun _ H' => Q .non H', rt := Q } [some (.ref a), some (.ref l), o2, o3, none, none, none] H1 := by
    refine ⟨_, (pss_cons (ps_set (i := 4) nd rfl (Or.inl rfl) (pe_callTy call_list_of rfl Z_list (by decide +kernel) (pa_cons (pv 1) pa_nil)))
    (pss_cons (ps_set (i := 5) nd rfl (Or.inl rfl) (pe_def D__law_heard (hr.mono (by decide)) rfl (pa_cons (pv 4) pa_nil)))
    (pss_cons (ps_set (i := 6) nd rfl (Or.inl rfl) (pe_def D__law_amiss (hr.mono (by decide)) rfl (pa_cons (pv 1) pa_nil)))
    (pss_cons (ps_if (pt_cmpR op_isN (pv 6) pe_non (nomark _)) (pss_one (ps_ret (pe_and (pe_cmpR (op_eqD hu) (pv 5) (pe_def D__law_joined (hr.mono (by decide)) rfl (pa_cons (pv 1) pa_nil)) (nomark _)) (pe_one (pe_cmpR (op_eqD hu) (pv 4) (pv 1) (nomark _)))))) pss_nil)
    (pss_one (ps_ret (pe_and (pe_cmpR (op_eqD hu) (pv 5) (pe_lst (pa_cons pe_bl (pa_cons (pe_ix ix_tup (pv 6) pe_int (fun _ _ => rfl)) (pa_cons (pe_ix ix_tup (pv 6) pe_int (fun _ _ => rfl)) pa_nil)))) (nomark _)) (pe_one (pe_cmpR (op_eqD hu) (pv 4) (pv 1) (nomark _)))))))))), fun l us M H1 o2 o3 hl da fit few => ?_⟩
    refine ⟨_, rfl, l, us, rfl, .inl (SqL.of hl), fun hd hhd => ?_⟩
    have u1 := same_new hhd (.lst us)
    have lh : LnL K (upd H1 hd (.lst us)) M (.ref hd) := ⟨hd, us, rfl, SqL.of upd_same, da.ts u1.ts⟩
    have hd1 : upd H1 hd (.lst us) hd = some (.lst us) := upd_same
    have hl1 := u1 _ _ hl
    have da1 := da.ts u1.ts
    generalize upd H1 hd (.lst us) = H2 at lh hd1 hl1 da1 ⊢
    -- handed and stretches are alike
    have alike : ∀ H', Same H2 H' → DatX K H' (.list (M.map stD)) (.ref hd) ∧ DatX K H' (.list (M.map stD)) (.ref l) := fun H' s' =>
      ⟨.inr ⟨_, hd, us, rfl, rfl, SqL.of (s' _ _ hd1), da1.ts s'.ts⟩, .inr ⟨_, l, us, rfl, rfl, SqL.of (s' _ _ hl1), da1.ts s'.ts⟩⟩
    refine ⟨_, rfl, .ref hd, M, rfl, lh, fit90 fit, few, fun y hy lf H3 s3 hlf => ?_, fun hn v H3 s3 dv => ?_⟩
    · refine ⟨_, rfl, .ref l, M, rfl, ⟨l, us, rfl, SqL.of (s3 _ _ hl1), da1.ts s3.ts⟩, fit, few, fun y' hy' t H4 s4 ht => ?_, fun hn => ?_⟩
      · have ey : y' = y := Option.some.inj (hy'.symm.trans hy)
        subst ey
        refine ⟨_, rfl, rfl, _, rfl, ?_⟩
        rw [decide_eq_false (show ¬ (V.ref t = V.non) from fun z => by cases z)]
        refine iteF ?_
        refine ⟨_, rfl, _, rfl, _, _, _, _, rfl, rfl, SqT.of ht, rfl, _, rfl, _, _, _, _, rfl, rfl, SqT.of ht, rfl, (by show 3 ≤ sizeLine; decide), fun l3 hl3 => ?_⟩
        have u5 := same_new hl3 (.lst [.bl true, .str (wdS y'.1), .int y'.2])
        refine ⟨_, _, .inr ⟨[.bool true, .str (wdS y'.1), .int y'.2], lf, _, rfl, rfl, SqL.of ((s4.trans u5) _ _ hlf), ⟨_, _, rfl, rfl, _, _, rfl, rfl, _, _, rfl, rfl, rfl⟩⟩, .inr ⟨[.bool true, .str (wdS y'.1), .int y'.2], l3, _, rfl, rfl, SqL.of upd_same, ⟨_, _, rfl, rfl, _, _, rfl, rfl, _, _, rfl, rfl, rfl⟩⟩, told_shaped _ _, told_shaped _ _, ?_⟩
        rw [eqv_shaped (told_shaped _ _)]
        refine ⟨_, rfl, iteT ?_⟩
        obtain ⟨x1, x2⟩ := alike _ (s3.trans (s4.trans u5))
        refine ⟨_, rfl, _, rfl, _, _, x1, x2, lnl_shaped _, lnl_shaped _, ?_⟩
        rw [eqv_shaped (lnl_shaped _)]
        exact q _
      · rw [hy] at hn
        cases hn
    · refine ⟨_, rfl, .ref l, M, rfl, ⟨l, us, rfl, SqL.of (s3 _ _ hl1), da1.ts s3.ts⟩, fit, few, fun y' hy' => ?_, fun _ H4 s4 => ?_⟩
      · rw [hn] at hy'
        cases hy'
      · refine ⟨_, rfl, rfl, _, rfl, ?_⟩
        rw [decide_eq_true rfl]
        refine iteT ?_
        have s34 := s3.trans s4
        refine ⟨_, rfl, _, rfl, .ref l, M, rfl, ⟨l, us, rfl, SqL.of (s34 _ _ hl1), da1.ts s34.ts⟩, few, fun v2 H5 s5 dv2 => ?_⟩
        refine ⟨_, _, .inl (dv.ts (s4.trans s5).ts), .inl dv2, ln_shaped _, ln_shaped _, ?_⟩
        rw [eqv_shaped (ln_shaped _)]
        refine ⟨_, rfl, iteT ?_⟩
        obtain ⟨x1, x2⟩ := alike _ (s34.trans s5)
        refine ⟨_, rfl, _, rfl, _, _, x1, x2, lnl_shaped _, lnl_shaped _, ?_⟩
        rw [eqv_shaped (lnl_shaped _)]
        exact q _
  obtain ⟨t4, ht4, hq4⟩ := t4
  have t3 : ∃ t, PSs (cxOf CX0 P w K mg base n_law "law" (defScope s_law) f cdv Ar outer s H E).nox ((defBody s_law).drop 3) t ∧
      ∀ (l : Addr) (us : List V) (M : List St4) (H1 : Hp) (o2 : Option V), Same H H1 → H1 l = some (.lst us) → DatAll K H1 (M.map stD) us → (∀ s ∈ M, Ln.FitB 60 s) → M.length ≤ 1000 →
        t { nx := fun _ H' => Q .non H', rt := Q } [some (.ref a), some (.ref l), o2, none, none, none, none] H1 := by
    refine ⟨_, pss_cons (ps_if (pt_cmpR op_eq (pe_op op_mod (pe_def D__law_cell_at (hr.mono (by decide)) rfl (pa_cons (pv 0) (pa_cons pe_int pa_nil))) pe_int) pe_int (nomark _)) (pss_cons (ps_set (i := 3) nd rfl (Or.inr rfl) (pe_op op_add pe_int (pe_op op_mod (pe_def D__law_cell_at (hr.mono (by decide)) rfl (pa_cons (pv 0) (pa_cons pe_int pa_nil))) pe_int)))
    (pss_one (ps_setF (i := 1) nd rfl (Or.inl rfl) (Or.inl rfl) rfl rfl (pi_range1 rfl Z_range (pa_cons (pv 3) pa_nil)) rfl (by decide +kernel) (by decide +kernel) rfl (show ∀ p ∈ Scope.names _, p.2 = NameKind.free → List.lookup p.1 (defScope s_law).names = some .cell ∨ List.lookup p.1 (defScope s_law).names = some .free by decide +kernel) (fa_cons (j := 3) rfl (Or.inl rfl) (by decide +kernel) (Or.inl rfl) fa_nil) (show (["_law_k", "_law_many"] : List Str).Nodup by decide +kernel) (fun _ _ _ _ => pif_nil) (fun _ _ _ _ => (pe_tup (pa_cons (pe_def D__law_lowest (hr.mono (by decide)) rfl (pa_cons (pe_op op_add (pv 0) pe_int) (pa_cons (pv 1) pa_nil))) (pa_cons pe_int (pa_cons pe_int pa_nil)))))))) pss_nil) ht4, fun l us M H1 o2 s1 hl da fit few => ?_⟩
    refine ⟨_, rfl, a, ns, 3, rfl, S.ts s1.ts, by decide, by decide, fun v v0 v1 => ?_⟩
    refine ⟨_, _, rfl, rfl, (show (0 : Int) < _ by decide), rfl, _, rfl, ?_⟩
    refine ite2 (fun _ => ?_) (fun _ => hq4 l us M H1 _ _ hl da fit few)
    refine ⟨_, rfl, a, ns, 4, rfl, S.ts s1.ts, by decide, by decide, fun x x0 x1 => ?_⟩
    refine ⟨_, _, rfl, rfl, (show (0 : Int) < _ by decide), _, _, rfl, rfl, ?_⟩
    obtain ⟨m, em, m1, m2⟩ : ∃ m : Int, m = 58 + x % 7 ∧ 58 ≤ m ∧ m ≤ 64 := ⟨_, rfl, by omega, by omega⟩
    have sm0 : Sm (58 + x % 7) := sm_of (by omega)
    refine ⟨_, rfl, _, rfl, by omega, by omega, fun D hD => ?_⟩
    refine ⟨fun i n H2 => n = (58 + x % 7).toNat - i ∧ i ≤ (58 + x % 7).toNat ∧ Same H1 H2 ∧ ∃ (zs : List V) (R : List St4), H2 D = some (.lst zs) ∧ DatAll K H2 (R.map stD) zs ∧ (∀ s ∈ R, Ln.FitB 60 s) ∧ R.length = i, ⟨_, rfl, Nat.zero_le _, same_new hD _, [], [], upd_same, rfl, (fun _ h => nomatch h), rfl⟩, ?_⟩
    rintro i n H2 ⟨rfl, hi, sm, zs, R, hlD, dz, fz, lz⟩
    have lzs := ln_len dz
    by_cases hlt : i < (58 + x % 7).toNat
    · refine .inr ⟨hlt, fun v5 H3 y => ?_⟩
      obtain ⟨rfl, rfl⟩ := y
      refine tNoIf_go ?_
      refine ⟨_, rfl, _, _, rfl, rfl, _, rfl, 0 + (i : Int) + 1, 58 + x % 7, rfl, by omega, sm0, fun z H4 s4 hz => ?_⟩
      refine ⟨(by show 3 ≤ sizeLine; decide), fun t ht => ?_⟩
      have w1 := same_new ht (.tup [.ref z, .int 0, .int 5])
      have hD1 := (s4.trans w1) _ _ hlD
      have t2 : Tst (upd H4 t (.tup [.ref z, .int 0, .int 5])) (upd (upd H4 t (.tup [.ref z, .int 0, .int 5])) D (.lst (zs ++ [.ref t]))) := ts_mut hD1
      have tt := (s4.trans w1).ts.trans t2
      refine ⟨zs, hD1, small1000 (by omega), (58 + x % 7).toNat - (i + 1), by omega, rfl, hlt, same_mut (sm.trans (s4.trans w1)) hD _, zs ++ [.ref t], R ++ [⟨Lo.lowT (0 + (i : Int) + 1) (58 + x % 7), Lo.lowB (0 + (i : Int) + 1) (58 + x % 7), 0, 5⟩], upd_same, ?_, fun s hs => ?_, by simp; omega⟩
      · rw [List.map_append]
        exact (dz.ts tt).snoc (st_mk (s := ⟨Lo.lowT (0 + (i : Int) + 1) (58 + x % 7), Lo.lowB (0 + (i : Int) + 1) (58 + x % 7), 0, 5⟩) (SqT.of (t2.t _ _ upd_same)) (fr_mk (SqT.of (t2.t _ _ (w1 _ _ hz)))))
      · rcases List.mem_append.mp hs with y | y
        · exact fz s y
        · rw [List.mem_singleton.mp y]
          exact low_fit (by omega) (by omega) (by omega) (by decide) (by decide)
    have ei : i = (58 + x % 7).toNat := by omega
    subst ei
    refine .inl ⟨Nat.le_refl _, ?_⟩
    exact hq4 D zs R H2 _ _ hlD dz fz (by omega)
  obtain ⟨t3, ht3, hq3⟩ := t3
  have t2 : ∃ t, PSs (cxOf CX0 P w K mg base n_law "law" (defScope s_law) f cdv Ar outer s H E).nox ((defBody s_law).drop 2) t ∧
      ∀ (l : Addr) (us : List V) (M : List St4) (H1 : Hp) (o2 : Option V), Same H H1 → H1 l = some (.lst us) → DatAll K H1 (M.map stD) us → (∀ s ∈ M, Ln.FitB 60 s) → M.length ≤ 1000 →
        t { nx := fun _ H' => Q .non H', rt := Q } [some (.ref a), some (.ref l), o2, none, none, none, none] H1 := by
    refine ⟨_, pss_cons (ps_if (pt_cmpR op_eq (pe_op op_mod (pe_def D__law_cell_at (hr.mono (by decide)) rfl (pa_cons (pv 0) (pa_cons pe_int pa_nil))) pe_int) pe_int (nomark _)) (pss_one (ps_set (i := 1) nd rfl (Or.inl rfl) (pe_lst pa_nil))) pss_nil) ht3, fun l us M H1 o2 s1 hl da fit few => ?_⟩
    refine ⟨_, rfl, a, ns, 3, rfl, S.ts s1.ts, by decide, by decide, fun v v0 v1 => ?_⟩
    refine ⟨_, _, rfl, rfl, (show (0 : Int) < _ by decide), rfl, _, rfl, ?_⟩
    refine ite2 (fun _ => ?_) (fun _ => hq3 l us M H1 _ s1 hl da fit few)
    refine ⟨(by show 0 ≤ sizeLine; decide), fun e he => ?_⟩
    exact hq3 e [] [] _ _ (s1.trans (same_new he _)) upd_same rfl (fun _ h => nomatch h) (by decide)
  obtain ⟨t2, ht2, hq2⟩ := t2
  refine ⟨_, pss_cons (ps_set (i := 1) nd rfl (Or.inl rfl) (pe_def D__law_built (hr.mono (by decide)) rfl (pa_cons (pv 0) (pa_cons pe_int (pa_cons pe_int pa_nil))))) (pss_cons (ps_for PassesOwn.never rfl (pi_range1 rfl Z_range (pa_cons (pe_op op_mod (pe_def D__law_cell_at (hr.mono (by decide)) rfl (pa_cons (pv 0) (pa_cons pe_int pa_nil))) pe_int) pa_nil)) (pg_name (i := 2) nd rfl (Or.inl rfl)) (pss_one (ps_if (pt_cmpR op_gt (pe_callB call_len rfl Z_len (by decide +kernel) (pa_cons (pv 1) pa_nil)) pe_int (nomark _)) (pss_one (ps_set (i := 1) nd rfl (Or.inl rfl) (pe_def D__law_changed (hr.mono (by decide)) rfl (pa_cons (pv 1) (pa_cons (pe_def D__law_cell_at (hr.mono (by decide)) rfl (pa_cons (pv 0) (pa_cons (pe_op op_add pe_int (pv 2)) pa_nil))) pa_nil))))) pss_nil))) ht2), ?_⟩
  refine ⟨_, rfl, a, ns, 6, 27, rfl, S, by decide, by decide, by decide, fun L b us H1 s1 hb hl du la len => ?_⟩
  refine ⟨_, rfl, a, ns, 0, rfl, S.ts s1.ts, by decide, by decide, fun v v0 v1 => ?_⟩
  refine ⟨_, _, rfl, rfl, (show (0 : Int) < _ by decide), _, rfl, by omega, by omega, ?_⟩
  refine for_range (fun i σ H' => Same H H' ∧ ∃ (l : Addr) (us : List V) (M : List St4) (o2 : Option V), σ = [some (.ref a), some (.ref l), o2, none, none, none, none] ∧ H' l = some (.lst us) ∧ DatAll K H' (M.map stD) us ∧ (∀ s ∈ M, Ln.FitB (40 + 2 * i) s) ∧ M.length + 1 ≤ 22 * 2 ^ i)
    ⟨s1, b, us, L, _, rfl, hl, du, (fun s hs => (la.ok s hs).fitB), by simp; omega⟩ (fun i σ H' hi z => ?_) (fun σ H' z => ?_)
  · obtain ⟨sm, l, us', M, o2, rfl, hl', da', fit', len'⟩ := z
    have i2 : i < 2 := by omega
    have p4 : 22 * 2 ^ i ≤ 44 := by
      rcases (by omega : i = 0 ∨ i = 1) with e | e <;> rw [e] <;> decide
    have lus' := ln_len da'
    refine ⟨_, rfl, _, _, rfl, .inl ⟨_, SqL.of hl', rfl⟩, _, _, rfl, rfl, _, rfl, ?_⟩
    refine ite2 (fun c => ?_) (fun c => ?_)
    · have c' : (0 : Int) < ((us'.length : Nat) : Int) := of_decide_eq_true c
      refine ⟨_, rfl, _, rfl, _, rfl, _, _, rfl, rfl, a, ns, 1 + (0 + (i : Int)), rfl, S.ts sm.ts, by omega, by omega, fun x x0 x1 => ?_⟩
      refine ⟨l, us', M, 40 + 2 * i, x, rfl, hl', da', fit', by omega, by omega, by omega, by omega, x0, fun l2 us2 M2 H2 s2 hl2 da2 fit2 len2 => ?_⟩
      refine ⟨sm.trans s2, l2, us2, M2, _, rfl, hl2, da2, fit2, ?_⟩
      rw [Nat.pow_succ]
      omega
    · exact ⟨sm, l, us', M, _, rfl, hl', da', (fun s hs => (fit' s hs).mono (by omega)), by rw [Nat.pow_succ]; omega⟩
  · obtain ⟨sm, l, us', M, o2, rfl, hl', da', fit', len'⟩ := z
    have n2 : (v % 3).toNat ≤ 2 := by omega
    have p8 : 22 * 2 ^ (v % 3).toNat ≤ 88 := by
      rcases (by omega : (v % 3).toNat = 0 ∨ (v % 3).toNat = 1 ∨ (v % 3).toNat = 2) with e | e | e <;> rw [e] <;> decide
    exact hq2 l us' M H' _ sm hl' da' (fun s hs => (fit' s hs).mono (by omega)) (by omega)
end
end Mine



set_option Elab.async false
set_option linter.all false
set_option maxRecDepth 100000
set_option maxHeartbeats 4000000
open PySem PySem.W PyProof.Rows
structure Mine.Classes (K : Frag) (mg : Str → Option Value) (CS CX CR CN CP fI : Addr) : Prop where
  ms : mg "SayError" = some (.ref CS)
  mx : mg "NoText" = some (.ref CX)
  mr : mg "NoRows" = some (.ref CR)
  mn : mg "NoLine" = some (.ref CN)
  mp : mg "NoPoint" = some (.ref CP)
  fe : L2.FunE K "__init__" "NoLine.__init__" Mine.s_NoLine_init fI
  xi : L2.excInI K CN L2.bmV "ValueError.__new__" fI = true
  kc : keepIn K (.ref CN) = true
  fl : L2.XFld K CN
  n1 : L2.NoAttr K CN "word"
  n2 : L2.NoAttr K CN "at"
  cc : L2.CatchCls K CN
  su : mroIn K CN (.ref CN) = some true
  k1 : kitOne K (.ref CN) (.ref CS) = some true
  k2 : kitOne K (.ref CN) (.type "ValueError") = some true
  k3 : kitAny K (.ref CN) [.ref CR, .ref CX, .ref CP] = some false
theorem Mine.classes_mk {K : Frag} {h : Heap} {mg : Str → Option Value} {CS CX CR CN CP fI : Addr} {c1 : ClassData} (X : K.In h) (G : h.Ns mainGlobals mg)
    (mCS : nsIn K mainGlobals "SayError" = some (some (.ref CS)))
    (mCX : nsIn K mainGlobals "NoText" = some (some (.ref CX)))
    (mCR : nsIn K mainGlobals "NoRows" = some (some (.ref CR)))
    (mCN : nsIn K mainGlobals "NoLine" = some (some (.ref CN)))
    (mCP : nsIn K mainGlobals "NoPoint" = some (some (.ref CP)))
    (i0 : findIn K (.ref CN) "__init__" = some (some (.ref fI)))
    (fe : L2.FunE K "__init__" "NoLine.__init__" Mine.s_NoLine_init fI)
    (xi : L2.excInI K CN L2.bmV "ValueError.__new__" fI = true)
    (kc : keepIn K (.ref CN) = true)
    (xf : L2.xfldIn K CN = true)
    (sa : findIn K (.ref CN) "__setattr__" = some (some (.builtin "object.__setattr__")))
    (n1 : findIn K (.ref CN) "word" = some none)
    (n2 : findIn K (.ref CN) "at" = some none)
    (e6 : clsIn K CN = some c1)
    (e7 : typeIn K (.ref CN) = some (.type "type"))
    (e8 : mroIn K CN (.type "BaseException") = some true)
    (e9 : findIn K (.ref CN) "__getattribute__" = some (some (.builtin "BaseException.__getattribute__")))
    (e10 : findIn K (.ref CN) "__getattr__" = some none)
    (e12 : findIn K (.ref CN) "__class__" = some (some (.builtin "object.__class__")))
    (e13 : specialIn K (.builtin "object.__class__") "__get__" = some (some (.builtin "getset_descriptor.__get__")))
    (e14 : takesIn K (.builtin "object.__class__") = some true)
    (e16 : mroIn K CN (.type "object") = some true)
    (su : mroIn K CN (.ref CN) = some true)
    (k1 : kitOne K (.ref CN) (.ref CS) = some true)
    (k2 : kitOne K (.ref CN) (.type "ValueError") = some true)
    (k3 : kitAny K (.ref CN) [.ref CR, .ref CX, .ref CP] = some false) :
    ∃ CS CX CR CN CP fI, Mine.Classes K mg CS CX CR CN CP fI :=
  ⟨CS, CX, CR, CN, CP, fI, mg_of X G mCS, mg_of X G mCX, mg_of X G mCR, mg_of X G mCN, mg_of X G mCP, fe, xi, kc, L2.xfld_mk xf sa ⟨e9, e10, ⟨_, e6⟩, e12, e13, e14, e8, e16⟩, n1, n2, ⟨⟨_, e6⟩, e7, e8⟩, su, k1, k2, k3⟩
set_option maxRecDepth 100000 in
set_option maxHeartbeats 0 in
theorem PySem.Challenge.cw_leansay_k16_lines_refused_holds : PySem.Challenge.rw_leansay_k16_lines_refused.Holds := by
  w_on; o_law; k_head; (case hw => w_witness2)
  k_fill
  refine L2.walk_bits (l := PySem.Challenge.rw_leansay_k16_lines_refused) (n := 63) (k := 7) (x := "_law_script") (CX := L2.CX0) (sp := Mine.spLaw) rfl (by decide) rfl ⟨rfl, by decide, by decide⟩ (fun w h Y => PySem.W.kIn_of Y) ?F ?S ?C
  case F =>
    intro w mg fa h KX G hmg
    have T_common_factor : L2.TopDef (L2.KOf KX) mg "common_factor" Mine.s_common_factor := by
      dsimp only [L2.KOf]
      refine' L2.top_mk KX G ?a ?l ?c ?k; (case a => k_is); (case l => k_is); (case c => k_is); (case k => k_is)
    have T_fraction : L2.TopDef (L2.KOf KX) mg "fraction" Mine.s_fraction := by
      dsimp only [L2.KOf]
      refine' L2.top_mk KX G ?a ?l ?c ?k; (case a => k_is); (case l => k_is); (case c => k_is); (case k => k_is)
    have T_less : L2.TopDef (L2.KOf KX) mg "less" Mine.s_less := by
      dsimp only [L2.KOf]
      refine' L2.top_mk KX G ?a ?l ?c ?k; (case a => k_is); (case l => k_is); (case c => k_is); (case k => k_is)
    have T_told_by_stretch : L2.TopDef (L2.KOf KX) mg "told_by_stretch" Mine.s_told_by_stretch := by
      dsimp only [L2.KOf]
      refine' L2.top_mk KX G ?a ?l ?c ?k; (case a => k_is); (case l => k_is); (case c => k_is); (case k => k_is)
    have T_must_have_ends : L2.TopDef (L2.KOf KX) mg "must_have_ends" Mine.s_must_have_ends := by
      dsimp only [L2.KOf]
      refine' L2.top_mk KX G ?a ?l ?c ?k; (case a => k_is); (case l => k_is); (case c => k_is); (case k => k_is)
    have T_must_not_jump : L2.TopDef (L2.KOf KX) mg "must_not_jump" Mine.s_must_not_jump := by
      dsimp only [L2.KOf]
      refine' L2.top_mk KX G ?a ?l ?c ?k; (case a => k_is); (case l => k_is); (case c => k_is); (case k => k_is)
    have T_joined : L2.TopDef (L2.KOf KX) mg "joined" Mine.s_joined := by
      dsimp only [L2.KOf]
      refine' L2.top_mk KX G ?a ?l ?c ?k; (case a => k_is); (case l => k_is); (case c => k_is); (case k => k_is)
    have T_line_made : L2.TopDef (L2.KOf KX) mg "line_made" Mine.s_line_made := by
      dsimp only [L2.KOf]
      refine' L2.top_mk KX G ?a ?l ?c ?k; (case a => k_is); (case l => k_is); (case c => k_is); (case k => k_is)
    have T_l_cell_at : L2.TopDef (L2.KOf KX) mg "_law_cell_at" Mine.s_l_cell_at := by
      dsimp only [L2.KOf]
      refine' L2.top_mk KX G ?a ?l ?c ?k; (case a => k_is); (case l => k_is); (case c => k_is); (case k => k_is)
    have T_l_divisor : L2.TopDef (L2.KOf KX) mg "_law_divisor" Mine.s_l_divisor := by
      dsimp only [L2.KOf]
      refine' L2.top_mk KX G ?a ?l ?c ?k; (case a => k_is); (case l => k_is); (case c => k_is); (case k => k_is)
    have T_l_lowest : L2.TopDef (L2.KOf KX) mg "_law_lowest" Mine.s_l_lowest := by
      dsimp only [L2.KOf]
      refine' L2.top_mk KX G ?a ?l ?c ?k; (case a => k_is); (case l => k_is); (case c => k_is); (case k => k_is)
    have T_l_built : L2.TopDef (L2.KOf KX) mg "_law_built" Mine.s_l_built := by
      dsimp only [L2.KOf]
      refine' L2.top_mk KX G ?a ?l ?c ?k; (case a => k_is); (case l => k_is); (case c => k_is); (case k => k_is)
    have T_l_changed : L2.TopDef (L2.KOf KX) mg "_law_changed" Mine.s_l_changed := by
      dsimp only [L2.KOf]
      refine' L2.top_mk KX G ?a ?l ?c ?k; (case a => k_is); (case l => k_is); (case c => k_is); (case k => k_is)
    have T_l_amiss : L2.TopDef (L2.KOf KX) mg "_law_amiss" Mine.s_l_amiss := by
      dsimp only [L2.KOf]
      refine' L2.top_mk KX G ?a ?l ?c ?k; (case a => k_is); (case l => k_is); (case c => k_is); (case k => k_is)
    have T_l_joined : L2.TopDef (L2.KOf KX) mg "_law_joined" Mine.s_l_joined := by
      dsimp only [L2.KOf]
      refine' L2.top_mk KX G ?a ?l ?c ?k; (case a => k_is); (case l => k_is); (case c => k_is); (case k => k_is)
    have T_l_heard : L2.TopDef (L2.KOf KX) mg "_law_heard" Mine.s_l_heard := by
      dsimp only [L2.KOf]
      refine' L2.top_mk KX G ?a ?l ?c ?k; (case a => k_is); (case l => k_is); (case c => k_is); (case k => k_is)
    have T_law : L2.TopDef (L2.KOf KX) mg "law" Mine.s_law := by
      dsimp only [L2.KOf]
      refine' L2.top_mk KX G ?a ?l ?c ?k; (case a => k_is); (case l => k_is); (case c => k_is); (case k => k_is)
    have Z_len : mg "len" = none := by
      refine' PySem.W.mg_none_of KX G ?z; (case z => k_is)
    have Z_abs : mg "abs" = none := by
      refine' PySem.W.mg_none_of KX G ?z; (case z => k_is)
    have Z_min : mg "min" = none := by
      refine' PySem.W.mg_none_of KX G ?z; (case z => k_is)
    have Z_range : mg "range" = none := by
      refine' PySem.W.mg_none_of KX G ?z; (case z => k_is)
    have Z_isinstance : mg "isinstance" = none := by
      refine' PySem.W.mg_none_of KX G ?z; (case z => k_is)
    have Z_tuple : mg "tuple" = none := by
      refine' PySem.W.mg_none_of KX G ?z; (case z => k_is)
    have Z_list : mg "list" = none := by
      refine' PySem.W.mg_none_of KX G ?z; (case z => k_is)
    have Z_enumerate : mg "enumerate" = none := by
      refine' PySem.W.mg_none_of KX G ?z; (case z => k_is)
    have Z_ValueError : mg "ValueError" = none := by
      refine' PySem.W.mg_none_of KX G ?z; (case z => k_is)
    have P_NOUGHT : L2.TopTup (L2.KOf KX) mg "NOUGHT" [0, 1] := by
      dsimp only [L2.KOf]
      refine' L2.toptup_mk (ns := [0, 1]) KX G ?e ?l ?z ?v; (case e => k_is); (case l => k_is); (case z => decide); (case v => exact (.cons ⟨_, rfl⟩ (.cons ⟨_, rfl⟩ .nil)))
    have P_WHOLE : L2.TopTup (L2.KOf KX) mg "WHOLE" [1, 1] := by
      dsimp only [L2.KOf]
      refine' L2.toptup_mk (ns := [1, 1]) KX G ?e ?l ?z ?v; (case e => k_is); (case l => k_is); (case z => decide); (case v => exact (.cons ⟨_, rfl⟩ (.cons ⟨_, rfl⟩ .nil)))
    have I_MOST_STRETCHES : ∃ t, mg "MOST_STRETCHES" = some (.int 60 t) := by
      refine' L2.topint_mk KX G ?ie ?iq; (case ie => k_is); (case iq => exact ⟨_, rfl⟩)
    have CC : ∃ CS CX CR CN CP fI, Mine.Classes (L2.KOf KX) mg CS CX CR CN CP fI := by
      dsimp only [L2.KOf]
      refine' Mine.classes_mk KX G ?mCS ?mCX ?mCR ?mCN ?mCP ?i0 ?fe ?xi ?kc ?xf ?sa ?n1 ?n2 ?e6 ?e7 ?e8 ?e9 ?e10 ?e12 ?e13 ?e14 ?e16 ?su ?k1 ?k2 ?k3
      (case mCS => k_is)
      (case mCX => k_is)
      (case mCR => k_is)
      (case mCN => k_is)
      (case mCP => k_is)
      (case i0 => k_is)
      (case fe => refine' L2.funE_mk ?fl ?fc ?fk; (case fl => k_is); (case fc => k_is); (case fk => k_is))
      (case xi => kernel_rfl)
      (case kc => k_is)
      (case xf => kernel_rfl)
      (case sa => k_is)
      (case n1 => k_is)
      (case n2 => k_is)
      (case e6 => k_is)
      (case e7 => k_is)
      (case e8 => k_is)
      (case e9 => k_is)
      (case e10 => k_is)
      (case e12 => k_is)
      (case e13 => k_is)
      (case e14 => k_is)
      (case e16 => k_is)
      (case su => k_is)
      (case k1 => first | k_is | kit_is)
      (case k2 => first | k_is | kit_is)
      (case k3 => first | k_is | kit_is | kernel_rfl)
    obtain ⟨CS, CX, CR, CN, CP, fI, Z⟩ := CC
    obtain ⟨f, fd, F, m⟩ := T_law.ex
    have e := hmg.symm.trans m
    cases e
    obtain ⟨oc, od, kV, doc, pm, an, cdv, ct, osl, hfd, lk, hcd⟩ := id F.ex
    subst hfd
    refine ⟨PySem.W.fnOf "law" "law" (L2.defArgs Mine.s_law) (L2.defBody Mine.s_law) (L2.defScope Mine.s_law) .none kV doc pm an cdv ct, fun s u => .of_eq rfl, fun base kb nb => ?_⟩
    obtain ⟨fdI, FI⟩ := Z.fe.ex
    have XN : L2.XC2 PySem.Challenge.rw_leansay_k16_lines_refused.prog w (L2.KOf KX) mg base "NoLine" CN "word" "at" := ⟨Z.mn, Z.kc, ⟨fI, fdI, _, Mine.ok_init FI Z.fl Z.n1 Z.n2, FI.binds (fun _ _ _ _ _ _ us hl => match us, hl with | [_, _, _], _ => rfl), Z.xi⟩, Z.fl, Z.n1, Z.n2⟩
    have D_factor := Mine.ok_factor (P := PySem.Challenge.rw_leansay_k16_lines_refused.prog) (w := w) (base := base) T_common_factor Z_abs
    have D_fraction := Mine.ok_fraction T_fraction D_factor
    have D_less := Mine.ok_less (P := PySem.Challenge.rw_leansay_k16_lines_refused.prog) (w := w) (base := base) T_less
    have D_cell := Mine.ok_cell_at (P := PySem.Challenge.rw_leansay_k16_lines_refused.prog) (w := w) (base := base) T_l_cell_at Z_len
    have D_div := Mine.ok_divisor (P := PySem.Challenge.rw_leansay_k16_lines_refused.prog) (w := w) (base := base) T_l_divisor Z_abs
    have D_low := Mine.ok_lowest T_l_lowest D_div
    have D_built := Mine.ok_built T_l_built Z_len Z_min Z_range D_cell D_low
    have D_told := Mine.ok_told T_told_by_stretch D_fraction
    have D_ends := Mine.ok_ends T_must_have_ends Z_enumerate Z_len P_NOUGHT P_WHOLE XN D_less
    have D_jump := Mine.ok_jump T_must_not_jump Z_range Z_len XN D_told
    have D_joined := Mine.ok_joined (P := PySem.Challenge.rw_leansay_k16_lines_refused.prog) (w := w) (base := base) T_joined Z_tuple
    have D_made := Mine.ok_made T_line_made Z_len I_MOST_STRETCHES XN D_ends D_jump D_joined
    have D_heard := Mine.ok_heard T_l_heard Z_isinstance Z_ValueError XN Z.ms Z.mr Z.mx Z.mp Z.cc Z.su Z.k1 Z.k2 Z.k3 D_made
    have D_amiss := Mine.ok_amiss (P := PySem.Challenge.rw_leansay_k16_lines_refused.prog) (w := w) (base := base) T_l_amiss Z_len Z_enumerate Z_range
    have D_ljoined := Mine.ok_ljoined (P := PySem.Challenge.rw_leansay_k16_lines_refused.prog) (w := w) (base := base) T_l_joined Z_tuple Z_len
    have D_changed := Mine.ok_changed T_l_changed Z_len Z_list D_low
    exact Mine.ok_law F Z_len Z_range Z_list D_cell D_low D_built D_changed D_heard D_amiss D_ljoined
  case S => exact fun K H a ns hl hb hO hS => ⟨a, ns, rfl, Mine.scr_of hO hS hl hb, fun _ => rfl⟩
  case C => exact fun _ _ _ _ z => z


