import PyProof.Rows.All
import Wide.All
import OpenK.AllK
import Wide.FinOn
import Lean
import PyProof.EqAt
import PyProof.EqKinds
import PyProof.TupleCall
import KE.LcSums
import PyProof.Rows.EqDataRows
import PyProof.Draws
import PyProof.EnumMake
import PyProof.ZipIter
import PyProof.WalksMore
import KE.KLcPair
import PySem.Challenge.RW_leansay_k20_cut_off_and_stays
set_option Elab.async false
set_option linter.all false
set_option maxRecDepth 100000
/-! THE HAND LAYER, for ints, bools, texts, own classes, LISTS and tuples (index, slices, in, append, pop ..), calls, loops. Paste it whole ahead of your own text; what your proof does not reach may be deleted. -/
namespace L2
open PySem PySem.Spec PyProof.Rows

/-- a key: an int or a str -/
abbrev Key := Sum Int Str
def keyIs : Key → Value → Bool
  | .inl k, v => Value.isInt k v
  | .inr x, v => Value.isStrOf x v
def keyH (w : World) : Key → Int
  | .inl k => hashInt k
  | .inr x => hashStr w x
theorem keyIs_shape : ∀ {k : Key} {v : Value}, keyIs k v = true → (∃ i t, k = Sum.inl i ∧ v = Value.int i t) ∨ (∃ x t, k = Sum.inr x ∧ v = Value.str x t)
  | .inl i, v, h => by
    obtain ⟨t, e⟩ := Value.isInt_shape (k := i) (v := v) h
    exact .inl ⟨i, t, rfl, e⟩
  | .inr x, v, h => by
    obtain ⟨t, e⟩ := Value.isStrOf_shape (x := x) (v := v) h
    exact .inr ⟨x, t, rfl, e⟩
theorem key_ll (a b : Int) : decide ((Sum.inl a : Key) = Sum.inl b) = (a == b) := by
  by_cases e : a = b
  · subst e; simp
  · have h : ¬ (Sum.inl a : Key) = Sum.inl b := fun q => e (Sum.inl.inj q)
    rw [decide_eq_false h]
    exact (beq_eq_false_iff_ne.mpr e).symm
theorem key_rr (a b : Str) : decide ((Sum.inr a : Key) = Sum.inr b) = decide (a = b) := by
  by_cases e : a = b
  · subst e; simp
  · have h : ¬ (Sum.inr a : Key) = Sum.inr b := fun q => e (Sum.inr.inj q)
    rw [decide_eq_false h, decide_eq_false e]
theorem key_lr (a : Int) (b : Str) : decide ((Sum.inl a : Key) = Sum.inr b) = false := decide_eq_false (fun q => nomatch q)
theorem key_rl (a : Str) (b : Int) : decide ((Sum.inr a : Key) = Sum.inl b) = false := decide_eq_false (fun q => nomatch q)

def mixKind (prog : Program) (w : World) : PySem.KeyKind prog w Key where
  is := keyIs
  hash := keyH w
  inj := fun v a b ha hb => by
    rcases keyIs_shape ha with ⟨i, t, rfl, rfl⟩ | ⟨x, t, rfl, rfl⟩
    · rcases keyIs_shape hb with ⟨j, u, rfl, e⟩ | ⟨y, u, rfl, e⟩
      · injection e with e1 _; rw [e1]
      · exact nomatch e
    · rcases keyIs_shape hb with ⟨j, u, rfl, e⟩ | ⟨y, u, rfl, e⟩
      · exact nomatch e
      · injection e with e1 _; rw [e1]
  byValue := fun k v h => by
    rcases keyIs_shape h with ⟨i, t, rfl, rfl⟩ | ⟨x, t, rfl, rfl⟩ <;> rfl
  pyHash := fun hv h => by
    rcases keyIs_shape hv with ⟨i, t, rfl, rfl⟩ | ⟨x, t, rfl, rfl⟩
    · exact wpAny_pyHash_int h
    · exact wpAny_pyHash_str h
  eqBool := fun hu hv h => by
    rcases keyIs_shape hu with ⟨i, t, rfl, rfl⟩ | ⟨x, t, rfl, rfl⟩
    · rcases keyIs_shape hv with ⟨j, u, rfl, rfl⟩ | ⟨y, u, rfl, rfl⟩
      · rw [key_ll] at h; exact wpAny_eqBool_int h
      · rw [key_lr] at h; exact SeqAt.EqAt.int_str i t y u _ _ _ _ h
    · rcases keyIs_shape hv with ⟨j, u, rfl, rfl⟩ | ⟨y, u, rfl, rfl⟩
      · rw [key_rl] at h; exact SeqAt.EqAt.str_int x t j u _ _ _ _ h
      · rw [key_rr] at h; exact wpAny_eqBool_str h
  «strs» := fun k x t v h => by
    rcases keyIs_shape h with ⟨i, u, rfl, e⟩ | ⟨y, u, rfl, e⟩
    · exact nomatch e
    · injection e with e1 _
      subst e1
      cases v <;> rfl

end L2

namespace L2
open PySem PySem.Spec PyProof.Rows

/-- a value, without the heap -/
inductive V where
  | non | bl (b : Bool) | int (i : Int) | str (x : Str) | byt (b : Array UInt8) | flt (b : UInt64) | ref (a : Addr) | ty (n : String)
  deriving DecidableEq

def RelV : V → Value → Prop
  | .non, u => u = Value.none
  | .bl b, u => u = Value.bool b
  | .int i, u => ∃ t, u = Value.int i t
  | .str x, u => ∃ t, u = Value.str x t
  | .byt b, u => ∃ t, u = Value.bytes b t
  | .flt b, u => ∃ t, u = Value.float b t
  | .ref a, u => u = Value.ref a
  | .ty n, u => u = Value.type n

abbrev Vals : List V → List Value → Prop := Paired RelV
theorem Vals.length {xs : List V} {us : List Value} (r : Vals xs us) : xs.length = us.length := Paired.length r
theorem Vals.get : ∀ {xs : List V} {us : List Value} {i : Nat} {x : V}, Vals xs us → xs[i]? = some x → ∃ u, us[i]? = some u ∧ RelV x u
  | _, _, _, _, .nil, e => by simp at e
  | _, _, 0, _, .cons r _, e => by simp at e; subst e; exact ⟨_, rfl, r⟩
  | _, _, i + 1, x, .cons _ t, e => by
    obtain ⟨u, h1, h2⟩ := Vals.get (i := i) (x := x) t (by simpa using e)
    exact ⟨u, by simpa using h1, h2⟩
theorem Vals.append : ∀ {xs ys : List V} {us ws : List Value}, Vals xs us → Vals ys ws → Vals (xs ++ ys) (us ++ ws)
  | _, _, _, _, .nil, s => s
  | _, _, _, _, .cons r t, s => .cons r (Vals.append t s)
theorem Vals.take : ∀ {xs : List V} {us : List Value} (n : Nat), Vals xs us → Vals (xs.take n) (us.take n)
  | _, _, 0, _ => .nil
  | _, _, _ + 1, .nil => .nil
  | _, _, n + 1, .cons r t => .cons r (Vals.take n t)
theorem Vals.drop : ∀ {xs : List V} {us : List Value} (n : Nat), Vals xs us → Vals (xs.drop n) (us.drop n)
  | _, _, 0, r => r
  | _, _, _ + 1, .nil => .nil
  | _, _, n + 1, .cons _ t => Vals.drop n t

def RelO : Option V → Option Value → Prop
  | some v, some u => RelV v u
  | none, none => True
  | _, _ => False
def KV {κ : Type} : List (κ × V) → List (κ × Value) → Prop := Paired fun (p : κ × V) (q : κ × Value) => p.1 = q.1 ∧ RelV p.2 q.2

/-- a key of a dict (00_mix): an int or a text -/
def kV : Key → V
  | .inl i => .int i
  | .inr x => .str x

/-- what stands at a tracked address -/
inductive HO where
  /-- a list -/
  | lst (xs : List V)
  /-- a tuple (never changes) -/
  | tup (xs : List V)
  /-- a dict whose keys are ints and texts; one whose keys are tuples of ints and texts (the empty one is both) -/
  | dK (kvs : List (Key × V)) | dT (kvs : List (List Key × V))
  /-- a set of ints: its members, its size -/
  | set (S : Int → Bool) (n : Nat)
  /-- an instance of the class at C, its dict at dx, its attributes -/
  | ins (C dx : Addr) (fs : List (Str × V))
  /-- the dict of the instance at x -/
  | own (x : Addr)
  /-- the dict of an exception -/
  | xd (fs : List (Str × V))
  /-- a bound method, f of x -/
  | met (f x : Addr)
  /-- a range object lo, lo + 1, .. below hi -/
  | rng (lo hi : Int)
  /-- a thing that is known to the object (the script; a dict while a loop walks it): read, never written while it is so -/
  | frz (o : Obj) (u : HO)
  /-- a code object's table -/
  | tbl (ps : Array Value)
  /-- any other thing, by what is true of its one object (a def of one's own: SetO a S n := HO.ext fun h => ..) -/
  | ext (φ : Heap → Prop)

abbrev Hp := Addr → Option HO
def upd (H : Hp) (a : Addr) (o : HO) : Hp := fun b => if b = a then some o else H b
theorem upd_same {H : Hp} {a : Addr} {o : HO} : upd H a o a = some o := by unfold upd; rw [if_pos rfl]
theorem upd_ne {H : Hp} {a b : Addr} {o : HO} (h : b ≠ a) : upd H a o b = H b := by unfold upd; rw [if_neg h]
/-- two objects of different content stand apart -/
theorem ne_of {H : Hp} {a b : Addr} {o u : HO} (h : H a = some o) (h' : H b = some u) (d : o ≠ u) : a ≠ b := by
  intro e; subst e; rw [h] at h'; exact d (Option.some.inj h')
theorem ne_of_none {H : Hp} {a b : Addr} {o : HO} (h : H a = some o) (h' : H b = none) : a ≠ b := by
  intro e; subst e; rw [h] at h'; cases h'

section
variable (P : Program) (w : World)
def ObjOk (H : Hp) (h : Heap) (a : Addr) : HO → Prop
  | .lst xs => xs.length ≤ sizeLine ∧ ∃ (its : List Value) (n : Nat), Vals xs its ∧ h.get? a = some { cls := .type "list", data := .seq its.toArray n }
  | .tup xs => xs.length ≤ sizeLine ∧ ∃ its : List Value, Vals xs its ∧ IsTup h a its.toArray
  | .dK kvs => kvs.length ≤ sizeLine ∧ (a == sysModules) = false ∧ ∃ vs, KV kvs vs ∧ h.DictOf (mixKind P w) a vs
  | .dT kvs => kvs.length ≤ sizeLine ∧ (a == sysModules) = false ∧ ∃ xs : List (List Key × Addr × Value),
      Paired (fun (p : List Key × V) (q : List Key × Addr × Value) => p.1 = q.1 ∧ H q.2.1 = some (.tup (p.1.map kV)) ∧ RelV p.2 q.2.2) kvs xs ∧
      ∃ o es ep, h.get? a = some o ∧ o.ExactDict ∧ o.data = .dict es ep ∧ es.toList = xs.map (entryOfKey (tupleKind (mixKind P w))) ∧ (xs.map (·.1)).Nodup
  | .set S n => h.SetOf (intKind P w) a S n
  | .ins C dx fs => H dx = some (.own a) ∧ fs.length ≤ 1000 ∧ dx ≠ a ∧ h.get? a = some (PySem.W.instObj C dx) ∧
      ∃ mA, h.Ns1 dx mA ∧ (∀ f, RelO (fs.lookup f) (mA f)) ∧ PySem.Within mA (fs.map (·.1))
  | .own _ => ∃ o, h.get? a = some o
  | .xd fs => ∃ mA, h.Ns1 a mA ∧ ∀ f, RelO (fs.lookup f) (mA f)
  | .rng lo hi => ∃ t u v, h.get? a = some { cls := .type "range", data := .fields #[.int lo t, .int hi u, .int 1 v] }
  | .frz o u => h.get? a = some o ∧ ObjOk H h a u
  | .tbl ps => h.get? a = some { cls := .none, data := .fields ps }
  | .met f x => h.get? a = some (PySem.W.methodObj (.ref f) (.ref x))
  | .ext φ => φ h ∧ (∃ o, h.get? a = some o) ∧ ∀ h1 h2 : Heap, φ h1 → (∀ o, h1.get? a = some o → h2.get? a = some o) → φ h2
/-- the abstract heap is held -/
def HOk (H : Hp) (h : Heap) : Prop := ∀ a o, H a = some o → ObjOk P w H h a o
end

section
variable {P : Program} {w : World} {H H' : Hp} {h h' : Heap} {a : Addr} {o : HO}
theorem ObjOk.lt (x : ObjOk P w H h a o) : a < h.objs.size := by
  cases o with
  | lst xs => obtain ⟨_, _, _, _, e⟩ := x; exact Heap.lt_size e
  | tup xs => obtain ⟨_, _, _, p⟩ := x; exact p.lt
  | dK kvs => obtain ⟨_, _, _, _, o, _, _, e, _⟩ := x; exact Heap.lt_size e
  | dT kvs => obtain ⟨_, _, _, _, o, _, _, e, _⟩ := x; exact Heap.lt_size e
  | set S n => obtain ⟨o, _, _, _, e, _⟩ := x; exact Heap.lt_size e
  | ins C dx fs => obtain ⟨_, _, _, e, _⟩ := x; exact Heap.lt_size e
  | own y => obtain ⟨_, e⟩ := x; exact Heap.lt_size e
  | xd fs => obtain ⟨_, ⟨_, _, _, e, _⟩, _⟩ := x; exact Heap.lt_size e
  | rng lo hi => obtain ⟨_, _, _, e⟩ := x; exact Heap.lt_size e
  | frz ob u => obtain ⟨e, _⟩ := x; exact Heap.lt_size e
  | tbl ps => exact Heap.lt_size (show h.get? a = some _ from x)
  | met f y => exact Heap.lt_size (show h.get? a = some _ from x)
  | ext φ => obtain ⟨_, ⟨_, e⟩, _⟩ := x; exact Heap.lt_size e
theorem Paired.mapP {α β : Type} {F G : α → β → Prop} : ∀ {l₁ : List α} {l₂ : List β}, Paired F l₁ l₂ → (∀ a b, F a b → G a b) → Paired G l₁ l₂
  | _, _, .nil, _ => .nil
  | _, _, .cons r t, f => .cons (f _ _ r) (Paired.mapP t f)
/-- what an object's description leans on: its own object, its own dict, the tuples -/
theorem ObjOk.stay (x : ObjOk P w H h a o) (k : ∀ b u, (b = a ∨ H b = some (.own a)) → h.get? b = some u → h'.get? b = some u)
    (ho : ∀ b, H b = some (.own a) → H' b = some (.own a)) (ht : ∀ b xs, H b = some (.tup xs) → H' b = some (.tup xs)) : ObjOk P w H' h' a o := by
  induction o with
  | lst xs => obtain ⟨z, its, n, r, e⟩ := x; exact ⟨z, its, n, r, k _ _ (.inl rfl) e⟩
  | tup xs => obtain ⟨z, its, r, ob, e, c⟩ := x; exact ⟨z, its, r, ob, k _ _ (.inl rfl) e, c⟩
  | dK kvs => obtain ⟨z, y, vs, r, ob, es, ep, e, c⟩ := x; exact ⟨z, y, vs, r, ob, es, ep, k _ _ (.inl rfl) e, c⟩
  | dT kvs =>
    obtain ⟨z, y, xs, r, ob, es, ep, e, c⟩ := x
    exact ⟨z, y, xs, Paired.mapP r fun p q z => ⟨z.1, ht _ _ z.2.1, z.2.2⟩, ob, es, ep, k _ _ (.inl rfl) e, c⟩
  | set S n => obtain ⟨ob, es, ep, t, e, c⟩ := x; exact ⟨ob, es, ep, t, k _ _ (.inl rfl) e, c⟩
  | ins C dx fs =>
    obtain ⟨d, z, ne, e, mA, ⟨od, es, ep, e2, c⟩, r⟩ := x
    exact ⟨ho _ d, z, ne, k _ _ (.inl rfl) e, mA, ⟨od, es, ep, k _ _ (.inr d) e2, c⟩, r⟩
  | own y => obtain ⟨ob, e⟩ := x; exact ⟨ob, k _ _ (.inl rfl) e⟩
  | xd fs => obtain ⟨mA, ⟨od, es, ep, e, c⟩, r⟩ := x; exact ⟨mA, ⟨od, es, ep, k _ _ (.inl rfl) e, c⟩, r⟩
  | rng lo hi => obtain ⟨t, u, v, e⟩ := x; exact ⟨t, u, v, k _ _ (.inl rfl) e⟩
  | frz ob u ih => obtain ⟨e, q⟩ := x; exact ⟨k _ _ (.inl rfl) e, ih q⟩
  | tbl ps =>
    have e : h.get? a = some { cls := .none, data := .fields ps } := x
    show h'.get? a = some { cls := .none, data := .fields ps }
    exact k a _ (.inl rfl) e
  | met f y =>
    have e : h.get? a = some (PySem.W.methodObj (.ref f) (.ref y)) := x
    show h'.get? a = some (PySem.W.methodObj (.ref f) (.ref y))
    exact k a _ (.inl rfl) e
  | ext φ => obtain ⟨p, ⟨o, e⟩, st⟩ := x; exact ⟨st _ _ p fun o q => k _ _ (.inl rfl) q, ⟨o, k _ _ (.inl rfl) e⟩, st⟩
theorem HOk.lt (x : HOk P w H h) (e : H a = some o) : a < h.objs.size := (x a o e).lt
theorem HOk.fresh (x : HOk P w H h) (e : h.objs.size ≤ a) : H a = none := by
  cases q : H a with
  | none => rfl
  | some u => exact absurd (Nat.lt_of_lt_of_le (x.lt q) e) (Nat.lt_irrefl _)
/-- every object of the heap is kept -/
theorem HOk.kept (x : HOk P w H h) (k : ∀ b u, h.get? b = some u → h'.get? b = some u) : HOk P w H h' := fun a o e =>
  (x a o e).stay (fun b u _ q => k b u q) (fun _ q => q) fun _ _ q => q
/-- a new object is laid and tracked -/
theorem HOk.laid (x : HOk P w H h) (k : ∀ b u, h.get? b = some u → h'.get? b = some u) (hp : h.objs.size ≤ a) (new : ObjOk P w (upd H a o) h' a o) : HOk P w (upd H a o) h' := fun b u e => by
  have hn := x.fresh hp
  by_cases hb : b = a
  · subst hb; rw [upd_same] at e; cases e; exact new
  · rw [upd_ne hb] at e
    exact (x b u e).stay (fun c v _ q => k c v q) (fun c q => by rw [upd_ne (ne_of_none q hn)]; exact q) fun c xs q => by rw [upd_ne (ne_of_none q hn)]; exact q
end

/-- what may be read as u: it is u, or a known u -/
def Rd (H : Hp) (a : Addr) (u : HO) : Prop := H a = some u ∨ ∃ o, H a = some (.frz o u)
theorem Rd.ok {P : Program} {w : World} {H : Hp} {h : Heap} {a : Addr} {u : HO} (r : Rd H a u) (x : HOk P w H h) : ObjOk P w H h a u := by
  rcases r with r | ⟨o, r⟩
  · exact x a u r
  · obtain ⟨_, q⟩ := x a _ r
    exact q
/-- what may be written -/
def Mut : Option HO → Prop
  | some (.lst _) => True
  | some (.dK _) => True
  | some (.dT _) => True
  | some (.set _ _) => True
  | some (.ins _ _ _) => True
  | some (.ext _) => True
  | _ => False
section
variable {P : Program} {w : World} {H : Hp} {h h' : Heap} {x e : Addr} {o' : HO}
/-- the object at e is changed: x itself, or the dict of the instance x -/
theorem HOk.write (ok : HOk P w H h) (mu : Mut (H x)) (he : e = x ∨ H e = some (.own x)) (k : ∀ b u, b ≠ e → h.get? b = some u → h'.get? b = some u) (heo : ∃ u, h'.get? e = some u)
    (new : ObjOk P w (upd H x o') h' x o') : HOk P w (upd H x o') h' := fun b u q => by
  have nown : ∀ c y, H c = some (.own y) → c ≠ x := fun c y r z => by subst z; rw [r] at mu; exact mu
  have ntup : ∀ c xs, H c = some (.tup xs) → c ≠ x := fun c xs r z => by subst z; rw [r] at mu; exact mu
  by_cases hb : b = x
  · subst hb; rw [upd_same] at q; cases q; exact new
  · rw [upd_ne hb] at q
    by_cases hbe : b = e
    · have q' : H b = some (.own x) := by
        rcases he with z | z
        · exact absurd (hbe.trans z) hb
        · rw [hbe]; exact z
      rw [q] at q'; cases q'
      obtain ⟨v, hv⟩ := heo
      exact ⟨v, by rw [hbe]; exact hv⟩
    · refine (ok b u q).stay (fun c v hc r => k c v ?_ r) (fun c r => by rw [upd_ne (nown c b r)]; exact r) fun c xs r => by rw [upd_ne (ntup c xs r)]; exact r
      rcases hc with rfl | hc
      · exact hbe
      · rintro rfl
        rcases he with z | z
        · exact nown c b hc z
        · rw [hc] at z; cases z; exact hb rfl
end

/-! ### kept unless tracked; of the frames at fs (the callers') the slots may change (an exception that passes writes there); of the records at ex (iterators) nothing is said -/
structure Un (fs ex : List Addr) (H H' : Hp) (h h' : Heap) : Prop where
  keep : ∀ b o, h.get? b = some o → H b = none → b ∉ fs → b ∉ ex → h'.get? b = some o
  slot : ∀ b o, h.get? b = some o → H b = none → b ∈ fs → b ∉ ex → ∃ sl, h'.get? b = some { o with slots := sl }
  free : ∀ b o, h.get? b = some o → H b = none → b ∉ ex → H' b = none
  there : ∀ b o, h.get? b = some o → b ∉ ex → ∃ o', h'.get? b = some o'
  tups : ∀ b xs, H b = some (.tup xs) → H' b = some (.tup xs)
  frzs : ∀ b o u, H b = some (.frz o u) → H' b = some (.frz o u)
  tbls : ∀ b ps, H b = some (.tbl ps) → ∃ more, H' b = some (.tbl (ps ++ more))
section
variable {fs fs' ex ex' : List Addr} {H H1 H2 : Hp} {h h1 h2 h' : Heap} {a x e : Addr} {o : HO}
theorem Un.any (u : Un fs ex H H1 h h1) {b : Addr} {ob : Obj} (q : h.get? b = some ob) (n : H b = none) (hx : b ∉ ex) : ∃ sl, h1.get? b = some { ob with slots := sl } := by
  by_cases hb : b ∈ fs
  · exact u.slot b ob q n hb hx
  · exact ⟨ob.slots, u.keep b ob q n hb hx⟩
theorem Un.kept (k : ∀ b u, h.get? b = some u → h'.get? b = some u) : Un fs ex H H h h' :=
  ⟨fun b ob q _ _ _ => k b ob q, fun b ob q _ _ _ => ⟨ob.slots, k b ob q⟩, fun _ _ _ n _ => n, fun b ob q _ => ⟨ob, k b ob q⟩, fun _ _ q => q, fun _ _ _ q => q, fun _ ps q => ⟨#[], by rw [q]; simp⟩⟩
theorem Un.refl : Un fs ex H H h h := Un.kept fun _ _ q => q
theorem Un.laid (k : ∀ b u, h.get? b = some u → h'.get? b = some u) (hp : h.objs.size ≤ a) (hn : H a = none) : Un fs ex H (upd H a o) h h' where
  keep := fun b u q _ _ _ => k b u q
  slot := fun b u q _ _ _ => ⟨u.slots, k b u q⟩
  free := fun b u q n _ => by rw [upd_ne (Nat.ne_of_lt (Nat.lt_of_lt_of_le (Heap.lt_size q) hp))]; exact n
  there := fun b u q _ => ⟨u, k b u q⟩
  tups := fun b xs q => by rw [upd_ne (ne_of_none q hn)]; exact q
  frzs := fun b u xs q => by rw [upd_ne (ne_of_none q hn)]; exact q
  tbls := fun b ps q => ⟨#[], by rw [upd_ne (ne_of_none q hn), q]; simp⟩
theorem Un.write (mu : Mut (H x)) (he : e = x ∨ H e = some (.own x)) (k : ∀ b u, b ≠ e → h.get? b = some u → h'.get? b = some u) (heo : ∃ u, h'.get? e = some u) : Un fs ex H (upd H x o) h h' := by
  have hx : ∀ b, H b = none → b ≠ x := fun b n z => by subst z; rw [n] at mu; exact mu
  have hb : ∀ b, H b = none → b ≠ e := fun b n z => by
    subst z
    rcases he with r | r
    · exact hx b n r
    · rw [n] at r; cases r
  have hm : ∀ b u, H b = some u → ¬ Mut (some u) → b ≠ x := fun b u q nm z => by subst z; rw [q] at mu; exact nm mu
  refine ⟨fun b u q n _ _ => k b u (hb b n) q, fun b u q n _ _ => ⟨u.slots, k b u (hb b n) q⟩, fun b u q n _ => by rw [upd_ne (hx b n)]; exact n, fun b u q _ => ?_,
    fun b xs q => by rw [upd_ne (hm b _ q fun z => z)]; exact q, fun b u xs q => by rw [upd_ne (hm b _ q fun z => z)]; exact q, fun b ps q => ⟨#[], by rw [upd_ne (hm b _ q fun z => z), q]; simp⟩⟩
  by_cases hbe : b = e
  · subst hbe; exact heo
  · exact ⟨u, k b u hbe q⟩
end

/-! ### the heap without what is tracked -/
def trk (h : Heap) (H : Hp) : List Addr := (List.range h.objs.size).filter fun a => (H a).isSome
def hidT (h : Heap) (H : Hp) : Heap := PySem.W.hideAll h (trk h H)
theorem hidT_size (h : Heap) (H : Hp) : (hidT h H).objs.size = h.objs.size := PySem.W.hideAll_size _ _
theorem hidT_get {h : Heap} {H : Hp} {b : Addr} {o : Obj} (e : h.get? b = some o) (n : H b = none) : (hidT h H).get? b = some o :=
  PySem.W.hideAll_get _ e fun hm => by
    have q : (H b).isSome = true := (List.mem_filter.mp hm).2
    rw [n] at q; simp at q
theorem of_hidT {h : Heap} {H : Hp} {b : Addr} {o : Obj} (e : (hidT h H).get? b = some o) : h.get? b = some o ∧ H b = none := by
  have e' : h.get? b = some o := PySem.W.of_hideAll (trk h H) e
  refine ⟨e', ?_⟩
  cases q : H b with
  | none => rfl
  | some x =>
    have hm : b ∈ trk h H := List.mem_filter.mpr ⟨List.mem_range.mpr (Heap.lt_size e'), by simp [q]⟩
    have z : (hidT h H).get? b = none := PySem.W.hideAll_none (trk h H) hm
    rw [z] at e; cases e

/-! ### OpenK's ledger, filled with every new object but one -/
end L2

namespace L2
open PySem PySem.Spec PyProof.Rows

/-- the module's facts, over the base: the heap at the law's entry without what is tracked there -/
structure Mod (K : PySem.W.Frag) (mg : Str → Option Value) (base : Heap) : Prop where
  kin : K.In base
  glob : base.Ns mainGlobals mg
  blt : ∃ mb, base.Ns builtinsNs mb ∧ ∀ x : Str, x ≠ "__name__" → mb x = bootBuiltins x
  nolimit : base.NoLimit

/-- the context: a def's body (or a comprehension's block) running. base: fixed through the whole law; s₀, H₀: the entry; outer: the frames whose slots others may change (a def's callers); stack: all frames that run;
   ex: iterators that were made ahead of the entry and are walked here (a comprehension's); fn: the names whose cells were made at the entry (a def: all; a comprehension's block: its own); calm: not within an except suite; pn: pins that every state bears; xe: what is wanted of an exception that leaves the code -/
structure Cx where
  prog : Program
  w : World
  K : PySem.W.Frag
  mg : Str → Option Value
  base : Heap
  A : Around
  N : List Str
  s₀ : Shared
  H₀ : Hp
  env : Env
  outer : List Env
  stack : List Env
  ex : List Addr
  fn : Str → Bool
  calm : Bool
  pn : List (Addr × Obj)
  xe : Value → Shared → Prop
/-- the callers' frames -/
def frs (l : List Env) : List Addr := l.filterMap (·.frame)
abbrev Cx.fs (X : Cx) : List Addr := frs X.outer

def Vis (sc : Scope) (x : Str) : Prop := sc.names.lookup x = some .local ∨ sc.names.lookup x = some .cell ∨ sc.names.lookup x = some .free
def Loc (sc : Scope) (x : Str) : Prop := sc.names.lookup x = some .local ∨ sc.names.lookup x = some .cell
def Look (env : Env) (h : Heap) (m : Str → Option Value) (x : Str) (u : Value) : Prop :=
  (env.kindOf x = some .local ∧ m x = some u) ∨ ((env.kindOf x = some .cell ∨ env.kindOf x = some .free) ∧ ∃ c, env.cells.lookup x = some c ∧ h.IsCell c (some u))

structure Cx.Ok (X : Cx) : Prop where
  mod : Mod X.K X.mg X.base
  kind : X.env.scope.kind = .function
  glob : X.env.globals = mainGlobals
  blt : X.env.builtins = builtinsNs
  above : X.s₀.heap.objs.size ≤ X.env.locals
  inj : ∀ x y c, X.env.cells.lookup x = some c → X.env.cells.lookup y = some c → x = y
  has : ∀ x, (X.env.kindOf x = some .cell ∨ X.env.kindOf x = some .free) → ∃ c, X.env.cells.lookup x = some c
  cab : ∀ x c, X.fn x = true → X.env.cells.lookup x = some c → X.s₀.heap.objs.size ≤ c
  hd : X.calm = true → X.A.handled = none
  frames : X.A.frames = some X.stack
  stk : X.stack = X.outer ∨ (X.stack = X.env :: X.outer ∧ X.env.frame = some X.env.locals)
  exf : ∀ b ∈ X.ex, b ≠ X.env.locals ∧ ∀ x c, X.env.cells.lookup x = some c → c ≠ b
  bs : ∀ b o, X.base.get? b = some o → X.s₀.heap.get? b = some o ∧ X.H₀ b = none
  bsz : X.base.objs.size ≤ X.s₀.heap.objs.size
  noex : ∀ b o, X.base.get? b = some o → b ∉ X.ex
  exfs : ∀ b ∈ X.ex, b ∉ X.fs
  funs : X.s₀.heap.FunFrames X.base X.outer
  frf : ∀ b ∈ X.fs, X.H₀ b = none

structure Inv (X : Cx) (pins : List (Addr × Obj)) (σ : List (Option V)) (H : Hp) (s : Shared) : Prop where
  ok : X.Ok
  os : s.os = X.s₀.os
  bare : AllBare s.gens
  base : Un X.fs X.ex X.H₀ H X.s₀.heap s.heap
  loc : ∃ m, s.heap.Ns X.env.locals m ∧ ∀ (i : Nat) (x : Str) (v : V), X.N[i]? = some x → σ[i]? = some (some v) → Vis X.env.scope x → ∃ u, RelV v u ∧ Look X.env s.heap m x u
  cell : ∀ x c, X.env.cells.lookup x = some c → ∃ v, s.heap.IsCell c v
  free : H X.env.locals = none
  freeC : ∀ x c, X.env.cells.lookup x = some c → H c = none
  pin : ∀ p ∈ X.pn ++ pins, s.heap.get? p.1 = some p.2 ∧ H p.1 = none ∧ p.1 ≠ X.env.locals ∧ p.1 ∉ X.fs ∧ ∀ v, p.2.data ≠ .cell v
  hok : HOk X.prog X.w H s.heap
  len : σ.length = X.N.length

section
variable {X : Cx} {pins : List (Addr × Obj)} {σ : List (Option V)} {H H' : Hp} {s : Shared} {h' : Heap}

theorem Cx.Ok.nofr (ok : X.Ok) {b : Addr} {o : Obj} (e : X.base.get? b = some o) : b ∉ X.fs := fun hb => by
  have := (ok.funs.mem hb).1
  rw [e] at this; cases this
theorem Inv.bs (I : Inv X pins σ H s) : ∀ b o, X.base.get? b = some o → s.heap.get? b = some o ∧ H b = none := fun b o e =>
  ⟨I.base.keep b o (I.ok.bs b o e).1 (I.ok.bs b o e).2 (I.ok.nofr e) (I.ok.noex b o e), I.base.free b o (I.ok.bs b o e).1 (I.ok.bs b o e).2 (I.ok.noex b o e)⟩
theorem Inv.bk (I : Inv X pins σ H s) : ∀ b o, X.base.get? b = some o → s.heap.get? b = some o := fun b o e => (I.bs b o e).1
theorem Inv.mod (I : Inv X pins σ H s) : Mod X.K X.mg X.base := I.ok.mod
theorem Inv.kIn (I : Inv X pins σ H s) : X.K.In s.heap := I.ok.mod.kin.keeps I.bk
theorem Inv.lt (I : Inv X pins σ H s) : X.env.locals < s.heap.objs.size := let ⟨_, hn, _⟩ := I.loc; hn.lt
theorem Inv.sz (I : Inv X pins σ H s) : X.s₀.heap.objs.size ≤ s.heap.objs.size := Nat.le_trans I.ok.above (Nat.le_of_lt I.lt)
theorem Inv.nofs (I : Inv X pins σ H s) {a : Addr} (h : s.heap.objs.size ≤ a) : a ∉ X.fs := fun hb => by
  obtain ⟨_, o, ho, _⟩ := I.ok.funs.mem hb
  exact absurd (Nat.lt_of_lt_of_le (Heap.lt_size ho) (Nat.le_trans I.sz h)) (Nat.lt_irrefl _)
theorem Inv.cne (I : Inv X pins σ H s) : ∀ x c, X.env.cells.lookup x = some c → c ≠ X.env.locals := fun x c e z => by
  obtain ⟨v, o, ho, hd⟩ := I.cell x c e
  obtain ⟨m, ⟨o', es, ep, ho', hd', _⟩, _⟩ := I.loc
  rw [z, ho'] at ho; cases ho; rw [hd'] at hd; cases hd
theorem Inv.funs (I : Inv X pins σ H s) : s.heap.FunFrames X.base X.outer := by
  have all : ∀ (l : List Env), (∀ b ∈ frs l, b ∈ X.fs) → X.s₀.heap.FunFrames X.base l → s.heap.FunFrames X.base l := by
    intro l
    induction l with
    | nil => intro _ _; trivial
    | cons env r ih =>
      intro hs hl
      obtain ⟨hk, ⟨L, o, hf, hn, ho, hd⟩, hr⟩ := hl
      have hL : L ∈ X.fs := hs L (by unfold frs; rw [List.filterMap_cons, hf]; exact List.mem_cons_self)
      obtain ⟨sl, e⟩ := I.base.slot L o ho (I.ok.frf L hL) hL fun z => I.ok.exfs L z hL
      exact ⟨hk, ⟨L, _, hf, hn, e, hd⟩, ih (fun b hb => hs b (by unfold frs; rw [List.filterMap_cons, hf]; exact List.mem_cons_of_mem _ hb)) hr⟩
  exact all X.outer (fun _ hb => hb) I.ok.funs

/-- the frames that run, for a call -/
theorem Inv.stack (I : Inv X pins σ H s) : s.heap.FunFrames X.base X.stack := by
  rcases I.ok.stk with e | ⟨e, hf⟩
  · rw [e]; exact I.funs
  · rw [e]
    obtain ⟨m, hn, _⟩ := I.loc
    refine .cons (by rw [I.ok.kind]; decide) hf hn ?_ I.funs
    exact Heap.get?_none_of_le (Nat.le_trans I.ok.bsz I.ok.above)
theorem Inv.stkSub (I : Inv X pins σ H s) : ∀ b ∈ frs X.stack, b ∈ X.env.locals :: X.fs := fun b hb => by
  rcases I.ok.stk with e | ⟨e, hf⟩
  · rw [e] at hb; exact List.mem_cons_of_mem _ hb
  · rw [e] at hb
    unfold frs at hb
    rw [List.filterMap_cons, hf] at hb
    exact hb
theorem Inv.stkFree (I : Inv X pins σ H s) : ∀ b ∈ frs X.stack, H b = none := fun b hb => by
  rcases List.mem_cons.mp (I.stkSub b hb) with e | hb
  · rw [e]; exact I.free
  · obtain ⟨_, o, ho, _⟩ := I.ok.funs.mem hb
    exact I.base.free b o ho (I.ok.frf b hb) fun z => I.ok.exfs b z hb

/-- THE STEP: the untracked objects but the frame and the records at ch are kept (the callers' frames up to slots), the frame's map is kept, the new abstract heap is held -/
theorem Inv.step {g' : Array GenState} {t' : Nat} {d' : Drawn} {ch : List Addr} (I : Inv X pins σ H s)
    (hch : ∀ b ∈ ch, (b ∈ X.ex ∨ X.s₀.heap.objs.size ≤ b) ∧ b ≠ X.env.locals ∧ (∀ x c, X.env.cells.lookup x = some c → c ≠ b) ∧ ∀ p ∈ X.pn ++ pins, p.1 ≠ b)
    (keep : ∀ b o, b ≠ X.env.locals → b ∉ X.fs → b ∉ ch → s.heap.get? b = some o → H b = none → h'.get? b = some o)
    (slot : ∀ b o, b ≠ X.env.locals → b ∈ X.fs → b ∉ ch → s.heap.get? b = some o → H b = none → ∃ sl, h'.get? b = some { o with slots := sl }) (free : ∀ b o, b ∉ ch → s.heap.get? b = some o → H b = none → H' b = none)
    (there : ∀ b o, b ∉ ch → s.heap.get? b = some o → ∃ o', h'.get? b = some o')
    (tups : ∀ b xs, H b = some (.tup xs) → H' b = some (.tup xs)) (frzs : ∀ b o u, H b = some (.frz o u) → H' b = some (.frz o u)) (tbls : ∀ b ps, H b = some (.tbl ps) → ∃ more, H' b = some (.tbl (ps ++ more)))
    (ns : ∀ m, s.heap.Ns X.env.locals m → h'.Ns X.env.locals m) (hok : HOk X.prog X.w H' h') (hg : AllBare g') :
    Inv X pins σ H' { s with heap := h', gens := g', drawn := d', toks := t' } := by
  have neL : ∀ b o, X.s₀.heap.get? b = some o → b ≠ X.env.locals := fun b o e => Nat.ne_of_lt (Nat.lt_of_lt_of_le (Heap.lt_size e) I.ok.above)
  have neC : ∀ b o, X.s₀.heap.get? b = some o → b ∉ X.ex → b ∉ ch := fun b o e hx hb => by
    rcases (hch b hb).1 with z | z
    · exact hx z
    · exact absurd (Nat.lt_of_lt_of_le (Heap.lt_size e) z) (Nat.lt_irrefl _)
  have cellK : ∀ x c, X.env.cells.lookup x = some c → ∀ v, s.heap.IsCell c v → h'.IsCell c v := fun x c e v ⟨o, ho, hd⟩ => by
    have nch : c ∉ ch := fun z => (hch c z).2.2.1 x c e rfl
    by_cases hc : c ∈ X.fs
    · obtain ⟨sl, q⟩ := slot c o (I.cne x c e) hc nch ho (I.freeC x c e)
      exact ⟨_, q, hd⟩
    · exact ⟨o, keep c o (I.cne x c e) hc nch ho (I.freeC x c e), hd⟩
  refine ⟨I.ok, I.os, hg, ⟨fun b o e n hb hx => ?_, fun b o e n hb hx => ?_, fun b o e n hx => ?_, fun b o e hx => ?_, fun b xs e => tups b xs (I.base.tups b xs e), fun b o xs e => frzs b o xs (I.base.frzs b o xs e), fun b ps e => ?_⟩, ?_, fun x c e => ?_, ?_, fun x c e => ?_, fun p hp => ?_, hok, I.len⟩
  · exact keep b o (neL b o e) hb (neC b o e hx) (I.base.keep b o e n hb hx) (I.base.free b o e n hx)
  · obtain ⟨sl, e1⟩ := I.base.slot b o e n hb hx
    obtain ⟨sl', e2⟩ := slot b _ (neL b o e) hb (neC b o e hx) e1 (I.base.free b o e n hx)
    exact ⟨sl', e2⟩
  · obtain ⟨o', e1⟩ := I.base.there b o e hx
    exact free b o' (neC b o e hx) e1 (I.base.free b o e n hx)
  · obtain ⟨o', e1⟩ := I.base.there b o e hx
    exact there b o' (neC b o e hx) e1
  · obtain ⟨m1, e1⟩ := I.base.tbls b ps e
    obtain ⟨m2, e2⟩ := tbls b _ e1
    exact ⟨m1 ++ m2, by rw [e2, Array.append_assoc]⟩
  · obtain ⟨m, hn, hl⟩ := I.loc
    refine ⟨m, ns m hn, fun i x v e1 e2 e3 => ?_⟩
    obtain ⟨u, r, l⟩ := hl i x v e1 e2 e3
    refine ⟨u, r, ?_⟩
    rcases l with l | ⟨k, c, e, z⟩
    · exact .inl l
    · exact .inr ⟨k, c, e, cellK x c e _ z⟩
  · obtain ⟨v, z⟩ := I.cell x c e
    exact ⟨v, cellK x c e v z⟩
  · obtain ⟨m, ⟨o, _, _, ho, _⟩, _⟩ := I.loc
    exact free _ o (fun z => (hch _ z).2.1 rfl) ho I.free
  · obtain ⟨v, o, ho, hd⟩ := I.cell x c e
    exact free c o (fun z => (hch c z).2.2.1 x c e rfl) ho (I.freeC x c e)
  · obtain ⟨e, n, ne, nf, d⟩ := I.pin p hp
    have nch : p.1 ∉ ch := fun z => (hch p.1 z).2.2.2 p hp rfl
    exact ⟨keep p.1 p.2 ne nf nch e n, free p.1 p.2 nch e n, ne, nf, d⟩
/-- .. where the frame's own object is kept too -/
theorem Inv.un {t' : Nat} (I : Inv X pins σ H s) (u : Un X.fs [] H H' s.heap h') (hok : HOk X.prog X.w H' h') : Inv X pins σ H' { s with heap := h', toks := t' } := by
  obtain ⟨m, ⟨o, es, ep, ho, r⟩, _⟩ := id I.loc
  obtain ⟨sl, hL⟩ := u.any ho I.free (by simp)
  exact I.step (g' := s.gens) (d' := s.drawn) (ch := []) (fun _ z => nomatch z) (fun b o _ hb _ e n => u.keep b o e n hb (by simp)) (fun b o _ hb _ e n => u.slot b o e n hb (by simp)) (fun b o _ e n => u.free b o e n (by simp)) (fun b o _ e => u.there b o e (by simp)) u.tups u.frzs u.tbls (fun m' hm => by
    obtain ⟨o', es', ep', ho', r'⟩ := hm
    rw [ho] at ho'; cases ho'
    exact ⟨_, es', ep', hL, r'⟩) hok I.bare
/-- behind a call (or a comprehension's block): the slots of this frame may have changed too, the records at ch may have turned -/
theorem Inv.call {g' : Array GenState} {t' : Nat} {d' : Drawn} {ch : List Addr} (I : Inv X pins σ H s) (u : Un (frs X.stack) ch H H' s.heap h') (hok : HOk X.prog X.w H' h') (hg : AllBare g')
    (hch : ∀ b ∈ ch, (b ∈ X.ex ∨ X.s₀.heap.objs.size ≤ b) ∧ b ≠ X.env.locals ∧ (∀ x c, X.env.cells.lookup x = some c → c ≠ b) ∧ ∀ p ∈ X.pn ++ pins, p.1 ≠ b) :
    Inv X pins σ H' { s with heap := h', gens := g', drawn := d', toks := t' } := by
  obtain ⟨m, ⟨o, es, ep, ho, r⟩, _⟩ := id I.loc
  obtain ⟨sl, hL⟩ := u.any ho I.free fun z => (hch _ z).2.1 rfl
  exact I.step (ch := ch) hch (fun b o hL hb hc e n => u.keep b o e n (fun z => (List.mem_cons.mp (I.stkSub b z)).elim hL hb) hc) (fun b o _ _ hc e n => u.any e n hc) (fun b o hc e n => u.free b o e n hc) (fun b o hc e => u.there b o e hc) u.tups u.frzs u.tbls (fun m' hm => by
    obtain ⟨o', es', ep', ho', r'⟩ := hm
    rw [ho] at ho'; cases ho'
    exact ⟨_, es', ep', hL, r'⟩) hok hg
/-- an untracked record of ours (an iterator) has turned -/
theorem Inv.turned {t' : Nat} {it : Addr} (I : Inv X pins σ H s) (k : ∀ b o, b ≠ it → s.heap.get? b = some o → h'.get? b = some o) (hn : H it = none) (hL : it ≠ X.env.locals)
    (h1 : it ∈ X.ex ∨ X.s₀.heap.objs.size ≤ it) (h2 : ∀ x c, X.env.cells.lookup x = some c → c ≠ it) (h3 : ∀ p ∈ X.pn ++ pins, p.1 ≠ it) : Inv X pins σ H { s with heap := h', toks := t' } := by
  have nit : ∀ b u, H b = some u → b ≠ it := fun b u e z => by rw [z, hn] at e; cases e
  refine I.step (g' := s.gens) (d' := s.drawn) (ch := [it]) (fun b hb => ?_) (fun b o _ _ hc e _ => k b o (fun z => hc (by simp [z])) e) (fun b o _ _ hc e _ => ⟨o.slots, k b o (fun z => hc (by simp [z])) e⟩) (fun _ _ _ _ n => n)
    (fun b o hc e => ⟨o, k b o (fun z => hc (by simp [z])) e⟩) (fun _ _ e => e) (fun _ _ _ e => e) (fun b ps e => ⟨#[], by rw [e]; simp⟩) (fun m hm => ?_) (fun b u e => ?_) I.bare
  · have e : b = it := by simpa using hb
    subst e
    exact ⟨h1, hL, h2, h3⟩
  · obtain ⟨o, es, ep, ho, r⟩ := hm
    exact ⟨o, es, ep, k _ o (Ne.symm hL) ho, r⟩
  · refine (I.hok b u e).stay (fun c v hc q => k c v ?_ q) (fun _ q => q) fun _ _ q => q
    rcases hc with z | z
    · rw [z]; exact nit b u e
    · exact nit c _ z
theorem Inv.tok (I : Inv X pins σ H s) (t : Nat) : Inv X pins σ H { s with toks := t } := I.un (h' := s.heap) (t' := t) Un.refl I.hok
/-- all objects kept -/
theorem Inv.kept {t' : Nat} (I : Inv X pins σ H s) (k : ∀ b u, s.heap.get? b = some u → h'.get? b = some u) : Inv X pins σ H { s with heap := h', toks := t' } := I.un (Un.kept k) (I.hok.kept k)
/-- a new object laid and tracked -/
theorem Inv.laid {a : Addr} {o : HO} {t' : Nat} (I : Inv X pins σ H s) (k : ∀ b u, s.heap.get? b = some u → h'.get? b = some u) (hp : s.heap.objs.size ≤ a) (new : ObjOk X.prog X.w (upd H a o) h' a o) :
    Inv X pins σ (upd H a o) { s with heap := h', toks := t' } := I.un (Un.laid k hp (I.hok.fresh hp)) (I.hok.laid k hp new)
/-- an object written -/
theorem Inv.write {x e : Addr} {o : HO} {t' : Nat} (I : Inv X pins σ H s) (mu : Mut (H x)) (he : e = x ∨ H e = some (.own x)) (k : ∀ b u, b ≠ e → s.heap.get? b = some u → h'.get? b = some u) (heo : ∃ u, h'.get? e = some u)
    (new : ObjOk X.prog X.w (upd H x o) h' x o) : Inv X pins σ (upd H x o) { s with heap := h', toks := t' } := I.un (Un.write mu he k heo) (I.hok.write mu he k heo new)
theorem Inv.pins_of {pins' : List (Addr × Obj)} (I : Inv X pins σ H s) (h : ∀ p ∈ pins', s.heap.get? p.1 = some p.2 ∧ H p.1 = none ∧ p.1 ≠ X.env.locals ∧ p.1 ∉ X.fs ∧ ∀ v, p.2.data ≠ .cell v) : Inv X pins' σ H s :=
  ⟨I.ok, I.os, I.bare, I.base, I.loc, I.cell, I.free, I.freeC, fun p hp => (List.mem_append.mp hp).elim (fun z => I.pin p (List.mem_append_left _ z)) (h p), I.hok, I.len⟩

theorem nodup_ix {N : List Str} (hN : N.Nodup) {i j : Nat} {x : Str} (a : N[i]? = some x) (b : N[j]? = some x) : i = j := by
  obtain ⟨h1, e1⟩ := List.getElem?_eq_some_iff.mp a
  obtain ⟨h2, e2⟩ := List.getElem?_eq_some_iff.mp b
  exact (List.getElem_inj hN).mp (e1.trans e2.symm)

/-- a name is stored; what changed -/
theorem store_ok2 {M : Model} {A : Around} {E : Value → Shared → Prop} {i : Nat} {x : Str} {v : V} {u : Value} {Q : Unit → Shared → Prop} (I : Inv X pins σ H s) (hN : X.N.Nodup) (hi : X.N[i]? = some x) (hx : Loc X.env.scope x) (r : RelV v u)
    (h : ∀ s', Inv X pins (σ.set i (some v)) H s' → (∃ a, Heap.SameBut a s.heap s'.heap ∧ (a = X.env.locals ∨ X.env.cells.lookup x = some a)) → Q () s') (hf : X.fn x = true ∨ X.env.scope.names.lookup x = some .local := by first | exact .inl rfl | exact .inr rfl | assumption) : wpAny M A (storeName X.env x u) Q E s := by
  obtain ⟨m, hn, hl⟩ := id I.loc
  have hcls : (X.env.scope.kind == .class || (X.env.scope.kind == .module && X.env.locals != X.env.globals)) = false := by rw [I.ok.kind]; rfl
  have hiσ : i < σ.length := by rw [I.len]; exact (List.getElem?_eq_some_iff.mp hi).1
  have cne := I.cne
  have tracked : ∀ {a : Addr} {h' : Heap}, (∃ o, s.heap.get? a = some o ∧ H a = none) → Heap.SameBut a s.heap h' → HOk X.prog X.w H h' := fun {a h'} ha hs b ob e => by
    obtain ⟨_, _, hfree⟩ := ha
    refine (I.hok b ob e).stay (fun c w' hc q => (hs.2 c ?_).trans q) (fun _ q => q) fun _ _ q => q
    rintro rfl
    rcases hc with rfl | hc
    · rw [hfree] at e; cases e
    · rw [hfree] at hc; cases hc
  rcases hx with hk | hk
  · refine wpAny_storeName_local hk hn (fun h' hn' hs => ?_) hcls
    obtain ⟨oL, _, _, hoL, _⟩ := id hn
    refine h _ ⟨I.ok, I.os, I.bare, ⟨fun b o e n hb hx => ?_, fun b o e n hb hx => ?_, I.base.free, fun b o e hx => ?_, I.base.tups, I.base.frzs, I.base.tbls⟩, ⟨_, hn', fun j y v' e1 e2 e3 => ?_⟩, fun y c e => ?_, I.free, I.freeC, fun p hp => ?_, tracked ⟨oL, hoL, I.free⟩ hs, by simpa using I.len⟩ ⟨_, hs, .inl rfl⟩
    · exact (hs.2 b (Nat.ne_of_lt (Nat.lt_of_lt_of_le (Heap.lt_size e) I.ok.above))).trans (I.base.keep b o e n hb hx)
    · obtain ⟨sl, e1⟩ := I.base.slot b o e n hb hx
      exact ⟨sl, (hs.2 b (Nat.ne_of_lt (Nat.lt_of_lt_of_le (Heap.lt_size e) I.ok.above))).trans e1⟩
    · obtain ⟨o', e1⟩ := I.base.there b o e hx
      exact ⟨o', (hs.2 b (Nat.ne_of_lt (Nat.lt_of_lt_of_le (Heap.lt_size e) I.ok.above))).trans e1⟩
    · by_cases hj : j = i
      · subst hj
        rw [hi] at e1; cases e1
        rw [List.getElem?_set_self hiσ] at e2
        cases e2
        exact ⟨u, r, .inl ⟨hk, by simp⟩⟩
      · rw [List.getElem?_set_ne (Ne.symm hj)] at e2
        obtain ⟨u', r', q⟩ := hl j y v' e1 e2 e3
        refine ⟨u', r', ?_⟩
        rcases q with ⟨k, e⟩ | ⟨k, c, e, z⟩
        · refine .inl ⟨k, ?_⟩
          have : y ≠ x := fun e => hj (nodup_ix hN e1 (e ▸ hi))
          simp [this, e]
        · exact .inr ⟨k, c, e, z.sameBut hs (cne y c e)⟩
    · obtain ⟨w', z⟩ := I.cell y c e
      exact ⟨w', z.sameBut hs (cne y c e)⟩
    · obtain ⟨e, n, ne, nf, d⟩ := I.pin p hp
      exact ⟨(hs.2 p.1 ne).trans e, n, ne, nf, d⟩
  · have hfn : X.fn x = true := by
      rcases hf with z | z
      · exact z
      · rw [z] at hk; cases hk
    obtain ⟨c, hc⟩ := I.ok.has x (.inl hk)
    obtain ⟨w', z⟩ := I.cell x c hc
    refine wpAny_storeName_cell I.ok.kind hk hc z (fun h' hc' hs => ?_)
    obtain ⟨oc, hoc, hocd⟩ := id z
    refine h { s with heap := h' } ⟨I.ok, I.os, I.bare, ⟨fun b o e n hb hx => ?_, fun b o e n hb hx => ?_, I.base.free, fun b o e hx => ?_, I.base.tups, I.base.frzs, I.base.tbls⟩, ⟨m, hn.sameBut hs (Ne.symm (cne x c hc)), fun j y v' e1 e2 e3 => ?_⟩, fun y c' e => ?_, I.free, I.freeC, fun p hp => ?_, tracked ⟨oc, hoc, I.freeC x c hc⟩ hs, by simpa using I.len⟩ ⟨c, hs, .inr hc⟩
    · exact (hs.2 b (Nat.ne_of_lt (Nat.lt_of_lt_of_le (Heap.lt_size e) (I.ok.cab x c hfn hc)))).trans (I.base.keep b o e n hb hx)
    · obtain ⟨sl, e1⟩ := I.base.slot b o e n hb hx
      exact ⟨sl, (hs.2 b (Nat.ne_of_lt (Nat.lt_of_lt_of_le (Heap.lt_size e) (I.ok.cab x c hfn hc)))).trans e1⟩
    · obtain ⟨o', e1⟩ := I.base.there b o e hx
      exact ⟨o', (hs.2 b (Nat.ne_of_lt (Nat.lt_of_lt_of_le (Heap.lt_size e) (I.ok.cab x c hfn hc)))).trans e1⟩
    · by_cases hj : j = i
      · subst hj
        rw [hi] at e1; cases e1
        rw [List.getElem?_set_self hiσ] at e2
        cases e2
        exact ⟨u, r, .inr ⟨.inl hk, c, hc, hc'⟩⟩
      · rw [List.getElem?_set_ne (Ne.symm hj)] at e2
        obtain ⟨u', r', q⟩ := hl j y v' e1 e2 e3
        refine ⟨u', r', ?_⟩
        rcases q with q | ⟨k, c', e, z'⟩
        · exact .inl q
        · refine .inr ⟨k, c', e, z'.sameBut hs ?_⟩
          rintro rfl
          exact hj (nodup_ix hN e1 (I.ok.inj _ _ _ e hc ▸ hi))
    · by_cases hcc : c' = c
      · subst hcc; exact ⟨_, hc'⟩
      · obtain ⟨w2, z2⟩ := I.cell y c' e
        exact ⟨w2, z2.sameBut hs hcc⟩
    · obtain ⟨e, n, ne, nf, d⟩ := I.pin p hp
      refine ⟨(hs.2 p.1 ?_).trans e, n, ne, nf, d⟩
      intro q
      rw [q, hoc] at e
      have q' : oc = p.2 := Option.some.inj e
      exact d w' (by rw [← q']; exact hocd)
theorem store_ok {M : Model} {A : Around} {E : Value → Shared → Prop} {i : Nat} {x : Str} {v : V} {u : Value} {Q : Unit → Shared → Prop} (I : Inv X pins σ H s) (hN : X.N.Nodup) (hi : X.N[i]? = some x) (hx : Loc X.env.scope x) (r : RelV v u)
    (h : ∀ s', Inv X pins (σ.set i (some v)) H s' → Q () s') (hf : X.fn x = true ∨ X.env.scope.names.lookup x = some .local := by first | exact .inl rfl | exact .inr rfl | assumption) : wpAny M A (storeName X.env x u) Q E s :=
  store_ok2 I hN hi hx r (fun s' I' _ => h s' I') hf
/-- behind a call or a block, the state as it is -/
theorem Inv.call' {s' : Shared} {ch : List Addr} (I : Inv X pins σ H s) (ho : s'.os = s.os) (u : Un (frs X.stack) ch H H' s.heap s'.heap) (hok : HOk X.prog X.w H' s'.heap) (hg : AllBare s'.gens)
    (hch : ∀ b ∈ ch, (b ∈ X.ex ∨ X.s₀.heap.objs.size ≤ b) ∧ b ≠ X.env.locals ∧ (∀ x c, X.env.cells.lookup x = some c → c ≠ b) ∧ ∀ p ∈ X.pn ++ pins, p.1 ≠ b) : Inv X pins σ H' s' := by
  obtain ⟨h', g', d', t', o'⟩ := s'
  have e : o' = s.os := ho
  subst e
  exact I.call (g' := g') (t' := t') (d' := d') u hok hg hch
end

/-! ### the judgements -/
/-- an exception: its class, its own dict's address (where it has one), the abstract heap behind it -/
abbrev XK := Value → Option Addr → Hp → Prop
abbrev St := List (Option V)
abbrev VK := V → Hp → Prop
/-- an expression's reading; a test's; an argument list's -/
abbrev TE := St → Hp → VK → Prop
abbrev TT := St → Hp → (Bool → Hp → Prop) → Prop
abbrev TA := St → Hp → (List V → Hp → Prop) → Prop
/-- what is wanted behind a statement -/
structure Ends where
  nx : St → Hp → Prop
  rt : VK
  bk : St → Hp → Prop := fun _ _ => False
  ct : St → Hp → Prop := fun _ _ => False
abbrev TS := Ends → St → Hp → Prop

def EP (X : Cx) (pins : List (Addr × Obj)) (σ : St) (Q : VK) (u : Value) (s' : Shared) : Prop := ∃ v H', Inv X pins σ H' s' ∧ RelV v u ∧ Q v H'
def TP (X : Cx) (pins : List (Addr × Obj)) (σ : St) (Q : Bool → Hp → Prop) (b : Bool) (s' : Shared) : Prop := ∃ H', Inv X pins σ H' s' ∧ Q b H'
def AP (X : Cx) (pins : List (Addr × Obj)) (σ : St) (Q : List V → Hp → Prop) (us : List Value) (s' : Shared) : Prop := ∃ vs H', Inv X pins σ H' s' ∧ Vals vs us ∧ Q vs H'
def SP (X : Cx) (pins : List (Addr × Obj)) (D : Ends) (f : Flow) (s' : Shared) : Prop :=
  match f with
  | .next => ∃ σ' H', Inv X pins σ' H' s' ∧ D.nx σ' H'
  | .brk => ∃ σ' H', Inv X pins σ' H' s' ∧ D.bk σ' H'
  | .cont => ∃ σ' H', Inv X pins σ' H' s' ∧ D.ct σ' H'
  | .ret u => ∃ v σ' H', Inv X pins σ' H' s' ∧ RelV v u ∧ D.rt v H'

def PE (X : Cx) (e : Expr) (t : TE) : Prop :=
  ∀ (pins : List (Addr × Obj)) (s : Shared) (σ : St) (H : Hp) (Q : VK), Inv X pins σ H s → t σ H Q → wpAny (model X.prog X.w) X.A (eval e X.env) (EP X pins σ Q) X.xe s
def PT (X : Cx) (e : Expr) (t : TT) : Prop :=
  ∀ (pins : List (Addr × Obj)) (s : Shared) (σ : St) (H : Hp) (Q : Bool → Hp → Prop), Inv X pins σ H s → t σ H Q → wpAny (model X.prog X.w) X.A (isTrue e X.env (eval e X.env)) (TP X pins σ Q) X.xe s
/-- a test whatever its 'whole' is (and, or) -/
def PW (X : Cx) (e : Expr) (t : TT) : Prop :=
  ∀ (whole : Sem Value) (pins : List (Addr × Obj)) (s : Shared) (σ : St) (H : Hp) (Q : Bool → Hp → Prop), Inv X pins σ H s → t σ H Q → wpAny (model X.prog X.w) X.A (isTrue e X.env whole) (TP X pins σ Q) X.xe s
theorem PW.pt {X : Cx} {e : Expr} {t : TT} (h : PW X e t) : PT X e t := h _
/-- an argument list (no star), from the left -/
def PA (X : Cx) (es : List Expr) (t : TA) : Prop :=
  ∀ (pos : Pos) (pins : List (Addr × Obj)) (s : Shared) (σ : St) (H : Hp) (Q : List V → Hp → Prop), Inv X pins σ H s → t σ H Q → wpAny (model X.prog X.w) X.A (spliced (backTo pos (starEach es X.env))) (AP X pins σ Q) X.xe s
def PS (X : Cx) (st : Stmt) (t : TS) : Prop :=
  ∀ (pins : List (Addr × Obj)) (s : Shared) (σ : St) (H : Hp) (D : Ends), Inv X pins σ H s → t D σ H → wpAny (model X.prog X.w) X.A (exec st X.env) (SP X pins D) X.xe s
def PSs (X : Cx) (st : List Stmt) (t : TS) : Prop :=
  ∀ (pins : List (Addr × Obj)) (s : Shared) (σ : St) (H : Hp) (D : Ends), Inv X pins σ H s → t D σ H → wpAny (model X.prog X.w) X.A (execs st X.env) (SP X pins D) X.xe s
/-- weaken the end -/
theorem thn {α : Type} {t : Sem α} {Q Q' : α → Shared → Prop} {M : Model} {A : Around} {E : Value → Shared → Prop} {s : Shared} (h : wpAny M A t Q E s) (hQ : ∀ a s, Q a s → Q' a s) : wpAny M A t Q' E s := wpAny_mono h hQ fun _ _ x => x
end L2

namespace L2
open PySem PySem.Spec PyProof.Rows
section
variable {X : Cx}

/-- two expressions in a row -/
theorem bin {a b : Expr} {ta tb : TE} (ha : PE X a ta) (hb : PE X b tb) {pins : List (Addr × Obj)} {s : Shared} {σ : St} {H : Hp} {R : V → V → Hp → Prop} (I : Inv X pins σ H s) (h : ta σ H fun x H1 => tb σ H1 fun y H2 => R x y H2)
    {α : Type} {Q : α → Shared → Prop} {f : Value → Value → Sem α}
    (hf : ∀ v u s2 x y H2, Inv X pins σ H2 s2 → RelV x v → RelV y u → R x y H2 → wpAny (model X.prog X.w) X.A (f v u) Q X.xe s2) :
    wpAny (model X.prog X.w) X.A (eval a X.env) (fun v s₁ => wpAny (model X.prog X.w) X.A (eval b X.env) (fun u s₂ => wpAny (model X.prog X.w) X.A (f v u) Q X.xe s₂) X.xe s₁) X.xe s := by
  refine thn (ha pins s σ H _ I h) fun v s1 ⟨x, H1, I1, r1, q1⟩ => ?_
  refine thn (hb pins s1 σ H1 _ I1 q1) fun u s2 ⟨y, H2, I2, r2, q2⟩ => ?_
  exact hf v u s2 x y H2 I2 r1 r2 q2

/-! ### names and constants -/
def tVar (i : Nat) : TE := fun σ H Q => ∃ v, σ[i]? = some (some v) ∧ Q v H
def tC (v : V) : TE := fun _ H Q => Q v H
theorem pe_var {i : Nat} {x : Str} {pos : Pos} (hN : X.N[i]? = some x) (hv : Vis X.env.scope x) (hd : (x == ("__debug__" : Str)) = false := by decide) (hcd : (x == ("__classdict__" : Str)) = false := by decide) : PE X (.Name x pos) (tVar i) := by
  intro pins s σ H Q I h
  obtain ⟨v, e, h⟩ := h
  obtain ⟨m, hn, hl⟩ := I.loc
  obtain ⟨u, r, l⟩ := hl i x v hN e hv
  have fin : EP X pins σ Q u s := ⟨v, H, I, r, h⟩
  rcases l with ⟨hk, hm⟩ | ⟨hk, c, hc, hcell⟩
  · exact wpAny_Name (wpAny_loadName_local I.ok.kind hk hn hm fin) hd
  · rcases hk with hk | hk
    · exact wpAny_Name (wpAny_loadName_cell I.ok.kind hk hc hcell fin) hd
    · exact wpAny_Name (wpAny_loadName_free I.ok.kind hk hc hcell fin hcd) hd
theorem pe_int {i j pos} : PE X (.Constant (.int i) j pos) (tC (.int i)) := fun _ _ _ H _ I h => wpAny_Constant_int ⟨.int i, H, I.tok _, ⟨_, rfl⟩, h⟩
theorem pe_bl {b j pos} : PE X (.Constant (.bool b) j pos) (tC (.bl b)) := fun _ _ _ H _ I h => Constant_bool ⟨.bl b, H, I, rfl, h⟩

/-- a global name of the def -/
def Gl (X : Cx) (x : Str) : Prop := X.env.kindOf x = some .globalImplicit
theorem ld_glob {E : Value → Shared → Prop} {pins : List (Addr × Obj)} {s : Shared} {σ : St} {H : Hp} {x : Str} {u : Value} {pos : Pos} {Q : Value → Shared → Prop} (I : Inv X pins σ H s) (hg : Gl X x) (hm : X.mg x = some u) (h : Q u s)
    (hd : (x == ("__debug__" : Str)) = false := by decide) : wpAny (model X.prog X.w) X.A (eval (.Name x pos) X.env) Q E s :=
  Calls.Name_function_global I.ok.kind hg (Calls.loadGlobal_global (by rw [I.ok.glob]; exact I.mod.glob.keeps I.bk) hm h) hd
theorem ld_blt {E : Value → Shared → Prop} {pins : List (Addr × Obj)} {s : Shared} {σ : St} {H : Hp} {x : Str} {u : Value} {pos : Pos} {Q : Value → Shared → Prop} (I : Inv X pins σ H s) (hg : Gl X x) (hm : X.mg x = none) (hv : bootBuiltins x = some u) (h : Q u s)
    (hn : x ≠ "__name__" := by decide) (hd : (x == ("__debug__" : Str)) = false := by decide) : wpAny (model X.prog X.w) X.A (eval (.Name x pos) X.env) Q E s := by
  obtain ⟨mb, h1, h2⟩ := I.mod.blt
  exact Calls.Name_function_global I.ok.kind hg (Calls.loadGlobal_builtin (by rw [I.ok.glob]; exact I.mod.glob.keeps I.bk) hm (by rw [I.ok.blt]; exact h1.keeps I.bk) ((h2 x hn).trans hv) h) hd
/-- a module's constant, a class, a function, as a value -/
theorem pe_glob {x : Str} {v : V} {u : Value} {pos : Pos} (hg : Gl X x) (hm : X.mg x = some u) (r : RelV v u) (hd : (x == ("__debug__" : Str)) = false := by decide) : PE X (.Name x pos) (tC v) :=
  fun _ _ _ H _ I h => ld_glob I hg hm ⟨v, H, I, r, h⟩ hd
theorem pe_bltn {x : Str} {v : V} {u : Value} {pos : Pos} (hg : Gl X x) (hm : X.mg x = none) (hv : bootBuiltins x = some u) (r : RelV v u) (hn : x ≠ "__name__" := by decide) (hd : (x == ("__debug__" : Str)) = false := by decide) : PE X (.Name x pos) (tC v) :=
  fun _ _ _ H _ I h => ld_blt I hg hm hv ⟨v, H, I, r, h⟩ hn hd

/-! ### arithmetic -/
variable {a b : Expr} {ta tb : TE} {pos : Pos}

/-! ### comparisons -/
def PC (X : Cx) (op : CmpOp) (a b : Expr) (t : TE) : Prop :=
  ∀ (pins : List (Addr × Obj)) (s : Shared) (σ : St) (H : Hp) (Q : VK), Inv X pins σ H s → t σ H Q →
    wpAny (model X.prog X.w) X.A (eval a X.env) (fun v s₁ => wpAny (model X.prog X.w) X.A (eval b X.env) (fun u s₂ => wpAny (model X.prog X.w) X.A (compareOp op v u) (EP X pins σ Q) X.xe s₂) X.xe s₁) X.xe s
/-- a comparison as a value, as a test -/
def tB (t : TE) : TT := fun σ H Q => t σ H fun x H1 => ∃ c, x = .bl c ∧ Q c H1
theorem pt_cmp {op : CmpOp} {t : TE} (h : PC X op a b t) (h1 : behindInMarks op b = false := by first | exact nobehind _ (by decide) (by decide) | rfl) : PT X (.Compare a [op] [b] pos) (tB t) := by
  intro pins s σ H Q I hw
  refine wpAny_isTrue_Compare1 (thn (h pins s σ H _ I hw) fun v s1 h1 => thn h1 fun u s2 h2 => thn h2 fun c s3 ⟨x, H1, I1, r1, q1⟩ => ?_) h1
  obtain ⟨d, rfl, q⟩ := q1
  cases r1
  exact wpAny_truthy_bool ⟨H1, I1, q⟩
/-- an expression whose value is a bool, as a test -/
theorem pt_val {e : Expr} {t : TE} (h : PE X e t) (he : ∀ whole, isTrue e X.env whole = (do let v ← whole; standAt e.pos; holding [v] (truthy v)) := by intro _; rfl) : PT X e (tB t) := by
  intro pins s σ H Q I hw
  refine isTrue_plain (thn (h pins s σ H _ I hw) fun v s1 ⟨x, H1, I1, r1, q1⟩ => ?_) (he _)
  obtain ⟨d, rfl, q⟩ := q1
  cases r1
  exact wpAny_truthy_bool ⟨H1, I1, q⟩

/-! ### and, or, not -/
variable {tA tB' : TT} {rest : List Expr}
def tAnd (t u : TT) : TT := fun σ H Q => t σ H fun c H1 => if c = true then u σ H1 Q else Q false H1
def tOr (t u : TT) : TT := fun σ H Q => t σ H fun c H1 => if c = true then Q true H1 else u σ H1 Q
def tNot (t : TT) : TT := fun σ H Q => t σ H fun c H1 => Q (!c) H1
theorem pw_and1 (ha : PT X a tA) : PW X (.BoolOp .And [a] pos) tA := by
  intro wh pins s σ H Q I h
  refine isTrue_and (thn (ha pins s σ H Q I h) fun c s1 e => ?_)
  cases c with
  | true => exact isTrue_and_nil e
  | false => exact e
theorem pw_or1 (ha : PT X a tA) : PW X (.BoolOp .Or [a] pos) tA := by
  intro wh pins s σ H Q I h
  refine isTrue_or (thn (ha pins s σ H Q I h) fun c s1 e => ?_)
  cases c with
  | false => exact isTrue_or_nil e
  | true => exact e
theorem pw_and (ha : PT X a tA) (hb : PW X (.BoolOp .And (b :: rest) pos) tB') : PW X (.BoolOp .And (a :: b :: rest) pos) (tAnd tA tB') := by
  intro wh pins s σ H Q I h
  refine isTrue_and (thn (ha pins s σ H _ I h) fun c s1 ⟨H1, I1, q1⟩ => ?_)
  cases c with
  | true => exact hb wh pins s1 σ H1 Q I1 q1
  | false => exact ⟨H1, I1, q1⟩
theorem pw_or (ha : PT X a tA) (hb : PW X (.BoolOp .Or (b :: rest) pos) tB') : PW X (.BoolOp .Or (a :: b :: rest) pos) (tOr tA tB') := by
  intro wh pins s σ H Q I h
  refine isTrue_or (thn (ha pins s σ H _ I h) fun c s1 ⟨H1, I1, q1⟩ => ?_)
  cases c with
  | true => exact ⟨H1, I1, q1⟩
  | false => exact hb wh pins s1 σ H1 Q I1 q1
theorem pt_not (ha : PT X a tA) : PT X (.UnaryOp .Not a pos) (tNot tA) := by
  intro pins s σ H Q I h
  exact isTrue_not (ha pins s σ H (fun c H1 => Q (!c) H1) I h)
/-- .. as values (bools) -/
def tAndV (ta tb : TE) : TE := fun σ H Q => ta σ H fun x H1 => ∃ c, x = .bl c ∧ if c = true then tb σ H1 Q else Q (.bl false) H1
def tOrV (ta tb : TE) : TE := fun σ H Q => ta σ H fun x H1 => ∃ c, x = .bl c ∧ if c = true then Q (.bl true) H1 else tb σ H1 Q
def tNotV (ta : TE) : TE := fun σ H Q => ta σ H fun x H1 => ∃ c, x = .bl c ∧ Q (.bl (!c)) H1
theorem pe_one {op} {t : TE} (h : PE X a t) : PE X (.BoolOp op [a] pos) t := fun pins s σ H Q I hw => BoolOp_one (h pins s σ H Q I hw)
theorem pe_and (ha : PE X a ta) (hb : PE X (.BoolOp .And (b :: rest) pos) tb) : PE X (.BoolOp .And (a :: b :: rest) pos) (tAndV ta tb) := by
  intro pins s σ H Q I h
  refine BoolOp_and (thn (ha pins s σ H _ I h) fun v s1 ⟨x, H1, I1, r1, q1⟩ => ?_)
  obtain ⟨c, rfl, q1⟩ := q1
  cases r1
  refine wpAny_truthy_bool ?_
  cases c with
  | true => exact hb pins s1 σ H1 Q I1 q1
  | false => exact ⟨.bl false, H1, I1, rfl, q1⟩
theorem pe_or (ha : PE X a ta) (hb : PE X (.BoolOp .Or (b :: rest) pos) tb) : PE X (.BoolOp .Or (a :: b :: rest) pos) (tOrV ta tb) := by
  intro pins s σ H Q I h
  refine BoolOp_or (thn (ha pins s σ H _ I h) fun v s1 ⟨x, H1, I1, r1, q1⟩ => ?_)
  obtain ⟨c, rfl, q1⟩ := q1
  cases r1
  refine wpAny_truthy_bool ?_
  cases c with
  | false => exact hb pins s1 σ H1 Q I1 q1
  | true => exact ⟨.bl true, H1, I1, rfl, q1⟩
theorem pe_not (ha : PE X a ta) : PE X (.UnaryOp .Not a pos) (tNotV ta) := by
  intro pins s σ H Q I h
  refine UnaryOp_ (thn (ha pins s σ H _ I h) fun v s1 ⟨x, H1, I1, r1, q1⟩ => ?_)
  obtain ⟨c, rfl, q1⟩ := q1
  cases r1
  exact not_of (wpAny_truthy_bool ⟨.bl (!c), H1, I1, rfl, q1⟩)
/-- a if t else b -/
def tIf (t : TT) (ta tb : TE) : TE := fun σ H Q => t σ H fun c H1 => if c = true then ta σ H1 Q else tb σ H1 Q
theorem pe_ifExp {c : Expr} (hc : PT X c tA) (ha : PE X a ta) (hb : PE X b tb) : PE X (.IfExp c a b pos) (tIf tA ta tb) := by
  intro pins s σ H Q I h
  refine wpAny_IfExp (thn (hc pins s σ H _ I h) fun d s1 ⟨H1, I1, q1⟩ => ?_)
  cases d with
  | true => exact ha pins s1 σ H1 Q I1 q1
  | false => exact hb pins s1 σ H1 Q I1 q1
end
end L2

namespace L2
open PySem PySem.Spec PyProof.Rows

/-! ### a list, a tuple that is read: tracked, frozen, or an object of the module -/
def SqL (K : PySem.W.Frag) (H : Hp) (a : Addr) (xs : List V) : Prop :=
  Rd H a (.lst xs) ∨
    ∃ (o : Obj) (its : Array Value) (n : Nat), K.lookup a = some o ∧ o.cls = .type "list" ∧ o.dict = none ∧ o.data = .seq its n ∧ its.size ≤ sizeLine ∧ Vals xs its.toList
def SqT (K : PySem.W.Frag) (H : Hp) (a : Addr) (xs : List V) : Prop :=
  Rd H a (.tup xs) ∨
    ∃ (o : Obj) (its : Array Value) (n : Nat), K.lookup a = some o ∧ o.cls = .type "tuple" ∧ o.data = .seq its n ∧ its.size ≤ sizeLine ∧ Vals xs its.toList
def absV : Value → Option V
  | .none => some .non
  | .bool b => some (.bl b)
  | .int i _ => some (.int i)
  | .str x _ => some (.str x)
  | .bytes b _ => some (.byt b)
  | .float b _ => some (.flt b)
  | .ref a => some (.ref a)
  | .type n => some (.ty n)
  | _ => none
theorem RelV.abs {x : V} {u : Value} (r : RelV x u) : absV u = some x := by
  cases x with
  | non => cases r; rfl
  | bl _ => cases r; rfl
  | int _ => obtain ⟨t, rfl⟩ := r; rfl
  | str _ => obtain ⟨t, rfl⟩ := r; rfl
  | byt _ => obtain ⟨t, rfl⟩ := r; rfl
  | flt _ => obtain ⟨t, rfl⟩ := r; rfl
  | ref _ => cases r; rfl
  | ty _ => cases r; rfl
theorem RelV.inj {x y : V} {u : Value} (r : RelV x u) (q : RelV y u) : x = y := Option.some.inj (r.abs.symm.trans q.abs)
theorem Vals.inj : ∀ {xs ys : List V} {us : List Value}, Vals xs us → Vals ys us → xs = ys
  | _, _, _, .nil, .nil => rfl
  | _, _, _, .cons r t, .cons r' t' => by rw [r.inj r', Vals.inj t t']
section
variable {X : Cx} {pins : List (Addr × Obj)} {σ : St} {H : Hp} {s : Shared} {a : Addr} {xs ys : List V}
theorem SqL.of {K : PySem.W.Frag} (h : H a = some (.lst xs)) : SqL K H a xs := .inl (.inl h)
theorem SqT.of {K : PySem.W.Frag} (h : H a = some (.tup xs)) : SqT K H a xs := .inl (.inl h)
theorem Inv.list (I : Inv X pins σ H s) (h : SqL X.K H a xs) : ∃ its : List Value, Vals xs its ∧ PlainL s.heap a its.toArray ∧ xs.length ≤ sizeLine := by
  rcases h with h | ⟨o, its, n, hk, hc, hd, hs, hz, r⟩
  · obtain ⟨z, its, n, r, e⟩ := h.ok I.hok
    exact ⟨its, r, ⟨_, n, e, rfl, rfl, rfl⟩, z⟩
  · refine ⟨its.toList, r, ⟨o, n, I.kIn a o hk, hc, hd, by simpa using hs⟩, ?_⟩
    have e := r.length
    simp only [Array.length_toList] at e
    omega
theorem Inv.tuple (I : Inv X pins σ H s) (h : SqT X.K H a xs) : ∃ its : List Value, Vals xs its ∧ IsTup s.heap a its.toArray ∧ xs.length ≤ sizeLine := by
  rcases h with h | ⟨o, its, n, hk, hc, hs, hz, r⟩
  · obtain ⟨z, its, r, p⟩ := h.ok I.hok
    exact ⟨its, r, p, z⟩
  · refine ⟨its.toList, r, ⟨o, I.kIn a o hk, hc, n, by simpa using hs⟩, ?_⟩
    have e := r.length
    simp only [Array.length_toList] at e
    omega
theorem Inv.list_inj (I : Inv X pins σ H s) (h : SqL X.K H a xs) (h' : SqL X.K H a ys) : xs = ys := by
  obtain ⟨its, r, ⟨o, n, e, _, _, d⟩, _⟩ := I.list h
  obtain ⟨its', r', ⟨o', n', e', _, _, d'⟩, _⟩ := I.list h'
  rw [e] at e'; cases e'
  rw [d] at d'
  injection d' with d1 _
  have : its = its' := by simpa using congrArg Array.toList d1
  subst this
  exact r.inj r'
theorem Inv.tuple_inj (I : Inv X pins σ H s) (h : SqT X.K H a xs) (h' : SqT X.K H a ys) : xs = ys := by
  obtain ⟨its, r, ⟨o, e, _, n, d⟩, _⟩ := I.tuple h
  obtain ⟨its', r', ⟨o', e', _, n', d'⟩, _⟩ := I.tuple h'
  rw [e] at e'; cases e'
  rw [d] at d'
  injection d' with d1 _
  have : its = its' := by simpa using congrArg Array.toList d1
  subst this
  exact r.inj r'
end

/-! ### another wish about exceptions -/
abbrev Cx.wish (X : Cx) (E : Value → Shared → Prop) : Cx := { X with xe := E }
/-- no exception leaves -/
abbrev Cx.nox (X : Cx) : Cx := X.wish fun _ _ => False
theorem Cx.Ok.wish {X : Cx} (ok : X.Ok) (E : Value → Shared → Prop) : (X.wish E).Ok :=
  ⟨ok.mod, ok.kind, ok.glob, ok.blt, ok.above, ok.inj, ok.has, ok.cab, ok.hd, ok.frames, ok.stk, ok.exf, ok.bs, ok.bsz, ok.noex, ok.exfs, ok.funs, ok.frf⟩
theorem Cx.Ok.unwish {X : Cx} {E : Value → Shared → Prop} (ok : (X.wish E).Ok) : X.Ok :=
  ⟨ok.mod, ok.kind, ok.glob, ok.blt, ok.above, ok.inj, ok.has, ok.cab, ok.hd, ok.frames, ok.stk, ok.exf, ok.bs, ok.bsz, ok.noex, ok.exfs, ok.funs, ok.frf⟩
section
variable {X : Cx} {pins : List (Addr × Obj)} {σ : St} {H : Hp} {s : Shared} {E : Value → Shared → Prop}
theorem Inv.wish (I : Inv X pins σ H s) (E : Value → Shared → Prop) : Inv (X.wish E) pins σ H s := ⟨I.ok.wish E, I.os, I.bare, I.base, I.loc, I.cell, I.free, I.freeC, I.pin, I.hok, I.len⟩
theorem Inv.unwish (I : Inv (X.wish E) pins σ H s) : Inv X pins σ H s := ⟨I.ok.unwish, I.os, I.bare, I.base, I.loc, I.cell, I.free, I.freeC, I.pin, I.hok, I.len⟩
theorem SP.unwish {D : Ends} {f : Flow} {s' : Shared} (h : SP (X.wish E) pins D f s') : SP X pins D f s' := by
  cases f with
  | next => obtain ⟨σ', H', I, q⟩ := h; exact ⟨σ', H', I.unwish, q⟩
  | brk => obtain ⟨σ', H', I, q⟩ := h; exact ⟨σ', H', I.unwish, q⟩
  | cont => obtain ⟨σ', H', I, q⟩ := h; exact ⟨σ', H', I.unwish, q⟩
  | ret u => obtain ⟨v, σ', H', I, r, q⟩ := h; exact ⟨v, σ', H', I.unwish, r, q⟩
theorem PSs.nox {st : List Stmt} {t : TS} (h : PSs X.nox st t) : PSs X st t := fun pins s σ H D I hw =>
  wpAny_mono (h pins s σ H D (I.wish _) hw) (fun _ _ q => q.unwish) fun _ _ z => False.elim z
end

/-! ### blocks and small statements -/
section
variable {X : Cx} {st : Stmt} {rest : List Stmt} {t u : TS} {e : Expr} {te : TE} {pos : Pos}
def tNext : TS := fun D σ H => D.nx σ H
def tSeq (t u : TS) : TS := fun D σ H => t { D with nx := u D } σ H
theorem pss_nil : PSs X [] tNext := fun _ _ σ H _ I h => wpAny_execs_nil ⟨σ, H, I, h⟩
theorem pss_cons (h1 : PS X st t) (h2 : PSs X rest u) : PSs X (st :: rest) (tSeq t u) := by
  intro pins s σ H D I h
  refine wpAny_execs_cons (thn (h1 pins s σ H { D with nx := u D } I h) fun f s1 q => ?_)
  cases f with
  | next =>
    obtain ⟨σ', H', I', q⟩ := q
    exact h2 pins s1 σ' H' D I' q
  | ret v => exact q
  | brk => exact q
  | cont => exact q
theorem pss_one (h1 : PS X st t) : PSs X [st] t := by
  intro pins s σ H D I h
  refine wpAny_execs_cons (thn (h1 pins s σ H D I h) fun f s1 q => ?_)
  cases f with
  | next => exact wpAny_execs_nil q
  | ret v => exact q
  | brk => exact q
  | cont => exact q
/-- in a def's body nothing is shown -/
theorem Inv.quiet {pins : List (Addr × Obj)} {σ : St} {H : Hp} {s : Shared} (I : Inv X pins σ H s) : interactive X.env = false := by simp [interactive, I.ok.kind]
/-- an expression whose value is dropped -/
def tDrop (te : TE) : TS := fun D σ H => te σ H fun _ H1 => D.nx σ H1
theorem ps_expr (he : PE X e te) (hs : swapsWith e none pos.line X.env = pure false := by rfl) : PS X (.Expr e pos) (tDrop te) := by
  intro pins s σ H D I h
  exact wpAny_Expr_any (thn (he pins s σ H _ I h) fun v s1 ⟨x, H1, I1, r1, q1⟩ => ⟨σ, H1, I1, q1⟩) I.quiet hs
def tRet (te : TE) : TS := fun D σ H => te σ H D.rt
theorem ps_ret (he : PE X e te) : PS X (.Return (some e) pos) (tRet te) := by
  intro pins s σ H D I h
  exact wpAny_Return_some (thn (he pins s σ H _ I h) fun v s1 ⟨x, H1, I1, r1, q1⟩ => ⟨x, σ, H1, I1, r1, q1⟩)
def tIfS (c : TT) (t u : TS) : TS := fun D σ H => c σ H fun b H1 => if b = true then t D σ H1 else u D σ H1
theorem ps_if {c : Expr} {a b : List Stmt} {tc : TT} (hc : PT X c tc) (ha : PSs X a t) (hb : PSs X b u) : PS X (.If c a b pos) (tIfS tc t u) := by
  intro pins s σ H D I h
  refine wpAny_If (thn (hc pins s σ H _ I h) fun d s1 ⟨H1, I1, q1⟩ => ?_)
  cases d with
  | true => exact ha pins s1 σ H1 D I1 q1
  | false => exact hb pins s1 σ H1 D I1 q1
/-- code that the proof never comes to -/
def tNever : TS := fun _ _ _ => False
theorem ps_never : PS X st tNever := fun _ _ _ _ _ _ h => h.elim
end

/-! ### targets -/
abbrev TG := V → St → Hp → (St → Hp → Prop) → Prop
abbrev TGs := List V → St → Hp → (St → Hp → Prop) → Prop
def PG (X : Cx) (target : Expr) (t : TG) : Prop :=
  ∀ (pins : List (Addr × Obj)) (s : Shared) (σ : St) (H : Hp) (v : V) (u : Value) (Q : St → Hp → Prop), Inv X pins σ H s → RelV v u → t v σ H Q →
    wpAny (model X.prog X.w) X.A (assign target X.env u) (fun _ s' => ∃ σ' H', Inv X pins σ' H' s' ∧ Q σ' H') X.xe s
/-- several targets, one after another -/
def PGs (X : Cx) (ts : List Expr) (t : TGs) : Prop :=
  ∀ (pins : List (Addr × Obj)) (s : Shared) (σ : St) (H : Hp) (vs : List V) (us : List Value) (Q : St → Hp → Prop), Inv X pins σ H s → Vals vs us → t vs σ H Q →
    wpAny (model X.prog X.w) X.A (assignInOrder ((assignEach ts X.env).map (·.2)) us) (fun _ s' => ∃ σ' H', Inv X pins σ' H' s' ∧ Q σ' H') X.xe s
/-- a op= b, by values -/
abbrev TIp := V → V → Hp → VK → Prop
def PIp (X : Cx) (op : Operator) (t : TIp) : Prop :=
  ∀ (pins : List (Addr × Obj)) (s : Shared) (σ : St) (H : Hp) (x y : V) (v u : Value) (Q : VK), Inv X pins σ H s → RelV x v → RelV y u → t x y H Q →
    wpAny (model X.prog X.w) X.A (inplaceOp op v u) (EP X pins σ Q) X.xe s
section
variable {X : Cx} {pos : Pos}
def gName (i : Nat) : TG := fun v σ H Q => Q (σ.set i (some v)) H
theorem pg_name {i : Nat} {x : Str} (hN : X.N.Nodup) (hi : X.N[i]? = some x) (hx : Loc X.env.scope x) (hf : X.fn x = true ∨ X.env.scope.names.lookup x = some .local := by first | exact .inl rfl | exact .inr rfl | assumption) : PG X (.Name x pos) (gName i) := by
  intro pins s σ H v u Q I r h
  exact wpAny_assign_Name (store_ok I hN hi hx r (fun s' I' => ⟨_, H, I', h⟩) hf)
def gNil : TGs := fun vs σ H Q => vs = [] ∧ Q σ H
def gCons (t : TG) (u : TGs) : TGs := fun vs σ H Q => ∃ v r, vs = v :: r ∧ t v σ H fun σ' H' => u r σ' H' Q
theorem pgs_nil : PGs X [] gNil := by
  intro pins s σ H vs us Q I r h
  obtain ⟨e, h⟩ := h
  subst e
  cases r
  exact assignInOrder_nil ⟨σ, H, I, h⟩
theorem pgs_cons {e : Expr} {es : List Expr} {t : TG} {u : TGs} (h1 : PG X e t) (h2 : PGs X es u)
    (hs : (assignEach (e :: es) X.env).map (·.2) = assign e X.env :: (assignEach es X.env).map (·.2) := by rfl) : PGs X (e :: es) (gCons t u) := by
  intro pins s σ H vs us Q I r h
  obtain ⟨v, vr, e1, h⟩ := h
  subst e1
  cases r with
  | cons r rr =>
    rw [hs]
    refine assignInOrder_cons (thn (h1 pins s σ H _ _ _ I r h) fun _ s1 ⟨σ1, H1, I1, q1⟩ => ?_)
    exact h2 pins s1 σ1 H1 _ _ Q I1 rr q1
/-- (a, b, ..) = a tuple of that length -/
def gTup (K : PySem.W.Frag) (n : Nat) (t : TGs) : TG := fun v σ H Q => ∃ a xs, v = .ref a ∧ SqT K H a xs ∧ xs.length = n ∧ t xs σ H Q
theorem pg_tup {es : List Expr} {k : Nat} {t : TGs} {n : Nat} (hc : X.calm = true) (h : PGs X es t)
    (hn : (assignEach es X.env).length = n := by rfl) (hst : (assignEach es X.env).findIdx? (·.1) = none := by rfl) : PG X (.Tuple es k pos) (gTup X.K n t) := by
  intro pins s σ H v u Q I r hw
  obtain ⟨a, xs, e1, hq, hl, hw⟩ := hw
  subst e1
  cases r
  obtain ⟨its, rv, ht, hz⟩ := I.tuple hq
  refine assign_Tuple_tuple (I.ok.hd hc) ht (by simp [hn, ← hl, rv.length]) hst fun h' hx => ?_
  have I1 : Inv X pins σ H { s with heap := h' } := I.kept (t' := s.toks) fun b o e => hx b o (Nat.ne_of_lt (Heap.lt_size e)) e
  exact h pins _ σ H xs _ Q I1 (by simpa using rv) hw
/-- target = value -/
def tAsg (te : TE) (g : TG) : TS := fun D σ H => te σ H fun x H1 => g x σ H1 D.nx
/-- name = value -/
theorem ps_set {i : Nat} {x : Str} {e : Expr} {te : TE} {pos' : Pos} (hN : X.N.Nodup) (hi : X.N[i]? = some x) (hx : Loc X.env.scope x) (he : PE X e te) (hs : swapsWith e (some (.Name x pos')) pos.line X.env = pure false := by rfl) (hf : X.fn x = true ∨ X.env.scope.names.lookup x = some .local := by first | exact .inl rfl | exact .inr rfl | assumption) :
    PS X (.Assign [.Name x pos'] e pos) (tAsg te (gName i)) := by
  intro pins s σ H D I h
  refine wpAny_Assign_Name (thn (he pins s σ H _ I h) fun v s1 ⟨y, H1, I1, r1, q1⟩ => ?_) hs
  exact store_ok I1 hN hi hx r1 (fun s2 I2 => ⟨_, H1, I2, q1⟩) hf
/-- name op= e -/
def tAug (i : Nat) (te : TE) (ti : TIp) : TS := fun D σ H => ∃ x, σ[i]? = some (some x) ∧ te σ H fun y H1 => ti x y H1 fun z H2 => D.nx (σ.set i (some z)) H2
theorem ps_aug {i : Nat} {x : Str} {e : Expr} {te : TE} {op : Operator} {ti : TIp} {pos' : Pos} (hN : X.N.Nodup) (hi : X.N[i]? = some x) (hx : Loc X.env.scope x) (he : PE X e te) (ho : PIp X op ti) (hf : X.fn x = true ∨ X.env.scope.names.lookup x = some .local := by first | exact .inl rfl | exact .inr rfl | assumption) :
    PS X (.AugAssign (.Name x pos') op e pos) (tAug i te ti) := by
  intro pins s σ H D I h
  obtain ⟨v, e1, h⟩ := h
  obtain ⟨m, hn, hl⟩ := I.loc
  have vis : Vis X.env.scope x := by rcases hx with k | k; exact .inl k; exact .inr (.inl k)
  obtain ⟨u, r, l⟩ := hl i x v hi e1 vis
  refine wpAny_AugAssign_Name ?_
  have go : wpAny (model X.prog X.w) X.A (eval e X.env) (fun w s₂ => wpAny (model X.prog X.w) X.A (inplaceOp op u w) (fun r s₃ => wpAny (model X.prog X.w) X.A (storeName X.env x r) (fun _ => SP X pins D .next) X.xe s₃) X.xe s₂) X.xe s := by
    refine thn (he pins s σ H _ I h) fun w s1 ⟨y, H1, I1, r1, q1⟩ => ?_
    refine thn (ho pins s1 σ H1 v y u w _ I1 r r1 q1) fun z s2 ⟨zv, H2, I2, r2, q2⟩ => ?_
    exact store_ok I2 hN hi hx r2 (fun s3 I3 => ⟨_, H2, I3, q2⟩) hf
  rcases l with ⟨hk, hm⟩ | ⟨hk, c, hc, hcell⟩
  · exact wpAny_loadName_local I.ok.kind hk hn hm go
  · rcases hk with hk | hk
    · exact wpAny_loadName_cell I.ok.kind hk hc hcell go
    · rcases hx with k | k
      · have : X.env.scope.names.lookup x = some .free := hk
        rw [k] at this; cases this
      · have : X.env.scope.names.lookup x = some .free := hk
        rw [k] at this; cases this
/-- ints -/
def ipI (f : Int → Int → Int) : TIp := fun x y H Q => ∃ i j, x = .int i ∧ y = .int j ∧ Q (.int (f i j)) H
theorem ip_add : PIp X .Add (ipI fun i j => i + j) := by
  intro pins s σ H x y v u Q I r1 r2 h
  obtain ⟨i, j, e1, e2, q⟩ := h
  subst e1; subst e2
  obtain ⟨t, rfl⟩ := r1
  obtain ⟨t', rfl⟩ := r2
  exact iadd_int ⟨.int _, H, I.tok _, ⟨_, rfl⟩, q⟩
end

/-! ### while -/
section
variable {X : Cx} {pos : Pos}
/-- the invariant W with its measure -/
def tWhile (c : TT) (tb : TS) : TS := fun D σ H => ∃ W : Nat → St → Hp → Prop, (∃ m, W m σ H) ∧ ∀ m σ H, W m σ H →
  c σ H fun b H1 => if b = true then ∃ N : St → Hp → Prop, (∀ σ' H', N σ' H' → ∃ m', m' < m ∧ W m' σ' H') ∧ tb { D with nx := N, ct := N, bk := D.nx } σ H1 else D.nx σ H1
theorem ps_while {c : Expr} {body : List Stmt} {tc : TT} {tb : TS} (hp : PassesOwn (model X.prog X.w) X.A X.env X.xe) (hc : PT X c tc) (hb : PSs X body tb) : PS X (.While c body [] pos) (tWhile tc tb) := by
  intro pins s σ H D I h
  obtain ⟨W, ⟨m0, w0⟩, turn⟩ := h
  refine wpAny_While (codeAny_whileLoop (fun n s' => ∃ σ' H', Inv X pins σ' H' s' ∧ W n σ' H') ?_ m0 ⟨σ, H, I, w0⟩)
  rintro n s1 ⟨σ1, H1, I1, w1⟩
  refine wpAny_passesOwn hp (thn (hc pins s1 σ1 H1 _ I1 (turn n σ1 H1 w1)) fun b s2 ⟨H2, I2, q2⟩ => ?_)
  cases b with
  | true =>
    obtain ⟨N, hN, q2⟩ := q2
    rw [if_pos rfl]
    refine wpAny_passesOwn hp (thn (hb pins s2 σ1 H2 _ I2 q2) fun f s3 q3 => ?_)
    cases f with
    | next =>
      obtain ⟨σ3, H3, I3, n3⟩ := q3
      obtain ⟨m', hm, w3⟩ := hN σ3 H3 n3
      exact ⟨m', hm, σ3, H3, I3, w3⟩
    | cont =>
      obtain ⟨σ3, H3, I3, n3⟩ := q3
      obtain ⟨m', hm, w3⟩ := hN σ3 H3 n3
      exact ⟨m', hm, σ3, H3, I3, w3⟩
    | brk => exact q3
    | ret v => exact q3
  | false =>
    rw [if_neg Bool.false_ne_true]
    exact wpAny_execs_nil ⟨σ1, H2, I2, q2⟩
end

/-! ### what a loop or a comprehension walks -/
/-- at turn i: it yields x (the heap may grow), or it stops -/
structure It where
  go : Nat → Hp → Prop
  yld : Nat → Hp → V → Hp → Prop
  stop : Nat → Hp → Prop
/-- the iterator's own objects may turn: they are not the frame's, not pinned, younger than the entry (or a comprehension's own) -/
def FpOk (X : Cx) (pins : List (Addr × Obj)) (H : Hp) (b : Addr) : Prop :=
  H b = none ∧ b ≠ X.env.locals ∧ b ∉ X.fs ∧ (b ∈ X.ex ∨ X.s₀.heap.objs.size ≤ b) ∧ (∀ x c, X.env.cells.lookup x = some c → c ≠ b) ∧ ∀ p ∈ X.pn ++ pins, p.1 ≠ b
theorem Inv.fpOk {X : Cx} {pins : List (Addr × Obj)} {σ : St} {H H' : Hp} {s : Shared} {b : Addr} (I : Inv X pins σ H s) (hb : s.heap.objs.size ≤ b) (hn : H' b = none) : FpOk X pins H' b := by
  refine ⟨hn, Nat.ne_of_gt (Nat.lt_of_lt_of_le I.lt hb), I.nofs hb, .inr (Nat.le_trans I.sz hb), fun x c e z => ?_, fun p hp z => ?_⟩
  · obtain ⟨v, q⟩ := I.cell x c e
    exact absurd (Nat.lt_of_lt_of_le q.lt (by rw [z]; exact hb)) (Nat.lt_irrefl _)
  · exact absurd (Nat.lt_of_lt_of_le (Heap.lt_size (I.pin p hp).1) (by rw [z]; exact hb)) (Nat.lt_irrefl _)
structure Turn (P : Program) (w : World) (K : PySem.W.Frag) (tg : Expr) (J : It) (fp : List Addr) (it : Addr) (tn : Nat → Heap → Prop) : Prop where
  mem : it ∈ fp
  obj : ∀ i h, tn i h → ∀ b ∈ fp, ∃ o, h.get? b = some o ∧ ∀ v, o.data ≠ .cell v
  keep : ∀ i h h', tn i h → (∀ b ∈ fp, ∀ o, h.get? b = some o → h'.get? b = some o) → tn i h'
  item : ∀ (X : Cx), X.prog = P → X.w = w → X.K = K → X.calm = true → ∀ (i : Nat) (pins : List (Addr × Obj)) (s : Shared) (σ : St) (H : Hp) (E : Value → Shared → Prop), Inv X pins σ H s → (∀ b ∈ fp, FpOk X pins H b) → tn i s.heap → J.go i H →
    wpAny (model P w) X.A (pyNext (.ref it)) (fun r s1 => ∃ u, r = some u ∧
      wpAny (model P w) X.A (letOwnedTupleGo tg (.ref it) u) (fun _ s2 => ∃ x H', Inv X pins σ H' s2 ∧ RelV x u ∧ J.yld i H x H' ∧ tn (i + 1) s2.heap ∧ ∀ b ∈ fp, H' b = none) E s1) E s
  done : ∀ (X : Cx), X.prog = P → X.w = w → X.K = K → X.calm = true → ∀ (i : Nat) (pins : List (Addr × Obj)) (s : Shared) (σ : St) (H : Hp) (E : Value → Shared → Prop), Inv X pins σ H s → (∀ b ∈ fp, FpOk X pins H b) → tn i s.heap → J.stop i H →
    wpAny (model P w) X.A (pyNext (.ref it)) (fun r s1 => r = none ∧ Inv X pins σ H s1) E s
  self : ∀ (A : Around) (i : Nat) (s : Shared) (Q : Value → Shared → Prop) (E : Value → Shared → Prop), tn i s.heap → Q (.ref it) s → wpAny (model P w) A (pyIter (.ref it)) Q E s
abbrev TI := St → Hp → (It → Hp → Prop) → Prop
/-- an iterator has come -/
def PIE (X : Cx) (pins : List (Addr × Obj)) (σ : St) (tg : Expr) (R : It → Hp → Prop) (itv : Value) (s2 : Shared) : Prop :=
  ∃ (it : Addr) (fp : List Addr) (tn : Nat → Heap → Prop) (J : It) (H' : Hp), itv = .ref it ∧ Inv X pins σ H' s2 ∧ Turn X.prog X.w X.K tg J fp it tn ∧ tn 0 s2.heap ∧ (∀ b ∈ fp, FpOk X pins H' b) ∧ R J H'
def PI (X : Cx) (tg iter : Expr) (wi : TI) : Prop :=
  ∀ (pins : List (Addr × Obj)) (s : Shared) (σ : St) (H : Hp) (R : It → Hp → Prop), Inv X pins σ H s → wi σ H R →
    wpAny (model X.prog X.w) X.A (eval iter X.env) (fun v s1 => wpAny (model X.prog X.w) X.A (pyIter v) (PIE X pins σ tg R) X.xe s1) X.xe s

/-- the step ahead of the store is nothing for an iterator that keeps no tuple -/
theorem go_of {M : Model} {A : Around} {E : Value → Shared → Prop} {s : Shared} {tg : Expr} {it : Addr} {u : Value} {o : Obj} {n : String} {vs : Array Value} {Q : Unit → Shared → Prop} (ho : s.heap.get? it = some o) (hc : o.cls = .type n) (hd : o.data = .fields vs)
    (hn : ["enumerate", "zip", "dict_itemiterator", "dict_reverseitemiterator", "odict_iterator", "itertools.zip_longest", "itertools.pairwise"].contains n = false) (hQ : Q () s) : wpAny M A (letOwnedTupleGo tg (.ref it) u) Q E s := by
  unfold letOwnedTupleGo
  cases tg <;> first
    | exact wpAny_pure hQ
    | (cases u <;> first
        | exact wpAny_pure hQ
        | (refine wpAny_bind (wpAny_load ho ?_)
           rw [hc, hd]
           show wpAny M A (if (["enumerate", "zip", "dict_itemiterator", "dict_reverseitemiterator", "odict_iterator", "itertools.zip_longest", "itertools.pairwise"].contains n && vs[0]? == some (rawInt _)) = true then _ else _) Q E s
           rw [if_neg (by intro h; rw [hn, Bool.false_and] at h; cases h)]
           exact wpAny_pure hQ))

/-- the list at a, as it stands at each turn (a loop may append to it) -/
def Itl (K : PySem.W.Frag) (a : Addr) : It :=
  ⟨fun i H => ∃ xs x, SqL K H a xs ∧ xs[i]? = some x, fun i H x H' => H' = H ∧ ∀ xs, SqL K H a xs → xs[i]? = some x, fun i H => ∃ xs, SqL K H a xs ∧ xs.length ≤ i⟩
def Itt (K : PySem.W.Frag) (a : Addr) : It :=
  ⟨fun i H => ∃ xs x, SqT K H a xs ∧ xs[i]? = some x, fun i H x H' => H' = H ∧ ∀ xs, SqT K H a xs → xs[i]? = some x, fun i H => ∃ xs, SqT K H a xs ∧ xs.length ≤ i⟩
/-- lo, lo + 1, .. (n of them) -/
def Itr (lo : Int) (n : Nat) : It := ⟨fun i _ => i < n, fun i H x H' => H' = H ∧ x = .int (lo + i), fun i _ => n ≤ i⟩
theorem turn_list {P : Program} {w : World} {K : PySem.W.Frag} {tg : Expr} (a it : Addr) : Turn P w K tg (Itl K a) [it] it (fun i h => h.IsListIter it a i) where
  mem := by simp
  obj := fun i h st b hb => by
    have e : b = it := by simpa using hb
    subst e
    obtain ⟨o, e, c, d⟩ := st
    exact ⟨o, e, fun v z => by rw [d] at z; cases z⟩
  keep := fun i h h' st k => st.at fun o e => k it (by simp) o e
  item := by
    intro X hP hw hK hc i pins s σ H E I hf st hg
    subst hP hw hK
    obtain ⟨xs, x, hq, hx⟩ := hg
    obtain ⟨its, rv, p, hz⟩ := I.list hq
    obtain ⟨u, hu, ru⟩ := rv.get hx
    obtain ⟨f0, f1, f2, f3, f4, f5⟩ := hf it (by simp)
    refine wpAny_pyNext_list_item st p.isList (x := u) (by simpa using hu) fun h' st' sb => ?_
    have I1 : Inv X pins σ H { s with heap := h' } := I.turned (t' := s.toks) (fun b o hb e => (sb.2 b hb).trans e) f0 f1 f3 f4 f5
    obtain ⟨o, e, c, d⟩ := id st'
    exact ⟨u, rfl, go_of (s := { s with heap := h' }) e c d (by decide) ⟨x, H, I1, ru, ⟨rfl, fun ys hy => by rw [I.list_inj hy hq]; exact hx⟩, st', fun b hb => (hf b hb).1⟩⟩
  done := by
    intro X hP hw hK hc i pins s σ H E I hf st hg
    subst hP hw hK
    obtain ⟨xs, hq, hx⟩ := hg
    obtain ⟨its, rv, p, hz⟩ := I.list hq
    obtain ⟨f0, f1, f2, f3, f4, f5⟩ := hf it (by simp)
    have hl := rv.length
    exact wpAny_pyNext_list_end (I.ok.hd hc) st p.isList (by simp; omega) fun h' eb => ⟨rfl, I.turned (t' := s.toks) (fun b o hb e => eb b o hb e) f0 f1 f3 f4 f5⟩
  self := fun _ _ _ _ _ st h => wpAny_pyIter_listiter st h
theorem turn_tuple {P : Program} {w : World} {K : PySem.W.Frag} {tg : Expr} (a it : Addr) : Turn P w K tg (Itt K a) [it] it (fun i h => h.IsTupleIter it a i) where
  mem := by simp
  obj := fun i h st b hb => by
    have e : b = it := by simpa using hb
    subst e
    obtain ⟨o, e, c, d⟩ := st
    exact ⟨o, e, fun v z => by rw [d] at z; cases z⟩
  keep := fun i h h' st k => st.at fun o e => k it (by simp) o e
  item := by
    intro X hP hw hK hc i pins s σ H E I hf st hg
    subst hP hw hK
    obtain ⟨xs, x, hq, hx⟩ := hg
    obtain ⟨its, rv, p, hz⟩ := I.tuple hq
    obtain ⟨u, hu, ru⟩ := rv.get hx
    obtain ⟨f0, f1, f2, f3, f4, f5⟩ := hf it (by simp)
    refine wpAny_pyNext_tuple_item st (show s.heap.IsTuple a its.toArray from p) (x := u) (by simpa using hu) fun h' st' sb => ?_
    have I1 : Inv X pins σ H { s with heap := h' } := I.turned (t' := s.toks) (fun b o hb e => (sb.2 b hb).trans e) f0 f1 f3 f4 f5
    obtain ⟨o, e, c, d⟩ := id st'
    exact ⟨u, rfl, go_of (s := { s with heap := h' }) e c d (by decide) ⟨x, H, I1, ru, ⟨rfl, fun ys hy => by rw [I.tuple_inj hy hq]; exact hx⟩, st', fun b hb => (hf b hb).1⟩⟩
  done := by
    intro X hP hw hK hc i pins s σ H E I hf st hg
    subst hP hw hK
    obtain ⟨xs, hq, hx⟩ := hg
    obtain ⟨its, rv, p, hz⟩ := I.tuple hq
    obtain ⟨f0, f1, f2, f3, f4, f5⟩ := hf it (by simp)
    have hl := rv.length
    exact wpAny_pyNext_tuple_end (I.ok.hd hc) st (show s.heap.IsTuple a its.toArray from p) (by simp; omega) fun h' eb => ⟨rfl, I.turned (t' := s.toks) (fun b o hb e => eb b o hb e) f0 f1 f3 f4 f5⟩
  self := fun _ _ _ _ _ st h => wpAny_pyIter_tupleiter st h
theorem turn_range {P : Program} {w : World} {K : PySem.W.Frag} {tg : Expr} (it : Addr) (lo : Int) (n : Nat) : Turn P w K tg (Itr lo n) [it] it (fun i h => IsRangeIter h it (lo + (i : Nat) * 1) ((n : Int) - (i : Nat)) 1) where
  mem := by simp
  obj := fun i h st b hb => by
    have e : b = it := by simpa using hb
    subst e
    exact ⟨_, st, fun v z => by
      have z' : Data.fields _ = Data.cell v := z
      cases z'⟩
  keep := fun i h h' st k => k it (by simp) _ st
  item := by
    intro X hP hw hK hc i pins s σ H E I hf st hg
    subst hP hw hK
    obtain ⟨f0, f1, f2, f3, f4, f5⟩ := hf it (by simp)
    have W := Walks.range (prog := X.prog) (w := X.w) (I.ok.hd hc) it lo 1 n
    refine W.item i s _ _ hg st fun v h' tk hv st' kk => ?_
    obtain ⟨t, rfl⟩ := hv
    have I1 : Inv X pins σ H { s with heap := h', toks := tk } := I.turned (fun b o hb e => kk b o (by simpa using hb) e) f0 f1 f3 f4 f5
    refine ⟨_, rfl, go_of (s := { s with heap := h', toks := tk }) (n := "range_iterator") st' rfl rfl (by decide) ⟨.int (lo + i), H, I1, ⟨t, ?_⟩, ⟨rfl, rfl⟩, st', fun b hb => (hf b hb).1⟩⟩
    rw [Int.mul_one]
  done := by
    intro X hP hw hK hc i pins s σ H E I hf st hg
    subst hP hw hK
    obtain ⟨f0, f1, f2, f3, f4, f5⟩ := hf it (by simp)
    exact wpAny_pyNext_range_end (I.ok.hd hc) st (by have : n ≤ i := hg; omega) fun h' eb => ⟨rfl, I.turned (t' := s.toks) (fun b o hb e => eb b o hb e) f0 f1 f3 f4 f5⟩
  self := fun _ _ _ _ _ st h => wpAny_pyIter_rangeiter st h
end L2

namespace L2
open PySem PySem.Spec PyProof.Rows
section
variable {X : Cx} {tg : Expr}
def iList (K : PySem.W.Frag) (tl : TE) : TI := fun σ H R => tl σ H fun x H1 => ∃ a, x = .ref a ∧ (∃ xs, SqL K H1 a xs) ∧ R (Itl K a) H1
def iTup (K : PySem.W.Frag) (tl : TE) : TI := fun σ H R => tl σ H fun x H1 => ∃ a, x = .ref a ∧ (∃ xs, SqT K H1 a xs) ∧ R (Itt K a) H1
theorem pi_list {l : Expr} {tl : TE} (hl : PE X l tl) : PI X tg l (iList X.K tl) := by
  intro pins s σ H R I h
  refine thn (hl pins s σ H _ I h) fun v s1 ⟨x, H1, I1, r1, q1⟩ => ?_
  obtain ⟨a, e, ⟨xs, hq⟩, q⟩ := q1
  subst e
  cases r1
  obtain ⟨its, rv, p, hz⟩ := I1.list hq
  refine wpAny_pyIter_list p.isList ?_
  refine ⟨s1.heap.objs.size, [s1.heap.objs.size], _, _, H1, rfl, I1.kept (t' := s1.toks) fun b o e => Heap.get?_push_of_some _ e, turn_list a _, ⟨_, Heap.get?_push_size _ rfl, rfl, rfl⟩, fun b hb => ?_, q⟩
  have e : b = s1.heap.objs.size := by simpa using hb
  subst e
  exact I1.fpOk (Nat.le_refl _) (I1.hok.fresh (Nat.le_refl _))
theorem pi_tup {l : Expr} {tl : TE} (hl : PE X l tl) : PI X tg l (iTup X.K tl) := by
  intro pins s σ H R I h
  refine thn (hl pins s σ H _ I h) fun v s1 ⟨x, H1, I1, r1, q1⟩ => ?_
  obtain ⟨a, e, ⟨xs, hq⟩, q⟩ := q1
  subst e
  cases r1
  obtain ⟨its, rv, p, hz⟩ := I1.tuple hq
  refine wpAny_pyIter_tuple (show s1.heap.IsTuple a its.toArray from p) ?_
  refine ⟨s1.heap.objs.size, [s1.heap.objs.size], _, _, H1, rfl, I1.kept (t' := s1.toks) fun b o e => Heap.get?_push_of_some _ e, turn_tuple a _, ⟨_, Heap.get?_push_size _ rfl, rfl, rfl⟩, fun b hb => ?_, q⟩
  have e : b = s1.heap.objs.size := by simpa using hb
  subst e
  exact I1.fpOk (Nat.le_refl _) (I1.hok.fresh (Nat.le_refl _))
/-- a range object just made, walked -/
theorem range_it {pins : List (Addr × Obj)} {σ : St} {H : Hp} {s : Shared} {R : It → Hp → Prop} {E : Value → Shared → Prop} {lo hi : Int} {t u v : Tok} {tk : Nat} (I : Inv X pins σ H s) (h1 : -(2 ^ 62) ≤ lo) (h2 : lo < 2 ^ 62) (h3 : -(2 ^ 62) ≤ hi) (h4 : hi < 2 ^ 62)
    (q : R (Itr lo (hi - lo).toNat) H) : wpAny (model X.prog X.w) X.A (pyIter (.ref s.heap.objs.size)) (PIE X pins σ tg R) E { s with heap := s.heap.push { cls := .type "range", data := .fields #[.int lo t, .int hi u, .int 1 v] }, toks := tk } := by
  refine wpAny_pyIter_range (IsRange.new ..) (small_one h1 h2 h3 h4) ?_
  have I1 : Inv X pins σ H { s with heap := s.heap.push { cls := .type "range", data := .fields #[.int lo t, .int hi u, .int 1 v] }, toks := tk } := I.kept fun b o e => Heap.get?_push_of_some _ e
  refine ⟨(s.heap.push { cls := .type "range", data := .fields #[.int lo t, .int hi u, .int 1 v] }).objs.size, [(s.heap.push { cls := .type "range", data := .fields #[.int lo t, .int hi u, .int 1 v] }).objs.size], _, _, H, rfl,
    I1.kept (t' := tk) fun b o e => Heap.get?_push_of_some _ e, turn_range _ lo (hi - lo).toNat, ?_, fun b hb => ?_, q⟩
  · have e1 : lo + ((0 : Nat) : Int) * 1 = lo := by simp
    have e2 : (((hi - lo).toNat : Nat) : Int) - ((0 : Nat) : Int) = Builtin.Range.rangeSize lo hi 1 := by rw [rangeSize_one]; split <;> omega
    show IsRangeIter _ _ (lo + ((0 : Nat) : Int) * 1) ((((hi - lo).toNat : Nat) : Int) - ((0 : Nat) : Int)) 1
    rw [e1, e2]
    exact Heap.get?_push_size _ rfl
  · have e : b = (s.heap.push { cls := .type "range", data := .fields #[.int lo t, .int hi u, .int 1 v] }).objs.size := by simpa using hb
    subst e
    exact I1.fpOk (Nat.le_refl _) (I1.hok.fresh (Nat.le_refl _))
def iRng2 (ta : TA) : TI := fun σ H R => ta σ H fun vs H1 => ∃ i j : Int, vs = [.int i, .int j] ∧ (-(2 ^ 62) ≤ i ∧ i < 2 ^ 62 ∧ -(2 ^ 62) ≤ j ∧ j < 2 ^ 62) ∧ R (Itr i (j - i).toNat) H1
theorem pi_range2 {a b : Expr} {ta : TA} {p pos : Pos} (hg : Gl X "range") (hm : X.mg "range" = none) (ha : PA X [a, b] ta) (hs : starEach [a, b] X.env = [(false, eval a X.env), (false, eval b X.env)] := by rfl) (hs2 : starEach [b] X.env = [(false, eval b X.env)] := by rfl) :
    PI X tg (.Call (.Name "range" p) [a, b] [] pos) (iRng2 ta) := by
  intro pins s σ H R I h
  refine Call_ (ld_blt I hg hm boot_range (PyProof.Rows.callWith_type1 (thn (ha pos pins s σ H _ I h) fun us s1 ⟨vs, H1, I1, r1, q1⟩ => ?_) (by rw [hs, hs2]) (by rw [hs2]; rfl)))
  obtain ⟨i, j, e, ⟨q1, q2, q3, q4⟩, q⟩ := q1
  subst e
  cases r1 with
  | cons r rr =>
    cases rr with
    | cons r' rr =>
      cases rr
      obtain ⟨t, rfl⟩ := r
      obtain ⟨t', rfl⟩ := r'
      exact call_range_2 (range_it I1 q1 q2 q3 q4 q)

/-! ### for -/
/-- W: the invariant by the turn and a measure; N: what the body is to reach -/
def tFor (wi : TI) (g : TG) (tb : TS) : TS := fun D σ H => wi σ H fun J H1 => ∃ W : Nat → Nat → St → Hp → Prop, (∃ m, W 0 m σ H1) ∧ ∀ i m σ H, W i m σ H →
  (J.stop i H ∧ D.nx σ H) ∨ (J.go i H ∧ ∃ N : St → Hp → Prop, (∀ σ' H', N σ' H' → ∃ m', m' < m ∧ W (i + 1) m' σ' H') ∧ ∀ x H', J.yld i H x H' → g x σ H' fun σ2 H2 => tb { D with nx := N, ct := N, bk := D.nx } σ2 H2)
/-- the records at fp as they stand -/
def pinsAt (fp : List Addr) (h : Heap) : List (Addr × Obj) := fp.filterMap fun b => (h.get? b).map fun o => (b, o)
theorem mem_pinsAt {fp : List Addr} {h : Heap} {b : Addr} {o : Obj} (hb : b ∈ fp) (e : h.get? b = some o) : (b, o) ∈ pinsAt fp h := List.mem_filterMap.mpr ⟨b, hb, by rw [e]; rfl⟩
theorem of_pinsAt {fp : List Addr} {h : Heap} {p : Addr × Obj} (hp : p ∈ pinsAt fp h) : p.1 ∈ fp ∧ h.get? p.1 = some p.2 := by
  obtain ⟨b, hb, e⟩ := List.mem_filterMap.mp hp
  cases q : h.get? b with
  | none => rw [q] at e; cases e
  | some o =>
    rw [q] at e
    have e' : (b, o) = p := Option.some.inj e
    subst e'
    exact ⟨hb, q⟩
theorem Inv.pinned {pins : List (Addr × Obj)} {σ : St} {H : Hp} {s : Shared} {fp : List Addr} (I : Inv X pins σ H s) (hf : ∀ b ∈ fp, FpOk X pins H b) (ho : ∀ b ∈ fp, ∃ o, s.heap.get? b = some o ∧ ∀ v, o.data ≠ .cell v) : Inv X (pins ++ pinsAt fp s.heap) σ H s :=
  I.pins_of fun p hp => (List.mem_append.mp hp).elim (fun z => I.pin p (List.mem_append_right _ z)) fun z => by
    obtain ⟨hb, e⟩ := of_pinsAt z
    obtain ⟨f0, f1, f2, _⟩ := hf p.1 hb
    obtain ⟨o, e', d⟩ := ho p.1 hb
    rw [e] at e'; cases e'
    exact ⟨e, f0, f1, f2, d⟩
theorem Inv.unpinned {pins pl : List (Addr × Obj)} {σ : St} {H : Hp} {s : Shared} (I : Inv X (pins ++ pl) σ H s) : Inv X pins σ H s := I.pins_of fun p hp => I.pin p (List.mem_append_right _ (List.mem_append_left _ hp))
theorem ps_for {iter : Expr} {body : List Stmt} {wi : TI} {g : TG} {tb : TS} {pos : Pos} (hp : PassesOwn (model X.prog X.w) X.A X.env X.xe) (hc : X.calm = true) (hi : PI X tg iter wi) (hg : PG X tg g) (hb : PSs X body tb)
    (hs : ∀ x, foldedSetIterable iter X.env x = pure x := by intro _; rfl) : PS X (.For tg iter body [] pos) (tFor wi g tb) := by
  intro pins s σ H D I h
  refine wpAny_For (thn (hi pins s σ H _ I h) fun v s1 h1 => thn h1 fun itv s2 h2 => ?_) hs
  obtain ⟨it, fp, tn, J, H2, e, I2, T, st2, f2, W, ⟨m0, w0⟩, turn⟩ := h2
  subst e
  -- what stays true of the iterator's objects through the loop
  have stat : ∀ {H' : Hp}, (∀ b ∈ fp, H' b = none) → ∀ b ∈ fp, FpOk X pins H' b := fun hn b hb => ⟨hn b hb, (f2 b hb).2⟩
  refine codeAny_forLoop_any (fun n s' => ∃ i σ' H', Inv X pins σ' H' s' ∧ tn i s'.heap ∧ (∀ b ∈ fp, H' b = none) ∧ W i n σ' H') ?_ m0 ⟨0, σ, H2, I2, st2, fun b hb => (f2 b hb).1, w0⟩
  rintro n s3 ⟨i, σ3, H3, I3, st3, fr3, w3⟩
  rcases turn i n σ3 H3 w3 with ⟨stop, qn⟩ | ⟨go, N, hN, step⟩
  · refine wpAny_passesOwn hp (thn (T.done X rfl rfl rfl hc i pins s3 σ3 H3 X.xe I3 (stat fr3) st3 stop) fun r s4 ⟨hr, I4⟩ => ?_)
    subst hr
    exact wpAny_execs_nil ⟨σ3, H3, I4, qn⟩
  · refine wpAny_passesOwn hp (thn (T.item X rfl rfl rfl hc i pins s3 σ3 H3 X.xe I3 (stat fr3) st3 go) fun r s4 ⟨u, hr, h4⟩ => ?_)
    subst hr
    refine wpAny_passesOwn hp (thn h4 fun _ s5 ⟨x, H5, I5, r5, y5, st5, fr5⟩ => ?_)
    have I5' := I5.pinned (stat fr5) (T.obj _ _ st5)
    refine wpAny_passesOwn hp (thn (hg _ s5 σ3 H5 x u _ I5' r5 (step x H5 y5)) fun _ s6 ⟨σ6, H6, I6, q6⟩ => ?_)
    refine wpAny_passesOwn hp (thn (hb _ s6 σ6 H6 _ I6 q6) fun f s7 q7 => ?_)
    have again : ∀ {σ7 : St} {H7 : Hp}, Inv X (pins ++ pinsAt fp s5.heap) σ7 H7 s7 → N σ7 H7 → ∃ m, m < n ∧ ∃ i σ' H', Inv X pins σ' H' s7 ∧ tn i s7.heap ∧ (∀ b ∈ fp, H' b = none) ∧ W i m σ' H' := fun {σ7 H7} I7 n7 => by
      obtain ⟨m', hm, w7⟩ := hN σ7 H7 n7
      refine ⟨m', hm, i + 1, σ7, H7, I7.unpinned, T.keep _ _ _ st5 fun b hb o e => (I7.pin (b, o) (List.mem_append_right _ (List.mem_append_right _ (mem_pinsAt hb e)))).1, fun b hb => ?_, w7⟩
      obtain ⟨o, e, d⟩ := T.obj _ _ st5 b hb
      exact (I7.pin (b, o) (List.mem_append_right _ (List.mem_append_right _ (mem_pinsAt hb e)))).2.1
    cases f with
    | next => obtain ⟨σ7, H7, I7, n7⟩ := q7; exact again I7 n7
    | cont => obtain ⟨σ7, H7, I7, n7⟩ := q7; exact again I7 n7
    | brk => obtain ⟨σ7, H7, I7, q7⟩ := q7; exact ⟨σ7, H7, I7.unpinned, q7⟩
    | ret v => obtain ⟨x7, σ7, H7, I7, r7, q7⟩ := q7; exact ⟨x7, σ7, H7, I7.unpinned, r7, q7⟩
end

/-! ### the forms one uses -/
/-- over a list that the body leaves as it is -/
theorem for_list {K : PySem.W.Frag} {a : Addr} {xs : List V} {g : TG} {tb : TS} {D : Ends} {σ : St} {H : Hp} (Pv : Nat → St → Hp → Prop) (h0 : Pv 0 σ H) (hl : ∀ i σ H, i ≤ xs.length → Pv i σ H → SqL K H a xs)
    (hs : ∀ i x σ H, xs[i]? = some x → Pv i σ H → g x σ H fun σ2 H2 => tb { D with nx := Pv (i + 1), ct := Pv (i + 1), bk := D.nx } σ2 H2) (hd : ∀ σ H, Pv xs.length σ H → D.nx σ H) :
    ∃ W : Nat → Nat → St → Hp → Prop, (∃ m, W 0 m σ H) ∧ ∀ i m σ H, W i m σ H →
      ((Itl K a).stop i H ∧ D.nx σ H) ∨ ((Itl K a).go i H ∧ ∃ N : St → Hp → Prop, (∀ σ' H', N σ' H' → ∃ m', m' < m ∧ W (i + 1) m' σ' H') ∧ ∀ x H', (Itl K a).yld i H x H' → g x σ H' fun σ2 H2 => tb { D with nx := N, ct := N, bk := D.nx } σ2 H2) := by
  refine ⟨fun i m σ H => m = xs.length - i ∧ i ≤ xs.length ∧ Pv i σ H, ⟨xs.length, by simp, Nat.zero_le _, h0⟩, ?_⟩
  rintro i m σ H ⟨rfl, hi, p⟩
  have q := hl i σ H hi p
  by_cases hlt : i < xs.length
  · refine .inr ⟨⟨xs, xs[i], q, by simp [hlt]⟩, Pv (i + 1), fun σ' H' p' => ⟨xs.length - (i + 1), by omega, rfl, hlt, p'⟩, fun x H' y => ?_⟩
    obtain ⟨e, y⟩ := y
    subst e
    exact hs i x σ _ (y xs q) p
  · have e : i = xs.length := by omega
    subst e
    exact .inl ⟨⟨xs, q, Nat.le_refl _⟩, hd σ H p⟩
theorem for_tup {K : PySem.W.Frag} {a : Addr} {xs : List V} {g : TG} {tb : TS} {D : Ends} {σ : St} {H : Hp} (Pv : Nat → St → Hp → Prop) (h0 : Pv 0 σ H) (hl : ∀ i σ H, i ≤ xs.length → Pv i σ H → SqT K H a xs)
    (hs : ∀ i x σ H, xs[i]? = some x → Pv i σ H → g x σ H fun σ2 H2 => tb { D with nx := Pv (i + 1), ct := Pv (i + 1), bk := D.nx } σ2 H2) (hd : ∀ σ H, Pv xs.length σ H → D.nx σ H) :
    ∃ W : Nat → Nat → St → Hp → Prop, (∃ m, W 0 m σ H) ∧ ∀ i m σ H, W i m σ H →
      ((Itt K a).stop i H ∧ D.nx σ H) ∨ ((Itt K a).go i H ∧ ∃ N : St → Hp → Prop, (∀ σ' H', N σ' H' → ∃ m', m' < m ∧ W (i + 1) m' σ' H') ∧ ∀ x H', (Itt K a).yld i H x H' → g x σ H' fun σ2 H2 => tb { D with nx := N, ct := N, bk := D.nx } σ2 H2) := by
  refine ⟨fun i m σ H => m = xs.length - i ∧ i ≤ xs.length ∧ Pv i σ H, ⟨xs.length, by simp, Nat.zero_le _, h0⟩, ?_⟩
  rintro i m σ H ⟨rfl, hi, p⟩
  have q := hl i σ H hi p
  by_cases hlt : i < xs.length
  · refine .inr ⟨⟨xs, xs[i], q, by simp [hlt]⟩, Pv (i + 1), fun σ' H' p' => ⟨xs.length - (i + 1), by omega, rfl, hlt, p'⟩, fun x H' y => ?_⟩
    obtain ⟨e, y⟩ := y
    subst e
    exact hs i x σ _ (y xs q) p
  · have e : i = xs.length := by omega
    subst e
    exact .inl ⟨⟨xs, q, Nat.le_refl _⟩, hd σ H p⟩
theorem for_range {lo : Int} {n : Nat} {g : TG} {tb : TS} {D : Ends} {σ : St} {H : Hp} (Pv : Nat → St → Hp → Prop) (h0 : Pv 0 σ H)
    (hs : ∀ i σ H, i < n → Pv i σ H → g (.int (lo + i)) σ H fun σ2 H2 => tb { D with nx := Pv (i + 1), ct := Pv (i + 1), bk := D.nx } σ2 H2) (hd : ∀ σ H, Pv n σ H → D.nx σ H) :
    ∃ W : Nat → Nat → St → Hp → Prop, (∃ m, W 0 m σ H) ∧ ∀ i m σ H, W i m σ H →
      ((Itr lo n).stop i H ∧ D.nx σ H) ∨ ((Itr lo n).go i H ∧ ∃ N : St → Hp → Prop, (∀ σ' H', N σ' H' → ∃ m', m' < m ∧ W (i + 1) m' σ' H') ∧ ∀ x H', (Itr lo n).yld i H x H' → g x σ H' fun σ2 H2 => tb { D with nx := N, ct := N, bk := D.nx } σ2 H2) := by
  refine ⟨fun i m σ H => m = n - i ∧ i ≤ n ∧ Pv i σ H, ⟨n, by simp, Nat.zero_le _, h0⟩, ?_⟩
  rintro i m σ H ⟨rfl, hi, p⟩
  by_cases hlt : i < n
  · refine .inr ⟨hlt, Pv (i + 1), fun σ' H' p' => ⟨n - (i + 1), by omega, rfl, hlt, p'⟩, fun x H' y => ?_⟩
    obtain ⟨e, y⟩ := y
    subst e y
    exact hs i σ _ hlt p
  · have e : i = n := by omega
    subst e
    exact .inl ⟨Nat.le_refl _, hd σ H p⟩
end L2

namespace L2
open PySem PySem.Spec PyProof.Rows

abbrev R2 := V → V → Hp → VK → Prop
/-- a two-place operation on values: f is binaryOp op, inplaceOp op or compareOp op -/
def OpR (X : Cx) (f : Value → Value → Sem Value) (r : R2) : Prop :=
  ∀ (pins : List (Addr × Obj)) (s : Shared) (σ : St) (H : Hp) (x y : V) (v u : Value) (Q : VK), Inv X pins σ H s → RelV x v → RelV y u → r x y H Q →
    wpAny (model X.prog X.w) X.A (f v u) (EP X pins σ Q) X.xe s
/-- a one-place operation -/
def UnR (X : Cx) (f : Value → Sem Value) (r : V → Hp → VK → Prop) : Prop :=
  ∀ (pins : List (Addr × Obj)) (s : Shared) (σ : St) (H : Hp) (x : V) (v : Value) (Q : VK), Inv X pins σ H s → RelV x v → r x H Q →
    wpAny (model X.prog X.w) X.A (f v) (EP X pins σ Q) X.xe s
/-- a call of a value that is known (a builtin, a type) with values -/
def CallR (X : Cx) (f : Value) (r : List V → Hp → VK → Prop) : Prop :=
  ∀ (pins : List (Addr × Obj)) (s : Shared) (σ : St) (H : Hp) (xs : List V) (us : List Value) (Q : VK), Inv X pins σ H s → Vals xs us → r xs H Q →
    wpAny (model X.prog X.w) X.A (call f us) (EP X pins σ Q) X.xe s
/-- a value's truth -/
def TruR (X : Cx) (r : V → Hp → (Bool → Hp → Prop) → Prop) : Prop :=
  ∀ (pins : List (Addr × Obj)) (s : Shared) (σ : St) (H : Hp) (x : V) (v : Value) (Q : Bool → Hp → Prop), Inv X pins σ H s → RelV x v → r x H Q →
    wpAny (model X.prog X.w) X.A (truthy v) (TP X pins σ Q) X.xe s

def tOp (r : R2) (ta tb : TE) : TE := fun σ H Q => ta σ H fun x H1 => tb σ H1 fun y H2 => r x y H2 Q
def tUn (r : V → Hp → VK → Prop) (ta : TE) : TE := fun σ H Q => ta σ H fun x H1 => r x H1 Q
/-- ints in, under C, and a value out -/
def rI (C : Int → Int → Prop) (g : Int → Int → V) : R2 := fun x y H Q => ∃ i j, x = .int i ∧ y = .int j ∧ C i j ∧ Q (g i j) H
def rI0 (g : Int → Int → V) : R2 := fun x y H Q => ∃ i j, x = .int i ∧ y = .int j ∧ Q (g i j) H
def rU (g : Int → V) : V → Hp → VK → Prop := fun x H Q => ∃ i, x = .int i ∧ Q (g i) H

section
variable {X : Cx} {a b c : Expr} {ta tb tc : TE} {pos : Pos}

theorem binT (ha : PE X a ta) (hb : PE X b tb) {pins : List (Addr × Obj)} {s : Shared} {σ : St} {H : Hp} {R : V → V → Hp → Prop} (I : Inv X pins σ H s)
    (h : ta σ H fun x H1 => tb σ H1 fun y H2 => R x y H2) {Q : Value → Shared → Prop} {f : Value → Value → Sem Value}
    (hf : ∀ v u s2 x y H2, Inv X pins σ H2 s2 → RelV x v → RelV y u → R x y H2 → wpAny (model X.prog X.w) X.A (f v u) Q X.xe s2) :
    wpAny (model X.prog X.w) X.A (eval a X.env) (fun v s₁ => wpAny (model X.prog X.w) X.A (eval b X.env) (fun u s₂ => wpAny (model X.prog X.w) X.A (f v u) Q X.xe s₂) X.xe s₁) X.xe s := by
  refine thn (ha pins s σ H _ I h) fun v s1 ⟨x, H1, I1, r1, q1⟩ => ?_
  refine thn (hb pins s1 σ H1 _ I1 q1) fun u s2 ⟨y, H2, I2, r2, q2⟩ => ?_
  exact hf v u s2 x y H2 I2 r1 r2 q2

theorem pe_op {op : Operator} {r : R2} (ho : OpR X (binaryOp op) r) (ha : PE X a ta) (hb : PE X b tb) : PE X (.BinOp a op b pos) (tOp r ta tb) := by
  intro pins s σ H Q I h
  exact wpAny_BinOp (binT ha hb I h fun v u s2 x y H2 I2 rx ry q => ho pins s2 σ H2 x y v u Q I2 rx ry q)
theorem pe_un {op : UnaryOp} {r : V → Hp → VK → Prop} (ho : UnR X (unaryOp op) r) (ha : PE X a ta) : PE X (.UnaryOp op a pos) (tUn r ta) := by
  intro pins s σ H Q I h
  exact UnaryOp_ (thn (ha pins s σ H _ I h) fun v s1 ⟨x, H1, I1, r1, q1⟩ => ho pins s1 σ H1 x v Q I1 r1 q1)

/-! ### ints -/
theorem opI {f : Value → Value → Sem Value} {C : Int → Int → Prop} {g : Int → Int → Int}
    (rule : ∀ (i j : Int) (t u : Tok) (s : Shared) (Q : Value → Shared → Prop) (E : Value → Shared → Prop), C i j → Q (.int (g i j) s.toks) { s with toks := s.toks + 1 } → wpAny (model X.prog X.w) X.A (f (.int i t) (.int j u)) Q E s) :
    OpR X f (rI C fun i j => .int (g i j)) := by
  intro pins s σ H x y v u Q I rx ry h
  obtain ⟨i, j, rfl, rfl, hc, q⟩ := h
  obtain ⟨t, rfl⟩ := rx
  obtain ⟨t', rfl⟩ := ry
  exact rule i j t t' s _ _ hc ⟨.int (g i j), H, I.tok _, ⟨_, rfl⟩, q⟩
theorem opI0 {f : Value → Value → Sem Value} {g : Int → Int → Int}
    (rule : ∀ (i j : Int) (t u : Tok) (s : Shared) (Q : Value → Shared → Prop) (E : Value → Shared → Prop), Q (.int (g i j) s.toks) { s with toks := s.toks + 1 } → wpAny (model X.prog X.w) X.A (f (.int i t) (.int j u)) Q E s) :
    OpR X f (rI0 fun i j => .int (g i j)) := by
  intro pins s σ H x y v u Q I rx ry h
  obtain ⟨i, j, rfl, rfl, q⟩ := h
  obtain ⟨t, rfl⟩ := rx
  obtain ⟨t', rfl⟩ := ry
  exact rule i j t t' s _ _ ⟨.int (g i j), H, I.tok _, ⟨_, rfl⟩, q⟩
theorem opB0 {f : Value → Value → Sem Value} {g : Int → Int → Bool}
    (rule : ∀ (i j : Int) (t u : Tok) (s : Shared) (Q : Value → Shared → Prop) (E : Value → Shared → Prop), Q (.bool (g i j)) s → wpAny (model X.prog X.w) X.A (f (.int i t) (.int j u)) Q E s) :
    OpR X f (rI0 fun i j => .bl (g i j)) := by
  intro pins s σ H x y v u Q I rx ry h
  obtain ⟨i, j, rfl, rfl, q⟩ := h
  obtain ⟨t, rfl⟩ := rx
  obtain ⟨t', rfl⟩ := ry
  exact rule i j t t' s _ _ ⟨.bl (g i j), H, I, rfl, q⟩

def CDiv (i j : Int) : Prop := 0 < j ∧ j < 1073741824
def CPow (i j : Int) : Prop := 0 ≤ j ∧ j ≤ 1000000 ∧ i.natAbs < 2 ^ 64

theorem op_add : OpR X (binaryOp .Add) (rI0 fun i j => .int (i + j)) := opI0 fun _ _ _ _ _ _ _ q => add_int q
theorem op_sub : OpR X (binaryOp .Sub) (rI0 fun i j => .int (i - j)) := opI0 fun _ _ _ _ _ _ _ q => sub_int q
/-- // by a positive divisor -/
theorem op_fdiv : OpR X (binaryOp .FloorDiv) (rI CDiv fun i j => .int (i / j)) := opI fun i j _ _ _ _ _ hc q => by
  have h1 : (0 : Int) < j := hc.1
  have h2 : j < 1073741824 := hc.2
  exact floordiv_int (by omega) (by rw [Int.fdiv_eq_ediv_of_nonneg i (by omega)]; exact q) (.inl (PyProof.noPylong_small (by omega)))
/-- % by a positive divisor of any size -/
theorem op_mod : OpR X (binaryOp .Mod) (rI (fun _ j => 0 < j) fun i j => .int (i % j)) := opI fun i j _ _ _ _ _ hc q => by
  have h1 : (0 : Int) < j := hc
  exact mod_int' (by omega) (by rw [Int.fmod_eq_emod_of_nonneg i (by omega)]; exact q)
theorem op_modN : OpR X (binaryOp .Mod) (rI (fun _ j => j ≠ 0) fun i j => .int (i.fmod j)) := opI fun _ _ _ _ _ _ _ hc q => mod_int' hc q
theorem op_pow : OpR X (binaryOp .Pow) (rI CPow fun i j => .int (i ^ j.toNat)) := opI fun _ _ _ _ _ _ _ hc q => pow_int_small hc.1 hc.2.1 hc.2.2 q


theorem unI {f : Value → Sem Value} {g : Int → Int}
    (rule : ∀ (i : Int) (t : Tok) (s : Shared) (Q : Value → Shared → Prop) (E : Value → Shared → Prop), Q (.int (g i) s.toks) { s with toks := s.toks + 1 } → wpAny (model X.prog X.w) X.A (f (.int i t)) Q E s) :
    UnR X f (rU fun i => .int (g i)) := by
  intro pins s σ H x v Q I rx h
  obtain ⟨i, rfl, q⟩ := h
  obtain ⟨t, rfl⟩ := rx
  exact rule i t s _ _ ⟨.int (g i), H, I.tok _, ⟨_, rfl⟩, q⟩
theorem un_neg : UnR X (unaryOp .USub) (rU fun i => .int (-i)) := unI fun _ _ _ _ _ q => neg_int q

/-! ### bools among ints: n += (a < b) -/
end

/-! ### comparisons -/
/-- the scalars that == tells apart as data does -/
def scal : V → V → Bool
  | .non, .non => true | .non, .int _ => true | .int _, .non => true | .non, .bl _ => true | .bl _, .non => true | .non, .str _ => true | .str _, .non => true
  | .int _, .int _ => true | .bl _, .bl _ => true | .str _, .str _ => true | .byt _, .byt _ => true
  | .int _, .str _ => true | .str _, .int _ => true | .bl _, .str _ => true | .str _, .bl _ => true
  | _, _ => false
def rEq : R2 := fun x y H Q => scal x y = true ∧ Q (.bl (decide (x = y))) H
def rNe : R2 := fun x y H Q => scal x y = true ∧ Q (.bl (!decide (x = y))) H

theorem dec_int {i j : Int} : decide (V.int i = V.int j) = (i == j) := by
  rw [Bool.eq_iff_iff]
  simp
theorem dec_bl {i j : Bool} : decide (V.bl i = V.bl j) = (i == j) := by
  rw [Bool.eq_iff_iff]
  simp
theorem dec_str {i j : Str} : decide (V.str i = V.str j) = (i == j) := by
  rw [Bool.eq_iff_iff]
  simp
theorem dec_byt {i j : Array UInt8} : decide (V.byt i = V.byt j) = (i.toList == j.toList) := by
  rw [Bool.eq_iff_iff]
  cases i
  cases j
  simp

section
variable {X : Cx} {a b c : Expr} {ta tb tc : TE} {pos : Pos}
theorem fin_bl {pins : List (Addr × Obj)} {σ : St} {H : Hp} {s : Shared} {Q : VK} {k k' : Bool} (I : Inv X pins σ H s) (q : Q (.bl k) H) (e : k = k') : EP X pins σ Q (.bool k') s := by
  subst e
  exact ⟨.bl k, H, I, rfl, q⟩
theorem op_eq : OpR X (compareOp .Eq) rEq := by
  intro pins s σ H x y v u Q I rx ry h
  obtain ⟨hs, q⟩ := h
  cases x with
  | non =>
    cases rx
    cases y with
    | non => cases ry; exact PySem.EqNone.eq_none_none (fin_bl I q (by simp))
    | bl j => cases ry; exact PySem.EqNone.eq_none_bool (fin_bl I q (by simp))
    | int j => obtain ⟨t', rfl⟩ := ry; exact PySem.EqNone.eq_none_int (fin_bl I q (by simp))
    | str j => obtain ⟨t', rfl⟩ := ry; exact PySem.EqNone.eq_none_str (fin_bl I q (by simp))
    | _ => exact absurd (show false = true from hs) Bool.false_ne_true
  | bl i =>
    cases rx
    cases y with
    | non => cases ry; exact PySem.EqNone.eq_bool_none (fin_bl I q (by simp))
    | bl j => cases ry; exact eq_bool (fin_bl I q dec_bl)
    | str j => obtain ⟨t', rfl⟩ := ry; exact PySem.EqMixed.eq_bool_str (fin_bl I q (by simp))
    | _ => exact absurd (show false = true from hs) Bool.false_ne_true
  | int i =>
    obtain ⟨t, rfl⟩ := rx
    cases y with
    | non => cases ry; exact PySem.EqNone.eq_int_none (fin_bl I q (by simp))
    | int j => obtain ⟨t', rfl⟩ := ry; exact eq_int (fin_bl I q dec_int)
    | str j => obtain ⟨t', rfl⟩ := ry; exact PySem.EqMixed.eq_int_str (fin_bl I q (by simp))
    | _ => exact absurd (show false = true from hs) Bool.false_ne_true
  | str i =>
    obtain ⟨t, rfl⟩ := rx
    cases y with
    | non => cases ry; exact PySem.EqNone.eq_str_none (fin_bl I q (by simp))
    | bl j => cases ry; exact PySem.EqMixed.eq_str_bool (fin_bl I q (by simp))
    | int j => obtain ⟨t', rfl⟩ := ry; exact PySem.EqMixed.eq_str_int (fin_bl I q (by simp))
    | str j => obtain ⟨t', rfl⟩ := ry; exact eq_str (fin_bl I q dec_str)
    | _ => exact absurd (show false = true from hs) Bool.false_ne_true
  | byt i =>
    obtain ⟨t, rfl⟩ := rx
    cases y with
    | byt j => obtain ⟨t', rfl⟩ := ry; exact PySem.W.eq_bytes (fin_bl I q dec_byt)
    | _ => exact absurd (show false = true from hs) Bool.false_ne_true
  | _ => cases y <;> exact absurd (show false = true from hs) Bool.false_ne_true
theorem op_ne : OpR X (compareOp .NotEq) rNe := by
  intro pins s σ H x y v u Q I rx ry h
  obtain ⟨hs, q⟩ := h
  cases x with
  | non =>
    cases rx
    cases y with
    | non => cases ry; exact PySem.EqNone.ne_none_none (fin_bl I q (by simp))
    | bl j => cases ry; exact PySem.EqNone.ne_none_bool (fin_bl I q (by simp))
    | int j => obtain ⟨t', rfl⟩ := ry; exact PySem.EqNone.ne_none_int (fin_bl I q (by simp))
    | str j => obtain ⟨t', rfl⟩ := ry; exact PySem.EqNone.ne_none_str (fin_bl I q (by simp))
    | _ => exact absurd (show false = true from hs) Bool.false_ne_true
  | bl i =>
    cases rx
    cases y with
    | non => cases ry; exact PySem.EqNone.ne_bool_none (fin_bl I q (by simp))
    | bl j => cases ry; exact ne_bool (fin_bl I q (congrArg not dec_bl))
    | str j => obtain ⟨t', rfl⟩ := ry; exact PySem.EqMixed.ne_bool_str (fin_bl I q (by simp))
    | _ => exact absurd (show false = true from hs) Bool.false_ne_true
  | int i =>
    obtain ⟨t, rfl⟩ := rx
    cases y with
    | non => cases ry; exact PySem.EqNone.ne_int_none (fin_bl I q (by simp))
    | int j => obtain ⟨t', rfl⟩ := ry; exact ne_int (fin_bl I q (congrArg not dec_int))
    | str j => obtain ⟨t', rfl⟩ := ry; exact PySem.EqMixed.ne_int_str (fin_bl I q (by simp))
    | _ => exact absurd (show false = true from hs) Bool.false_ne_true
  | str i =>
    obtain ⟨t, rfl⟩ := rx
    cases y with
    | non => cases ry; exact PySem.EqNone.ne_str_none (fin_bl I q (by simp))
    | bl j => cases ry; exact PySem.EqMixed.ne_str_bool (fin_bl I q (by simp))
    | int j => obtain ⟨t', rfl⟩ := ry; exact PySem.EqMixed.ne_str_int (fin_bl I q (by simp))
    | str j => obtain ⟨t', rfl⟩ := ry; exact ne_str (fin_bl I q (congrArg not dec_str))
    | _ => exact absurd (show false = true from hs) Bool.false_ne_true
  | byt i =>
    obtain ⟨t, rfl⟩ := rx
    cases y with
    | byt j => obtain ⟨t', rfl⟩ := ry; exact PySem.W.ne_bytes (fin_bl I q (congrArg not dec_byt))
    | _ => exact absurd (show false = true from hs) Bool.false_ne_true
  | _ => cases y <;> exact absurd (show false = true from hs) Bool.false_ne_true

theorem op_lt : OpR X (compareOp .Lt) (rI0 fun i j => .bl (decide (i < j))) := opB0 fun _ _ _ _ _ _ _ q => lt_int q
theorem op_le : OpR X (compareOp .LtE) (rI0 fun i j => .bl (decide (i ≤ j))) := opB0 fun _ _ _ _ _ _ _ q => le_int q
theorem op_gt : OpR X (compareOp .Gt) (rI0 fun i j => .bl (decide (j < i))) := opB0 fun _ _ _ _ _ _ _ q => gt_int q
theorem op_ge : OpR X (compareOp .GtE) (rI0 fun i j => .bl (decide (j ≤ i))) := opB0 fun _ _ _ _ _ _ _ q => ge_int q




theorem nomark (b : Expr) {op : CmpOp} (h : op ≠ .In := by decide) (h2 : op ≠ .NotIn := by decide) : behindInMarks op b = false := by
  have e1 : (op == CmpOp.In) = false := by cases op <;> first | rfl | exact absurd rfl h
  have e2 : (op == CmpOp.NotIn) = false := by cases op <;> first | rfl | exact absurd rfl h2
  cases b <;> simp [behindInMarks, e1, e2]
/-- a comparison as a value; hm: nomark b, or (for in, not in) by with_unfolding_all rfl -/
theorem pe_cmpR {op : CmpOp} {r : R2} (ho : OpR X (compareOp op) r) (ha : PE X a ta) (hb : PE X b tb) (hm : behindInMarks op b = false) : PE X (.Compare a [op] [b] pos) (tOp r ta tb) := by
  intro pins s σ H Q I h
  exact wpAny_Compare1 (binT ha hb I h fun v u s2 x y H2 I2 rx ry q => ho pins s2 σ H2 x y v u Q I2 rx ry q) hm
/-- a reading of a value as a test -/
def tTest (t : TE) : TT := fun σ H Q => t σ H fun x H' => ∃ k, x = .bl k ∧ Q k H'
theorem pt_cmpR {op : CmpOp} {r : R2} (ho : OpR X (compareOp op) r) (ha : PE X a ta) (hb : PE X b tb) (hm : behindInMarks op b = false) : PT X (.Compare a [op] [b] pos) (tTest (tOp r ta tb)) := by
  intro pins s σ H Q I h
  refine wpAny_isTrue_Compare1 (thn (ha pins s σ H _ I h) fun v s1 ⟨x, H1, I1, r1, q1⟩ => thn (hb pins s1 σ H1 _ I1 q1) fun u s2 ⟨y, H2, I2, r2, q2⟩ =>
    thn (ho pins s2 σ H2 x y v u _ I2 r1 r2 q2) fun c s3 ⟨z, H3, I3, r3, k, e, q3⟩ => ?_) hm
  subst e
  cases r3
  exact wpAny_truthy_bool ⟨H3, I3, q3⟩
/-- a op1 b op2 c -/
def tChain (r r' : R2) (ta tb tc : TE) : TE := fun σ H Q => ta σ H fun x H1 => tb σ H1 fun y H2 => r x y H2 fun z H3 => ∃ k, z = .bl k ∧
  (if k = true then tc σ H3 fun w' H4 => r' y w' H4 Q else Q (.bl false) H3)
theorem pt_chain {op op' : CmpOp} {r r' : R2} (ho : OpR X (compareOp op) r) (ho' : OpR X (compareOp op') r') (ha : PE X a ta) (hb : PE X b tb) (hc : PE X c tc)
    (hm : lastMarks [op, op'] [b, c] = false := by with_unfolding_all rfl) : PT X (.Compare a [op, op'] [b, c] pos) (tTest (tChain r r' ta tb tc)) := by
  intro pins s σ H Q I h
  refine isTrue_chain (thn (ha pins s σ H _ I h) fun v s1 ⟨x, H1, I1, r1, q1⟩ => test_link (thn (hb pins s1 σ H1 _ I1 q1) fun u s2 ⟨y, H2, I2, r2, q2⟩ =>
    thn (ho pins s2 σ H2 x y v u _ I2 r1 r2 q2) fun d s3 ⟨z, H3, I3, r3, k, e, q3⟩ => ?_)) hm
  subst e
  cases r3
  refine wpAny_truthy_bool ?_
  cases k with
  | false =>
    obtain ⟨k', e', q'⟩ := q3
    cases e'
    exact ite_ff ⟨H3, I3, q'⟩
  | true =>
    refine ite_tt (test_last (thn (hc pins s3 σ H3 _ I3 q3) fun w' s4 ⟨z', H4, I4, r4, q4⟩ => thn (ho' pins s4 σ H4 y z' u w' _ I4 r2 r4 q4) fun d' s5 ⟨z2, H5, I5, r5, k2, e2, q5⟩ => ?_))
    subst e2
    cases r5
    exact wpAny_truthy_bool ⟨H5, I5, q5⟩

/-! ### truth -/
/-- a value's truth by the abstract heap -/
def TruV (K : PySem.W.Frag) (x : V) (H : Hp) (k : Bool) : Prop :=
  match x with
  | .non => k = false
  | .bl b => k = b
  | .int i => k = (i != 0)
  | .str y => y.length ≤ sizeLine ∧ k = ((y.length : Int) != 0)
  | .byt y => y.size ≤ sizeLine ∧ k = ((y.size : Int) != 0)
  | .ref p => (∃ xs, SqL K H p xs ∧ k = !xs.isEmpty) ∨ (∃ xs, SqT K H p xs ∧ k = !xs.isEmpty) ∨ ∃ kvs, H p = some (.dK kvs) ∧ k = !kvs.isEmpty
  | _ => False
theorem isEmpty_kv {κ : Type} {kvs : List (κ × V)} {vs : List (κ × Value)} (r : KV kvs vs) : (!vs.isEmpty) = !kvs.isEmpty := by
  cases r <;> rfl
theorem isEmpty_of {xs : List V} {its : List Value} (r : Vals xs its) : (!its.toArray.isEmpty) = !xs.isEmpty := by
  cases r <;> simp
theorem line63 : (sizeLine : Nat) < 2 ^ 63 := by rw [sizeLine_eq]; decide
theorem tru_ok : TruR X (fun x H Q => ∃ k, TruV X.K x H k ∧ Q k H) := by
  intro pins s σ H x v Q I rx h
  obtain ⟨k, e, q⟩ := h
  have hl := line63
  have hs : sizeLine = 16777216 := sizeLine_eq
  cases x with
  | non =>
    cases rx
    have e' : k = false := e
    subst e'
    exact truthy_none ⟨H, I, q⟩
  | bl b =>
    cases rx
    have e' : k = b := e
    subst e'
    exact wpAny_truthy_bool ⟨H, I, q⟩
  | int i =>
    obtain ⟨t, rfl⟩ := rx
    have e' : k = (i != 0) := e
    subst e'
    exact PySem.P.truthy_int ⟨H, I, q⟩
  | str y =>
    obtain ⟨t, rfl⟩ := rx
    obtain ⟨hy, e'⟩ : y.length ≤ sizeLine ∧ k = ((y.length : Int) != 0) := e
    subst e'
    exact PySem.P.truthy_str (by omega) ⟨H, I.tok _, q⟩
  | byt y =>
    obtain ⟨t, rfl⟩ := rx
    obtain ⟨hy, e'⟩ : y.size ≤ sizeLine ∧ k = ((y.size : Int) != 0) := e
    subst e'
    exact PySem.W.truthy_bytes (by omega) ⟨H, I.tok _, q⟩
  | ref p =>
    cases rx
    have e' : (∃ xs, SqL X.K H p xs ∧ k = !xs.isEmpty) ∨ (∃ xs, SqT X.K H p xs ∧ k = !xs.isEmpty) ∨ ∃ kvs, H p = some (.dK kvs) ∧ k = !kvs.isEmpty := e
    rcases e' with ⟨xs, hx, e'⟩ | ⟨xs, hx, e'⟩ | ⟨kvs, hx, e'⟩
    · subst e'
      obtain ⟨its, r, pl, hz⟩ := I.list hx
      have hlen := r.length
      exact wpAny_truthy_list pl.isList (by simp only [List.size_toArray]; omega) ⟨H, I.tok _, by rw [isEmpty_of r]; exact q⟩
    · subst e'
      obtain ⟨its, r, pl, hz⟩ := I.tuple hx
      have hlen := r.length
      exact truthy_tuple pl (by simp only [List.size_toArray]; omega) ⟨H, I.tok _, by rw [isEmpty_of r]; exact q⟩
    · subst e'
      obtain ⟨hz, hS, vs, r, m⟩ : kvs.length ≤ sizeLine ∧ (p == sysModules) = false ∧ ∃ vs, KV kvs vs ∧ s.heap.DictOf (mixKind X.prog X.w) p vs := I.hok p _ hx
      have hlen : kvs.length = vs.length := Paired.length r
      exact wpAny_truthy_dict hS m (by omega) ⟨H, I.tok _, by rw [isEmpty_kv r]; exact q⟩
  | _ => exact (show False from e).elim

/-! ### strs and bytes -/


/-! ### scalar builtins, by CallR -/
theorem vals1 {x : V} {us : List Value} (r : Vals [x] us) : ∃ u, us = [u] ∧ RelV x u := by
  cases r with
  | cons r1 r2 => cases r2; exact ⟨_, rfl, r1⟩
theorem vals2 {x y : V} {us : List Value} (r : Vals [x, y] us) : ∃ u w', us = [u, w'] ∧ RelV x u ∧ RelV y w' := by
  cases r with
  | cons r1 r2 =>
    cases r2 with
    | cons r3 r4 => cases r4; exact ⟨_, _, rfl, r1, r3⟩
theorem call_abs : CallR X (.builtin "abs") (fun xs H Q => ∃ i, xs = [.int i] ∧ Q (.int (if i < 0 then -i else i)) H) := by
  intro pins s σ H xs us Q I r h
  obtain ⟨i, rfl, q⟩ := h
  obtain ⟨u, rfl, t, rfl⟩ := vals1 r
  exact call_abs_int fun u tk => ⟨.int (if i < 0 then -i else i), H, I.tok _, ⟨_, rfl⟩, q⟩
theorem call_max2 (hc : X.calm = true) : CallR X (.builtin "max") (fun xs H Q => ∃ i j, xs = [.int i, .int j] ∧ Q (.int (if j > i then j else i)) H) := by
  intro pins s σ H xs us Q I r h
  obtain ⟨i, j, rfl, q⟩ := h
  obtain ⟨u, w', rfl, ⟨t, rfl⟩, ⟨t', rfl⟩⟩ := vals2 r
  refine max_two_ints (I.ok.hd hc) fun h' tk k => ⟨_, H, I.kept k, ?_, q⟩
  by_cases hj : j > i
  · rw [if_pos hj, if_pos hj]; exact ⟨_, rfl⟩
  · rw [if_neg hj, if_neg hj]; exact ⟨_, rfl⟩
theorem call_min2 (hc : X.calm = true) : CallR X (.builtin "min") (fun xs H Q => ∃ i j, xs = [.int i, .int j] ∧ Q (.int (if j < i then j else i)) H) := by
  intro pins s σ H xs us Q I r h
  obtain ⟨i, j, rfl, q⟩ := h
  obtain ⟨u, w', rfl, ⟨t, rfl⟩, ⟨t', rfl⟩⟩ := vals2 r
  refine min_two_ints (I.ok.hd hc) fun h' tk k => ⟨_, H, I.kept k, ?_, q⟩
  by_cases hj : j < i
  · rw [if_pos hj, if_pos hj]; exact ⟨_, rfl⟩
  · rw [if_neg hj, if_neg hj]; exact ⟨_, rfl⟩
/-- len of a str, a bytes, a list, a tuple -/
def LenV (K : PySem.W.Frag) (x : V) (H : Hp) (n : Nat) : Prop :=
  match x with
  | .str y => y.length ≤ sizeLine ∧ n = y.length
  | .byt y => y.size ≤ sizeLine ∧ n = y.size
  | .ref p => (∃ xs, SqL K H p xs ∧ n = xs.length) ∨ ∃ xs, SqT K H p xs ∧ n = xs.length
  | _ => False
theorem call_len : CallR X (.builtin "len") (fun xs H Q => ∃ x n, xs = [x] ∧ LenV X.K x H n ∧ Q (.int n) H) := by
  intro pins s σ H xs us Q I r h
  obtain ⟨x, n, rfl, e, q⟩ := h
  obtain ⟨u, rfl, rx⟩ := vals1 r
  have hl := line63
  have hs : sizeLine = 16777216 := sizeLine_eq
  cases x with
  | str y =>
    obtain ⟨t, rfl⟩ := rx
    obtain ⟨hy, e'⟩ : y.length ≤ sizeLine ∧ n = y.length := e
    subst e'
    exact len_str (by omega) ⟨.int _, H, I.tok _, ⟨_, rfl⟩, q⟩
  | byt y =>
    obtain ⟨t, rfl⟩ := rx
    obtain ⟨hy, e'⟩ : y.size ≤ sizeLine ∧ n = y.size := e
    subst e'
    exact PySem.W.len_bytes (by omega) ⟨.int _, H, I.tok _, ⟨_, rfl⟩, q⟩
  | ref p =>
    cases rx
    have e' : (∃ xs, SqL X.K H p xs ∧ n = xs.length) ∨ ∃ xs, SqT X.K H p xs ∧ n = xs.length := e
    rcases e' with ⟨xs, hx, e'⟩ | ⟨xs, hx, e'⟩
    · subst e'
      obtain ⟨its, r', pl, hz⟩ := I.list hx
      have hlen := r'.length
      exact Calls.call_len_list pl.isList (by simp only [List.size_toArray]; omega) ⟨.int xs.length, H, I.tok _, ⟨_, by simp only [List.size_toArray]; rw [hlen]⟩, q⟩
    · subst e'
      obtain ⟨its, r', pl, hz⟩ := I.tuple hx
      have hlen := r'.length
      exact len_tuple pl (by simp only [List.size_toArray]; omega) ⟨.int xs.length, H, I.tok _, ⟨_, by simp only [List.size_toArray]; rw [hlen]⟩, q⟩
  | _ => exact (show False from e).elim
end
end L2

namespace L2
open PySem PySem.Spec PyProof.Rows

/-! ### an instance, its attributes a map -/
structure ObjM (h : Heap) (x dx C : Addr) (mA : Str → Option Value) : Prop where
  obj : h.get? x = some (PySem.W.instObj C dx)
  ns : h.Ns1 dx mA
  ne : dx ≠ x

theorem lookIn_ns {h : Heap} {dx : Addr} {mA : Str → Option Value} (n : h.Ns1 dx mA) : ∃ od, h.get? dx = some od ∧ ∀ name, PySem.W.lookIn name od = some (mA name) := by
  obtain ⟨o, es, ep, ho, hd, hk, _, hm⟩ := n
  refine ⟨o, ho, fun name => ?_⟩
  have e := hm name
  unfold nsFind findBy at e
  rw [← Array.find?_toList] at e
  unfold PySem.W.lookIn
  rw [hd]
  dsimp only
  split
  · rename_i y q
    rw [q] at e
    exact congrArg some e
  · rename_i q
    rw [q] at e
    have a : es.toList.any (·.refKey) = false := by
      rw [List.any_eq_false]
      intro y hy
      obtain ⟨z, t, hkey⟩ := hk y (Array.mem_toList_iff.mp hy)
      simp [DictEntry.refKey, hkey]
    have a' : ¬ es.toList.any (·.refKey) = true := by rw [a]; exact Bool.false_ne_true
    rw [if_neg a']
    exact congrArg some e

theorem ObjM.look {h : Heap} {x dx C : Addr} {mA : Str → Option Value} (I : ObjM h x dx C mA) : ∃ od, PySem.W.InstAt h x (PySem.W.instObj C dx) C (some od) ∧ ∀ name, PySem.W.lookIn name od = some (mA name) :=
  let ⟨od, ho, hl⟩ := lookIn_ns I.ns
  ⟨od, ⟨I.obj, rfl, rfl, ho⟩, hl⟩

section
variable {prog : Program} {w : World} {A : Around} {E : Value → Shared → Prop} {s : Shared} {K : PySem.W.Frag} {x dx C f : Addr} {mA : Str → Option Value} {name : Str} {v : Value}





end

/-! ### the attributes as a list of pairs -/


section
variable {P : Program} {w : World} {H H' : Hp} {h h' : Heap} {a C dx : Addr} {fs fs' : List (Str × V)}
theorem ins_get (hok : HOk P w H h) (e : H a = some (.ins C dx fs)) : ∃ mA, ObjM h a dx C mA ∧ (∀ f, RelO (fs.lookup f) (mA f)) ∧ PySem.Within mA (fs.map (·.1)) ∧ fs.length ≤ 1000 ∧ H dx = some (.own a) := by
  obtain ⟨d, z, ne, ob, mA, n, r, q⟩ := (show ObjOk P w H h a (.ins C dx fs) from hok a _ e)
  exact ⟨mA, ⟨ob, n, ne⟩, r, q, z, d⟩
end

/-! ### what of the text a class must have -/
structure Cls (K : PySem.W.Frag) (C : Addr) : Prop where
  pg : PySem.W.plainGet K C Str.empty = true
  hd : PySem.W.hasDictIn K C = true
  po : PySem.W.plainOver K C = true
  sa : PySem.W.findIn K (.ref C) "__setattr__" = some (some (.builtin "object.__setattr__"))
theorem Cls.get {K : PySem.W.Frag} {C : Addr} (c : Cls K C) (f : Str) : PySem.W.plainGet K C f = true := c.pg

section
variable {X : Cx} {pins : List (Addr × Obj)} {σ : St} {H : Hp} {s : Shared} {a C dx : Addr} {fs : List (Str × V)} {f : Str} {v : V} {A : Around} {E : Value → Shared → Prop}






end

/-! ### readings and rules -/

section
variable {X : Cx} {o e value : Expr} {f : Str} {pos pos' tpos : Pos} {ta tv : TE}

end

/-! ### isinstance -/
section
variable {X : Cx} {pins : List (Addr × Obj)} {σ : St} {H : Hp} {s : Shared} {A : Around} {E : Value → Shared → Prop} {Q : Value → Shared → Prop} {c : Value} {b : Bool}
/-- the type of a value, as the fragment's deciders take it; for an instance its class -/
inductive TyOf (K : PySem.W.Frag) (H : Hp) : V → Value → Prop where
  | non : TyOf K H .non (.type "NoneType")
  | bl (x : Bool) : TyOf K H (.bl x) (.type "bool")
  | int (i : Int) : TyOf K H (.int i) (.type "int")
  | str (x : Str) : TyOf K H (.str x) (.type "str")
  | flt (x : UInt64) : TyOf K H (.flt x) (.type "float")
  | lst {a : Addr} {xs : List V} (e : H a = some (.lst xs)) : TyOf K H (.ref a) (.type "list")
  | frz {a : Addr} {o : Obj} {xs : List V} (e : H a = some (.frz o (.lst xs))) : TyOf K H (.ref a) (.type "list")
  | tup {a : Addr} {xs : List V} (e : H a = some (.tup xs)) : TyOf K H (.ref a) (.type "tuple")
  | dK {a : Addr} {kvs : List (Key × V)} (e : H a = some (.dK kvs)) : TyOf K H (.ref a) (.type "dict")
  | dT {a : Addr} {kvs : List (List Key × V)} (e : H a = some (.dT kvs)) : TyOf K H (.ref a) (.type "dict")
  | ins {a C dx : Addr} {fs : List (Str × V)} (e : H a = some (.ins C dx fs)) (cl : Cls K C) (ha : PySem.W.findIn K (.ref C) "__class__" = some (some (.builtin "object.__class__")))
      (hn : PySem.W.specialIn K (.builtin "object.__class__") "__get__" = some (some (.builtin "getset_descriptor.__get__"))) (htk : PySem.W.takesIn K (.builtin "object.__class__") = some true)
      (hm : PySem.W.mroIn K C (.type "object") = some true) : TyOf K H (.ref a) (.ref C)
/-- isinstance(x, c) for one class c, a built-in or an own one: kitOne's answer -/
theorem isinst_ok {x : V} {u t : Value} (I : Inv X pins σ H s) (rx : RelV x u) (ty : TyOf X.K H x t) (e : PySem.W.kitOne X.K t c = some b) (h : ∀ tk, Q (.bool b) { s with toks := tk }) :
    wpAny (model X.prog X.w) A (call (.builtin "isinstance") [u, c]) Q E s := by
  cases ty with
  | non => cases (show u = Value.none from rx); exact PySem.W.kia_one PySem.W.kitx_none I.kIn True.intro e (fun z => nomatch z) h
  | bl y => cases (show u = Value.bool y from rx); exact PySem.W.kia_one PySem.W.kitx_bool I.kIn True.intro e (fun z => nomatch z) h
  | int i => obtain ⟨t, q⟩ := (show ∃ t, u = Value.int i t from rx); cases q; exact PySem.W.kia_one PySem.W.kitx_int I.kIn True.intro e (fun z => nomatch z) h
  | str y => obtain ⟨t, q⟩ := (show ∃ t, u = Value.str y t from rx); cases q; exact PySem.W.kia_one PySem.W.kitx_str I.kIn True.intro e (fun z => nomatch z) h
  | flt y => obtain ⟨t, q⟩ := (show ∃ t, u = Value.float y t from rx); cases q; exact PySem.W.kia_one PySem.W.kitx_float I.kIn True.intro e (fun z => nomatch z) h
  | @lst a xs ea =>
    cases (show u = Value.ref a from rx)
    obtain ⟨_, _, n, _, h1⟩ := (show ObjOk X.prog X.w H s.heap a (.lst xs) from I.hok a _ ea)
    exact PySem.W.kia_one PySem.W.kitx_list I.kIn ⟨_, h1, rfl⟩ e (fun z => nomatch z) h
  | @frz a ob xs ea =>
    cases (show u = Value.ref a from rx)
    obtain ⟨_, _, _, n, _, h1⟩ := (show ObjOk X.prog X.w H s.heap a (.frz ob (.lst xs)) from I.hok a _ ea)
    exact PySem.W.kia_one PySem.W.kitx_list I.kIn ⟨_, h1, rfl⟩ e (fun z => nomatch z) h
  | @tup a xs ea =>
    cases (show u = Value.ref a from rx)
    obtain ⟨_, _, _, p⟩ := (show ObjOk X.prog X.w H s.heap a (.tup xs) from I.hok a _ ea)
    obtain ⟨o, h1, h2, _⟩ := p
    exact PySem.W.kia_one PySem.W.kitx_tuple I.kIn ⟨o, h1, h2⟩ e (fun z => nomatch z) h
  | @dK a kvs ea =>
    cases (show u = Value.ref a from rx)
    obtain ⟨_, _, vs, _, p⟩ := (show ObjOk X.prog X.w H s.heap a (.dK kvs) from I.hok a _ ea)
    obtain ⟨o, es, ep, h1, h2, _⟩ := p
    exact PySem.W.kia_one PySem.W.kitx_dict I.kIn ⟨o, h1, h2.1⟩ e (fun z => nomatch z) h
  | @dT a kvs ea =>
    cases (show u = Value.ref a from rx)
    obtain ⟨_, _, xs, _, o, es, ep, h1, h2, _⟩ := (show ObjOk X.prog X.w H s.heap a (.dT kvs) from I.hok a _ ea)
    exact PySem.W.kia_one PySem.W.kitx_dict I.kIn ⟨o, h1, h2.1⟩ e (fun z => nomatch z) h
  | @ins a C dx fs ea cl ha hn htk hm =>
    cases (show u = Value.ref a from rx)
    obtain ⟨mA, O, _⟩ := ins_get I.hok ea
    obtain ⟨od, J, _⟩ := O.look
    exact PySem.W.kia_one (PySem.W.kitx_own (cl.get _) cl.hd ha hn htk hm) I.kIn J e (fun z => nomatch z) h
end
end L2

namespace L2
open PySem PySem.Spec PyProof.Rows

/-! ### room -/
structure Room (k : Nat) (A : Around) : Prop where
  hd : A.handled = none
  dp : A.depth + 3 * k + 5 < recursionLimit
  un : A.units + 16 * k + 200 < cLine
theorem Room.mono {j k : Nat} {A : Around} (r : Room k A) (h : j ≤ k) : Room j A := ⟨r.hd, by have := r.dp; omega, by have := r.un; omega⟩
theorem Room.deeper {k : Nat} {A : Around} (r : Room (k + 1) A) (env : Env) : Room k (A.deeper env) :=
  ⟨r.hd, by have := r.dp; show A.depth + 1 + 3 * k + 5 < _; omega, by have := r.un; show A.units + 3 + 16 * k + 200 < _; omega⟩
theorem Room.depth {k : Nat} {A : Around} (r : Room k A) : A.depth < recursionLimit := by have := r.dp; omega
theorem Room.units {k : Nat} {A : Around} (r : Room k A) : A.units + 64 < cLine := by have := r.un; omega

/-! ### argument lists and displays -/
def tNil : TA := fun _ H Q => Q [] H
def tCons (ta : TE) (tr : TA) : TA := fun σ H Q => ta σ H fun x H1 => tr σ H1 fun xs H2 => Q (x :: xs) H2
section
variable {X : Cx} {e : Expr} {es : List Expr} {te : TE} {t : TA} {pos : Pos}
theorem pa_nil : PA X [] tNil := fun _ _ _ _ H Q I h => Calls.spliced_nil ⟨[], H, I, .nil, h⟩
theorem pa_cons (ha : PE X e te) (hr : PA X es t) (hs : starEach (e :: es) X.env = (false, eval e X.env) :: starEach es X.env := by rfl) : PA X (e :: es) (tCons te t) := by
  intro pos pins s σ H Q I h
  rw [hs]
  show wpAny _ _ (spliced ((false, eval e X.env) :: backTo pos (starEach es X.env))) _ _ s
  refine Calls.spliced_cons (thn (ha pins s σ H _ I h) fun u s1 ⟨x, H1, I1, r1, q1⟩ => ?_)
  exact thn (hr pos pins s1 σ H1 _ I1 q1) fun us s2 ⟨xs, H2, I2, r2, q2⟩ => ⟨x :: xs, H2, I2, .cons r1 r2, q2⟩

/-- a tuple, a list of written items -/
def tTup (t : TA) : TE := fun σ H Q => t σ H fun xs H1 => xs.length ≤ sizeLine ∧ ∀ p, H1 p = none → Q (.ref p) (upd H1 p (.tup xs))
def tLst (t : TA) : TE := fun σ H Q => t σ H fun xs H1 => xs.length ≤ sizeLine ∧ ∀ p, H1 p = none → Q (.ref p) (upd H1 p (.lst xs))
theorem pe_tup {x1} (h : PA X es t) : PE X (.Tuple es x1 pos) (tTup t) := by
  intro pins s σ H Q I hq
  refine wpAny_Tuple_spliced (thn (h pos pins s σ H _ I hq) fun us s1 ⟨xs, H1, I1, r, z, q⟩ => ⟨by rw [← r.length]; exact z, ?_⟩)
  have hf : H1 s1.heap.objs.size = none := I1.hok.fresh (Nat.le_refl _)
  refine ⟨.ref s1.heap.objs.size, upd H1 s1.heap.objs.size (.tup xs), I1.laid (t' := s1.toks) (fun b u e => Heap.get?_push_of_some _ e) (Nat.le_refl _) ?_, rfl, q _ hf⟩
  exact ⟨z, us, r, ⟨_, Heap.get?_push_size _ rfl, rfl, _, rfl⟩⟩
theorem pe_lst (h : PA X es t) : PE X (.List es pos) (tLst t) := by
  intro pins s σ H Q I hq
  refine wpAny_List_spliced (thn (h pos pins s σ H _ I hq) fun us s1 ⟨xs, H1, I1, r, z, q⟩ => ⟨by rw [← r.length]; exact z, ?_⟩)
  have hf : H1 s1.heap.objs.size = none := I1.hok.fresh (Nat.le_refl _)
  refine ⟨.ref s1.heap.objs.size, upd H1 s1.heap.objs.size (.lst xs), I1.laid (t' := s1.toks) (fun b u e => Heap.get?_push_of_some _ e) (Nat.le_refl _) ?_, rfl, q _ hf⟩
  exact ⟨z, us, 0, r, Heap.get?_push_size _ rfl⟩
end

/-! ### what a def promises -/
/-- a def's promise: the bound arguments in the parameters' order, the heap, the wanted end, the wanted exception -/
abbrev Sp := List V → Hp → VK → XK → Prop
/-- how an exception lies behind a call (file 08 gives it): the callers' frames, abstract heap and state ahead of the call, the wish, the exception, the state -/
abbrev CXT := List Env → Hp → Shared → XK → Value → Shared → Prop

/-- the state at a call -/
structure Env0 (P : Program) (w : World) (K : PySem.W.Frag) (mg : Str → Option Value) (base : Heap) (A : Around) (outer : List Env) (s : Shared) (H : Hp) : Prop where
  frames : A.frames = some outer
  mod : Mod K mg base
  bs : ∀ b o, base.get? b = some o → s.heap.get? b = some o ∧ H b = none
  bsz : base.objs.size ≤ s.heap.objs.size
  funs : s.heap.FunFrames base outer
  frf : ∀ b ∈ frs outer, H b = none
  hok : HOk P w H s.heap
  bare : AllBare s.gens
/-- a call's end -/
def CE (outer : List Env) (P : Program) (w : World) (H : Hp) (s : Shared) (Q : VK) (u : Value) (s' : Shared) : Prop :=
  ∃ v H', s'.os = s.os ∧ AllBare s'.gens ∧ Un (frs outer) [] H H' s.heap s'.heap ∧ HOk P w H' s'.heap ∧ RelV v u ∧ Q v H'
def CR (CX : CXT) (outer : List Env) (P : Program) (w : World) (H : Hp) (s : Shared) (Q : VK) (E : XK) (r : Result) (s' : Shared) : Prop :=
  match r with
  | .ok (.ret u) => CE outer P w H s Q u s'
  | .ok _ => False
  | .error e => CX outer H s E e s'
structure FnOk (P : Program) (w : World) (K : PySem.W.Frag) (mg : Str → Option Value) (base : Heap) (CX : CXT) (k : Nat) (f : Addr) (fd : FuncData) (ps : List Str) (sp : Sp) : Prop where
  len : ∀ vs H Q E, sp vs H Q E → vs.length = ps.length
  run : ∀ (A : Around) (outer : List Env) (s : Shared) (H : Hp) (args : Args) (us : List Value) (vs : List V) (Q : VK) (E : XK), Room k A → Env0 P w K mg base A outer s H → BindsTo s fd args (ps.zip us) → Vals vs us → sp vs H Q E →
    codeAny (model P w) A (.call (.ref f) args) (CR CX outer P w H s Q E) s


section
variable {X : Cx} {pins : List (Addr × Obj)} {σ : St} {H : Hp} {s s' : Shared}
/-- from a body: what a callee wants -/
theorem Inv.env0 (I : Inv X pins σ H s) : Env0 X.prog X.w X.K X.mg X.base X.A X.stack s H :=
  ⟨I.ok.frames, I.ok.mod, I.bs, Nat.le_trans I.ok.bsz I.sz, I.stack, I.stkFree, I.hok, I.bare⟩
/-- behind a call -/
theorem Inv.after {Q : VK} {u : Value} (I : Inv X pins σ H s) (h : CE X.stack X.prog X.w H s Q u s') : EP X pins σ Q u s' := by
  obtain ⟨v, H', os, bare, un, hok, r, q⟩ := h
  obtain ⟨hh, g, d, t, os'⟩ := s'
  obtain rfl : os' = s.os := os
  exact ⟨v, H', I.call (h' := hh) (g' := g) (d' := d) (t' := t) (ch := []) un hok bare (fun b z => absurd z (by simp)), r, q⟩
end

/-! ### calls -/
/-- f(..): the written arguments, then the defaults dvs; E: what is wanted of an exception -/
def tCall (sp : Sp) (dvs : List V) (E : XK) (t : TA) : TE := fun σ H Q => t σ H fun vs H1 => sp (vs ++ dvs) H1 Q E

/-- how the parameters are bound: us the positional arguments, kw the keywords' values by name, ds the defaults that fill up -/
def Binds (K : PySem.W.Frag) (fd : FuncData) (ps : List Str) (ds : List Value) : Prop :=
  ∀ (s : Shared) (us : List Value), K.In s.heap → (us ++ ds).length = ps.length → BindsTo s fd ⟨us, []⟩ (ps.zip (us ++ ds))
/-- every parameter is given -/
theorem Binds.all {K : PySem.W.Frag} {fd : FuncData} {ps : List Str} (h : ∀ us : List Value, us.length = ps.length → bindArgs fd ⟨us, []⟩ = pure (ps.zip us)) : Binds K fd ps [] := fun s us _ hl => by
  rw [List.append_nil] at hl ⊢
  exact .of_eq (h us hl)

/-- an exception of a callee reaches what this body wants of exceptions -/
def Passes (CX : CXT) (X : Cx) (E : XK) : Prop := ∀ (pins : List (Addr × Obj)) (σ : St) (H : Hp) (s : Shared) (e : Value) (s' : Shared), Inv X pins σ H s → CX X.stack H s E e s' → X.xe e s'

section
variable {X : Cx} {CX : CXT} {k : Nat} {f C : Addr} {fd : FuncData} {ps : List Str} {sp : Sp} {dvs : List V} {ds : List Value} {E : XK} {x m : Str} {p pos apos : Pos} {e o : Expr} {es : List Expr} {ta : TE} {t : TA}

/-- the callee runs -/
theorem run_fn {pins : List (Addr × Obj)} {σ : St} {H : Hp} {s : Shared} {Q : VK} {us : List Value} {vs : List V} (F : FnOk X.prog X.w X.K X.mg X.base CX k f fd ps sp) (hr : Room k X.A) (hb : Binds X.K fd ps ds) (hd : Vals dvs ds) (hx : Passes CX X E)
    (I : Inv X pins σ H s) (r : Vals vs us) (h : sp (vs ++ dvs) H Q E) : wpAny (model X.prog X.w) X.A (call (.ref f) us) (EP X pins σ Q) X.xe s := by
  have r2 : Vals (vs ++ dvs) (us ++ ds) := r.append hd
  have hl : (us ++ ds).length = ps.length := by rw [← r2.length]; exact F.len _ _ _ _ h
  refine wpAny_call (codeAny_mono (F.run X.A X.stack s H ⟨us, []⟩ (us ++ ds) (vs ++ dvs) Q E hr I.env0 (hb s us I.kIn hl) r2 h) fun r s' hq => ?_)
  cases r with
  | error e => exact hx pins σ H s e s' I hq
  | ok fl =>
    cases fl with
    | ret u => exact I.after hq
    | next => exact False.elim hq
    | brk => exact False.elim hq
    | cont => exact False.elim hq

theorem pe_call (F : FnOk X.prog X.w X.K X.mg X.base CX k f fd ps sp) (hr : Room k X.A) (hg : Gl X x) (hm : X.mg x = some (.ref f)) (hk : PySem.W.keepIn X.K (.ref f) = true) (hb : Binds X.K fd ps ds) (hd : Vals dvs ds) (hx : Passes CX X E)
    (ha : PA X (e :: es) t) (hdb : (x == ("__debug__" : Str)) = false := by decide) (he : starEach (e :: es) X.env = (false, eval e X.env) :: starEach es X.env := by rfl) (hpl : (backTo pos (starEach es X.env)).any (·.1) = false := by rfl) :
    PE X (.Call (.Name x p) (e :: es) [] pos) (tCall sp dvs E t) := by
  intro pins s σ H Q I h
  refine wpAny_Call_Name_kw (ld_glob I hg hm ?_ hdb)
  refine PySem.W.callWith_K (h₀ := X.base) I.ok.mod.kin hk (thn (ha pos pins s σ H _ I h) fun us s1 ⟨vs, H1, I1, r, q⟩ => ⟨I1.kIn, ?_⟩) he hpl
  exact run_fn F hr hb hd hx I1 r q



end

/-! ### keywords -/
section
variable {X : Cx} {CX : CXT} {k : Nat} {f C : Addr} {fd : FuncData} {ps ks : List Str} {sp : Sp} {E : XK} {x m : Str} {p pos apos kpos : Pos} {e o : Expr} {es : List Expr} {kws : List Keyword} {te ta : TE} {t tk : TA} {nm : Option Str}

variable {g : List Value → List Value → List Value} {gV : List V → List V → List V}
end

/-! ### a def's body keeps its promise -/
/-- names: the parameters first -/
structure FnScope (N P : List Str) (sc : Scope) : Prop where
  kind : sc.kind = .function
  co : sc.isCoroutine = false
  gen : sc.isGenerator = false
  nd : N.Nodup
  pre : N.take P.length = P
  par : ∀ x ∈ P, sc.names.lookup x = some .local ∨ sc.names.lookup x = some .cell
  nofree : ∀ y ∈ sc.names, y.2 ≠ .free

theorem bindL_out {kindOf : Str → Option NameKind} {x : Str} : ∀ {binds : List (Str × Value)} {m : Str → Option Value}, (∀ v, (x, v) ∉ binds) → bindL kindOf binds m x = m x
  | [], _, _ => rfl
  | (n, v) :: r, m, h => by
    unfold bindL
    rw [bindL_out fun w hw => h w (List.mem_cons_of_mem _ hw)]
    split
    · have : x ≠ n := by rintro rfl; exact h v List.mem_cons_self
      simp [this]
    · rfl
theorem bindC_out {kindOf : Str → Option NameKind} {x : Str} : ∀ {binds : List (Str × Value)} {m : Str → Option Value}, (∀ v, (x, v) ∉ binds) → bindC kindOf binds m x = m x
  | [], _, _ => rfl
  | (n, v) :: r, m, h => by
    unfold bindC
    rw [bindC_out fun w hw => h w (List.mem_cons_of_mem _ hw)]
    split
    · rfl
    · have : x ≠ n := by rintro rfl; exact h v List.mem_cons_self
      simp [this]
theorem bindL_get {kindOf : Str → Option NameKind} {x : Str} {v : Value} : ∀ {P : List Str} {vs : List Value} {i : Nat} {m : Str → Option Value}, P.Nodup → P[i]? = some x → vs[i]? = some v → kindOf x = some .local →
    bindL kindOf (P.zip vs) m x = some v
  | [], _, _, _, _, h, _, _ => by simp at h
  | _ :: _, [], _, _, _, _, h, _ => by simp at h
  | p :: P, w :: vs, 0, m, nd, h1, h2, hk => by
    simp at h1 h2; subst h1; subst h2
    show bindL kindOf ((p, w) :: P.zip vs) m p = _
    unfold bindL
    rw [bindL_out fun v hv => (List.nodup_cons.mp nd).1 (List.of_mem_zip hv).1, if_pos hk]
    simp
  | p :: P, w :: vs, i + 1, m, nd, h1, h2, hk => by
    show bindL kindOf ((p, w) :: P.zip vs) m x = _
    unfold bindL
    exact bindL_get (i := i) (List.nodup_cons.mp nd).2 (by simpa using h1) (by simpa using h2) hk
theorem bindC_get {kindOf : Str → Option NameKind} {x : Str} {v : Value} : ∀ {P : List Str} {vs : List Value} {i : Nat} {m : Str → Option Value}, P.Nodup → P[i]? = some x → vs[i]? = some v → kindOf x ≠ some .local →
    bindC kindOf (P.zip vs) m x = some v
  | [], _, _, _, _, h, _, _ => by simp at h
  | _ :: _, [], _, _, _, _, h, _ => by simp at h
  | p :: P, w :: vs, 0, m, nd, h1, h2, hk => by
    simp at h1 h2; subst h1; subst h2
    show bindC kindOf ((p, w) :: P.zip vs) m p = _
    unfold bindC
    rw [bindC_out fun v hv => (List.nodup_cons.mp nd).1 (List.of_mem_zip hv).1, if_neg hk]
    simp
  | p :: P, w :: vs, i + 1, m, nd, h1, h2, hk => by
    show bindC kindOf ((p, w) :: P.zip vs) m x = _
    unfold bindC
    exact bindC_get (i := i) (List.nodup_cons.mp nd).2 (by simpa using h1) (by simpa using h2) hk

/-- the names' values at the entry -/
def start (N : List Str) (vs : List V) : St := vs.map some ++ List.replicate (N.length - vs.length) none

/-- the context of a def's body, at its entry; an exception leaves the frame, then lies as CX says -/
def cxOf (CX : CXT) (P : Program) (w : World) (K : PySem.W.Frag) (mg : Str → Option Value) (base : Heap) (N : List Str) (qual : Str) (scope : Scope) (f : Addr) (cd : Value) (A : Around) (outer : List Env) (s : Shared) (H : Hp) (E : XK) : Cx where
  prog := P
  w := w
  K := K
  mg := mg
  base := base
  A := A.deeper (envOfC qual scope s.heap.objs.size f cd)
  N := N
  s₀ := s
  H₀ := H
  env := envOfC qual scope s.heap.objs.size f cd
  outer := outer
  stack := envOfC qual scope s.heap.objs.size f cd :: outer
  ex := []
  calm := true
  fn := fun _ => true
  pn := []
  xe := fun e s' => wpAny (model P w) (A.deeper (envOfC qual scope s.heap.objs.size f cd)) (leaving (envOfC qual scope s.heap.objs.size f cd) e) (fun _ s'' => CX outer H s E e s'') (fun e' s'' => CX outer H s E e' s'') s'

theorem cell_has {sc : Scope} {n : Nat} {x : Str} (h : sc.names.lookup x = some .cell) : ∃ c, (cellsFrom n sc.names []).lookup x = some c := by
  have q := PySem.W.cellsFrom_some sc.names n [] (.inl h)
  exact Option.isSome_iff_exists.mp q

theorem inv_start {CX : CXT} {P : Program} {w : World} {K : PySem.W.Frag} {mg : Str → Option Value} {base : Heap} {N ps : List Str} {qual : Str} {scope : Scope} {f : Addr} {cd : Value} {A : Around} {outer : List Env} {s s1 : Shared} {H : Hp} {E : XK} {us : List Value} {vs : List V}
    (S : FnScope N ps scope) (hd : A.handled = none) (e0 : Env0 P w K mg base A outer s H) (hl : vs.length = ps.length) (r : Vals vs us)
    (x : InCallC s s.heap.objs.size (bindL (envOfC qual scope s.heap.objs.size f cd).kindOf (ps.zip us) fun _ => none) (cellsFrom (s.heap.objs.size + 1) scope.names []) (bindC (envOfC qual scope s.heap.objs.size f cd).kindOf (ps.zip us) fun _ => none) s1) :
    Inv (cxOf CX P w K mg base N qual scope f cd A outer s H E) [] (start N vs) H s1 := by
  have hpl : ps.length ≤ N.length := by have := congrArg List.length S.pre; rw [List.length_take] at this; omega
  obtain ⟨h1, tk, rfl, hk⟩ := x.done
  have noA : ∀ b : Addr, b ∉ (cxOf CX P w K mg base N qual scope f cd A outer s H E).ex := fun b z => absurd (show b ∈ ([] : List Addr) from z) (by simp)
  refine ⟨⟨e0.mod, S.kind, rfl, rfl, Nat.le_refl _, fun y z c h1 h2 => ?_, fun y hy => ?_, fun y c _ h => ?_, fun _ => hd, Around.frames_deeper e0.frames, .inr ⟨rfl, rfl⟩, fun b z => absurd z (noA b), e0.bs, e0.bsz, fun b _ _ => noA b, fun b z => absurd z (noA b), e0.funs, e0.frf⟩,
    rfl, e0.bare, Un.kept hk, ⟨_, x.toInCall.ns, fun i y v h1 h2 h3 => ?_⟩, fun y c h => ⟨_, x.cell y c h⟩, e0.hok.fresh (Nat.le_refl _), fun y c h => ?_, fun p hp => absurd (show p ∈ ([] : List (Addr × Obj)) from hp) (by simp), e0.hok.kept hk, ?_⟩
  · exact name_of_addr x.apart (PySem.mem_of_lookup h1) (PySem.mem_of_lookup h2)
  · have hy : scope.names.lookup y = some .cell ∨ scope.names.lookup y = some .free := hy
    rcases hy with hy | hy
    · exact cell_has hy
    · exact absurd rfl (S.nofree _ (PySem.mem_of_lookup hy))
  · exact Nat.le_of_lt (x.above y c (PySem.mem_of_lookup h))
  · have hi : i < vs.length := by
      unfold start at h2
      by_cases hi : i < vs.length
      · exact hi
      · rw [List.getElem?_append_right (by simpa using hi)] at h2
        rw [List.getElem?_replicate] at h2
        split at h2 <;> cases h2
    have ha : vs[i]? = some v := by
      unfold start at h2
      rw [List.getElem?_append_left (by simpa using hi), List.getElem?_map] at h2
      cases e : vs[i]? with
      | none => rw [e] at h2; cases h2
      | some a => rw [e] at h2; cases h2; rfl
    obtain ⟨u, hu, rv⟩ := r.get ha
    have hp : ps[i]? = some y := by
      rw [← S.pre, List.getElem?_take_of_lt (by omega)]; exact h1
    have ndP : ps.Nodup := by rw [← S.pre]; exact S.nd.sublist (List.take_sublist _ _)
    refine ⟨u, rv, ?_⟩
    rcases S.par y (List.mem_of_getElem? hp) with k | k
    · exact .inl ⟨k, bindL_get ndP hp hu k⟩
    · obtain ⟨c, e⟩ := cell_has (n := s.heap.objs.size + 1) k
      refine .inr ⟨.inl k, c, e, ?_⟩
      have q := x.cell y c e
      rw [bindC_get ndP hp hu (by show scope.names.lookup y ≠ _; rw [k]; decide)] at q
      exact q
  · exact e0.hok.fresh (Nat.le_of_lt (x.above y c (PySem.mem_of_lookup h)))
  · unfold start
    show _ = N.length
    rw [List.length_append, List.length_map, List.length_replicate]
    omega

/-- THE RULE: a def (or a method) of the text, by its body. The body's reading t is chosen for each entry; it is run at the parameters' values -/
theorem fn_of {CX : CXT} {P : Program} {w : World} {K : PySem.W.Frag} {mg : Str → Option Value} {base : Heap} {k : Nat} {f : Addr} {name qual : Str} {params : Arguments} {body : List Stmt} {scope : Scope} {dV kV doc pm cdv ct oc : Value} {an od : Option Addr}
    {osl : Array (Option Value)} {N ps : List Str} {sp : Sp} (lk : K.lookup f = some ⟨oc, od, .func (PySem.W.fnOf name qual params body scope dV kV doc pm an cdv ct), osl⟩) (hcd : PySem.W.codeIn K cdv qual = true) (S : FnScope N ps scope)
    (len : ∀ vs H Q E, sp vs H Q E → vs.length = ps.length)
    (hbody : ∀ (A : Around) (outer : List Env) (s : Shared) (H : Hp) (vs : List V) (Q : VK) (E : XK), Room k (A.deeper (envOfC qual scope s.heap.objs.size f cdv)) → sp vs H Q E →
      ∃ t, PSs (cxOf CX P w K mg base N qual scope f cdv A outer s H E) body t ∧ t { nx := fun _ H' => Q .non H', rt := Q } (start N vs) H) :
    FnOk P w K mg base CX (k + 1) f (PySem.W.fnOf name qual params body scope dV kV doc pm an cdv ct) ps sp := by
  refine ⟨len, fun A outer s H args us vs Q E hr e0 hb r hsp => ?_⟩
  have hl := len _ _ _ _ hsp
  have KX : K.In s.heap := e0.mod.kin.keeps fun b o e => (e0.bs b o e).1
  have lim : s.heap.NoLimit := e0.mod.nolimit.keeps fun b o e => (e0.bs b o e).1
  have hkind : ∀ y ∈ ps.zip us, scope.names.lookup y.1 = some .local ∨ (scope.names.lookup y.1 = some .cell ∧ ((cellsFrom (s.heap.objs.size + 1) scope.names []).lookup y.1).isSome = true) := fun ⟨n, v⟩ hy => by
    rcases S.par n (List.of_mem_zip hy).1 with q | q
    · exact .inl q
    · exact .inr ⟨q, PySem.W.cellsFrom_some _ _ _ (.inl q)⟩
  refine codeAny_call_function hr.depth (KX _ _ lk) rfl S.co S.gen rfl (PySem.W.codeRec_of KX hcd) (hb _ _ _ _ ?_)
  refine wpAny_newFunctionEnv_cells S.kind hkind fun env he s1 x => ?_
  subst he
  refine ⟨lim.keeps x.toInCall.keep, codeAny_func ?_⟩
  obtain ⟨t, ht, hq⟩ := hbody A outer s H vs Q E (hr.deeper _) hsp
  have I : Inv (cxOf CX P w K mg base N qual scope f cdv A outer s H E) [] (start N vs) H s1 := inv_start S hr.hd e0 hl r x
  refine wpAny_mono (ht [] s1 (start N vs) H _ I hq) (fun fl s' hs => ?_) fun e s' hs => hs
  have fin : ∀ {σ' : St} {H' : Hp} {v : V} {u : Value}, Inv (cxOf CX P w K mg base N qual scope f cdv A outer s H E) [] σ' H' s' → RelV v u → Q v H' → CE outer P w H s Q u s' :=
    fun {σ' H' v u} J rv q => ⟨v, H', J.os, J.bare, J.base, J.hok, rv, q⟩
  cases fl with
  | ret u =>
    obtain ⟨v, σ', H', J, rv, q⟩ := hs
    exact fin J rv q
  | next =>
    obtain ⟨σ', H', J, q⟩ := hs
    exact fin (v := V.non) (u := Value.none) J rfl q
  | brk =>
    obtain ⟨_, _, _, q⟩ := hs
    exact False.elim q
  | cont =>
    obtain ⟨_, _, _, q⟩ := hs
    exact False.elim q
end L2

namespace L2
open PySem PySem.Spec PyProof.Rows
section
variable {X : Cx} {x : Str} {p pos : Pos} {e : Expr} {es : List Expr} {t : TA} {id T : String} {r : List V → Hp → VK → Prop}

def tCB (r : List V → Hp → VK → Prop) (t : TA) : TE := fun σ H Q => t σ H fun vs H1 => r vs H1 Q
/-- f(e, ..), f a built-in function -/
theorem pe_callB (hc : CallR X (.builtin id) r) (hg : Gl X x) (hm : X.mg x = none) (hv : bootBuiltins x = some (.builtin id)) (ha : PA X (e :: es) t) (hn : x ≠ "__name__" := by decide) (hdb : (x == ("__debug__" : Str)) = false := by decide)
    (he : starEach (e :: es) X.env = (false, eval e X.env) :: starEach es X.env := by rfl) (hpl : (backTo pos (starEach es X.env)).any (·.1) = false := by rfl) : PE X (.Call (.Name x p) (e :: es) [] pos) (tCB r t) := by
  intro pins s σ H Q I h
  refine wpAny_Call_Name_kw (ld_blt I hg hm hv ?_ hn hdb)
  exact PyProof.Rows.callWith_builtin1 (thn (ha pos pins s σ H _ I h) fun us s1 ⟨vs, H1, I1, r1, q1⟩ => hc pins s1 σ H1 vs us Q I1 r1 q1) he hpl
/-- T(e, ..), T a built-in type -/
theorem pe_callTy (hc : CallR X (.type T) r) (hg : Gl X x) (hm : X.mg x = none) (hv : bootBuiltins x = some (.type T)) (ha : PA X (e :: es) t) (hn : x ≠ "__name__" := by decide) (hdb : (x == ("__debug__" : Str)) = false := by decide)
    (he : starEach (e :: es) X.env = (false, eval e X.env) :: starEach es X.env := by rfl) (hpl : (backTo pos (starEach es X.env)).any (·.1) = false := by rfl) : PE X (.Call (.Name x p) (e :: es) [] pos) (tCB r t) := by
  intro pins s σ H Q I h
  refine wpAny_Call_Name_kw (ld_blt I hg hm hv ?_ hn hdb)
  exact PyProof.Rows.callWith_type1 (thn (ha pos pins s σ H _ I h) fun us s1 ⟨vs, H1, I1, r1, q1⟩ => hc pins s1 σ H1 vs us Q I1 r1 q1) he hpl
end
end L2

namespace HT
open PySem PyProof.Rows



section
open PySem.SeqAt
open PySem.AutoSeq1 (wpAny_loadPart')
open PySem.MeetsSeq PySem.MeetsSeq2 PySem.MeetsSeq3

end

section
variable {prog : Program} {w : World} {A : Around} {E : Value → Shared → Prop} {s : Shared}


/-- t + u, t not empty -/
theorem cat_tup {t b : Addr} {vs ws : List Value} {Q : Value → Shared → Prop} (ht : IsTup s.heap t vs.toArray) (hb : IsTup s.heap b ws.toArray) (hv : vs ≠ [])
    (h1 : ws = [] → Q (.ref t) s) (h2 : ws ≠ [] → Q (.ref s.heap.objs.size) { s with heap := s.heap.push { cls := .type "tuple", data := .seq (vs ++ ws).toArray } })
    (hsz : vs.length + ws.length ≤ sizeLine) : wpAny (model prog w) A (binaryOp .Add (.ref t) (.ref b)) Q E s := by
  obtain ⟨⟨cls, dd, data, sl⟩, ho, hc, n, hd⟩ := id ht
  obtain ⟨⟨cls2, dd2, data2, sl2⟩, ho2, hc2, n2, hd2⟩ := id hb
  simp only at hc hd hc2 hd2
  subst hc hd hc2 hd2
  have e : vs.toArray ++ ws.toArray = (vs ++ ws).toArray := by simp
  by_cases hw : ws = []
  · exact concat_meets ⟨_, ho, rfl⟩ ⟨_, ho2, rfl⟩ noFill_tuple_add seq_tuple_add PySem.F.slot_tuple_add PySem.F.entry_tuple_add (PySem.F.args_tuple_add_2 _ _)
      (tuple_addW1 t b vs.toArray ws.toArray n n2 dd dd2 sl sl2 (by simpa using hv) (by simp [hw])) ⟨ho, ho2, h1 hw⟩
  · refine concat_meets ⟨_, ho, rfl⟩ ⟨_, ho2, rfl⟩ noFill_tuple_add seq_tuple_add PySem.F.slot_tuple_add PySem.F.entry_tuple_add (PySem.F.args_tuple_add_2 _ _)
      (tuple_addW2 t b vs.toArray ws.toArray n n2 dd dd2 sl sl2 (by simpa using hv) (by simpa using hw) (by rw [List.size_toArray, List.size_toArray]; exact hsz)) ⟨ho, ho2, ?_⟩
    rw [e]
    exact h2 hw

/-! ### t[a:b], not the whole -/
/-- a slice's bound as a place among n (d where it is left out) -/
def sIx (n d : Nat) : Option Int → Nat
  | none => d
  | some v => if v < 0 then (v + (n : Int)).toNat else min v.toNat n
theorem sIx_le (n d : Nat) (hd : d ≤ n) (o : Option Int) : sIx n d o ≤ n := by
  cases o with
  | none => exact hd
  | some v =>
    show (if v < 0 then (v + (n : Int)).toNat else min v.toNat n) ≤ n
    by_cases hv : v < 0
    · rw [if_pos hv]; omega
    · rw [if_neg hv]; exact Nat.min_le_right _ _
theorem clip_eq (v : Int) (n d : Nat) : (if v < 0 then max (v + (n : Int)) 0 else min v (n : Int)) = ((sIx n d (some v) : Nat) : Int) := by
  show (if v < 0 then max (v + (n : Int)) 0 else min v (n : Int)) = (((if v < 0 then (v + (n : Int)).toNat else min v.toNat n) : Nat) : Int)
  by_cases hv : v < 0
  · simp only [if_pos hv]; omega
  · simp only [if_neg hv]; omega
theorem adjust_gen (lo hi : Option Int) (n : Nat) : Builtin.Slice.sliceAdjust lo hi 1 (n : Int) = (((sIx n 0 lo : Nat) : Int), ((sIx n n hi : Nat) : Int)) := by
  have h1 : ¬ ((1 : Int) < 0) := by omega
  unfold Builtin.Slice.sliceAdjust
  simp only [h1, if_false]
  refine Prod.ext ?_ ?_
  · cases lo with
    | none => rfl
    | some v => exact clip_eq v n 0
  · cases hi with
    | none => rfl
    | some v => exact clip_eq v n n
theorem places_gen (i j : Nat) : Builtin.Slice.slicePlaces (i : Int) (j : Int) 1 = j - i := by
  unfold Builtin.Slice.slicePlaces
  have h1 : (1 : Int) > 0 := by omega
  simp only [h1, if_true, Int.ediv_one]
  split <;> omega
theorem slicePart_ {v : Value} {o : Option Int} {Q : Option Int → Shared → Prop} (p : IsPart v o) (h : Q o s) : wpAny (model prog w) A (Builtin.Slice.slicePartIndex v) Q E s := by
  cases p with
  | none => exact slicePart_none h
  | int i t => exact slicePart_int h
theorem sliceApplied_gen {sl : Addr} {vl vu : Value} {lo hi : Option Int} {n : Nat} {Q : Int × Int × Nat → Shared → Prop} (hs : s.heap.IsSliceOf sl vl vu .none) (pl : IsPart vl lo) (pu : IsPart vu hi)
    (h : Q (((sIx n 0 lo : Nat) : Int), 1, sIx n n hi - sIx n 0 lo) s) : wpAny (model prog w) A (Builtin.Slice.sliceApplied (.ref sl) (pure (n : Int))) Q E s := by
  obtain ⟨os, hos, hcs, hds⟩ := id hs
  unfold Builtin.Slice.sliceApplied Builtin.Slice.sliceFields
  refine wpAny_bind (wpAny_bind (wpAny_field hos hds (x := vl) rfl (wpAny_bind (wpAny_field hos hds (x := vu) rfl (wpAny_bind (wpAny_field hos hds (x := .none) rfl (wpAny_pure ?_)))))))
  refine wpAny_bind (slicePart_none ?_)
  show wpAny _ _ (if ((1 : Int) == 0) = true then _ else _) _ _ s
  rw [if_neg (by decide)]
  refine wpAny_bind (slicePart_ pl (wpAny_bind (slicePart_ pu (wpAny_bind (wpAny_pure ?_)))))
  show wpAny _ _ (match Builtin.Slice.sliceAdjust lo hi 1 (n : Int) with | (lo, hi) => pure (lo, (1 : Int), Builtin.Slice.slicePlaces lo hi 1)) _ _ s
  rw [adjust_gen lo hi n]
  show wpAny _ _ (pure (((sIx n 0 lo : Nat) : Int), (1 : Int), Builtin.Slice.slicePlaces ((sIx n 0 lo : Nat) : Int) ((sIx n n hi : Nat) : Int) 1)) _ _ s
  rw [places_gen]
  exact wpAny_pure h
theorem pick_gen (xs : Array Value) (i k : Nat) : ((List.range k).filterMap fun (m : Nat) => xs[((i : Int) + (m : Int) * 1).toNat]?).toArray = ((xs.toList.drop i).take k).toArray := by
  have e : (fun (m : Nat) => xs[((i : Int) + (m : Int) * 1).toNat]?) = fun m => xs[i + m]? := by
    funext m
    have : ((i : Int) + (m : Int) * 1).toNat = i + m := by omega
    rw [this]
  rw [e]
  have := pick_run xs i k
  rw [List.filterMap_map] at this
  have e2 : ((fun x => xs[x]?) ∘ fun x => i + x) = fun m => xs[i + m]? := rfl
  rw [e2] at this
  rw [this]

theorem getItem_tuple_cut {t sl : Addr} {items : Array Value} {vl vu : Value} {lo hi : Option Int} {Q : Value → Shared → Prop} (ht : IsTup s.heap t items) (hs : s.heap.IsSliceOf sl vl vu .none) (pl : IsPart vl lo) (pu : IsPart vu hi)
    (hw : ¬ (sIx items.size 0 lo = 0 ∧ sIx items.size items.size hi = items.size))
    (h : Q (.ref s.heap.objs.size) { s with heap := s.heap.push { cls := .type "tuple", data := .seq ((items.toList.drop (sIx items.size 0 lo)).take (sIx items.size items.size hi - sIx items.size 0 lo)).toArray } })
    (hsz : items.size ≤ sizeLine) : wpAny (model prog w) A (getItem (.ref t) (.ref sl)) Q E s := by
  have htake : sizeOk (.seq ((items.toList.drop (sIx items.size 0 lo)).take (sIx items.size items.size hi - sIx items.size 0 lo)).toArray) := by
    show ((items.toList.drop (sIx items.size 0 lo)).take (sIx items.size items.size hi - sIx items.size 0 lo)).toArray.size ≤ sizeLine
    rw [List.size_toArray, List.length_take, List.length_drop, Array.length_toList]
    omega
  have hj : sIx items.size items.size hi ≤ items.size := sIx_le _ _ (Nat.le_refl _) hi
  obtain ⟨os, hos, hcs, hds⟩ := id hs
  have hTs : s.TypeIs (.ref sl) "slice" := ⟨os, hos, hcs⟩
  unfold getItem
  try with_reducible refine wpAny_holding ?_
  first | refine wpAny_bind (wpAny_pure ?_) | skip
  refine wpAny_bind (wpAny_sequenceKey ht.typeIs (by decide) ?_)
  refine wpAny_bind (wpAny_callSpecial?_slot (name := Str.ofString "__getitem__") ht.typeIs PyProof.Rows.slot_tuple_getitem
    (wpAny_call_entry PyProof.Rows.slot_tuple_getitem ht.typeIs entry_tuple_getitem ?_ (args_tuple_getitem _ _)))
  show wpAny _ _ (Builtin.Tuple.tupleItemsOf (.ref t) >>= _) _ _ s
  refine wpAny_bind (tupleItemsOf_ ht ?_)
  refine wpAny_bind (wpAny_typeOf hTs ?_)
  rw [if_pos (by decide)]
  refine wpAny_bind (sliceApplied_gen hs pl pu ?_)
  have hno : ¬ ((((sIx items.size 0 lo : Nat) : Int) == 0 && (1 : Int) == 1 && (sIx items.size items.size hi - sIx items.size 0 lo) == items.size) = true) := by
    intro q
    rw [Bool.and_eq_true, Bool.and_eq_true] at q
    have q1 : ((sIx items.size 0 lo : Nat) : Int) = 0 := eq_of_beq q.1.1
    have q2 : sIx items.size items.size hi - sIx items.size 0 lo = items.size := eq_of_beq q.2
    exact hw ⟨by omega, by omega⟩
  show wpAny _ _ (if (((sIx items.size 0 lo : Nat) : Int) == 0 && (1 : Int) == 1 && (sIx items.size items.size hi - sIx items.size 0 lo) == items.size) = true then _ else _) _ _ s
  rw [if_neg hno, pick_gen]
  first
    | exact wpAny_bind (m := Builtin.Tuple.tupleExact _) (wpAny_newObj_type (wpAny_pure ⟨_, rfl, wpAny_pure h⟩) htake)
    | exact wpAny_bind (m := Builtin.Tuple.tupleExact _) (wpAny_newObj_type (wpAny_bind (wpAny_pure (wpAny_pure ⟨_, rfl, wpAny_pure h⟩))) htake)
    | exact wpAny_bind (wpAny_bind (m := Builtin.Tuple.tupleExact _) (wpAny_newObj_type (wpAny_pure (wpAny_pure ⟨_, rfl, wpAny_pure h⟩)) htake))
    | exact wpAny_bind (wpAny_bind (m := Builtin.Tuple.tupleExact _) (wpAny_newObj_type (wpAny_pure ⟨_, rfl, wpAny_pure h⟩) htake))
end
end HT

namespace L2
open PySem PySem.Spec PyProof.Rows

/-! ### the parts of a slice -/
abbrev TO := St → Hp → (Option Int → Hp → Prop) → Prop
/-- a slice's part (left out, or an int) -/
def PO (X : Cx) (e : Option Expr) (t : TO) : Prop :=
  ∀ (pins : List (Addr × Obj)) (s : Shared) (σ : St) (H : Hp) (Q : Option Int → Hp → Prop), Inv X pins σ H s → t σ H Q →
    wpAny (model X.prog X.w) X.A (evalPart e X.env) (fun u s' => ∃ o H', Inv X pins σ H' s' ∧ IsPart u o ∧ Q o H') X.xe s
def tNoPart : TO := fun _ H Q => Q none H
def tPart (t : TE) : TO := fun σ H Q => t σ H fun x H1 => ∃ i, x = .int i ∧ Q (some i) H1


section
variable {X : Cx} {e : Expr} {te : TE} {lo hi : Option Expr} {tl th : TO} {pos p2 : Pos}

theorem po_none : PO X none tNoPart := by
  intro pins s σ H Q I h
  rw [evalPart_none]
  exact wpAny_pure ⟨none, H, I, .none, h⟩
theorem po_some (h : PE X e te) : PO X (some e) (tPart te) := by
  intro pins s σ H Q I hw
  rw [evalPart_some]
  refine thn (h pins s σ H _ I hw) fun u s1 ⟨x, H1, I1, r1, q1⟩ => ?_
  obtain ⟨i, rfl, q⟩ := q1
  obtain ⟨t, rfl⟩ := r1
  exact ⟨some i, H1, I1, .int i t, q⟩

/-- what a slice of a value is, by values: the slice object stands at sl -/
def SlR (X : Cx) (r : V → Option Int → Option Int → Hp → VK → Prop) : Prop :=
  ∀ (pins : List (Addr × Obj)) (s : Shared) (σ : St) (H : Hp) (x : V) (v vl vu : Value) (lo hi : Option Int) (sl : Addr) (Q : VK), Inv X pins σ H s → RelV x v → s.heap.IsSliceOf sl vl vu .none → IsPart vl lo → IsPart vu hi → r x lo hi H Q →
    ∃ T id, typeLookup (.type T) "__getitem__" = pure (some (.builtin id)) ∧ s.TypeIs v T ∧ wpAny (model X.prog X.w) X.A (getItem v (.ref sl)) (EP X pins σ Q) X.xe s
def tSl (r : V → Option Int → Option Int → Hp → VK → Prop) (te : TE) (tl th : TO) : TE := fun σ H Q => te σ H fun x H1 => tl σ H1 fun l H2 => th σ H2 fun u H3 => r x l u H3 Q
/-- a[lo:hi], any a -/
theorem pe_slice {r : V → Option Int → Option Int → Hp → VK → Prop} (hr : SlR X r) (he : PE X e te) (hl : PO X lo tl) (hu : PO X hi th) : PE X (.Subscript e (.Slice lo hi none p2) pos) (tSl r te tl th) := by
  intro pins s σ H Q I h
  refine Subscript_ (thn (he pins s σ H _ I h) fun v s1 ⟨x, H1, I1, r1, q1⟩ => ?_)
  refine wpAny_Slice (thn (hl pins s1 σ H1 _ I1 q1) fun vl s2 ⟨l, H2, I2, pl, q2⟩ => thn (hu pins s2 σ H2 _ I2 q2) fun vu s3 ⟨u, H3, I3, pu, q3⟩ => ?_)
  rw [evalPart_none]
  refine wpAny_pure ?_
  have I4 : Inv X pins σ H3 { s3 with heap := s3.heap.push { cls := .type "slice", data := .fields #[vl, vu, .none] } } := I3.kept (t' := s3.toks) fun b ob q => Heap.get?_push_of_some _ q
  obtain ⟨T, id, hT, ht, hg⟩ := hr pins { s3 with heap := s3.heap.push { cls := .type "slice", data := .fields #[vl, vu, .none] } } σ H3 x v vl vu l u s3.heap.objs.size Q I4 r1 (Heap.IsSliceOf.new ..) pl pu q3
  show wpAny (model X.prog X.w) X.A (subscriptTail e (.Slice lo hi none p2) v (.ref s3.heap.objs.size)) (EP X pins σ Q) X.xe { s3 with heap := s3.heap.push { cls := .type "slice", data := .fields #[vl, vu, .none] } }
  exact tail_any (ops := [.ref s3.heap.objs.size, v]) ht hT hg (by with_unfolding_all rfl)

/-- the items of xs[lo:hi] -/
def cutV (xs : List V) (lo hi : Option Int) : List V := (xs.drop (HT.sIx xs.length 0 lo)).take (HT.sIx xs.length xs.length hi - HT.sIx xs.length 0 lo)
theorem cutV_length (xs : List V) (lo hi : Option Int) : (cutV xs lo hi).length ≤ xs.length := by
  unfold cutV
  rw [List.length_take, List.length_drop]
  omega
/-- t[lo:hi], not the whole of it (the whole would be t itself) -/
def rSlT (K : PySem.W.Frag) : V → Option Int → Option Int → Hp → VK → Prop := fun x lo hi H Q => ∃ a xs, x = .ref a ∧ SqT K H a xs ∧
  ¬ (HT.sIx xs.length 0 lo = 0 ∧ HT.sIx xs.length xs.length hi = xs.length) ∧ ∀ p, H p = none → Q (.ref p) (upd H p (.tup (cutV xs lo hi)))
theorem sl_tup : SlR X (rSlT X.K) := by
  intro pins s σ H x v vl vu lo hi sl Q I rx hs pl pu h
  obtain ⟨a, xs, rfl, hx, hw, q⟩ := h
  cases rx
  obtain ⟨its, r, ht, hz⟩ := I.tuple hx
  have hlen : its.toArray.size = xs.length := by rw [List.size_toArray]; exact r.length.symm
  refine ⟨"tuple", _, PyProof.Rows.slot_tuple_getitem.lookup, ht.typeIs, ?_⟩
  refine HT.getItem_tuple_cut ht hs pl pu (by rw [hlen]; exact hw) ?_ (by rw [hlen]; exact hz)
  rw [hlen]
  refine ⟨.ref s.heap.objs.size, _, I.laid (t' := s.toks) (o := .tup (cutV xs lo hi)) (fun b ob q => Heap.get?_push_of_some _ q) (Nat.le_refl _) ?_, rfl, q _ (I.hok.fresh (Nat.le_refl _))⟩
  exact ⟨Nat.le_trans (cutV_length xs lo hi) hz, _, (r.drop (HT.sIx xs.length 0 lo)).take (HT.sIx xs.length xs.length hi - HT.sIx xs.length 0 lo), IsTup.new _ _⟩

/-! ### t < u, t + u -/
/-- t + u, t not empty: u empty gives t itself -/
def rCatT (K : PySem.W.Frag) : R2 := fun x y H Q => ∃ a b xs ys, x = .ref a ∧ y = .ref b ∧ SqT K H a xs ∧ SqT K H b ys ∧ xs ≠ [] ∧ xs.length + ys.length ≤ sizeLine ∧
  (ys = [] → Q (.ref a) H) ∧ (ys ≠ [] → ∀ p, H p = none → Q (.ref p) (upd H p (.tup (xs ++ ys))))
theorem Vals.nil_iff {xs : List V} {us : List Value} (r : Vals xs us) : us = [] ↔ xs = [] := by
  cases r with
  | nil => simp
  | cons _ _ => simp
theorem op_catT : OpR X (binaryOp .Add) (rCatT X.K) := by
  intro pins s σ H x y v u Q I rx ry h
  obtain ⟨a, b, xs, ys, rfl, rfl, ha, hb, hx, hz, q1, q2⟩ := h
  cases rx
  cases ry
  obtain ⟨its, r1, p1, _⟩ := I.tuple ha
  obtain ⟨its2, r2, p2, _⟩ := I.tuple hb
  refine HT.cat_tup p1 p2 (fun z => hx (r1.nil_iff.mp z)) (fun z => ⟨.ref a, H, I, rfl, q1 (r2.nil_iff.mp z)⟩) (fun z => ?_) (by rw [← r1.length, ← r2.length]; exact hz)
  refine ⟨.ref s.heap.objs.size, _, I.laid (t' := s.toks) (o := .tup (xs ++ ys)) (fun b ob q => Heap.get?_push_of_some _ q) (Nat.le_refl _) ?_, rfl, q2 (fun w => z (r2.nil_iff.mpr w)) _ (I.hok.fresh (Nat.le_refl _))⟩
  exact ⟨by rw [List.length_append]; exact hz, _, r1.append r2, IsTup.new _ _⟩
end
end L2

namespace L2
open PySem PySem.Spec PyProof.Rows

/-! ### places -/
/-- the place that an index of any sign means -/
def ixN (n : Nat) (i : Int) : Option Nat := if 0 ≤ i then (if i < n then some i.toNat else none) else if -(n : Int) ≤ i then some (i + n).toNat else none
def atI {α : Type} (xs : List α) (i : Int) : Option α := (ixN xs.length i).bind fun j => xs[j]?
theorem ixN_seq {n : Nat} {i : Int} {j : Nat} (h : ixN n i = some j) : seqIndex? i n = some j ∧ j < n ∧ -(n : Int) ≤ i ∧ i < n := by
  unfold ixN at h
  by_cases h0 : 0 ≤ i
  · rw [if_pos h0] at h
    by_cases h1 : i < n
    · rw [if_pos h1] at h
      have e : i.toNat = j := Option.some.inj h
      exact ⟨by rw [seqIndex_of h0 h1, e], by omega, by omega, h1⟩
    · rw [if_neg h1] at h; cases h
  · rw [if_neg h0] at h
    by_cases h1 : -(n : Int) ≤ i
    · rw [if_pos h1] at h
      have e : (i + n).toNat = j := Option.some.inj h
      exact ⟨by rw [seqIndex_neg (by omega) h1, e], by omega, h1, by omega⟩
    · rw [if_neg h1] at h; cases h
theorem atI_get {α : Type} {xs : List α} {i : Int} {v : α} (h : atI xs i = some v) : ∃ j, seqIndex? i xs.length = some j ∧ xs[j]? = some v ∧ j < xs.length ∧ -(xs.length : Int) ≤ i ∧ i < xs.length := by
  unfold atI at h
  cases e : ixN xs.length i with
  | none => rw [e] at h; cases h
  | some j =>
    rw [e] at h
    obtain ⟨h1, h2, h3, h4⟩ := ixN_seq e
    exact ⟨j, h1, h, h2, h3, h4⟩
theorem atI_nat {α : Type} {xs : List α} {j : Nat} {v : α} (h : xs[j]? = some v) : atI xs (j : Int) = some v := by
  have hj : j < xs.length := (List.getElem?_eq_some_iff.mp h).1
  have e : ixN xs.length (j : Int) = some j := by
    unfold ixN
    rw [if_pos (by omega), if_pos (by omega)]; simp
  unfold atI; rw [e]; exact h

/-! ### what may be subscripted -/
/-- what stands as an index of a plain subscript -/
def PlainIx (b : Expr) : Prop := ∀ o i, subscripted b false o i = operate [o, i] (getItem o i)
/-- a subscript by values -/
def IxR (X : Cx) (r : R2) : Prop :=
  ∀ (value slice : Expr) (pins : List (Addr × Obj)) (s : Shared) (σ : St) (H : Hp) (x y : V) (v u : Value) (Q : VK), Inv X pins σ H s → RelV x v → RelV y u → r x y H Q →
    subscripted slice false v u = operate [v, u] (getItem v u) → wpAny (model X.prog X.w) X.A (subscriptTail value slice v u) (EP X pins σ Q) X.xe s
/-- a call of a builtin's method by values: the receiver, the arguments -/
def MtR (X : Cx) (id : String) (r : V → List V → Hp → VK → Prop) : Prop :=
  ∀ (pins : List (Addr × Obj)) (s : Shared) (σ : St) (H : Hp) (x : V) (xs : List V) (v : Value) (us : List Value) (Q : VK), Inv X pins σ H s → RelV x v → Vals xs us → r x xs H Q →
    wpAny (model X.prog X.w) X.A (call (.builtin id) (v :: us)) (EP X pins σ Q) X.xe s
section
variable {X : Cx} {a b : Expr} {ta tb : TE} {pos : Pos}
/-- a[b] -/
theorem pe_ix {r : R2} (hr : IxR X r) (ha : PE X a ta) (hb : PE X b tb) (hs : PlainIx b) : PE X (.Subscript a b pos) (tOp r ta tb) := by
  intro pins s σ H Q I h
  exact Subscript_ (binT ha hb I h fun v u s2 x y H2 I2 rx ry q => hr a b pins s2 σ H2 x y v u Q I2 rx ry q (hs _ _))

def rIxL (K : PySem.W.Frag) : R2 := fun x y H Q => ∃ p xs i v, x = .ref p ∧ y = .int i ∧ SqL K H p xs ∧ atI xs i = some v ∧ Q v H
def rIxT (K : PySem.W.Frag) : R2 := fun x y H Q => ∃ p xs i v, x = .ref p ∧ y = .int i ∧ SqT K H p xs ∧ atI xs i = some v ∧ Q v H
theorem ix_list : IxR X (rIxL X.K) := by
  intro value slice pins s σ H x y v u Q I rx ry h hs
  obtain ⟨p, xs, i, z, rfl, rfl, hq, he, q⟩ := h
  cases rx
  obtain ⟨t, rfl⟩ := ry
  obtain ⟨its, r, pl, hz⟩ := I.list hq
  obtain ⟨j, h1, h2, h3, h4, h5⟩ := atI_get he
  obtain ⟨w, ew, rw'⟩ := r.get h2
  have hl := r.length
  have hn := line63
  have fin : EP X pins σ Q w s := ⟨z, H, I, rw', q⟩
  by_cases h0 : 0 ≤ i
  · have hj : i.toNat = j := by
      rw [seqIndex_of h0 h5] at h1
      exact Option.some.inj h1
    exact item_listR pl.isList h0 (by omega) (by rw [hj]; simpa using ew) fin hs
  · have hj : (i + (its.toArray.size : Int)).toNat = j := by
      rw [seqIndex_neg (by omega) h4] at h1
      rw [List.size_toArray, ← hl]
      exact Option.some.inj h1
    exact subscriptTail_builtinR (x := w) pl.isList.typeIs slot_list_getitem.lookup
      (wpAny_getItem_list_neg (Q := fun r s' => r = w ∧ EP X pins σ Q r s') pl.isList (by omega) (by rw [List.size_toArray] <;> omega) (by omega) (by rw [hj]; simpa using ew) ⟨rfl, fin⟩) hs
theorem ix_tup : IxR X (rIxT X.K) := by
  intro value slice pins s σ H x y v u Q I rx ry h hs
  obtain ⟨p, xs, i, z, rfl, rfl, hq, he, q⟩ := h
  cases rx
  obtain ⟨t, rfl⟩ := ry
  obtain ⟨its, r, pl, hz⟩ := I.tuple hq
  obtain ⟨j, h1, h2, h3, h4, h5⟩ := atI_get he
  obtain ⟨w, ew, rw'⟩ := r.get h2
  have hl := r.length
  have hn := line63
  have fin : EP X pins σ Q w s := ⟨z, H, I, rw', q⟩
  exact subscriptTail_builtinR (x := w) pl.typeIs slot_tuple_getitem.lookup
    (getItem_tuple (j := j) (Q := fun r s' => r = w ∧ EP X pins σ Q r s') pl (by omega) (by omega) (by rw [List.size_toArray, ← hl]; exact h1) (by simpa using ew) ⟨rfl, fin⟩) hs

/-! ### xs[i] = v, any sign -/

/-! ### slices -/
theorem slice_bounds (lo hi : Option Int) (n : Nat) : (sliceBounds lo hi none n).1 = ((HT.sIx n 0 lo : Nat) : Int) ∧ (sliceBounds lo hi none n).2.1 = ((HT.sIx n n hi : Nat) : Int) ∧ (sliceBounds lo hi none n).2.2 = 1 := by
  refine ⟨?_, ?_, rfl⟩
  · cases lo with
    | none => simp [sliceBounds, HT.sIx]
    | some i =>
      simp only [sliceBounds, HT.sIx, Option.getD_none, show (1 : Int) > 0 by decide, if_true]
      by_cases h : i < 0
      · simp only [h, if_true] <;> omega
      · simp only [h, if_false] <;> omega
  · cases hi with
    | none => simp [sliceBounds, HT.sIx]
    | some i =>
      simp only [sliceBounds, HT.sIx, Option.getD_none, show (1 : Int) > 0 by decide, if_true]
      by_cases h : i < 0
      · simp only [h, if_true] <;> omega
      · simp only [h, if_false] <;> omega
theorem slicePick_cut (its : List Value) (lo hi : Option Int) : slicePick its.toArray lo hi none = ((its.drop (HT.sIx its.length 0 lo)).take (HT.sIx its.length its.length hi - HT.sIx its.length 0 lo)).toArray := by
  obtain ⟨h1, h2, h3⟩ := slice_bounds lo hi its.toArray.size
  unfold slicePick
  rw [h1, h2, h3]
  simp only [sliceRange_one, pick_run, List.size_toArray] <;> rfl
/-- xs[lo:hi] of a list: a new list -/
def rSlL (K : PySem.W.Frag) : V → Option Int → Option Int → Hp → VK → Prop := fun x lo hi H Q => ∃ a xs, x = .ref a ∧ SqL K H a xs ∧ ∀ p, H p = none → Q (.ref p) (upd H p (.lst (cutV xs lo hi)))
theorem sl_list : SlR X (rSlL X.K) := by
  intro pins s σ H x v vl vu lo hi sl Q I rx hs pl pu h
  obtain ⟨a, xs, rfl, hx, q⟩ := h
  cases rx
  obtain ⟨its, r, ht, hz⟩ := I.list hx
  have hlen := r.length
  refine ⟨"list", _, slot_list_getitem.lookup, ht.isList.typeIs, ?_⟩
  refine wpAny_getItem_list_slice ht.isList hs pl pu .none (by simp) ?_ (by rw [List.size_toArray] <;> omega)
  rw [slicePick_cut, ← hlen]
  refine ⟨.ref s.heap.objs.size, _, I.laid (t' := s.toks) (o := .lst (cutV xs lo hi)) (fun b ob q => Heap.get?_push_of_some _ q) (Nat.le_refl _) ?_, rfl, q _ (I.hok.fresh (Nat.le_refl _))⟩
  exact ⟨Nat.le_trans (cutV_length xs lo hi) hz, _, 0, (r.drop (HT.sIx xs.length 0 lo)).take (HT.sIx xs.length xs.length hi - HT.sIx xs.length 0 lo), Heap.get?_push_size _ rfl⟩

/-! ### in, not in: flat items -/

/-! ### len, list(x), tuple(x) of any list or tuple that is read -/
theorem call_list_of : CallR X (.type "list") (fun xs H Q => ∃ p ys, xs = [.ref p] ∧ (SqL X.K H p ys ∨ SqT X.K H p ys) ∧ ∀ l, H l = none → Q (.ref l) (upd H l (.lst ys))) := by
  intro pins s σ H xs us Q I r h
  obtain ⟨p, ys, rfl, hq, q⟩ := h
  obtain ⟨u, rfl, rx⟩ := vals1 r
  cases rx
  have fin : ∀ (its : List Value), Vals ys its → ys.length ≤ sizeLine → ∀ (h' : Heap) (c' : Nat), (∀ b o', s.heap.get? b = some o' → h'.get? b = some o') →
      h'.get? s.heap.objs.size = some { cls := .type "list", dict := none, data := .seq its.toArray c', slots := #[] } → EP X pins σ Q (.ref s.heap.objs.size) { s with heap := h' } := fun its r' hz h' c' kp e =>
    ⟨.ref s.heap.objs.size, _, I.laid (t' := s.toks) kp (Nat.le_refl _) (show ObjOk X.prog X.w _ h' _ (.lst ys) from ⟨hz, its, c', r', e⟩), rfl, q _ (I.hok.fresh (Nat.le_refl _))⟩
  rcases hq with hq | hq
  · obtain ⟨its, r', pl, hz⟩ := I.list hq
    have hlen := r'.length
    obtain ⟨o, ho, hc, n, hd⟩ := pl.isList
    exact call_list_seq p (.inl rfl) ho hc hd (fun h' c' kp e => fin its r' hz h' c' kp e) (by simp only [List.size_toArray] <;> omega)
  · obtain ⟨its, r', pl, hz⟩ := I.tuple hq
    have hlen := r'.length
    obtain ⟨o, ho, hc, n, hd⟩ := pl
    exact call_list_seq p (.inr rfl) ho hc hd (fun h' c' kp e => fin its r' hz h' c' kp e) (by simp only [List.size_toArray] <;> omega)
theorem call_tuple_of : CallR X (.type "tuple") (fun xs H Q => ∃ p ys, xs = [.ref p] ∧ ((SqL X.K H p ys ∧ ∀ l, H l = none → Q (.ref l) (upd H l (.tup ys))) ∨ (SqT X.K H p ys ∧ Q (.ref p) H))) := by
  intro pins s σ H xs us Q I r h
  obtain ⟨p, ys, rfl, h⟩ := h
  obtain ⟨u, rfl, rx⟩ := vals1 r
  cases rx
  rcases h with ⟨hq, q⟩ | ⟨hq, q⟩
  · obtain ⟨its, r', pl, hz⟩ := I.list hq
    have hlen := r'.length
    refine call_tuple_list pl.isList (fun h' kp => ?_) (by simp only [List.size_toArray] <;> omega)
    have I1 : Inv X pins σ H { s with heap := h' } := I.kept (t' := s.toks) kp
    have I2 : Inv X pins σ (upd H h'.objs.size (.tup ys)) { s with heap := h'.push { cls := .type "tuple", data := .seq its.toArray } } :=
      I1.laid (t' := s.toks) (fun b o e => Heap.get?_push_of_some _ e) (Nat.le_refl _) (show ObjOk X.prog X.w _ _ _ (.tup ys) from ⟨hz, its, r', IsTup.new _ _⟩)
    exact ⟨.ref h'.objs.size, _, I2, rfl, q _ (I1.hok.fresh (Nat.le_refl _))⟩
  · obtain ⟨its, r', pl, hz⟩ := I.tuple hq
    exact call_tuple_same pl ⟨.ref p, H, I, rfl, q⟩

/-! ### the call of a builtin's method: o.m(..) -/
/-- the value is of that builtin type -/
def tyV (K : PySem.W.Frag) (T : String) (x : V) (H : Hp) : Prop := match x with
  | .str _ => T = "str"
  | .int _ => T = "int"
  | .ref p => (T = "list" ∧ ∃ xs, SqL K H p xs) ∨ (T = "tuple" ∧ ∃ o, K.lookup p = some o ∧ o.cls = .type "tuple" ∧ o.dict = none) ∨
      (T = "dict" ∧ ((∃ kvs, H p = some (.dK kvs)) ∨ ∃ kvs, H p = some (.dT kvs))) ∨ (T = "set" ∧ ∃ S n, H p = some (.set S n))
  | _ => False
theorem tyV_is {pins : List (Addr × Obj)} {σ : St} {H : Hp} {s : Shared} {T : String} {x : V} {v : Value} (I : Inv X pins σ H s) (r : RelV x v) (ty : tyV X.K T x H) :
    s.TypeIs v T ∧ ∀ a, v = .ref a → ∃ ob, s.heap.get? a = some ob ∧ ob.dict = none := by
  cases x with
  | str z =>
    obtain ⟨t, rfl⟩ := r
    cases (show T = "str" from ty)
    exact ⟨typeIs_str s z t, fun _ e => nomatch e⟩
  | int i =>
    obtain ⟨t, rfl⟩ := r
    cases (show T = "int" from ty)
    exact ⟨typeIs_int s i t, fun _ e => nomatch e⟩
  | ref p =>
    cases r
    rcases ty with ⟨rfl, xs, hq⟩ | ⟨rfl, o, hk, hc, hd⟩ | ⟨rfl, hk⟩ | ⟨rfl, S, n, hk⟩
    · obtain ⟨its, _, pl, _⟩ := I.list hq
      refine ⟨pl.isList.typeIs, fun a e => ?_⟩
      cases e
      obtain ⟨o, n, e, c, hd, _⟩ := pl
      exact ⟨o, e, hd⟩
    · refine ⟨⟨o, I.kIn p o hk, hc⟩, fun a e => ?_⟩
      cases e
      exact ⟨o, I.kIn _ o hk, hd⟩
    · have z : ∃ o, s.heap.get? p = some o ∧ o.ExactDict := by
        rcases hk with ⟨kvs, hk⟩ | ⟨kvs, hk⟩
        · obtain ⟨_, _, _, _, o, _, _, e, ex, _⟩ := I.hok p _ hk
          exact ⟨o, e, ex⟩
        · obtain ⟨_, _, _, _, o, _, _, e, ex, _⟩ := I.hok p _ hk
          exact ⟨o, e, ex⟩
      obtain ⟨o, e, ex⟩ := z
      refine ⟨⟨o, e, ex.1⟩, fun a e2 => ?_⟩
      cases e2
      exact ⟨o, e, ex.2.1⟩
    · obtain ⟨o, _, _, _, e, ex, _⟩ := I.hok p _ hk
      refine ⟨⟨o, e, ex.1⟩, fun a e2 => ?_⟩
      cases e2
      exact ⟨o, e, ex.2.1⟩
  | _ => exact False.elim ty
def tBM0 (K : PySem.W.Frag) (T : String) (r : V → List V → Hp → VK → Prop) (to : TE) : TE := fun σ H Q => to σ H fun x H1 => tyV K T x H1 ∧ r x [] H1 Q
def tBM (K : PySem.W.Frag) (T : String) (r : V → List V → Hp → VK → Prop) (to : TE) (t : TA) : TE := fun σ H Q => to σ H fun x H1 => tyV K T x H1 ∧ t σ H1 fun xs H2 => r x xs H2 Q
variable {o e : Expr} {es : List Expr} {to : TE} {t : TA} {name : Str} {apos cpos : Pos} {T id : String} {r : V → List V → Hp → VK → Prop}
theorem pe_bm0 (pa : PlainAttrs T) (slot : Slot T name id) (hty : typeOf (.builtin id) = pure (.type "method_descriptor")) (hm : MtR X id r) (ho : PE X o to)
    (hbase : attributeBase o name X.env (eval o X.env) = eval o X.env := by rfl) (hline : (apos.endLine == cpos.line) = true := by rfl) : PE X (.Call (.Attribute o name apos) [] [] cpos) (tBM0 X.K T r to) := by
  intro pins s σ H Q I h
  refine wpAny_Call_method0_late hbase hline (thn (ho pins s σ H _ I h) fun v s1 ⟨x, H1, I1, r1, ty, q1⟩ => ?_)
  obtain ⟨h1, h2⟩ := tyV_is I1 r1 ty
  exact ⟨T, id, pa, slot, hty, h1, h2, Calls.callWith_builtin rfl (PySem.evalArgs_none (hm pins s1 σ H1 x [] v [] Q I1 r1 .nil q1))⟩
theorem pe_bm (pa : PlainAttrs T) (slot : Slot T name id) (hty : typeOf (.builtin id) = pure (.type "method_descriptor")) (hm : MtR X id r) (ho : PE X o to) (ha : PA X (e :: es) t)
    (hbase : attributeBase o name X.env (eval o X.env) = eval o X.env := by rfl)
    (hfew : ((backTo cpos (starEach (e :: es) X.env)).all (fun x => !x.1) && (backToKw cpos (keywordEach [] X.env)).all (fun x => x.1.isSome)
      && decide ((e :: es).length + ([] : List Keyword).length + (if ([] : List Keyword).isEmpty then 0 else 1) < 30)) = true := by rfl)
    (hline : (apos.endLine == cpos.line) = true := by rfl) (hs : starEach (e :: es) X.env = (false, eval e X.env) :: starEach es X.env := by rfl) (hplain : (backTo cpos (starEach es X.env)).any (·.1) = false := by rfl) :
    PE X (.Call (.Attribute o name apos) (e :: es) [] cpos) (tBM X.K T r to t) := by
  intro pins s σ H Q I h
  refine wpAny_Call_method_late hbase hfew hline rfl (thn (ho pins s σ H _ I h) fun v s1 ⟨x, H1, I1, r1, ty, q1⟩ => ?_)
  obtain ⟨h1, h2⟩ := tyV_is I1 r1 ty
  refine ⟨T, id, pa, slot, hty, h1, h2, ?_⟩
  have hA := ha cpos pins s1 σ H1 _ I1 q1
  rw [hs] at hA ⊢
  refine Calls.callWith_builtin (by show (false || (backTo cpos (starEach es X.env)).any (·.1)) = false; rw [hplain] <;> rfl) (Calls.evalArgs_plain ?_)
  exact thn hA fun us s2 ⟨vs, H2, I2, r2, q2⟩ => hm pins s2 σ H2 x vs v us Q I2 r1 r2 q2
/- xs.append(e), list.index on a module's tuple .. are MtR facts of 06m -/
end
end L2

namespace L2
open PySem PySem.Spec PyProof.Rows

def MtM (X : Cx) (id : String) (r : V → List V → Hp → VK → Prop) : Prop :=
  ∀ (pins : List (Addr × Obj)) (s : Shared) (σ : St) (H : Hp) (x : V) (xs : List V) (v : Value) (us : List Value) (Q : VK), Inv X pins σ H s → RelV x v → Vals xs us → r x xs H Q →
    wpAny (model X.prog X.w) X.A (call (.builtin id) (v :: us)) (EP X pins σ Q) X.xe s

/-! ### lists of values -/
theorem Vals.one : ∀ {x : V} {us : List Value}, Vals [x] us → ∃ u, us = [u] ∧ RelV x u
  | _, _, .cons r .nil => ⟨_, rfl, r⟩
theorem Vals.two : ∀ {x y : V} {us : List Value}, Vals [x, y] us → ∃ u v, us = [u, v] ∧ RelV x u ∧ RelV y v
  | _, _, _, .cons r (.cons q .nil) => ⟨_, _, rfl, r, q⟩
theorem Vals.zero : ∀ {us : List Value}, Vals [] us → us = []
  | _, .nil => rfl
theorem Vals.dropLast {xs : List V} {us : List Value} (h : Vals xs us) : Vals xs.dropLast us.dropLast := by
  induction h with
  | nil => exact .nil
  | cons r t ih =>
    cases t with
    | nil => exact .nil
    | cons q t' => exact .cons r ih
theorem erase_last {α : Type} (l : List α) : l.eraseIdx (l.length - 1) = l.dropLast := by
  induction l with
  | nil => rfl
  | cons a r ih =>
    cases r with
    | nil => rfl
    | cons b r =>
      have e : (a :: b :: r).length - 1 = ((b :: r).length - 1) + 1 := by
        have h1 : (a :: b :: r).length = r.length + 2 := rfl
        have h2 : (b :: r).length = r.length + 1 := rfl
        omega
      rw [e, List.eraseIdx_cons_succ, ih]
      all_goals rfl

section
variable {X : Cx} {pins : List (Addr × Obj)} {σ : St} {H : Hp} {s : Shared} {l b : Addr} {xs ys zs : List V}

/-! ### the two steps: a tracked list is rewritten, a new list is laid -/
theorem Inv.lset {its its' : List Value} {n : Nat} {f : Array Value → Array Value} {t' : Nat} (I : Inv X pins σ H s) (hH : H l = some (.lst xs))
    (e : s.heap.get? l = some { cls := .type "list", data := .seq its.toArray n }) (hf : f its.toArray = its'.toArray) (hv : Vals ys its') (hz : ys.length ≤ sizeLine) :
    Inv X pins σ (upd H l (.lst ys)) { s with heap := s.heap.update l (Obj.mapSeq f), toks := t' } := by
  have q := PySem.IsL.update e f
  rw [hf] at q
  refine I.write (x := l) (e := l) (by rw [hH]; exact trivial) (.inl rfl) (fun b' u hb hu => (Heap.get?_update_other s.heap (Obj.mapSeq f) (Ne.symm hb)).trans hu) ⟨_, q⟩ ?_
  exact ⟨hz, its', _, hv, q⟩
theorem Inv.lnew {its : List Value} {t' : Nat} (I : Inv X pins σ H s) (hv : Vals ys its) (hz : ys.length ≤ sizeLine) :
    Inv X pins σ (upd H s.heap.objs.size (.lst ys)) { s with heap := s.heap.push { cls := .type "list", data := .seq its.toArray }, toks := t' } :=
  I.laid (fun _ _ q => Heap.get?_push_of_some _ q) (Nat.le_refl _) ⟨hz, its, 0, hv, Heap.get?_push_size _ rfl⟩
theorem Inv.fresh (I : Inv X pins σ H s) : H s.heap.objs.size = none := I.hok.fresh (Nat.le_refl _)
theorem Inv.lstM (I : Inv X pins σ H s) (hH : H l = some (.lst xs)) : xs.length ≤ sizeLine ∧ ∃ (its : List Value) (n : Nat), Vals xs its ∧ xs.length = its.length ∧ s.heap.get? l = some { cls := .type "list", data := .seq its.toArray n } := by
  obtain ⟨z, its, n, r, e⟩ := I.hok l _ hH
  exact ⟨z, its, n, r, r.length, e⟩

theorem notLongL {n : Nat} (h : n ≤ sizeLine) : Builtin.List.listTooLong n = false := by
  unfold Builtin.List.listTooLong
  exact decide_eq_false (by omega)
end

section
variable {X : Cx}

/-! ### methods -/
def rAppend : V → List V → Hp → VK → Prop := fun x vs H Q => ∃ l xs y, x = .ref l ∧ vs = [y] ∧ H l = some (.lst xs) ∧ xs.length < sizeLine ∧ Q .non (upd H l (.lst (xs ++ [y])))
theorem mt_append : MtM X "list.append" rAppend := by
  intro pins s σ H x vs v us Q I rx rv h
  obtain ⟨l, xs, y, rfl, rfl, hH, hz, q⟩ := h
  cases rx
  obtain ⟨u, rfl, ru⟩ := rv.one
  obtain ⟨z, its, n, r, hl, e⟩ := I.lstM hH
  refine call_meets F.slot_list_append ⟨_, e, rfl⟩ F.entry_list_append (F.args_list_append_2 _ _) (PySem.list_append l its.toArray n u (by rw [List.size_toArray]; omega)) ⟨e, ?_⟩
  refine ⟨.non, _, I.lset (its' := its ++ [u]) hH e (by simp) (r.append (.cons ru .nil)) ?_, rfl, q⟩
  rw [List.length_append, List.length_singleton]
  omega

def rExtend : V → List V → Hp → VK → Prop := fun x vs H Q => ∃ l b xs zs, x = .ref l ∧ vs = [.ref b] ∧ H l = some (.lst xs) ∧ H b = some (.lst zs) ∧ xs.length + zs.length ≤ sizeLine ∧ Q .non (upd H l (.lst (xs ++ zs)))
theorem mt_extend : MtM X "list.extend" rExtend := by
  intro pins s σ H x vs v us Q I rx rv h
  obtain ⟨l, b, xs, zs, rfl, rfl, hH, hB, hz, q⟩ := h
  cases rx
  obtain ⟨u, rfl, ru⟩ := rv.one
  cases ru
  obtain ⟨z, its, n, r, hl, e⟩ := I.lstM hH
  obtain ⟨z2, its2, n2, r2, hl2, e2⟩ := I.lstM hB
  have hsz : its.toArray.size + its2.toArray.size ≤ sizeLine := by rw [List.size_toArray, List.size_toArray]; omega
  have hlong : ¬ (!its.toArray.isEmpty && Builtin.List.listTooLong (its.toArray.size + its2.toArray.size)) = true := by
    rw [notLongL hsz, Bool.and_false]
    exact Bool.false_ne_true
  refine call_meets F.slot_list_extend ⟨_, e, rfl⟩ F.entry_list_extend (F.args_list_extend_2 _ _)
    (AutoSeq1.list_extend_list_list_0 l its.toArray n b its2.toArray n2 hlong (by rw [List.size_toArray]; omega) (by omega)) ⟨e, e2, ?_⟩
  refine ⟨.non, _, I.lset (its' := its ++ its2) hH e (by simp) (r.append r2) ?_, rfl, q⟩
  rw [List.length_append]
  omega

def rPop : V → List V → Hp → VK → Prop := fun x vs H Q => ∃ l xs y, x = .ref l ∧ vs = [] ∧ H l = some (.lst xs) ∧ xs[xs.length - 1]? = some y ∧ Q y (upd H l (.lst xs.dropLast))
theorem mt_pop : MtM X "list.pop" rPop := by
  intro pins s σ H x vs v us Q I rx rv h
  obtain ⟨l, xs, y, rfl, rfl, hH, hy, q⟩ := h
  cases rx
  have hus := rv.zero
  subst hus
  obtain ⟨z, its, n, r, hl, e⟩ := I.lstM hH
  obtain ⟨u, hu, ru⟩ := r.get hy
  have hy' : its.toArray[its.toArray.size - 1]? = some u := by
    show its.toArray[its.length - 1]? = some u
    rw [← Array.getElem?_toList, ← hl]
    exact hu
  refine call_meets F.slot_list_pop ⟨_, e, rfl⟩ F.entry_list_pop (F.args_list_pop_1 _) (MeetsSeq.list_pop_last l its.toArray n u hy' (by rw [List.size_toArray]; omega)) ⟨e, ?_⟩
  refine ⟨y, _, I.lset (its' := its.dropLast) hH e ?_ r.dropLast ?_, ru, q⟩
  · show its.toArray.eraseIdxIfInBounds (its.toArray.size - 1) = its.dropLast.toArray
    rw [List.size_toArray, List.eraseIdxIfInBounds_toArray, erase_last]
  · rw [List.length_dropLast]
    omega




/-! ### list + list, list += list, list * int -/
def rCat : R2 := fun x y H Q => ∃ l b xs zs, x = .ref l ∧ y = .ref b ∧ H l = some (.lst xs) ∧ H b = some (.lst zs) ∧ xs.length + zs.length ≤ sizeLine ∧ ∀ p, H p = none → Q (.ref p) (upd H p (.lst (xs ++ zs)))
theorem op_cat : OpR X (binaryOp .Add) rCat := by
  intro pins s σ H x y v u Q I rx ry h
  obtain ⟨l, b, xs, zs, rfl, rfl, hH, hB, hz, q⟩ := h
  cases rx
  cases ry
  obtain ⟨z, its, n, r, hl, e⟩ := I.lstM hH
  obtain ⟨z2, its2, n2, r2, hl2, e2⟩ := I.lstM hB
  refine PySem.P.add_list e e2 ?_ (by rw [List.size_toArray, List.size_toArray]; omega)
  have ea : its.toArray ++ its2.toArray = (its ++ its2).toArray := by simp
  rw [ea]
  exact ⟨.ref _, _, I.lnew (t' := s.toks) (r.append r2) (by rw [List.length_append]; omega), rfl, q _ I.fresh⟩

/-! ### del xs[i] -/
end

/-! ### xs[a:b] = ys -/
section
variable {prog : Program} {w : World} {A : Around} {E : Value → Shared → Prop} {s : Shared}
set_option maxRecDepth 100000 in
end

section
variable {X : Cx}
end
end L2

namespace Att
open PySem PySem.W PySem.Calls PyProof.Rows

/-! ### the script -/
theorem ints_of_wellAll {P : Params} {h : Heap} : ∀ (ns : List Int) (vs : List Value), WellAll P h vs (ns.map WData.int) → IntsAre vs ns := by
  intro ns
  induction ns with
  | nil =>
    intro vs w
    rw [List.map_nil] at w
    cases w
    exact .nil
  | cons n ns ih =>
    intro vs w
    rw [List.map_cons] at w
    cases w with
    | cons a b =>
      cases a
      exact .cons _ _ (ih _ b)

theorem script_of {l : OpenLaw} {n : Nat} (hn : l.most = some n) {P : Params} {h : Heap} {args : List WData} {vals : List Value}
    (hpre : l.row.toRowW.claim.pre args = true) (hwl : WellAll P h vals args) :
    ∃ a vs ns, vals = [Value.ref a] ∧ args = [WData.list (ns.map WData.int)] ∧ h.get? a = some { cls := .type "list", data := .seq vs.toArray } ∧ IntsAre vs ns ∧ ns.length ≤ n := by
  have hsh : WShape.hasAll [] args [.list .int] = true := (pre_splitW hpre).1
  have hc : l.pre.holds [] { args := args } = true := (pre_splitW hpre).2
  obtain ⟨d, r, rfl, h1, h2⟩ := hasAllW_cons hsh
  obtain rfl := hasAllW_nil h2
  obtain ⟨xs, rfl, h3⟩ := hasW_list h1
  obtain ⟨ns, rfl⟩ := items_int h3
  have hlen : ns.length ≤ n := by
    unfold OpenLaw.pre at hc
    have h4 : (WTm.not (.lt (.lit (.int (n : Int))) (.len (.arg 0)))).holds [] { args := [.list (ns.map .int)] } = true := by
      have h4 := (holds_andW hc).1
      rw [hn] at h4
      exact h4
    have h5 := condW_of h4 (w_not (w_lt w_lit (w_len_list (w_arg rfl))))
    rw [List.length_map] at h5
    refine Nat.le_of_not_lt fun q => ?_
    have q' : (n : Int) < ((ns.length : Nat) : Int) := by omega
    first
      | (rw [decide_eq_true q'] at h5; exact absurd h5 (by decide))
      | (simp at h5; omega)
  cases hwl with
  | cons w1 w2 =>
    cases w2
    cases w1 with
    | list ho hall => exact ⟨_, _, ns, rfl, rfl, ho, ints_of_wellAll ns _ hall, hlen⟩

theorem post_true (l : OpenLaw) (args : List WData) : l.row.toRowW.claim.post args (.bool true) args = true :=
  postW_of (r := l.row.toRowW) (X := (true == true))
    (show WShape.has [] (.bool true) .bool = true by first | rfl | decide | simp [WShape.has, WShape.arms, WShape.armsAll])
    (show (WTm.eq .res (.lit (.bool true))).value [] { args := args, res := some (.bool true), after := args } = some (.bool (true == true)) from w_eq_bool (w_res rfl) w_lit) rfl

/-! ### the attachment: holds_open's last premise (the goal 'hc' behind k_head) from a wpAny of the law's body -/



/-! ### rules over ANY heap (no ledger) from facts about the written part K: the library's own take a ledger (News) for what they write -/
section
variable {prog : Program} {w : World} {A : Around} {E : Value → Shared → Prop} {s : Shared} {K : Frag}





/-! the whole heap as the ledger: makes every rule that writes through a ledger a rule over any heap -/

end
end Att

namespace L2
open PySem PySem.Spec PyProof.Rows

theorem vals_ints : ∀ {vs : List Value} {ns : List Int}, IntsAre vs ns → Vals (ns.map V.int) vs
  | _, _, .nil => .nil
  | _, _, .cons n t h => .cons ⟨t, rfl⟩ (vals_ints h)

/-- nothing is tracked but the script, known to the object (or it is an object of the module) -/
def Only (H : Hp) : Prop := ∀ b, H b = none ∨ ∃ o xs, H b = some (.frz o (.lst xs))

/-- THE HEAD: the law's promise, at the heap behind the top. F, the promise of the law's def, may use that base is part of the heap (so K.In base, base.Ns mainGlobals mg stand in Mod) -/
theorem law_call {P : Program} {w : World} {K : PySem.W.Frag} {mg mb : Str → Option Value} {CX : CXT} {k : Nat} {fa a : Addr} {fd : FuncData} {x : Str} {sp : Sp} {s₁ : Shared} {vs : List Value} {ns : List Int}
    (KX : K.In s₁.heap) (hns : s₁.heap.Ns mainGlobals mg) (hb : s₁.heap.Ns builtinsNs mb) (hbb : ∀ x : Str, x ≠ "__name__" → mb x = bootBuiltins x) (hlim : s₁.heap.NoLimit) (hg : s₁.gens = #[])
    (ha : s₁.heap.get? a = some { cls := .type "list", data := .seq vs.toArray }) (hi : IntsAre vs ns) (hl : ns.length ≤ sizeLine) (hr : Room k callerA)
    (F : ∀ base : Heap, K.In base → base.Ns mainGlobals mg → FnOk P w K mg base CX k fa fd [x] sp) (hbind : ∀ (s : Shared) (u : Value), BindsTo s fd ⟨[u], []⟩ [(x, u)])
    (hsp : ∀ H : Hp, Only H → SqL K H a (ns.map V.int) → sp [.ref a] H (fun v _ => v = .bl true) fun _ _ _ => False)
    (hCX : ∀ H e s', CX [] H s₁ (fun _ _ _ => False) e s' → False) :
    codeAny (model P w) callerA (.call (.ref fa) ⟨[.ref a], []⟩) (fun r s' => r = .ok (.ret (.bool true)) ∧ OldK s₁.heap s'.heap ∧ s'.os = s₁.os ∧ AllBare s'.gens) s₁ := by
  have rv := vals_ints hi
  have lenV := hi.length
  -- from an abstract heap in which nothing but the script may be tracked
  have core : ∀ H : Hp, Only H → SqL K H a (ns.map V.int) → HOk P w H s₁.heap → (∀ b, H b ≠ none → b = a) → (H a ≠ none → K.lookup a = none) →
      codeAny (model P w) callerA (.call (.ref fa) ⟨[.ref a], []⟩) (fun r s' => r = .ok (.ret (.bool true)) ∧ OldK s₁.heap s'.heap ∧ s'.os = s₁.os ∧ AllBare s'.gens) s₁ := by
    intro H hO hS hok hA hK
    have base_of : ∀ {b : Addr} {o : Obj}, s₁.heap.get? b = some o → H b = none → (hidT s₁.heap H).get? b = some o := fun e n => hidT_get e n
    have noA : ∀ {b : Addr} {o : Obj} {es : Array DictEntry} {ep : Nat}, s₁.heap.get? b = some o → o.data = .dict es ep → H b = none := fun {b o es ep} e d => by
      cases q : H b with
      | none => rfl
      | some u =>
        have e' : b = a := hA b (by rw [q]; simp)
        subst e'
        rw [ha] at e; cases e
        have d' : Data.seq vs.toArray _ = Data.dict es ep := d
        cases d'
    have nsK : ∀ {b : Addr} {m : Str → Option Value}, s₁.heap.Ns b m → (hidT s₁.heap H).Ns b m := fun {b m} ⟨o, es, ep, e, d, r⟩ => ⟨o, es, ep, base_of e (noA e d), d, r⟩
    have hKb : K.In (hidT s₁.heap H) := fun b o e => base_of (KX b o e) (by
      cases q : H b with
      | none => rfl
      | some u =>
        have e' : b = a := hA b (by rw [q]; simp)
        subst e'
        rw [hK (by rw [q]; simp)] at e; cases e)
    have hM : Mod K mg (hidT s₁.heap H) := ⟨hKb, nsK hns, ⟨mb, nsK hb, hbb⟩, let ⟨mc, h1, h2⟩ := hlim; ⟨mc, nsK h1, h2⟩⟩
    have e0 : Env0 P w K mg (hidT s₁.heap H) callerA [] s₁ H := ⟨rfl, hM, fun b o e => of_hidT e, Nat.le_of_eq (hidT_size _ _), trivial, fun b hb => absurd (show b ∈ ([] : List Addr) from hb) (by simp), hok, .of_eq hg⟩
    refine codeAny_mono ((F _ hKb (nsK hns)).run callerA [] s₁ H ⟨[.ref a], []⟩ [.ref a] [.ref a] _ _ hr e0 (hbind s₁ (.ref a)) (.cons rfl .nil) (hsp H hO hS)) fun r s' h => ?_
    cases r with
    | error e => exact (hCX H e s' h).elim
    | ok fl =>
      cases fl with
      | next => exact False.elim h
      | brk => exact False.elim h
      | cont => exact False.elim h
      | ret u =>
        obtain ⟨v, H', os, bare, un, hok', r', q⟩ := h
        have q' : v = .bl true := q
        subst q'
        obtain rfl : u = Value.bool true := r'
        refine ⟨rfl, OldK.of_keep fun b o e => ?_, os, bare⟩
        cases q : H b with
        | none => exact un.keep b o e q (by intro z; exact absurd (show b ∈ ([] : List Addr) from z) (by simp)) (by simp)
        | some u =>
          rcases hO b with z | ⟨ob, xs, z⟩
          · rw [q] at z; cases z
          · have z2 := un.frzs b ob _ z
            obtain ⟨e1, _⟩ := hok b _ z
            obtain ⟨e2, _⟩ := hok' b _ z2
            rw [e] at e1; cases e1
            exact e2
  cases hk : K.lookup a with
  | some o =>
    -- the script is one of the module's own objects
    have e := KX a o hk
    rw [ha] at e
    cases e
    refine core (fun _ => none) (fun _ => .inl rfl) (.inr ⟨_, vs.toArray, _, hk, rfl, rfl, rfl, by rw [List.size_toArray, lenV]; exact hl, by simpa using rv⟩) (fun b u z => by have z' : (none : Option HO) = some u := z; cases z') (fun b z => absurd rfl z) fun z => absurd rfl z
  | none =>
    refine core (fun b => if b = a then some (.frz { cls := .type "list", data := .seq vs.toArray } (.lst (ns.map V.int))) else none) (fun b => ?_) (.inl (.inr ⟨{ cls := .type "list", data := .seq vs.toArray }, if_pos rfl⟩)) (fun b u z => ?_) (fun b z => ?_) fun _ => hk
    · by_cases hb : b = a
      · exact .inr ⟨_, _, if_pos hb⟩
      · exact .inl (if_neg hb)
    · by_cases hb : b = a
      · have z' := (if_pos hb).symm.trans z
        cases z'
        subst hb
        exact ⟨ha, by rw [List.length_map]; exact hl, vs, _, rv, ha⟩
      · have z' := (if_neg hb).symm.trans z
        cases z'
    · by_cases hb : b = a
      · exact hb
      · exact absurd (if_neg hb) z
end L2

namespace L2
open PySem PySem.Spec PyProof.Rows

abbrev KOf {K : PySem.W.Frag} {h : Heap} (_ : K.In h) : PySem.W.Frag := K

end L2

/- THE LAST THEOREM (shape; LID, My.* are yours):
   My.Adr: a structure of the addresses that your layer names (classes, functions); My.Txt K t: a structure (Prop) of the equations over K;
   My.txt_mk : {K} {implicit addresses ..} (e1 : nsIn K mainGlobals "law" = some (some (.ref f))) (e2 : K.lookup f = some ⟨oc, od, .func (fnOf "law" "law" params body scope dV kV doc pm an cdv ct), sl⟩) (e3 : codeIn K cdv "law" = true) .. : ∃ t, My.Txt K t

set_option maxRecDepth 100000 in
set_option maxHeartbeats 0 in
theorem PySem.Challenge.cw_LID_holds : PySem.Challenge.rw_LID.Holds := by
  w_on; o_law; k_head; (case hw => w_witness2)
  k_fill
  refine L2.walk_of (l := PySem.Challenge.rw_LID) (n := 63) (k := 40) (x := "script") (CX := fun w => ..) (sp := fun _ => My.sp_law) rfl (by decide) rfl ⟨rfl, by decide, by decide⟩ (fun w h Y => PySem.W.kIn_of Y) ?F ?S ?C
  case F =>
    intro w mg fa h KX G hmg
    have T : ∃ t, My.Txt (L2.KOf KX) t := by
      dsimp only [L2.KOf]                          -- K must stand as «<heap const> w.params» for k_is
      refine' My.txt_mk ?e1 ?e2 ?e3 ..
      (case e1 => PySem.W.k_is)                    -- in the order: a name -> its address -> its object -> its parts
      (case e2 => PySem.W.k_is)
      ..
    obtain ⟨t, T⟩ := T
    have e0 := hmg.symm.trans (PySem.W.mg_of KX G T.law)
    cases e0                                       -- fa is the law's own address
    exact ⟨_, fun s u => .of_eq rfl, fun base kb nb => My.law_fn T kb nb⟩     -- if «.of_eq rfl» comes too early: refine' ⟨_, ?b, fun base kb nb => My.law_fn T kb nb⟩; exact fun s u => .of_eq rfl
  case S => exact fun w H a ns hl hO hS => ..
  case C => exact ..
(the tactic k_is has no namespace: write k_is) -/

/-! SHORT WORDS over the layer: a def of the text, its body, what a loop and a test want. -/
namespace L2
open PySem PySem.Spec PyProof.Rows

/-! ### the text by places -/
def defArgs (s : Stmt) : Arguments := match s with
  | .FunctionDef _ a _ _ _ _ _ _ _ _ => a
  | _ => { posonlyargs := [], args := [], vararg := none, kwonlyargs := [], kw_defaults := [], kwarg := none, defaults := [] }
def defBody (s : Stmt) : List Stmt := match s with
  | .FunctionDef _ _ b _ _ _ _ _ _ _ => b
  | _ => []
def defScope (s : Stmt) : Scope := match s with
  | .FunctionDef _ _ _ _ _ _ sc _ _ _ => sc
  | _ => { kind := .function, names := [], isGenerator := false, isCoroutine := false }

/-! ### no exception leaves a def -/
abbrev CX0 : CXT := fun _ _ _ _ _ _ => False
abbrev E0 : XK := fun _ _ _ => False
theorem pass0 {X : Cx} : Passes CX0 X E0 := fun _ _ _ _ _ _ _ h => h.elim

/-! ### a def (or method) of the text as it stands behind the top -/
structure Fun (K : PySem.W.Frag) (x qual : Str) (st : Stmt) (f : Addr) (fd : FuncData) : Prop where
  ex : ∃ (oc : Value) (od : Option Addr) (kV doc pm : Value) (an : Option Addr) (cdv ct : Value) (osl : Array (Option Value)),
    fd = PySem.W.fnOf x qual (defArgs st) (defBody st) (defScope st) .none kV doc pm an cdv ct ∧ K.lookup f = some ⟨oc, od, .func fd, osl⟩ ∧ PySem.W.codeIn K cdv qual = true
  kp : PySem.W.keepIn K (.ref f) = true
section
variable {P : Program} {w : World} {K : PySem.W.Frag} {mg : Str → Option Value} {base : Heap}
/-- THE RULE for a def: its body as a term of rules, and the reading of that term -/
theorem Fun.ok {x qual : Str} {st : Stmt} {f : Addr} {fd : FuncData} {N ps : List Str} {k : Nat} {sp : Sp} (F : Fun K x qual st f fd) (S : FnScope N ps (defScope st)) (len : ∀ vs H Q E, sp vs H Q E → vs.length = ps.length)
    (hbody : ∀ (cdv : Value) (A : Around) (outer : List Env) (s : Shared) (H : Hp) (vs : List V) (Q : VK) (E : XK), Room k (A.deeper (envOfC qual (defScope st) s.heap.objs.size f cdv)) → sp vs H Q E →
      ∃ t, PSs (cxOf CX0 P w K mg base N qual (defScope st) f cdv A outer s H E).nox (defBody st) t ∧ t { nx := fun _ H' => Q .non H', rt := Q } (start N vs) H) : FnOk P w K mg base CX0 (k + 1) f fd ps sp := by
  obtain ⟨oc, od, kV, doc, pm, an, cdv, ct, osl, rfl, lk, hcd⟩ := F.ex
  refine fn_of lk hcd S len fun A outer s H vs Q E hr hsp => ?_
  obtain ⟨t, h, q⟩ := hbody cdv A outer s H vs Q E hr hsp
  exact ⟨t, h.nox, q⟩
/-- how its arguments bind (no defaults): h is «fun _ _ _ _ _ _ us hl => match us, hl with | [_, _], _ => rfl», one _ a parameter -/
theorem Fun.binds {x qual : Str} {st : Stmt} {f : Addr} {fd : FuncData} {ps : List Str} (F : Fun K x qual st f fd)
    (h : ∀ (kV doc pm : Value) (an : Option Addr) (cdv ct : Value) (us : List Value), us.length = ps.length → bindArgs (PySem.W.fnOf x qual (defArgs st) (defBody st) (defScope st) .none kV doc pm an cdv ct) ⟨us, []⟩ = pure (ps.zip us)) : Binds K fd ps [] := by
  obtain ⟨oc, od, kV, doc, pm, an, cdv, ct, osl, rfl, lk, hcd⟩ := F.ex
  exact .all (h kV doc pm an cdv ct)
theorem fun_mk {x qual : Str} {st : Stmt} {f : Addr} {oc : Value} {od an : Option Addr} {osl : Array (Option Value)} {kV doc pm cdv ct : Value} (l : K.lookup f = some ⟨oc, od, .func (PySem.W.fnOf x qual (defArgs st) (defBody st) (defScope st) .none kV doc pm an cdv ct), osl⟩)
    (c : PySem.W.codeIn K cdv qual = true) (k : PySem.W.keepIn K (.ref f) = true) : Fun K x qual st f (PySem.W.fnOf x qual (defArgs st) (defBody st) (defScope st) .none kV doc pm an cdv ct) := ⟨⟨oc, od, kV, doc, pm, an, cdv, ct, osl, rfl, l, c⟩, k⟩
end
theorem small1000 {n : Nat} (h : n ≤ 1000) : n < sizeLine := Nat.lt_of_le_of_lt h (by decide)

/-! ### expressions in short: the name that stands in the i-th slot -/
section
variable {X : Cx}
theorem pv (i : Nat) {x : Str} {pos : Pos} (hN : X.N[i]? = some x := by rfl) (hv : Vis X.env.scope x := by first | exact Or.inl rfl | exact Or.inr (Or.inl rfl) | exact Or.inr (Or.inr rfl)) (hd : (x == ("__debug__" : Str)) = false := by decide)
    (hcd : (x == ("__classdict__" : Str)) = false := by decide) : PE X (.Name x pos) (tVar i) := pe_var hN hv hd hcd
end

/-! ### tests -/
theorem iteF {A B : Prop} (h : B) : if false = true then A else B := by
  rw [if_neg Bool.false_ne_true]
  exact h
theorem iteT {A B : Prop} (h : A) : if true = true then A else B := by
  rw [if_pos rfl]
  exact h
theorem ite2 {c A B : Prop} [Decidable c] (h1 : c → A) (h2 : ¬ c → B) : if c then A else B := by
  by_cases h : c
  · rw [if_pos h]
    exact h1 h
  · rw [if_neg h]
    exact h2 h
theorem iteNS {c A B : Prop} [Decidable c] (hc : c) (h : B) : if (!decide c) = true then A else B := by
  rw [decide_eq_true hc]
  exact iteF h

/-! ### heaps -/
/-- all that was tracked is as it was -/
def Same (H H' : Hp) : Prop := ∀ b o, H b = some o → H' b = some o
theorem Same.trans {H H1 H2 : Hp} (a : Same H H1) (b : Same H1 H2) : Same H H2 := fun c o h => b c o (a c o h)
theorem Same.free {H H' : Hp} (e : Same H H') {l : Addr} (h : H' l = Option.none) : H l = Option.none := by
  cases q : H l with
  | none => rfl
  | some o =>
    rw [e l o q] at h
    cases h
theorem Same.seq {K : PySem.W.Frag} {H H' : Hp} {a : Addr} {xs : List V} (e : Same H H') (h : SqL K H a xs) : SqL K H' a xs := by
  rcases h with (h | ⟨o, h⟩) | h
  · exact .inl (.inl (e _ _ h))
  · exact .inl (.inr ⟨o, e _ _ h⟩)
  · exact .inr h

end L2

set_option Elab.async false
set_option linter.all false
set_option maxRecDepth 100000
set_option maxHeartbeats 4000000
namespace L2
open PySem PySem.Spec PyProof.Rows

/-! ### a def of the text: where it stands, what it promises -/
/-- the def st stands at the top by the name x -/
structure TopDef (K : PySem.W.Frag) (mg : Str → Option Value) (x : Str) (st : Stmt) : Prop where
  ex : ∃ (f : Addr) (fd : FuncData), Fun K x x st f fd ∧ mg x = some (.ref f)
theorem top_mk {K : PySem.W.Frag} {h : Heap} {mg : Str → Option Value} {x : Str} {st : Stmt} {f : Addr} {oc kV doc pm cdv ct : Value} {od an : Option Addr} {osl : Array (Option Value)} (X : K.In h) (G : h.Ns mainGlobals mg)
    (a : PySem.W.nsIn K mainGlobals x = some (some (.ref f)))
    (l : K.lookup f = some ⟨oc, od, .func (PySem.W.fnOf x x (defArgs st) (defBody st) (defScope st) .none kV doc pm an cdv ct), osl⟩)
    (c : PySem.W.codeIn K cdv x = true) (k : PySem.W.keepIn K (.ref f) = true) : TopDef K mg x st :=
  ⟨_, _, fun_mk l c k, PySem.W.mg_of X G a⟩
/-- the def by the name x keeps sp, within n calls of one another -/
structure Def (P : Program) (w : World) (K : PySem.W.Frag) (mg : Str → Option Value) (base : Heap) (n : Nat) (x : Str) (ps : List Str) (sp : Sp) : Prop where
  ex : ∃ (f : Addr) (fd : FuncData), FnOk P w K mg base CX0 n f fd ps sp ∧ Binds K fd ps [] ∧ PySem.W.keepIn K (.ref f) = true ∧ mg x = some (.ref f)
section
variable {P : Program} {w : World} {K : PySem.W.Frag} {mg : Str → Option Value} {base : Heap}
theorem def_of {x : Str} {st : Stmt} {N ps : List Str} {k : Nat} {sp : Sp} (T : TopDef K mg x st) (S : FnScope N ps (defScope st))
    (bd : ∀ (kV doc pm : Value) (an : Option Addr) (cdv ct : Value) (us : List Value), us.length = ps.length → bindArgs (PySem.W.fnOf x x (defArgs st) (defBody st) (defScope st) .none kV doc pm an cdv ct) ⟨us, []⟩ = pure (ps.zip us))
    (len : ∀ vs H Q E, sp vs H Q E → vs.length = ps.length)
    (body : ∀ (f : Addr) (cdv : Value) (A : Around) (outer : List Env) (s : Shared) (H : Hp) (vs : List V) (Q : VK) (E : XK), Room k (A.deeper (envOfC x (defScope st) s.heap.objs.size f cdv)) → sp vs H Q E →
      ∃ t, PSs (cxOf CX0 P w K mg base N x (defScope st) f cdv A outer s H E).nox (defBody st) t ∧ t { nx := fun _ H' => Q .non H', rt := Q } (start N vs) H) :
    Def P w K mg base (k + 1) x ps sp := by
  obtain ⟨f, fd, F, m⟩ := T.ex
  exact ⟨f, fd, F.ok S len (body f), F.binds bd, F.kp, m⟩
end
section
variable {X : Cx} {n : Nat} {x : Str} {ps : List Str} {sp : Sp} {e a b : Expr} {es : List Expr} {t : TA} {ta tb : TE} {p pos : Pos}
/-- f(..) of such a def -/
theorem pe_def (D : Def X.prog X.w X.K X.mg X.base n x ps sp) (hr : Room n X.A) (hg : Gl X x) (ha : PA X (e :: es) t) (hdb : (x == ("__debug__" : Str)) = false := by decide)
    (he : starEach (e :: es) X.env = (false, eval e X.env) :: starEach es X.env := by rfl) (hpl : (backTo pos (starEach es X.env)).any (·.1) = false := by rfl) :
    PE X (.Call (.Name x p) (e :: es) [] pos) (tCall sp [] E0 t) := by
  obtain ⟨f, fd, F, b, kp, m⟩ := D.ex
  exact pe_call F hr hg m kp b .nil pass0 ha hdb he hpl

/-! ### ints of any size -/
theorem op_mulK : OpR X (binaryOp .Mult) (rI IntMulOk fun i j => .int (i * j)) := opI fun _ _ _ _ _ _ _ hc q => PyProof.Rows.mul_int q hc
def CDivK (_ j : Int) : Prop := j ≠ 0 ∧ j.natAbs.log2 < 9000
theorem op_fdivK : OpR X (binaryOp .FloorDiv) (rI CDivK fun i j => .int (i.fdiv j)) := opI fun _ _ _ _ _ _ _ hc q => PyProof.Rows.floordiv_int hc.1 q (.inl (PyProof.noPylong_of_log2 hc.2))

/-! ### isinstance(x, c) -/
theorem call_isi : CallR X (.builtin "isinstance") (fun xs H Q => ∃ (y : V) (c : V) (cv t : Value) (k : Bool), xs = [y, c] ∧ (∀ u, RelV c u → u = cv) ∧ TyOf X.K H y t ∧ PySem.W.kitOne X.K t cv = some k ∧ Q (.bl k) H) := by
  intro pins s σ H xs us Q I r h
  obtain ⟨y, c, cv, t, k, rfl, hc, ty, kt, q⟩ := h
  obtain ⟨u, w', rfl, r1, r2⟩ := vals2 r
  have e := hc _ r2
  subst e
  exact isinst_ok I r1 ty kt fun tk => ⟨.bl k, H, I.tok tk, rfl, q⟩
/-! ### sep.join(a list of texts) -/
end
end L2


set_option Elab.async false
set_option maxRecDepth 100000
set_option maxHeartbeats 4000000
/-! ### the law's call, with the bound of its ints' bits -/
namespace L2
open PySem PySem.Spec PyProof.Rows PySem.W
theorem weight_mem : ∀ {ns : List Int} {n : Int}, n ∈ ns → WData.weight (.int n) ≤ WData.weightAll (ns.map WData.int)
  | [], _, h => nomatch h
  | m :: r, n, h => by
    show _ ≤ WData.weight (.int m) + 1 + WData.weightAll (r.map WData.int)
    rcases List.mem_cons.mp h with e | e
    · subst e; omega
    · have := weight_mem (ns := r) e
      omega
theorem bits_weight (n : Int) : Builtin.Int.intBits n = WData.weight (.int n) := by
  show _ = if n == 0 then 0 else n.natAbs.log2 + 1
  unfold Builtin.Int.intBits
  by_cases h : n = 0
  · subst h; rfl
  · simp [h]
theorem script_bits {ns : List Int} (h : WData.layableAll [.list (ns.map .int)] = true) : ∀ n ∈ ns, Builtin.Int.intBits n ≤ 1048576 := fun n hn => by
  have h1 : WData.layable (.list (ns.map .int)) = true := by
    simpa [WData.layableAll] using h
  have h2 : WData.weight (.list (ns.map .int)) ≤ 2 ^ 20 := by
    unfold WData.layable at h1
    rw [Bool.and_eq_true, Bool.and_eq_true] at h1
    exact of_decide_eq_true h1.2
  have h3 : WData.weightAll (ns.map WData.int) ≤ 2 ^ 20 := h2
  have h4 := weight_mem hn
  rw [bits_weight]
  omega
theorem walk_bits {l : OpenLaw} {n k : Nat} {q : Program} {loose : List Str} {XP : (Str → Option Value) → Heap → Prop} {YP : World → Heap → Prop} {d : DefRec} {K : Params → Frag} {CX : CXT} {sp : Frag → Sp} {x : Str}
    (hn : l.most = some n) (hn2 : n ≤ sizeLine) (hdf : d.params.defaults = []) (hr : Room k callerA) (hY : ∀ (w : World) (h : Heap), YP w h → (K w.params).In h)
    (F : ∀ (w : World) (mg : Str → Option Value) (fa : Addr) (h : Heap), (K w.params).In h → h.Ns mainGlobals mg → mg d.name = some (.ref fa) →
      ∃ fd : FuncData, (∀ (s : Shared) (u : Value), BindsTo s fd ⟨[u], []⟩ [(x, u)]) ∧ ∀ base : Heap, (K w.params).In base → base.Ns mainGlobals mg → FnOk l.prog w (K w.params) mg base CX k fa fd [x] (sp (K w.params)))
    (hsp : ∀ (K : Frag) (H : Hp) (a : Addr) (ns : List Int), ns.length ≤ n → (∀ m ∈ ns, Builtin.Int.intBits m ≤ 1048576) → Only H → SqL K H a (ns.map V.int) → sp K [.ref a] H (fun v _ => v = .bl true) fun _ _ _ => False)
    (hCX : ∀ (H : Hp) (s : Shared) (e : Value) (s' : Shared), CX [] H s (fun _ _ _ => False) e s' → False) : WalkO q loose XP YP l.row.toRowW d [] (fun f vs => PySem.call f vs) := by
  intro w s₀ s₁ mg mb G Y fa o pm cd doc dV kV ho hd hcd hD hmg hg args vals as hpre hlay hrd hwl hlo
  obtain rfl : dV = .none := Dflts.none hD hdf
  obtain rfl : kV = .none := Dflts.noKw hD
  obtain ⟨a, vs, ns, rfl, rfl, hobj, hints, hlen⟩ := Att.script_of hn hpre hwl
  have KX := hY w _ Y
  obtain ⟨fd, hb, hF⟩ := F w mg fa _ KX G.T.g hmg
  have c := law_call KX G.T.g G.T.b G.T.builtins G.T.nolimit hg hobj hints (Nat.le_trans hlen hn2) hr hF hb (fun H hO hS => hsp (K w.params) H a ns hlen (script_bits hlay) hO hS) fun H e s' => hCX H s₁ e s'
  refine enter_call (codeAny_mono c fun r s' hq => ?_)
  obtain ⟨rfl, h2, h3, h4⟩ := hq
  exact ⟨.inl ⟨.bool true, .bool true, [], rfl, fun _ => rfl, .bool true, Att.post_true l _, fun _ => ⟨List.Pairwise.nil, fun _ hm => (nomatch hm)⟩⟩, h2, h3, h4⟩
end L2


set_option Elab.async false
set_option linter.all false
set_option maxRecDepth 100000
set_option maxHeartbeats 4000000
namespace L2
open PySem PySem.Spec PyProof.Rows

/-! ### a list comprehension: its block as a context of its own -/
/-- the context of the block: s, H the state behind the new list; fp the iterator's records -/
def cxComp (X : Cx) (scope : Scope) (cl : List (Str × Addr)) (N : List Str) (s : Shared) (H : Hp) (fp : List Addr) : Cx :=
  { prog := X.prog, w := X.w, K := X.K, mg := X.mg, base := X.base, A := X.A, N := N, s₀ := s, H₀ := H, env := compEnvC scope cl s.heap.objs.size X.env,
    outer := X.stack, stack := X.stack, ex := fp, fn := fun _ => false, calm := X.calm, pn := [], xe := fun _ _ => False }
/-- the names that the block sees: its own one, then those of the def at the places js -/
def cNames (X : Cx) (x : Str) (js : List Nat) : List Str := x :: js.map fun j => X.N.getD j ""
def cVals (js : List Nat) (σ : St) : St := js.map fun j => (σ[j]?).getD none
/-- each place holds a name that is a cell of the def's and free in the block -/
structure FreeAt (X : Cx) (scope : Scope) (js : List Nat) : Prop where
  all : ∀ j ∈ js, ∃ y, X.N[j]? = some y ∧ (X.env.kindOf y = some .cell ∨ X.env.kindOf y = some .free) ∧ (y, NameKind.free) ∈ scope.names ∧
    ((relabel scope X.env).names.lookup y = some .cell ∨ (relabel scope X.env).names.lookup y = some .free)
theorem fa_nil {X : Cx} {scope : Scope} : FreeAt X scope [] := ⟨fun _ h => nomatch h⟩
theorem fa_cons {X : Cx} {scope : Scope} {j : Nat} {js : List Nat} {y : Str} (h1 : X.N[j]? = some y) (h2 : X.env.kindOf y = some .cell ∨ X.env.kindOf y = some .free) (h3 : (y, NameKind.free) ∈ scope.names)
    (h4 : (relabel scope X.env).names.lookup y = some .cell ∨ (relabel scope X.env).names.lookup y = some .free) (r : FreeAt X scope js) : FreeAt X scope (j :: js) :=
  ⟨fun k hk => by
    rcases List.mem_cons.mp hk with e | e
    · subst e; exact ⟨y, h1, h2, h3, h4⟩
    · exact r.all k e⟩

theorem lookup_relabel {env : Env} : ∀ {names : List (Str × NameKind)} {y : Str} {k : NameKind},
    (names.map fun (n, k) => if (k == NameKind.free && env.scope.kind == .function && env.kindOf n == some .cell) then (n, NameKind.cell) else (n, k)).lookup y = some k →
    ∃ k', (y, k') ∈ names ∧ (k' = k ∨ (k = .cell ∧ k' = .free))
  | [], _, _, h => by simp at h
  | (n, k0) :: r, y, k, h => by
    by_cases hc : (k0 == NameKind.free && env.scope.kind == .function && env.kindOf n == some .cell) = true
    · rw [List.map_cons] at h
      dsimp only at h
      rw [if_pos hc] at h
      simp only [List.lookup_cons] at h
      have hf : k0 = .free := by
        rw [Bool.and_eq_true, Bool.and_eq_true] at hc
        exact beq_iff_eq.mp hc.1.1
      cases hx : y == n with
      | true =>
        rw [hx] at h
        have e := beq_iff_eq.mp hx
        subst e
        have e2 := Option.some.inj h
        exact ⟨k0, List.mem_cons_self, .inr ⟨e2.symm, hf⟩⟩
      | false =>
        rw [hx] at h
        obtain ⟨k', m, q⟩ := lookup_relabel h
        exact ⟨k', List.mem_cons_of_mem _ m, q⟩
    · rw [List.map_cons] at h
      dsimp only at h
      rw [if_neg hc] at h
      simp only [List.lookup_cons] at h
      cases hx : y == n with
      | true =>
        rw [hx] at h
        have e := beq_iff_eq.mp hx
        subst e
        have e2 := Option.some.inj h
        exact ⟨k0, List.mem_cons_self, .inl e2⟩
      | false =>
        rw [hx] at h
        obtain ⟨k', m, q⟩ := lookup_relabel h
        exact ⟨k', List.mem_cons_of_mem _ m, q⟩

section
variable {X : Cx} {pins : List (Addr × Obj)} {σ : St} {H : Hp} {s : Shared} {scope : Scope} {cl : List (Str × Addr)} {x : Str} {js : List Nat} {fp : List Addr}

theorem comp_ok (I : Inv X pins σ H s) (hk : scope.kind = .function) (hcell : ∀ y ∈ scope.names, y.2 ≠ .cell)
    (hcl1 : ∀ y c, cl.lookup y = some c → X.env.cells.lookup y = some c) (hcl2 : ∀ y, (y, NameKind.free) ∈ scope.names → ∃ c, cl.lookup y = some c)
    (hf : ∀ b ∈ fp, FpOk X pins H b) (hlt : ∀ b ∈ fp, b < s.heap.objs.size) : (cxComp X scope cl (cNames X x js) s H fp).Ok where
  mod := I.ok.mod
  kind := hk
  glob := I.ok.glob
  blt := I.ok.blt
  above := Nat.le_refl _
  inj := fun y z c h1 h2 => I.ok.inj y z c (hcl1 y c h1) (hcl1 z c h2)
  has := fun y hy => by
    have hy' : (relabel scope X.env).names.lookup y = some .cell ∨ (relabel scope X.env).names.lookup y = some .free := hy
    rcases hy' with h | h
    · obtain ⟨k', m, q⟩ := lookup_relabel h
      rcases q with q | ⟨_, q⟩
      · exact absurd q (hcell _ m)
      · subst q; exact hcl2 y m
    · obtain ⟨k', m, q⟩ := lookup_relabel h
      rcases q with q | ⟨q, _⟩
      · subst q; exact hcl2 y m
      · cases q
  cab := fun y c h _ => by cases h
  hd := I.ok.hd
  frames := I.ok.frames
  stk := .inl rfl
  exf := fun b hb => ⟨Nat.ne_of_lt (hlt b hb), fun y c h => (hf b hb).2.2.2.2.1 y c (hcl1 y c h)⟩
  bs := I.bs
  bsz := Nat.le_trans I.ok.bsz I.sz
  noex := fun b o e hb => by
    rcases (hf b hb).2.2.2.1 with z | z
    · exact I.ok.noex b o e z
    · exact absurd (Nat.lt_of_lt_of_le (Heap.lt_size e) (Nat.le_trans I.ok.bsz z)) (Nat.lt_irrefl _)
  exfs := fun b hb hz => (List.mem_cons.mp (I.stkSub b hz)).elim (hf b hb).2.1 (hf b hb).2.2.1
  funs := I.stack
  frf := I.stkFree

theorem comp_start {h₁ : Heap} {tk : Nat} (I : Inv X pins σ H s) (hk : scope.kind = .function) (hcell : ∀ y ∈ scope.names, y.2 ≠ .cell)
    (hcl1 : ∀ y c, cl.lookup y = some c → X.env.cells.lookup y = some c) (hcl2 : ∀ y, (y, NameKind.free) ∈ scope.names → ∃ c, cl.lookup y = some c) (hjs : FreeAt X scope js)
    (hf : ∀ b ∈ fp, FpOk X pins H b) (hlt : ∀ b ∈ fp, b < s.heap.objs.size) {m : Str → Option Value} (hn : h₁.Ns s.heap.objs.size m) (hkeep : ∀ b o, s.heap.get? b = some o → h₁.get? b = some o) :
    Inv (cxComp X scope cl (cNames X x js) s H fp) [] (none :: cVals js σ) H { s with heap := h₁, toks := tk } where
  ok := comp_ok I hk hcell hcl1 hcl2 hf hlt
  os := rfl
  bare := I.bare
  base := Un.kept hkeep
  loc := by
    refine ⟨m, hn, fun i y v h1 h2 h3 => ?_⟩
    cases i with
    | zero =>
      have z : (some none : Option (Option V)) = some (some v) := h2
      cases z
    | succ k =>
      have h1' : (js.map fun j => X.N.getD j "")[k]? = some y := h1
      have h2' : (js.map fun j => (σ[j]?).getD none)[k]? = some (some v) := h2
      rw [List.getElem?_map] at h1' h2'
      cases hj : js[k]? with
      | none => rw [hj] at h1'; cases h1'
      | some j =>
        rw [hj] at h1' h2'
        have e1 : X.N.getD j "" = y := Option.some.inj h1'
        have e2 : (σ[j]?).getD none = some v := Option.some.inj h2'
        obtain ⟨y', n1, n2, n3, n4⟩ := hjs.all j (List.mem_of_getElem? hj)
        have e3 : y' = y := by rw [← e1, List.getD_eq_getElem?_getD, n1]; rfl
        subst e3
        have e4 : σ[j]? = some (some v) := by
          cases q : σ[j]? with
          | none => rw [q] at e2; cases e2
          | some a => rw [q] at e2; exact congrArg some e2
        obtain ⟨m0, _, hl⟩ := I.loc
        obtain ⟨u, r, l⟩ := hl j y' v n1 e4 (n2.elim (fun z => Or.inr (Or.inl z)) fun z => Or.inr (Or.inr z))
        refine ⟨u, r, .inr ⟨n4, ?_⟩⟩
        rcases l with ⟨l, _⟩ | ⟨_, c, hc, hi⟩
        · exfalso
          rcases n2 with z | z <;> (rw [z] at l; cases l)
        · obtain ⟨c', hc'⟩ := hcl2 y' n3
          have e5 := hcl1 y' c' hc'
          rw [hc] at e5
          have e6 := Option.some.inj e5
          subst e6
          obtain ⟨o, ho, hd⟩ := hi
          exact ⟨c, hc', o, hkeep c o ho, hd⟩
  cell := fun y c h => by
    obtain ⟨v, o, ho, hd⟩ := I.cell y c (hcl1 y c h)
    exact ⟨v, o, hkeep c o ho, hd⟩
  free := I.hok.fresh (Nat.le_refl _)
  freeC := fun y c h => I.freeC y c (hcl1 y c h)
  pin := fun p hp => absurd (show p ∈ ([] : List (Addr × Obj)) from hp) (by simp)
  hok := I.hok.kept hkeep
  len := by
    show (none :: cVals js σ).length = (cNames X x js).length
    simp [cVals, cNames]
end

/-- the tests of a clause -/
def PIf (X : Cx) (ifs : List Expr) (t : TT) : Prop :=
  ∀ (pins : List (Addr × Obj)) (s : Shared) (σ : St) (H : Hp) (Q : Bool → Hp → Prop), Inv X pins σ H s → t σ H Q →
    wpAny (model X.prog X.w) X.A (forIn ifs true fun c r => if r = true then do let ok ← isTrue c X.env (eval c X.env); pure (ForInStep.yield ok) else pure (ForInStep.yield r)) (TP X pins σ Q) X.xe s
def tNoIf : TT := fun _ H Q => Q true H
theorem pif_nil {X : Cx} : PIf X [] tNoIf := fun _ _ _ H _ I h => wpAny_tests_nil ⟨H, I, h⟩
theorem pif_one {X : Cx} {c : Expr} {t : TT} (h : PT X c t) : PIf X [c] t := fun pins s σ H Q I q => wpAny_tests_one (h pins s σ H Q I q)

/-- [elt for x in iter if ..]: W an invariant by the turn and a measure; the list grows at D -/
def tComp (wi : TI) (tc : TT) (te : TE) (js : List Nat) : TE := fun σ H Q => wi σ H fun J H1 => ∀ D, H1 D = none →
  ∃ W : Nat → Nat → Hp → Prop, (∃ m, W 0 m (upd H1 D (.lst []))) ∧ ∀ i m H2, W i m H2 → (J.stop i H2 ∧ Q (.ref D) H2) ∨
    (J.go i H2 ∧ ∀ v H3, J.yld i H2 v H3 → tc (some v :: cVals js σ) H3 fun b H4 => if b = true then te (some v :: cVals js σ) H4 fun y H5 =>
      ∃ ys, H5 D = some (.lst ys) ∧ ys.length < sizeLine ∧ ∃ m', m' < m ∧ W (i + 1) m' (upd H5 D (.lst (ys ++ [y]))) else ∃ m', m' < m ∧ W (i + 1) m' H4)

section
variable {X : Cx} {elt iter : Expr} {x : Str} {px pos : Pos} {ifs : List Expr} {scope : Scope} {cl : List (Str × Addr)} {wi : TI} {tc : TT} {te : TE} {js : List Nat}

theorem comp_core {use : Option (Value → Sem Unit)} {Qv : Value → Shared → Prop} {pins : List (Addr × Obj)} {s : Shared} {σ : St} {H : Hp} {Q : VK}
    (hc : X.calm = true) (hi : PI X (.Name x px) iter wi) (hk : scope.kind = .function) (hcell : ∀ y ∈ scope.names, y.2 ≠ .cell) (hx : (relabel scope X.env).names.lookup x = some .local)
    (hcl1 : ∀ y c, cl.lookup y = some c → X.env.cells.lookup y = some c) (hcl2 : ∀ y, (y, NameKind.free) ∈ scope.names → ∃ c, cl.lookup y = some c) (hjs : FreeAt X scope js) (hnd : (cNames X x js).Nodup)
    (ht : ∀ s' H' fp, PIf (cxComp X scope cl (cNames X x js) s' H' fp) ifs tc) (he : ∀ s' H' fp, PE (cxComp X scope cl (cNames X x js) s' H' fp) elt te)
    (I : Inv X pins σ H s) (h : tComp wi tc te js σ H Q)
    (fin : ∀ (D C : Addr) (H' : Hp) (s' : Shared), Inv X pins σ H' s' → FpOk X pins H' C → (∃ m, s'.heap.Ns C m) → Q (.ref D) H' → compPost (model X.prog X.w) X.A X.xe use Qv (.ref D) C (.ok .next) s') :
    wpAny (model X.prog X.w) X.A (eval iter X.env) (fun xv s₁ => wpAny (model X.prog X.w) X.A (pyIter xv) (fun it s₂ => wpAny (model X.prog X.w) X.A (newList []) (fun acc s₃ =>
      wpAny (model X.prog X.w) X.A (newFunctionEnv scope X.env.globals cl [] X.env.qual none .none (some X.env)) (fun cenv s₄ =>
        codeAny (model X.prog X.w) X.A (.compStart (.ListComp elt [⟨.Name x px, iter, ifs, 0⟩] scope pos) 0 it acc { cenv with scope := relabel scope X.env })
          (compPost (model X.prog X.w) X.A X.xe use Qv acc cenv.locals) s₄) X.xe s₃) X.xe s₂) X.xe s₁) X.xe s := by
  refine thn (hi pins s σ H _ I h) fun v s1 h1 => thn h1 fun itv s2 h2 => ?_
  obtain ⟨it, fp, tn, J, H2, e, I2, T, st2, f2, hW⟩ := h2
  subst e
  obtain ⟨W, ⟨m0, w0⟩, turn⟩ := hW s2.heap.objs.size (I2.hok.fresh (Nat.le_refl _))
  have hlt2 : ∀ b ∈ fp, b < s2.heap.objs.size := fun b hb => let ⟨_, e, _⟩ := T.obj _ _ st2 b hb; Heap.lt_size e
  have I3 : Inv X pins σ (upd H2 s2.heap.objs.size (.lst [])) { s2 with heap := s2.heap.push { cls := .type "list", data := .seq ([] : List Value).toArray } } :=
    I2.lnew (t' := s2.toks) (its := []) .nil (Nat.zero_le _)
  refine wpAny_newObj_type ?_
  have k23 : ∀ b o, s2.heap.get? b = some o → (s2.heap.push { cls := .type "list", data := .seq ([] : List Value).toArray }).get? b = some o := fun b o e => Heap.get?_push_of_some _ e
  have sz3 : (s2.heap.push { cls := .type "list", data := .seq ([] : List Value).toArray }).objs.size = s2.heap.objs.size + 1 := Heap.size_push ..
  generalize hs3 : ({ s2 with heap := s2.heap.push { cls := .type "list", data := .seq ([] : List Value).toArray } } : Shared) = s3 at I3
  have hs3' : s3.heap = s2.heap.push { cls := .type "list", data := .seq ([] : List Value).toArray } := by rw [← hs3]
  have hlt3 : ∀ b ∈ fp, b < s3.heap.objs.size := fun b hb => by rw [hs3', sz3]; exact Nat.lt_succ_of_lt (hlt2 b hb)
  have f3 : ∀ b ∈ fp, FpOk X pins (upd H2 s2.heap.objs.size (.lst [])) b := fun b hb => ⟨by rw [upd_ne (Nat.ne_of_lt (hlt2 b hb))]; exact (f2 b hb).1, (f2 b hb).2⟩
  refine wpAny_newFunctionEnv hcell (by intro y hy; simp at hy) (fun h₁ hns hsb => ?_) hk
  have k34 : ∀ b o, s3.heap.get? b = some o → h₁.get? b = some o := fun b o e => hsb.extBut b o (Nat.ne_of_lt (Heap.lt_size e)) (Heap.get?_push_of_some _ e)
  have I4 := comp_start (x := x) (js := js) (tk := s3.toks + ([] : List (Str × Value)).length) I3 hk hcell hcl1 hcl2 hjs f3 hlt3 hns k34
  have st4 : tn 0 h₁ := T.keep 0 _ _ st2 fun b hb o e => k34 b o (by rw [hs3']; exact k23 b o e)
  -- the iterator's records stay what they are
  have stat : ∀ {H' : Hp}, (∀ b ∈ fp, H' b = none) → ∀ b ∈ fp, FpOk (cxComp X scope cl (cNames X x js) s3 (upd H2 s2.heap.objs.size (.lst [])) fp) [] H' b := fun hn b hb =>
    ⟨hn b hb, Nat.ne_of_lt (hlt3 b hb), fun hz => (List.mem_cons.mp (I3.stkSub b hz)).elim (f2 b hb).2.1 (f2 b hb).2.2.1, .inl hb, fun y c q => (f2 b hb).2.2.2.2.1 y c (hcl1 y c q), fun p hp => absurd (show p ∈ ([] : List (Addr × Obj)) from hp) (by simp)⟩
  have back : ∀ {σ' : St} {H' : Hp} {s' : Shared}, Inv (cxComp X scope cl (cNames X x js) s3 (upd H2 s2.heap.objs.size (.lst [])) fp) [] σ' H' s' → Inv X pins σ H' s' := fun {σ' H' s'} J' =>
    I3.call' (ch := fp) J'.os J'.base J'.hok J'.bare fun b hb => ⟨(f2 b hb).2.2.2.1, (f2 b hb).2.1, (f2 b hb).2.2.2.2.1, (f2 b hb).2.2.2.2.2⟩
  have loop : codeAny (model X.prog X.w) X.A (.compLoop (.ListComp elt [⟨.Name x px, iter, ifs, 0⟩] scope pos) 0 (.ref it) (.ref s2.heap.objs.size) (compEnvC scope cl s3.heap.objs.size X.env))
      (compPost (model X.prog X.w) X.A X.xe use Qv (.ref s2.heap.objs.size) s3.heap.objs.size) { s3 with heap := h₁, toks := s3.toks + ([] : List (Str × Value)).length } := by
    refine codeAny_compLoop_tests (fun n s' => ∃ i o H', Inv (cxComp X scope cl (cNames X x js) s3 (upd H2 s2.heap.objs.size (.lst [])) fp) [] (o :: cVals js σ) H' s' ∧ tn i s'.heap ∧ (∀ b ∈ fp, H' b = none) ∧ W i n H') ?_ m0
      ⟨0, none, _, I4, st4, fun b hb => (f3 b hb).1, w0⟩
    rintro n s5 ⟨i, o, H5, I5, st5, fr5, w5⟩
    rcases turn i n H5 w5 with ⟨stop, q⟩ | ⟨go, step⟩
    · refine thn (T.done (cxComp X scope cl (cNames X x js) s3 (upd H2 s2.heap.objs.size (.lst [])) fp) rfl rfl rfl hc i [] s5 _ H5 _ I5 (stat fr5) st5 stop) fun r s6 ⟨hr, I6⟩ => ?_
      subst hr
      exact fin _ _ H5 s6 (back I6) (I3.fpOk (Nat.le_refl _) I6.free) (let ⟨m, hm, _⟩ := I6.loc; ⟨m, hm⟩) q
    · refine thn (T.item (cxComp X scope cl (cNames X x js) s3 (upd H2 s2.heap.objs.size (.lst [])) fp) rfl rfl rfl hc i [] s5 _ H5 _ I5 (stat fr5) st5 go) fun r s6 ⟨u, hr, h6⟩ => ?_
      subst hr
      show wpAny _ _ (assign (.Name x px) _ u) _ _ s6
      intro Γ p hΓ
      have h6' := h6 Γ p hΓ
      obtain ⟨v, H6, I6, r6, y6, st6, fr6⟩ := h6'
      refine (?_ : wpAny _ _ _ _ _ s6) Γ p hΓ
      have I6' := I6.pinned (stat fr6) (T.obj _ _ st6)
      have hg : PG (cxComp X scope cl (cNames X x js) s3 (upd H2 s2.heap.objs.size (.lst [])) fp) (.Name x px) (gName 0) := pg_name (i := 0) hnd rfl (Or.inl hx) (.inr hx)
      refine wpAny_mono (hg _ s6 _ H6 v u (fun σ' H' => σ' = some v :: cVals js σ ∧ H' = H6) I6' r6 ⟨rfl, rfl⟩) (fun _ s7 q7 => ?_) (fun _ _ f => False.elim f)
      obtain ⟨σ7, H7, I7, e7, e8⟩ := q7
      subst e7 e8
      refine wpAny_mono (ht s3 _ fp _ s7 _ H7 _ I7 (step v H7 y6)) (fun ok s8 q8 => ?_) (fun _ _ f => False.elim f)
      obtain ⟨H8, I8, q8⟩ := q8
      have again : ∀ {s9 : Shared} {σ9 : St} {H9 : Hp} {m' : Nat}, Inv (cxComp X scope cl (cNames X x js) s3 (upd H2 s2.heap.objs.size (.lst [])) fp) ([] ++ pinsAt fp s6.heap) (some v :: cVals js σ) H9 s9 → m' < n → W (i + 1) m' H9 →
          ∃ m, m < n ∧ ∃ i o H', Inv (cxComp X scope cl (cNames X x js) s3 (upd H2 s2.heap.objs.size (.lst [])) fp) [] (o :: cVals js σ) H' s9 ∧ tn i s9.heap ∧ (∀ b ∈ fp, H' b = none) ∧ W i m H' := fun {s9 σ9 H9 m'} I9 hm w9 => by
        refine ⟨m', hm, i + 1, some v, H9, I9.unpinned, T.keep _ _ _ st6 fun b hb o e => (I9.pin (b, o) (List.mem_append_right _ (List.mem_append_right _ (mem_pinsAt hb e)))).1, fun b hb => ?_, w9⟩
        obtain ⟨o, e, d⟩ := T.obj _ _ st6 b hb
        exact (I9.pin (b, o) (List.mem_append_right _ (List.mem_append_right _ (mem_pinsAt hb e)))).2.1
      cases ok with
      | false =>
        rw [if_neg Bool.false_ne_true] at q8 ⊢
        obtain ⟨m', hm, w9⟩ := q8
        exact again (σ9 := []) I8 hm w9
      | true =>
        rw [if_pos rfl] at q8 ⊢
        refine wpAny_mono (he s3 _ fp _ s8 _ H8 _ I8 q8) (fun y s9 q9 => ?_) (fun _ _ f => False.elim f)
        obtain ⟨yv, H9, I9, r9, ys, hD, hl, m', hm, w9⟩ := q9
        refine wpAny_mono (mt_append (X := cxComp X scope cl (cNames X x js) s3 (upd H2 s2.heap.objs.size (.lst [])) fp) _ s9 _ H9 (.ref s2.heap.objs.size) [yv] (.ref s2.heap.objs.size) [y] (fun _ H' => H' = upd H9 s2.heap.objs.size (.lst (ys ++ [yv]))) I9 rfl (.cons r9 .nil) ⟨_, ys, yv, rfl, rfl, hD, hl, rfl⟩) (fun _ s10 q10 => ?_) (fun _ _ f => False.elim f)
        obtain ⟨_, H10, I10, _, e10⟩ := q10
        subst e10
        exact again (σ9 := []) I10 hm w9
  exact codeAny_compStart_list loop (T.self _ 0 _ _ _ st4 loop)

/-- the comprehension as an expression -/
theorem pe_comp (hc : X.calm = true) (hi : PI X (.Name x px) iter wi) (hk : scope.kind = .function) (hcell : ∀ y ∈ scope.names, y.2 ≠ .cell) (hnames : ∀ y ∈ scope.names, y.2 = .local → scope.names.lookup y.1 = some .local) (hx : (relabel scope X.env).names.lookup x = some .local)
    (hclos : closureFor scope X.env = pure cl) (hcl1 : ∀ y c, cl.lookup y = some c → X.env.cells.lookup y = some c) (hcl2 : ∀ y, (y, NameKind.free) ∈ scope.names → ∃ c, cl.lookup y = some c) (hjs : FreeAt X scope js) (hnd : (cNames X x js).Nodup)
    (ht : ∀ s' H' fp, PIf (cxComp X scope cl (cNames X x js) s' H' fp) ifs tc) (he : ∀ s' H' fp, PE (cxComp X scope cl (cNames X x js) s' H' fp) elt te)
    (hs : ∀ x, foldedSetIterable iter X.env x = pure x := by intro _; rfl) : PE X (.ListComp elt [⟨.Name x px, iter, ifs, 0⟩] scope pos) (tComp wi tc te js) := by
  intro pins s σ H Q I h
  rw [eval_ListComp]
  refine wpAny_comprehension_free (use := none) rfl hs hclos hk hnames (comp_core hc hi hk hcell hx hcl1 hcl2 hjs hnd ht he I h fun D C H' s' I' fC hC q => ?_)
  obtain ⟨m, hm⟩ := hC
  refine ⟨m, hm, fun h' sb => ?_⟩
  obtain ⟨f0, f1, f2, f3, f4, f5⟩ := fC
  exact ⟨.ref D, H', I'.turned (t' := s'.toks) (fun b o hb e => (sb.2 b hb).trans e) f0 f1 f3 f4 f5, rfl, q⟩

end
end L2


set_option Elab.async false
set_option linter.all false
set_option maxRecDepth 100000
set_option maxHeartbeats 4000000
namespace L2
open PySem PySem.Spec PySem.Calls PyProof.Rows PySem.W PySem.Builtin.Getset_descriptor
section
variable {prog : Program} {w : World} {A : Around} {E : Value → Shared → Prop} {s : Shared} {K : Frag} {x D : Addr}
end
end L2


set_option Elab.async false
set_option linter.all false
set_option maxRecDepth 100000
set_option maxHeartbeats 4000000
namespace L2
open PySem PySem.Spec PyProof.Rows
section
variable {P : Program} {w : World} {H : Hp} {h : Heap} {a : Addr} {o : HO}
end

/-! ### how an exception lies behind a call: ea the object, C its class; whatever is tracked, or stood ahead of the call, stands in B, which stays -/

/-! ### raise: the exception leaves the def -/
section
variable {P : Program} {w : World} {K : PySem.W.Frag} {mg : Str → Option Value} {base : Heap} {N : List Str} {qual : Str} {scope : Scope} {f : Addr} {cd : Value} {A : Around} {outer : List Env} {s : Shared} {H : Hp} {E : XK}
end
end L2


set_option Elab.async false
set_option linter.all false
set_option maxRecDepth 100000
set_option maxHeartbeats 4000000
namespace L2
open PySem PySem.Spec PyProof.Rows PySem.W

/-! ### raise X(..) of an own class without __init__ -/

section
variable {P : Program} {w : World} {K : Frag} {mg : Str → Option Value} {base : Heap} {N : List Str} {qual : Str} {scope : Scope} {f : Addr} {cd : Value} {A : Around} {outer : List Env} {s : Shared} {H : Hp} {E : XK}
end

/-! ### a def that may raise -/

/-! ### except X -/
end L2


set_option Elab.async false
set_option linter.all false
set_option maxRecDepth 100000
set_option maxHeartbeats 4000000
namespace L2
open PySem PySem.Spec PyProof.Rows PySem.W

section
variable {X : Cx} {pins : List (Addr × Obj)} {σ : St} {H H' : Hp} {s s' : Shared}
end
end L2


set_option Elab.async false
set_option linter.all false
set_option maxRecDepth 100000
set_option maxHeartbeats 4000000
namespace L2
open PySem PySem.Spec PyProof.Rows PySem.W

/-! ### try: f(..) except Y as n: suite -/

/-! ### isinstance(an exception that was caught, c) -/
end L2


set_option Elab.async false
set_option linter.all false
set_option maxRecDepth 100000
set_option maxHeartbeats 4000000
namespace L2
open PySem PySem.Spec PyProof.Rows PySem.W
section
variable {X : Cx}
/-! ### == of two tuples of ints -/

/-! ### a, b = a list -/

/-! ### a comprehension's free names -/
theorem clo_aux {env : Env} : ∀ (names : List (Str × NameKind)) (acc : List (Str × Addr)), (∀ y, (y, NameKind.free) ∈ names → ∃ c, env.cells.lookup y = some c) →
    ∃ cl : List (Str × Addr), (forIn names acc (fun x r => match x with
        | (name, kind) => if (kind == NameKind.free) = true then do let a ← cellOf env name; pure (ForInStep.yield ((name, a) :: r)) else pure (ForInStep.yield r)) : Sem _) = pure cl ∧
      (∀ y c, cl.lookup y = some c → acc.lookup y = some c ∨ env.cells.lookup y = some c) ∧ (∀ y, (y, NameKind.free) ∈ names → ∃ c, cl.lookup y = some c) ∧ ∀ y, (∃ c, acc.lookup y = some c) → ∃ c, cl.lookup y = some c
  | [], acc, _ => ⟨acc, rfl, fun _ _ h => .inl h, (fun _ h => nomatch h), fun _ h => h⟩
  | (nm, kd) :: r, acc, h => by
    by_cases hk : kd = .free
    · subst hk
      obtain ⟨c, hc⟩ := h nm List.mem_cons_self
      obtain ⟨cl, e, p1, p2, p3⟩ := clo_aux r ((nm, c) :: acc) fun y hy => h y (List.mem_cons_of_mem _ hy)
      refine ⟨cl, ?_, fun y d hd => ?_, fun y hy => ?_, fun y hy => ?_⟩
      · rw [List.forIn_cons]
        have z : cellOf env nm = pure c := by unfold cellOf; rw [hc]
        simp only [z, beq_self_eq_true, if_true]
        exact e
      · rcases p1 y d hd with q | q
        · rw [List.lookup_cons] at q
          cases hy : y == nm with
          | true =>
            rw [hy] at q
            have e1 := beq_iff_eq.mp hy
            subst e1
            cases q
            exact .inr hc
          | false => rw [hy] at q; exact .inl q
        · exact .inr q
      · rcases List.mem_cons.mp hy with q | q
        · cases q
          exact p3 nm ⟨c, by rw [List.lookup_cons, beq_self_eq_true]⟩
        · exact p2 y q
      · obtain ⟨d, hd⟩ := hy
        refine p3 y ?_
        rw [List.lookup_cons]
        cases y == nm with
        | true => exact ⟨c, rfl⟩
        | false => exact ⟨d, hd⟩
    · obtain ⟨cl, e, p1, p2, p3⟩ := clo_aux r acc fun y hy => h y (List.mem_cons_of_mem _ hy)
      refine ⟨cl, ?_, p1, fun y hy => ?_, p3⟩
      · rw [List.forIn_cons]
        have z : (kd == NameKind.free) = false := by simpa using hk
        simp only [z, Bool.false_eq_true, if_false]
        exact e
      · rcases List.mem_cons.mp hy with q | q
        · cases q; exact absurd rfl hk
        · exact p2 y q
theorem clo_of {scope : Scope} {env : Env} (h : ∀ y, (y, NameKind.free) ∈ scope.names → ∃ c, env.cells.lookup y = some c) :
    ∃ cl, closureFor scope env = pure cl ∧ (∀ y c, cl.lookup y = some c → env.cells.lookup y = some c) ∧ ∀ y, (y, NameKind.free) ∈ scope.names → ∃ c, cl.lookup y = some c := by
  obtain ⟨cl, e, p1, p2, _⟩ := clo_aux (env := env) scope.names [] h
  refine ⟨cl, ?_, fun y c hc => (p1 y c hc).elim (fun z => by cases z) fun z => z, p2⟩
  unfold closureFor
  show (forIn scope.names [] _ >>= fun s => pure s) = pure cl
  rw [bind_pure]
  exact e
/-- what the block's free names ask: each is one of those at js -/
theorem free_of {scope : Scope} {js : List Nat} {pins : List (Addr × Obj)} {σ : St} {H : Hp} {s : Shared} (I : Inv X pins σ H s) (hf : ∀ y, (y, NameKind.free) ∈ scope.names → X.env.kindOf y = some .cell ∨ X.env.kindOf y = some .free) :
    ∀ y, (y, NameKind.free) ∈ scope.names → ∃ c, X.env.cells.lookup y = some c := fun y hy => I.ok.has y (hf y hy)
variable {elt iter : Expr} {x : Str} {px pos : Pos} {ifs : List Expr} {scope : Scope} {wi : TI} {tc : TT} {te : TE} {js : List Nat}
theorem pe_compF (hc : X.calm = true) (hi : PI X (.Name x px) iter wi) (hk : scope.kind = .function) (hcell : ∀ y ∈ scope.names, y.2 ≠ .cell) (hnames : ∀ y ∈ scope.names, y.2 = .local → scope.names.lookup y.1 = some .local) (hx : (relabel scope X.env).names.lookup x = some .local)
    (hf : ∀ p ∈ scope.names, p.2 = .free → X.env.kindOf p.1 = some .cell ∨ X.env.kindOf p.1 = some .free) (hjs : FreeAt X scope js) (hnd : (cNames X x js).Nodup)
    (ht : ∀ cl s' H' fp, PIf (cxComp X scope cl (cNames X x js) s' H' fp) ifs tc) (he : ∀ cl s' H' fp, PE (cxComp X scope cl (cNames X x js) s' H' fp) elt te)
    (hs : ∀ x, foldedSetIterable iter X.env x = pure x := by intro _; rfl) : PE X (.ListComp elt [⟨.Name x px, iter, ifs, 0⟩] scope pos) (tComp wi tc te js) := by
  intro pins s σ H Q I h
  obtain ⟨cl, e, p1, p2⟩ := clo_of (free_of (js := js) I fun y hy => hf (y, .free) hy rfl)
  exact pe_comp hc hi hk hcell hnames hx e p1 p2 hjs hnd (ht cl) (he cl) hs pins s σ H Q I h
end
end L2


set_option Elab.async false
set_option linter.all false
set_option maxRecDepth 100000
set_option maxHeartbeats 4000000
namespace L2
open PySem PySem.Spec PyProof.Rows

/-! ### data in the heap: ints, truths, texts, None, and tuples of these -/
mutual
def Dat (K : PySem.W.Frag) (H : Hp) : PyData → V → Prop
  | .none, v => v = .non
  | .bool b, v => v = .bl b
  | .int i, v => v = .int i
  | .str x, v => v = .str x
  | .tuple ds, v => ∃ a xs, v = .ref a ∧ SqT K H a xs ∧ DatAll K H ds xs
  | .list _, _ => False
  | .dict _, _ => False
def DatAll (K : PySem.W.Frag) (H : Hp) : List PyData → List V → Prop
  | [], xs => xs = []
  | d :: ds, xs => ∃ x r, xs = x :: r ∧ Dat K H d x ∧ DatAll K H ds r
end
/-- tuples, and what is frozen, stay -/
structure Tst (H H' : Hp) : Prop where
  t : ∀ b xs, H b = some (.tup xs) → H' b = some (.tup xs)
  f : ∀ b o u, H b = some (.frz o u) → H' b = some (.frz o u)
theorem Tst.refl (H : Hp) : Tst H H := ⟨fun _ _ h => h, fun _ _ _ h => h⟩
theorem Tst.trans {H H1 H2 : Hp} (a : Tst H H1) (b : Tst H1 H2) : Tst H H2 := ⟨fun c xs h => b.t c xs (a.t c xs h), fun c o u h => b.f c o u (a.f c o u h)⟩
theorem Same.ts {H H' : Hp} (e : Same H H') : Tst H H' := ⟨fun b xs h => e b _ h, fun b o u h => e b _ h⟩
theorem ts_mut {H : Hp} {l : Addr} {xs : List V} {o : HO} (e : H l = some (.lst xs)) : Tst H (upd H l o) :=
  ⟨fun b ys h => by rw [upd_ne (ne_of h e (by intro z; cases z))]; exact h, fun b o u h => by rw [upd_ne (ne_of h e (by intro z; cases z))]; exact h⟩
theorem SqT.ts {K : PySem.W.Frag} {H H' : Hp} {a : Addr} {xs : List V} (h : SqT K H a xs) (e : Tst H H') : SqT K H' a xs := by
  rcases h with (h | ⟨o, h⟩) | h
  · exact .inl (.inl (e.t _ _ h))
  · exact .inl (.inr ⟨o, e.f _ _ _ h⟩)
  · exact .inr h
mutual
theorem Dat.ts {K : PySem.W.Frag} {H H' : Hp} (e : Tst H H') : ∀ {d : PyData} {v : V}, Dat K H d v → Dat K H' d v
  | .none, _, h => h
  | .bool _, _, h => h
  | .int _, _, h => h
  | .str _, _, h => h
  | .tuple _, _, ⟨a, xs, h1, h2, h3⟩ => ⟨a, xs, h1, h2.ts e, DatAll.ts e h3⟩
  | .list _, _, h => h
  | .dict _, _, h => h
theorem DatAll.ts {K : PySem.W.Frag} {H H' : Hp} (e : Tst H H') : ∀ {ds : List PyData} {xs : List V}, DatAll K H ds xs → DatAll K H' ds xs
  | [], _, h => h
  | _ :: _, _, ⟨x, r, h1, h2, h3⟩ => ⟨x, r, h1, Dat.ts e h2, DatAll.ts e h3⟩
end
theorem DatAll.len {K : PySem.W.Frag} {H : Hp} : ∀ {ds : List PyData} {xs : List V}, DatAll K H ds xs → xs.length = ds.length
  | [], _, h => by subst h; rfl
  | _ :: _, _, ⟨x, r, h1, _, h3⟩ => by subst h1; simp [h3.len]
theorem DatAll.get {K : PySem.W.Frag} {H : Hp} : ∀ {ds : List PyData} {xs : List V} {i : Nat} {d : PyData}, DatAll K H ds xs → ds[i]? = some d → ∃ x, xs[i]? = some x ∧ Dat K H d x
  | [], _, _, _, _, e => by cases e
  | _ :: _, _, 0, _, ⟨x, r, h1, h2, _⟩, e => by subst h1; cases e; exact ⟨x, rfl, h2⟩
  | _ :: _, _, i + 1, _, ⟨x, r, h1, _, h3⟩, e => by
    subst h1
    obtain ⟨y, e1, e2⟩ := h3.get (i := i) (by simpa using e)
    exact ⟨y, by simpa using e1, e2⟩
theorem DatAll.get' {K : PySem.W.Frag} {H : Hp} {ds : List PyData} {xs : List V} {i : Nat} {x : V} (h : DatAll K H ds xs) (e : xs[i]? = some x) : ∃ d, ds[i]? = some d ∧ Dat K H d x := by
  have hl := h.len
  have hi := (List.getElem?_eq_some_iff.mp e).1
  have hd : ds[i]? = some (ds[i]'(by omega)) := List.getElem?_eq_getElem (by omega)
  obtain ⟨y, e1, e2⟩ := h.get hd
  rw [e] at e1
  cases e1
  exact ⟨_, hd, e2⟩
theorem DatAll.append {K : PySem.W.Frag} {H : Hp} : ∀ {ds es : List PyData} {xs ys : List V}, DatAll K H ds xs → DatAll K H es ys → DatAll K H (ds ++ es) (xs ++ ys)
  | [], _, _, _, h, g => by subst h; exact g
  | _ :: _, _, _, _, ⟨x, r, h1, h2, h3⟩, g => by subst h1; exact ⟨x, _, rfl, h2, h3.append g⟩
theorem DatAll.snoc {K : PySem.W.Frag} {H : Hp} {ds : List PyData} {xs : List V} {d : PyData} {x : V} (h : DatAll K H ds xs) (g : Dat K H d x) : DatAll K H (ds ++ [d]) (xs ++ [x]) := h.append ⟨x, [], rfl, g, rfl⟩
mutual
theorem Dat.reads {X : Cx} {pins : List (Addr × Obj)} {σ : St} {H : Hp} {s : Shared} (I : Inv X pins σ H s) : ∀ (d : PyData) {v : V} {u : Value}, Dat X.K H d v → RelV v u → ∃ as, Reads s.heap u d as
  | .none, _, _, h, r => by
    cases (show _ = V.non from h)
    cases (show _ = Value.none from r)
    exact ⟨[], .none⟩
  | .bool b, _, _, h, r => by
    cases (show _ = V.bl b from h)
    cases (show _ = Value.bool b from r)
    exact ⟨[], .bool b⟩
  | .int i, _, _, h, r => by
    cases (show _ = V.int i from h)
    obtain ⟨t, q⟩ := (show ∃ t, _ = Value.int i t from r)
    cases q
    exact ⟨[], .int i t⟩
  | .str x, _, _, h, r => by
    cases (show _ = V.str x from h)
    obtain ⟨t, q⟩ := (show ∃ t, _ = Value.str x t from r)
    cases q
    exact ⟨[], .str x t⟩
  | .tuple ds, _, _, ⟨a, xs, h1, h2, h3⟩, r => by
    cases h1
    cases (show _ = Value.ref a from r)
    obtain ⟨its, rv, ⟨o, ho, hc, n, hd⟩, _⟩ := I.tuple h2
    obtain ⟨as, ra⟩ := DatAll.reads I ds h3 rv
    exact ⟨as, .tuple ho hc hd (by simpa using ra)⟩
  | .list _, _, _, h, _ => False.elim h
  | .dict _, _, _, h, _ => False.elim h
theorem DatAll.reads {X : Cx} {pins : List (Addr × Obj)} {σ : St} {H : Hp} {s : Shared} (I : Inv X pins σ H s) : ∀ (ds : List PyData) {xs : List V} {us : List Value}, DatAll X.K H ds xs → Vals xs us → ∃ as, ReadsAll s.heap us ds as
  | [], _, _, h, r => by
    cases (show _ = ([] : List V) from h)
    cases r
    exact ⟨[], .nil⟩
  | d :: ds, _, _, ⟨x, t, h1, h2, h3⟩, r => by
    cases h1
    cases r with
    | cons r1 r2 =>
      obtain ⟨as, a1⟩ := Dat.reads I d h2 r1
      obtain ⟨bs, b1⟩ := DatAll.reads I ds h3 r2
      exact ⟨as ++ bs, .cons a1 b1⟩
end
/-- such data, or a list of such data -/
def DatX (K : PySem.W.Frag) (H : Hp) (d : PyData) (v : V) : Prop := Dat K H d v ∨ ∃ ds a xs, d = .list ds ∧ v = .ref a ∧ SqL K H a xs ∧ DatAll K H ds xs
theorem DatX.reads {X : Cx} {pins : List (Addr × Obj)} {σ : St} {H : Hp} {s : Shared} {d : PyData} {v : V} {u : Value} (I : Inv X pins σ H s) (h : DatX X.K H d v) (r : RelV v u) : ∃ as, Reads s.heap u d as := by
  rcases h with h | ⟨ds, a, xs, rfl, rfl, h2, h3⟩
  · exact Dat.reads I d h r
  · cases (show _ = Value.ref a from r)
    obtain ⟨its, rv, ⟨o, n, ho, hc, _, hd⟩, _⟩ := I.list h2
    obtain ⟨as, ra⟩ := DatAll.reads I ds h3 rv
    exact ⟨a :: as, .list ho hc hd (by simpa using ra)⟩
section
variable {X : Cx}
def rEqD (K : PySem.W.Frag) : R2 := fun x y H Q => ∃ d e, DatX K H d x ∧ DatX K H e y ∧ SeqAt.shaped d = true ∧ SeqAt.shaped e = true ∧ Q (.bl (PyData.eqv d e)) H
def rNeD (K : PySem.W.Frag) : R2 := fun x y H Q => ∃ d e, DatX K H d x ∧ DatX K H e y ∧ SeqAt.shaped d = true ∧ SeqAt.shaped e = true ∧ Q (.bl (!PyData.eqv d e)) H
theorem op_eqD (hu : X.A.units + 64 < cLine) : OpR X (compareOp .Eq) (rEqD X.K) := by
  intro pins s σ H x y v u Q I rx ry h
  obtain ⟨d, e, hd, he, sd, se, q⟩ := h
  obtain ⟨as, ra⟩ := hd.reads I rx
  obtain ⟨bs, rb⟩ := he.reads I ry
  exact eq_dataH ra rb sd se hu ⟨.bl _, H, I, rfl, q⟩
theorem op_neD (hu : X.A.units + 64 < cLine) : OpR X (compareOp .NotEq) (rNeD X.K) := by
  intro pins s σ H x y v u Q I rx ry h
  obtain ⟨d, e, hd, he, sd, se, q⟩ := h
  obtain ⟨as, ra⟩ := hd.reads I rx
  obtain ⟨bs, rb⟩ := he.reads I ry
  exact ne_dataH ra rb sd se hu ⟨.bl _, H, I, rfl, q⟩
/-! ### isinstance of a tuple, a list that is read -/
theorem call_isiT : CallR X (.builtin "isinstance") (fun xs H Q => ∃ (a : Addr) (ys : List V) (c : V) (cv : Value) (k : Bool), xs = [.ref a, c] ∧ (∀ u, RelV c u → u = cv) ∧ SqT X.K H a ys ∧ PySem.W.kitOne X.K (.type "tuple") cv = some k ∧ Q (.bl k) H) := by
  intro pins s σ H xs us Q I r h
  obtain ⟨a, ys, c, cv, k, rfl, hc, hq, kt, q⟩ := h
  obtain ⟨u, w', rfl, r1, r2⟩ := vals2 r
  have e := hc _ r2
  subst e
  cases (show u = Value.ref a from r1)
  obtain ⟨its, rv, ⟨o, h1, h2, _⟩, _⟩ := I.tuple hq
  exact PySem.W.kia_one PySem.W.kitx_tuple I.kIn ⟨o, h1, h2⟩ kt (fun z => nomatch z) fun tk => ⟨.bl k, H, I.tok tk, rfl, q⟩
/-! ### all, any of a list of truths -/
theorem bools_of {bs : List Bool} : ∀ {us : List Value}, Vals (bs.map V.bl) us → LSm.BoolsAre us bs := by
  induction bs with
  | nil => intro us r; cases r; exact .nil
  | cons b r ih =>
    intro us q
    cases q with
    | cons a t =>
      cases (show _ = Value.bool b from a)
      exact .cons b (ih t)
theorem call_all (hc : X.calm = true) : CallR X (.builtin "all") (fun xs H Q => ∃ (l : Addr) (bs : List Bool), xs = [.ref l] ∧ SqL X.K H l (bs.map V.bl) ∧ Q (.bl (bs.all id)) H) := by
  intro pins s σ H xs us Q I r h
  obtain ⟨l, bs, rfl, hq, q⟩ := h
  obtain ⟨u, rfl, rx⟩ := vals1 r
  cases rx
  obtain ⟨its, rv, pl, _⟩ := I.list hq
  have hl := pl.isList
  have hb := bools_of rv
  have hlt : l < s.heap.objs.size := by obtain ⟨_, e, _⟩ := hl; exact Heap.lt_size e
  refine call_all_walk (wpAny_pyIter_list hl ?_)
  refine ⟨s.heap.objs.size, [s.heap.objs.size, l], [s.heap.objs.size], its.toArray.size, _, _, fun i => (bs[i]?).getD true, rfl, Walks.list (A := X.A.in1) (I.ok.hd hc) _ l (Nat.ne_of_lt hlt) its.toArray,
    ⟨⟨_, Heap.get?_push_size _ rfl, rfl, rfl⟩, hl.push _⟩, fun i v s' Q' E' hP hQ => ?_, fun h' tk hk => ?_⟩
  · obtain ⟨b, e, rfl⟩ := hb.get i v (by simpa using hP)
    simp only [e, Option.getD_some] at hQ
    exact wpAny_truthy_bool hQ
  · have e : ((List.range its.toArray.size).all fun i => (bs[i]?).getD true) = bs.all id := by
      rw [List.size_toArray, hb.length]; exact LSm.range_all bs
    rw [e]
    exact ⟨.bl _, H, I.kept (t' := tk) (LSm.kept_iter hk), rfl, q⟩
theorem call_any (hc : X.calm = true) : CallR X (.builtin "any") (fun xs H Q => ∃ (l : Addr) (bs : List Bool), xs = [.ref l] ∧ SqL X.K H l (bs.map V.bl) ∧ Q (.bl (bs.any id)) H) := by
  intro pins s σ H xs us Q I r h
  obtain ⟨l, bs, rfl, hq, q⟩ := h
  obtain ⟨u, rfl, rx⟩ := vals1 r
  cases rx
  obtain ⟨its, rv, pl, _⟩ := I.list hq
  have hl := pl.isList
  have hb := bools_of rv
  have hlt : l < s.heap.objs.size := by obtain ⟨_, e, _⟩ := hl; exact Heap.lt_size e
  refine call_any_walk (wpAny_pyIter_list hl ?_)
  refine ⟨s.heap.objs.size, [s.heap.objs.size, l], [s.heap.objs.size], its.toArray.size, _, _, fun i => (bs[i]?).getD false, rfl, Walks.list (A := X.A.in1) (I.ok.hd hc) _ l (Nat.ne_of_lt hlt) its.toArray,
    ⟨⟨_, Heap.get?_push_size _ rfl, rfl, rfl⟩, hl.push _⟩, fun i v s' Q' E' hP hQ => ?_, fun h' tk hk => ?_⟩
  · obtain ⟨b, e, rfl⟩ := hb.get i v (by simpa using hP)
    simp only [e, Option.getD_some] at hQ
    exact wpAny_truthy_bool hQ
  · have e : ((List.range its.toArray.size).any fun i => (bs[i]?).getD false) = bs.any id := by
      rw [List.size_toArray, hb.length]; exact LSm.range_any bs
    rw [e]
    exact ⟨.bl _, H, I.kept (t' := tk) (LSm.kept_iter hk), rfl, q⟩
end
/-! ### the same, where the context's K is named (within a comprehension the reading may not name the context) -/
section
variable {X : Cx} {K : PySem.W.Frag}
theorem ix_tupK (e : X.K = K) : IxR X (rIxT K) := e ▸ ix_tup
end
/-! ### what such data say when they are compared -/
theorem lay_map {α : Type} {f : α → PyData} (h : ∀ a, (f a).canLay0 = true) : ∀ L : List α, PyData.canLayAll0 (L.map f) = true
  | [] => by simp [PyData.canLayAll0]
  | a :: r => by simp [PyData.canLayAll0, h a, lay_map h r]
theorem depth_map {α : Type} {f : α → PyData} {n : Nat} (h : ∀ a, (f a).depth ≤ n) : ∀ L : List α, PyData.depthAll (L.map f) ≤ n
  | [] => by simp [PyData.depthAll]
  | a :: r => by
    have h1 := h a
    have h2 := depth_map h r
    simp only [List.map_cons, PyData.depthAll]
    omega
theorem eqv_map {α : Type} [DecidableEq α] {f : α → PyData} (h : ∀ a b, PyData.eqv (f a) (f b) = decide (a = b)) : ∀ L M : List α, PyData.eqvAll (L.map f) (M.map f) = decide (L = M)
  | [], [] => by simp [PyData.eqvAll]
  | [], _ :: _ => by simp [PyData.eqvAll]
  | _ :: _, [] => by simp [PyData.eqvAll]
  | a :: r, b :: t => by
    simp only [List.map_cons, PyData.eqvAll, h a b, eqv_map h r t]
    by_cases h1 : a = b <;> by_cases h2 : r = t <;> simp [h1, h2]
/-! ### a tuple, an int that stands at the top -/
structure TopTup (K : PySem.W.Frag) (mg : Str → Option Value) (x : Str) (ns : List Int) : Prop where
  ex : ∃ a, mg x = some (.ref a) ∧ ∀ H, SqT K H a (ns.map V.int)
theorem toptup_mk {K : PySem.W.Frag} {h : Heap} {mg : Str → Option Value} {x : Str} {a : Addr} {od : Option Addr} {its : Array Value} {n : Nat} {osl : Array (Option Value)} {ns : List Int} (X : K.In h) (G : h.Ns mainGlobals mg)
    (e : PySem.W.nsIn K mainGlobals x = some (some (.ref a))) (l : K.lookup a = some ⟨.type "tuple", od, .seq its n, osl⟩) (hz : its.size ≤ sizeLine) (v : Vals (ns.map V.int) its.toList) : TopTup K mg x ns :=
  ⟨a, PySem.W.mg_of X G e, fun _ => .inr ⟨_, its, n, l, rfl, rfl, hz, v⟩⟩
end L2


set_option Elab.async false
set_option linter.all false
set_option maxRecDepth 100000
set_option maxHeartbeats 4000000
namespace L2
open PySem PySem.Spec PyProof.Rows
section
variable {X : Cx} {pins : List (Addr × Obj)} {σ : St} {H H' : Hp} {s s' : Shared} {h' : Heap}
/-- several records of ours have turned -/
theorem Inv.turnedL {t' : Nat} {fp : List Addr} (I : Inv X pins σ H s) (kp : ∀ b o, b ∉ fp → s.heap.get? b = some o → h'.get? b = some o) (hf : ∀ b ∈ fp, FpOk X pins H b) : Inv X pins σ H { s with heap := h', toks := t' } := by
  have far : ∀ b u, H b = some u → b ∉ fp := fun b u e z => by
    have := (hf b z).1
    rw [e] at this; cases this
  refine I.step (ch := fp) (g' := s.gens) (d' := s.drawn) (fun b hb => ⟨(hf b hb).2.2.2.1, (hf b hb).2.1, (hf b hb).2.2.2.2.1, (hf b hb).2.2.2.2.2⟩) (fun b o _ _ hc e _ => kp b o hc e) (fun b o _ _ hc e _ => ⟨o.slots, kp b o hc e⟩) (fun _ _ _ _ n => n)
    (fun b o hc e => ⟨o, kp b o hc e⟩) (fun _ _ e => e) (fun _ _ _ e => e) (fun b ps e => ⟨#[], by rw [e]; simp⟩) (fun m hm => ?_) (fun b u e => ?_) I.bare
  · obtain ⟨o, es, ep, ho, r⟩ := hm
    exact ⟨o, es, ep, kp _ o (fun z => (hf _ z).2.1 rfl) ho, r⟩
  · exact (I.hok b u e).stay (fun c v hc q => kp c v (hc.elim (fun z => by rw [z]; exact far b u e) fun z => far c _ z) q) (fun _ q => q) fun _ _ q => q
/-- what lies there untracked is tracked from now on -/
theorem Inv.trackO {a : Addr} {o : HO} (I : Inv X pins σ H s) (n : H a = none) (new : X.s₀.heap.get? a = none) (hL : a ≠ X.env.locals) (hc : ∀ x c, X.env.cells.lookup x = some c → c ≠ a) (hp : ∀ p ∈ X.pn ++ pins, p.1 ≠ a)
    (p : ObjOk X.prog X.w (upd H a o) s.heap a o) : Inv X pins σ (upd H a o) s :=
  ⟨I.ok, I.os, I.bare, ⟨I.base.keep, I.base.slot, fun b o e z hx => by rw [upd_ne (fun q => by rw [q, new] at e; cases e)]; exact I.base.free b o e z hx, I.base.there,
      fun b xs e => by have q := I.base.tups b xs e; rw [upd_ne (ne_of_none q n)]; exact q, fun b o u e => by have q := I.base.frzs b o u e; rw [upd_ne (ne_of_none q n)]; exact q,
      fun b ps e => by obtain ⟨m, q⟩ := I.base.tbls b ps e; exact ⟨m, by rw [upd_ne (ne_of_none q n)]; exact q⟩⟩,
    I.loc, I.cell, by rw [upd_ne (Ne.symm hL)]; exact I.free, fun x c e => by rw [upd_ne (hc x c e)]; exact I.freeC x c e,
    fun q hq => by obtain ⟨a1, a2, a3⟩ := I.pin q hq; exact ⟨a1, by rw [upd_ne (hp q hq)]; exact a2, a3⟩,
    fun b u e => by
      by_cases hb : b = a
      · subst hb
        rw [upd_same] at e
        cases e
        exact p
      · rw [upd_ne hb] at e
        exact (I.hok b u e).stay (fun _ _ _ z => z) (fun c z => by rw [upd_ne (ne_of_none z n)]; exact z) fun c xs z => by rw [upd_ne (ne_of_none z n)]; exact z,
    I.len⟩
end

/-! ### what yields a new tuple at each turn -/
/-- src: what stands in the tuple of turn i -/
def ItT (go : Nat → Hp → Prop) (src : Nat → Hp → List V → Prop) (n : Nat → Hp → Prop) : It :=
  ⟨go, fun i H v H' => ∃ (T : Addr) (vs : List V), H T = none ∧ v = .ref T ∧ H' = upd H T (.tup vs) ∧ src i H vs, n⟩
/-- one turn, by the library's walk that yields tuples -/
theorem turn_item {X : Cx} {elts : List Expr} {kk : Nat} {tpos : Pos} {I₀ : Addr} {fp' wr fp : List Addr} {n : Nat} {Pt : Nat → Array Value → Prop} {St : Nat → Heap → Prop} {Mid : Nat → Addr → Heap → Prop} (W : WalksT X.prog X.w X.A I₀ fp' wr n Pt St Mid)
    {pins : List (Addr × Obj)} {s : Shared} {σ : L2.St} {H : Hp} {E : Value → Shared → Prop} {i : Nat} {vs : List V} {src : Nat → Hp → List V → Prop} {tn : Nat → Heap → Prop} (I : Inv X pins σ H s) (hf : ∀ b ∈ fp, FpOk X pins H b) (hob : ∀ b ∈ fp, ∃ o, s.heap.get? b = some o) (hw : ∀ b ∈ wr, b ∈ fp) (hi : i < n) (st : St i s.heap)
    (hv : ∀ vals, Pt i vals → Vals vs vals.toList) (hz : vs.length ≤ sizeLine) (hsrc : src i H vs) (htn : ∀ h, St (i + 1) h → tn (i + 1) h) {gop stp : Nat → Hp → Prop} :
    wpAny (model X.prog X.w) X.A (pyNext (.ref I₀)) (fun r s1 => ∃ u, r = some u ∧
      wpAny (model X.prog X.w) X.A (letOwnedTupleGo (.Tuple elts kk tpos) (.ref I₀) u) (fun _ s2 => ∃ x H', Inv X pins σ H' s2 ∧ RelV x u ∧ (ItT gop src stp).yld i H x H' ∧ tn (i + 1) s2.heap ∧ ∀ b ∈ fp, H' b = none) E s1) E s := by
  refine W.item i s _ _ hi st fun T vals h1 tk hP hT hTup hM kp => ?_
  refine ⟨.ref T, rfl, W.go elts kk tpos i T { s with heap := h1, toks := tk } _ _ hM fun h2 hst kp2 => ?_⟩
  have I1 : Inv X pins σ H { s with heap := h2, toks := tk } := I.turnedL (fun b o hb e => kp2 b o (fun z => hb (hw b z)) (kp b o (fun z => hb (hw b z)) e)) hf
  have nT : H T = none := I.hok.fresh hT
  have tup : h2.IsTuple T vals := by
    obtain ⟨o, e, r⟩ := hTup
    exact ⟨o, kp2 T o (W.apart i T h1 hM) e, r⟩
  have new : X.s₀.heap.get? T = none := by
    cases z : X.s₀.heap.get? T with
    | none => rfl
    | some o => exact absurd (Nat.lt_of_lt_of_le (Heap.lt_size z) (Nat.le_trans I.sz hT)) (Nat.lt_irrefl _)
  refine ⟨.ref T, upd H T (.tup vs), I1.trackO nT new (Nat.ne_of_gt (Nat.lt_of_lt_of_le I.lt hT)) (fun x c e z => ?_) (fun p hp z => ?_) ⟨hz, vals.toList, hv vals hP, (by rw [Array.toArray_toList]; exact tup)⟩, rfl, ⟨T, vs, nT, rfl, rfl, hsrc⟩, htn _ hst, fun b hb => ?_⟩
  · obtain ⟨v, o, ho, _⟩ := I.cell x c e
    exact absurd (Nat.lt_of_lt_of_le (Heap.lt_size ho) (by rw [z]; exact hT)) (Nat.lt_irrefl _)
  · exact absurd (Nat.lt_of_lt_of_le (Heap.lt_size (I.pin p hp).1) (by rw [z]; exact hT)) (Nat.lt_irrefl _)
  · have e0 := (hf b hb).1
    obtain ⟨o, ho⟩ := hob b hb
    have bT : b ≠ T := fun z => absurd (Nat.lt_of_lt_of_le (Heap.lt_size ho) (by rw [z]; exact hT)) (Nat.lt_irrefl _)
    rw [upd_ne bT]
    exact e0
/-! ### enumerate of a list -/
def srcE (K : PySem.W.Frag) (a : Addr) : Nat → Hp → List V → Prop := fun i H vs => ∃ x, vs = [.int i, x] ∧ ∀ xs, SqL K H a xs → xs[i]? = some x
def ItE (K : PySem.W.Frag) (a : Addr) : It := ItT (fun i H => ∃ xs x, SqL K H a xs ∧ xs[i]? = some x) (srcE K a) fun i H => ∃ xs, SqL K H a xs ∧ xs.length ≤ i
theorem isList_ne {h : Heap} {a b : Addr} {its : Array Value} {o : Obj} {T : String} (l : h.IsList a its) (e : h.get? b = some o) (c : o.cls = .type T) (n : T ≠ "list") : a ≠ b := fun z => by
  obtain ⟨o', e', c', _⟩ := l
  rw [z, e] at e'
  cases e'
  rw [c] at c'
  exact n (Value.type.inj c')
theorem turn_enum {P : Program} {w : World} {K : PySem.W.Frag} {elts : List Expr} {kk : Nat} {tpos : Pos} (a e it : Addr) (hei : e ≠ it) :
    Turn P w K (.Tuple elts kk tpos) (ItE K a) [e, it] e (fun i h => (∃ old, IsEnum h e it i old) ∧ h.IsListIter it a i) where
  mem := by simp
  obj := fun i h st b hb => by
    obtain ⟨⟨old, he⟩, o, ho, _, hd⟩ := st
    rcases List.mem_cons.mp hb with rfl | hb
    · exact ⟨_, he, fun v z => by cases z⟩
    · rw [List.mem_singleton.mp hb]
      exact ⟨o, ho, fun v z => by rw [hd] at z; cases z⟩
  keep := fun i h h' st k => by
    obtain ⟨⟨old, he⟩, l⟩ := st
    exact ⟨⟨old, k e (by simp) _ he⟩, l.at fun o z => k it (by simp) o z⟩
  item := by
    intro X hP hw hK hc i pins s σ H E I hf st hg
    subst hP hw hK
    obtain ⟨xs, x, hq, hx⟩ := hg
    obtain ⟨its, rv, p, hz⟩ := I.list hq
    obtain ⟨u, hu, ru⟩ := rv.get hx
    obtain ⟨⟨old, he⟩, hit⟩ := st
    have hL := p.isList
    have ne1 : a ≠ e := isList_ne hL he rfl (by decide)
    have ne2 : a ≠ it := by
      obtain ⟨o, ho, hc', _⟩ := id hit
      exact isList_ne hL ho hc' (by decide)
    have W := WalksT.enumerateD (A := X.A) (Draws.list (prog := X.prog) (w := X.w) (A := X.A.in1) (I.ok.hd hc) it a ne2 its.toArray) e hei (by simp; exact ⟨hei, Ne.symm ne1⟩) (by simp)
    refine turn_item (fp := [e, it]) (vs := [.int i, x]) (src := srcE X.K a) (tn := fun i h => (∃ old, IsEnum h e it i old) ∧ h.IsListIter it a i) W I hf (fun b hb => ?_) (fun b hb => hb) (by have := (List.getElem?_eq_some_iff.mp hu).1; simpa using this) ⟨⟨old, he⟩, hit, hL⟩ (fun vals hP => ?_) (by show 2 ≤ sizeLine; decide) ⟨x, rfl, fun ys hy => by rw [I.list_inj hy hq]; exact hx⟩ fun h st => ⟨?_, st.2.1⟩
    · rcases List.mem_cons.mp hb with rfl | hb
      · exact ⟨_, he⟩
      · rw [List.mem_singleton.mp hb]
        obtain ⟨o, ho, _⟩ := id hit
        exact ⟨o, ho⟩
    · obtain ⟨t, y, hy, rfl⟩ := hP
      have ey : y = u := by
        have : its[i]? = some y := by simpa using hy
        rw [hu] at this
        exact (Option.some.inj this).symm
      subst ey
      exact .cons ⟨t, rfl⟩ (.cons ru .nil)
    · obtain ⟨old', z⟩ := st.1
      exact ⟨old', z⟩
  done := by
    intro X hP hw hK hc i pins s σ H E I hf st hg
    subst hP hw hK
    obtain ⟨xs, hq, hx⟩ := hg
    obtain ⟨its, rv, p, hz⟩ := I.list hq
    obtain ⟨⟨old, he⟩, hit⟩ := st
    have hl := rv.length
    obtain ⟨f0, f1, f2, f3, f4, f5⟩ := hf it (by simp)
    exact wpAny_pyNext_enum_end (I.ok.hd hc) he hit p.isList (by simp; omega) fun h' eb => ⟨rfl, I.turned (t' := s.toks) (fun b o hb e => eb b o hb e) f0 f1 f3 f4 f5⟩
  self := fun _ _ _ _ _ st h => by
    obtain ⟨⟨old, he⟩, _⟩ := st
    exact wpAny_pyIter_enum he h
section
variable {X : Cx}
def iEnum (K : PySem.W.Frag) (tl : TE) : TI := fun σ H R => tl σ H fun x H1 => ∃ a, x = .ref a ∧ (∃ xs, SqL K H1 a xs) ∧ R (ItE K a) H1
theorem pi_enum {elts : List Expr} {kk : Nat} {tpos p pos : Pos} {e : Expr} {te : TE} (hg : Gl X "enumerate") (hm : X.mg "enumerate" = none) (he : PE X e te)
    (hs : starEach [e] X.env = [(false, eval e X.env)] := by rfl) : PI X (.Tuple elts kk tpos) (.Call (.Name "enumerate" p) [e] [] pos) (iEnum X.K te) := by
  intro pins s σ H R I h
  have b1 : bootBuiltins "enumerate" = some (.type "enumerate") := by decide +kernel
  refine wpAny_Call_Name_kw (ld_blt I hg hm b1 ?_ (by decide) (by decide))
  refine PyProof.Rows.callWith_type1 ?_ hs (by rfl)
  rw [hs]
  refine Calls.spliced_cons (thn (he pins s σ H _ I h) fun u s1 ⟨y, H1, I1, ry, a, ey, ⟨xs, hq⟩, q⟩ => ?_)
  subst ey
  have eu : u = Value.ref a := ry
  subst eu
  refine Calls.spliced_nil ?_
  obtain ⟨its, rv, pl, hz⟩ := I1.list hq
  refine call_enumerate_list pl.isList fun h' e1 e2 e3 kp => ?_
  have I2 : Inv X pins σ H1 { s1 with heap := h' } := I1.kept (t' := s1.toks) kp
  refine wpAny_pyIter_enum (s := { s1 with heap := h' }) e1 ?_
  refine ⟨_, [s1.heap.objs.size + 1, s1.heap.objs.size], _, ItE X.K a, H1, rfl, I2, turn_enum a _ _ (Nat.ne_of_gt (Nat.lt_succ_self _)), ⟨⟨_, e1⟩, e2⟩, fun b hb => ?_, q⟩
  have nb : s1.heap.objs.size ≤ b := by
    rcases List.mem_cons.mp hb with rfl | hb
    · exact Nat.le_succ _
    · rw [List.mem_singleton.mp hb]; exact Nat.le_refl _
  exact I1.fpOk nb (I1.hok.fresh nb)
end
end L2


set_option Elab.async false
set_option linter.all false
set_option maxRecDepth 100000
set_option maxHeartbeats 4000000
namespace L2
open PySem PySem.Spec PyProof.Rows PySem.AutoSeq1
/-! ### enumerate of a tuple -/
abbrev titObj (t : Addr) : Obj := { cls := .type "tuple_iterator", data := .fields #[.ref t, .int 0 0] }
section
variable {prog : Program} {w : World} {A : Around} {E : Value → Shared → Prop} {s : Shared}
theorem nextOf_tup {it t : Addr} {i : Nat} {ys : Array Value} {x : Value} {Q : Value → Shared → Prop} (st : s.heap.IsTupleIter it t i) (tp : s.heap.IsTuple t ys) (e : ys[i]? = some x)
    (k : ∀ h', h'.IsTupleIter it t (i + 1) → Heap.SameBut it s.heap h' → Q x { s with heap := h' }) : wpAny (model prog w) A (Builtin.SmallTypes.nextOf (.ref it)) Q E s := by
  obtain ⟨ob, gb, cb, db⟩ := id st; obtain ⟨ot, gt, _, nt, dt⟩ := tp
  unfold Builtin.SmallTypes.nextOf; refine wpAny_bind (wpAny_callSpecial?_slot (name := Str.ofString "__next__") st.typeIs F.slot_tuple_iterator_next (wpAny_call_entry F.slot_tuple_iterator_next st.typeIs F.entry_tuple_iterator_next ?_ (F.args_tuple_iterator_next_1 _)))
  show wpAny _ _ (field (.ref it) 0 >>= _) _ _ s; refine wpAny_bind (wpAny_field gb db (x := .ref t) rfl ?_)
  show wpAny _ _ (if (Value.ref t == Value.none) = true then _ else _) _ _ s; rw [if_neg (show ¬ ((Value.ref t == Value.none) = true) from Bool.false_ne_true)]
  show wpAny _ _ (field (.ref it) 1 >>= _) _ _ s; refine wpAny_bind (wpAny_field gb db (x := .int i 0) rfl ?_)
  show wpAny _ _ (seqItems? (.ref t) >>= _) _ _ s; refine wpAny_bind (wpAny_seqItems gt dt ?_)
  simp only [Int.toNat_natCast, e]; refine wpAny_bind (wpAny_setField gb db (by simp) (wpAny_pure ⟨x, rfl, wpAny_pure (k _ ?_ (Heap.SameBut.update ..))⟩))
  exact ⟨_, Heap.get?_update_self _ gb (Obj.isFreed_of_fields (Obj.data_mapFields db _)), (Obj.cls_mapFields ..).trans cb, by rw [Obj.data_mapFields db]; simp [rawInt]⟩
theorem nextOf_tupEnd {it t : Addr} {i : Nat} {ys : Array Value} {Q : Value → Shared → Prop} (hd : A.handled = none) (st : s.heap.IsTupleIter it t i) (tp : s.heap.IsTuple t ys) (e : ys[i]? = none)
    (k : ∀ h' x, Heap.ExtBut it s.heap h' → (∃ o, h'.get? x = some o ∧ o.cls = .type "StopIteration") → E (.ref x) { s with heap := h' }) : wpAny (model prog w) A (Builtin.SmallTypes.nextOf (.ref it)) Q E s := by
  obtain ⟨ob, gb, cb, db⟩ := id st; obtain ⟨ot, gt, _, nt, dt⟩ := tp
  unfold Builtin.SmallTypes.nextOf; refine wpAny_bind (wpAny_callSpecial?_slot (name := Str.ofString "__next__") st.typeIs F.slot_tuple_iterator_next (wpAny_call_entry F.slot_tuple_iterator_next st.typeIs F.entry_tuple_iterator_next ?_ (F.args_tuple_iterator_next_1 _)))
  show wpAny _ _ (field (.ref it) 0 >>= _) _ _ s; refine wpAny_bind (wpAny_field gb db (x := .ref t) rfl ?_)
  show wpAny _ _ (if (Value.ref t == Value.none) = true then _ else _) _ _ s; rw [if_neg (show ¬ ((Value.ref t == Value.none) = true) from Bool.false_ne_true)]
  show wpAny _ _ (field (.ref it) 1 >>= _) _ _ s; refine wpAny_bind (wpAny_field gb db (x := .int i 0) rfl ?_)
  show wpAny _ _ (seqItems? (.ref t) >>= _) _ _ s; refine wpAny_bind (wpAny_seqItems gt dt ?_)
  simp only [Int.toNat_natCast, e]; refine wpAny_bind (wpAny_rule (wpAny_bind (wpAny_setField gb db (by simp) ?_)))
  show wpAny _ _ (newExc (.type "StopIteration") [] >>= _) _ _ _; refine wpAny_bind ?_; simp only [newExc, newTuple]
  refine wpAny_bind (wpAny_newObj_type ?_ (by size_fits)); refine wpAny_bind (m := firstArgMember _ _) (wpAny_of_eq (a := Value.none) (by first | rfl | (simp only [firstArgMember]; rfl)) ?_); refine wpAny_newObj_type ?_ (by size_fits)
  simp only [raiseNew]; refine wpAny_bind (wpAny_handled ?_); first | rw [show A.in1.handled = none from hd] | rw [hd]
  refine wpAny_bind (wpAny_pure (wpAny_throw ?_)); exact k _ _ (((Heap.SameBut.update ..).extBut.push _).push _) ⟨_, Heap.get?_push_size _ rfl, rfl⟩
theorem draws_tup (hd : A.handled = none) (it t : Addr) (ne : t ≠ it) (ys : Array Value) : Draws prog w A it [it, t] ys.size (fun i v => ys[i]? = some v) (fun i h => h.IsTupleIter it t i ∧ h.IsTuple t ys) where
  live := fun _ _ z => let ⟨o, q, _⟩ := z.1; ⟨o, q⟩
  frame := fun _ _ _ z kp => by
    obtain ⟨⟨o, q, r⟩, ⟨o', q', r'⟩⟩ := z
    exact ⟨⟨o, kp it (by simp) o q, r⟩, ⟨o', kp t (by simp) o' q', r'⟩⟩
  item := fun i s Q E hi z kq => by
    refine nextOf_tup z.1 z.2 (x := ys[i]) (by simp [hi]) fun h' z' sb => ?_
    exact kq _ h' s.toks (by simp [hi]) ⟨z', z.2.extBut sb.extBut ne⟩ sb
  done := fun s Q E z kq => nextOf_tupEnd hd z.1 z.2 (by simp) kq
theorem enum_newT (l : Addr) (ys : Array Value) (n : Nat) (dct : Option Addr) (sl : Array (Option Value)) : Meets (Builtin.«enumerate.__new__» ⟨[.type "enumerate", .ref l], []⟩) (fun _ R s => s.heap.get? l = some { cls := .type "tuple", dict := dct, data := .seq ys n, slots := sl } ∧
      R (.ok (.ret (.ref (s.heap.push (titObj l)).objs.size))) { s with heap := (s.heap.push (titObj l)).push { cls := .type "enumerate", data := .fields #[.none, .bool false, .ref s.heap.objs.size, rawInt 0, .none, .none] } }) :=
  .of_wp fun prog w A R s h => by
    obtain ⟨hp, g, d, tk, os⟩ := s; obtain ⟨hl, h⟩ := h; have su := sub_enumerate
    have tT : Heap.IsTuple (Shared.heap ⟨hp, g, d, tk, os⟩) l ys := ⟨_, hl, rfl, n, rfl⟩
    wp_walk using wpAny_loadPart' hl
    refine wpAny_stack_any fun st => wpAny_pure ?_; split
    · rename_i c _ _ _ _ _; cases (c == Value.type "enumerate")
      · wp_walk using wpAny_loadPart' hl, wpAny_pyIter_tuple tT
        exact ⟨_, rfl, h⟩
      · wp_walk using wpAny_loadPart' hl, wpAny_pyIter_tuple tT
        exact ⟨_, rfl, h⟩
    · wp_walk using wpAny_loadPart' hl, wpAny_pyIter_tuple tT
      exact ⟨_, rfl, h⟩
theorem call_enumT {l : Addr} {ys : Array Value} {Q : Value → Shared → Prop} (tT : s.heap.IsTuple l ys)
    (k : ∀ h', IsEnum h' (s.heap.objs.size + 1) s.heap.objs.size 0 .none → h'.IsTupleIter s.heap.objs.size l 0 → (∀ b o, s.heap.get? b = some o → h'.get? b = some o) → Q (.ref (s.heap.objs.size + 1)) { s with heap := h' }) : wpAny (model prog w) A (call (.type "enumerate") [.ref l]) Q E s := by
  obtain ⟨⟨c, dct, dt, sl⟩, hl, hc, n, hd⟩ := tT
  have hc' : c = .type "tuple" := hc
  have hd' : dt = .seq ys n := hd
  subst hc' hd'
  refine callType_new F.called_enumerate (by decide) (F.typeCall_enumerate_1 _) (F.newCall_enumerate_1 _) (fun obj => F.args_object_init_2 obj _) F.entry_enumerate_new (enum_newT l ys n dct sl) ⟨hl, ?_⟩
  have sz : (s.heap.push (titObj l)).objs.size = s.heap.objs.size + 1 := Heap.size_push ..
  show _ ∧ _; rw [sz]
  have en : IsEnum ((s.heap.push (titObj l)).push { cls := .type "enumerate", data := .fields #[.none, .bool false, .ref s.heap.objs.size, rawInt 0, .none, .none] }) (s.heap.objs.size + 1) s.heap.objs.size 0 .none := by
    have z := Heap.get?_push_size (s.heap.push (titObj l)) (o := { cls := .type "enumerate", data := .fields #[.none, .bool false, .ref s.heap.objs.size, rawInt 0, .none, .none] }) rfl
    rw [sz] at z; exact z
  exact ⟨⟨_, en, rfl⟩, k _ en ⟨_, Heap.get?_push_of_some _ (Heap.get?_push_size _ rfl), rfl, rfl⟩ fun b o x => Heap.get?_push_of_some _ (Heap.get?_push_of_some _ x)⟩
end
def srcET (K : PySem.W.Frag) (a : Addr) : Nat → Hp → List V → Prop := fun i H vs => ∃ x, vs = [.int i, x] ∧ ∀ xs, SqT K H a xs → xs[i]? = some x
def ItET (K : PySem.W.Frag) (a : Addr) : It := ItT (fun i H => ∃ xs x, SqT K H a xs ∧ xs[i]? = some x) (srcET K a) fun i H => ∃ xs, SqT K H a xs ∧ xs.length ≤ i
theorem isTup_ne {h : Heap} {a b : Addr} {its : Array Value} {o : Obj} {T : String} (l : h.IsTuple a its) (e : h.get? b = some o) (c : o.cls = .type T) (n : T ≠ "tuple") : a ≠ b := fun z => by
  obtain ⟨o', e', c', _⟩ := l
  rw [z, e] at e'
  cases e'
  rw [c] at c'
  exact n (Value.type.inj c')
theorem turn_enumT {P : Program} {w : World} {K : PySem.W.Frag} {elts : List Expr} {kk : Nat} {tpos : Pos} (a e it : Addr) (hei : e ≠ it) :
    Turn P w K (.Tuple elts kk tpos) (ItET K a) [e, it] e (fun i h => (∃ old, IsEnum h e it i old) ∧ h.IsTupleIter it a i) where
  mem := by simp
  obj := fun i h st b hb => by
    obtain ⟨⟨old, he⟩, o, ho, _, hd⟩ := st
    rcases List.mem_cons.mp hb with rfl | hb
    · exact ⟨_, he, fun v z => by cases z⟩
    · rw [List.mem_singleton.mp hb]
      exact ⟨o, ho, fun v z => by rw [hd] at z; cases z⟩
  keep := fun i h h' st k => by
    obtain ⟨⟨old, he⟩, o, ho, r⟩ := st
    exact ⟨⟨old, k e (by simp) _ he⟩, o, k it (by simp) o ho, r⟩
  item := by
    intro X hP hw hK hc i pins s σ H E I hf st hg
    subst hP hw hK
    obtain ⟨xs, x, hq, hx⟩ := hg
    obtain ⟨its, rv, p, hz⟩ := I.tuple hq
    obtain ⟨u, hu, ru⟩ := rv.get hx
    obtain ⟨⟨old, he⟩, hit⟩ := st
    have hL : s.heap.IsTuple a its.toArray := p
    have ne1 : a ≠ e := isTup_ne hL he rfl (by decide)
    have ne2 : a ≠ it := by
      obtain ⟨o, ho, hc', _⟩ := id hit
      exact isTup_ne hL ho hc' (by decide)
    have W := WalksT.enumerateD (A := X.A) (draws_tup (prog := X.prog) (w := X.w) (A := X.A.in1) (I.ok.hd hc) it a ne2 its.toArray) e hei (by simp; exact ⟨hei, Ne.symm ne1⟩) (by simp)
    refine turn_item (fp := [e, it]) (vs := [.int i, x]) (src := srcET X.K a) (tn := fun i h => (∃ old, IsEnum h e it i old) ∧ h.IsTupleIter it a i) W I hf (fun b hb => ?_) (fun b hb => hb) (by have := (List.getElem?_eq_some_iff.mp hu).1; simpa using this) ⟨⟨old, he⟩, hit, hL⟩ (fun vals hP => ?_) (by show 2 ≤ sizeLine; decide) ⟨x, rfl, fun ys hy => by rw [I.tuple_inj hy hq]; exact hx⟩ fun h st => ⟨?_, st.2.1⟩
    · rcases List.mem_cons.mp hb with rfl | hb
      · exact ⟨_, he⟩
      · rw [List.mem_singleton.mp hb]
        obtain ⟨o, ho, _⟩ := id hit
        exact ⟨o, ho⟩
    · obtain ⟨t, y, hy, rfl⟩ := hP
      have ey : y = u := by
        have : its[i]? = some y := by simpa using hy
        rw [hu] at this
        exact (Option.some.inj this).symm
      subst ey
      exact .cons ⟨t, rfl⟩ (.cons ru .nil)
    · obtain ⟨old', z⟩ := st.1
      exact ⟨old', z⟩
  done := by
    intro X hP hw hK hc i pins s σ H E I hf st hg
    subst hP hw hK
    obtain ⟨xs, hq, hx⟩ := hg
    obtain ⟨its, rv, p, hz⟩ := I.tuple hq
    obtain ⟨⟨old, he⟩, hit⟩ := st
    have hL : s.heap.IsTuple a its.toArray := p
    have hl := rv.length
    have ne2 : a ≠ it := by
      obtain ⟨o, ho, hc', _⟩ := id hit
      exact isTup_ne hL ho hc' (by decide)
    obtain ⟨f0, f1, f2, f3, f4, f5⟩ := hf it (by simp)
    have st2 : s.heap.IsTupleIter it a i := hit
    unfold pyNext
    have hT : s.TypeIs (.ref e) "enumerate" := ⟨_, he, rfl⟩
    refine wpAny_bind (wpAny_attempt (wpAny_callSpecial?_slot (name := Str.ofString "__next__") hT F.slot_enumerate_next (wpAny_call_entry F.slot_enumerate_next hT F.entry_enumerate_next ?_ (F.args_enumerate_next_1 _))))
    show wpAny _ _ (field (.ref e) 2 >>= _) _ _ _; refine wpAny_bind (wpAny_field he rfl (x := .ref it) rfl ?_)
    refine wpAny_bind (nextOf_tupEnd (I.ok.hd hc) st2 hL (by simp; omega) fun h' x eb ox => ?_); obtain ⟨o, ho, hoc⟩ := ox
    refine wpAny_bind (wpAny_isInstance (T := "StopIteration") (b := true) ⟨o, ho, hoc⟩ isSubtype_stop ?_); exact wpAny_pure ⟨rfl, I.turned (t' := s.toks) (fun b o hb e => eb b o hb e) f0 f1 f3 f4 f5⟩
  self := fun _ _ _ _ _ st h => by
    obtain ⟨⟨old, he⟩, _⟩ := st
    exact wpAny_pyIter_enum he h
section
variable {X : Cx}
def iEnumT (K : PySem.W.Frag) (tl : TE) : TI := fun σ H R => tl σ H fun x H1 => ∃ a, x = .ref a ∧ (∃ xs, SqT K H1 a xs) ∧ R (ItET K a) H1
theorem pi_enumT {elts : List Expr} {kk : Nat} {tpos p pos : Pos} {e : Expr} {te : TE} (hg : Gl X "enumerate") (hm : X.mg "enumerate" = none) (he : PE X e te)
    (hs : starEach [e] X.env = [(false, eval e X.env)] := by rfl) : PI X (.Tuple elts kk tpos) (.Call (.Name "enumerate" p) [e] [] pos) (iEnumT X.K te) := by
  intro pins s σ H R I h
  have b1 : bootBuiltins "enumerate" = some (.type "enumerate") := by decide +kernel
  refine wpAny_Call_Name_kw (ld_blt I hg hm b1 ?_ (by decide) (by decide))
  refine PyProof.Rows.callWith_type1 ?_ hs (by rfl)
  rw [hs]
  refine Calls.spliced_cons (thn (he pins s σ H _ I h) fun u s1 ⟨y, H1, I1, ry, a, ey, ⟨xs, hq⟩, q⟩ => ?_)
  subst ey
  have eu : u = Value.ref a := ry
  subst eu
  refine Calls.spliced_nil ?_
  obtain ⟨its, rv, pl, hz⟩ := I1.tuple hq
  refine call_enumT (show s1.heap.IsTuple a its.toArray from pl) fun h' e1 e2 kp => ?_
  have I2 : Inv X pins σ H1 { s1 with heap := h' } := I1.kept (t' := s1.toks) kp
  refine wpAny_pyIter_enum (s := { s1 with heap := h' }) e1 ?_
  refine ⟨_, [s1.heap.objs.size + 1, s1.heap.objs.size], _, ItET X.K a, H1, rfl, I2, turn_enumT a _ _ (Nat.ne_of_gt (Nat.lt_succ_self _)), ⟨⟨_, e1⟩, e2⟩, fun b hb => ?_, q⟩
  have nb : s1.heap.objs.size ≤ b := by
    rcases List.mem_cons.mp hb with rfl | hb
    · exact Nat.le_succ _
    · rw [List.mem_singleton.mp hb]; exact Nat.le_refl _
  exact I1.fpOk nb (I1.hok.fresh nb)
end
theorem for_enumT {K : PySem.W.Frag} {a : Addr} {xs : List V} {g : TG} {tb : TS} {D : Ends} {σ : St} {H : Hp} (Pv : Nat → St → Hp → Prop) (h0 : Pv 0 σ H) (hl : ∀ i σ H, i ≤ xs.length → Pv i σ H → SqT K H a xs)
    (hs : ∀ i x T σ H, xs[i]? = some x → Pv i σ H → H T = none → g (.ref T) σ (upd H T (.tup [.int i, x])) fun σ2 H2 => tb { D with nx := Pv (i + 1), ct := Pv (i + 1), bk := D.nx } σ2 H2) (hd : ∀ σ H, Pv xs.length σ H → D.nx σ H) :
    ∃ W : Nat → Nat → St → Hp → Prop, (∃ m, W 0 m σ H) ∧ ∀ i m σ H, W i m σ H →
      ((ItET K a).stop i H ∧ D.nx σ H) ∨ ((ItET K a).go i H ∧ ∃ N : St → Hp → Prop, (∀ σ' H', N σ' H' → ∃ m', m' < m ∧ W (i + 1) m' σ' H') ∧ ∀ x H', (ItET K a).yld i H x H' → g x σ H' fun σ2 H2 => tb { D with nx := N, ct := N, bk := D.nx } σ2 H2) := by
  refine ⟨fun i m σ H => m = xs.length - i ∧ i ≤ xs.length ∧ Pv i σ H, ⟨xs.length, by simp, Nat.zero_le _, h0⟩, ?_⟩
  rintro i m σ H ⟨rfl, hi, p⟩
  have q := hl i σ H hi p
  by_cases hlt : i < xs.length
  · refine .inr ⟨⟨xs, xs[i], q, by simp [hlt]⟩, Pv (i + 1), fun σ' H' p' => ⟨xs.length - (i + 1), by omega, rfl, hlt, p'⟩, fun x H' y => ?_⟩
    obtain ⟨T, vs, nT, rfl, rfl, x, rfl, hx⟩ := y
    exact hs i x T σ H (hx xs q) p nT
  · have e : i = xs.length := by omega
    subst e
    exact .inl ⟨⟨xs, q, Nat.le_refl _⟩, hd σ H p⟩
end L2


set_option Elab.async false
set_option linter.all false
set_option maxRecDepth 100000
set_option maxHeartbeats 4000000
namespace L2
open PySem PySem.Spec PyProof.Rows
/-! ### zip of two lists -/
def srcZ (K : PySem.W.Frag) (a b : Addr) : Nat → Hp → List V → Prop := fun i H vs => ∃ x y, vs = [x, y] ∧ (∀ xs, SqL K H a xs → xs[i]? = some x) ∧ ∀ ys, SqL K H b ys → ys[i]? = some y
def ItZ (K : PySem.W.Frag) (a b : Addr) : It := ItT (fun i H => ∃ xs ys x y, SqL K H a xs ∧ SqL K H b ys ∧ xs[i]? = some x ∧ ys[i]? = some y) (srcZ K a b) fun i H => ∃ xs ys, SqL K H a xs ∧ SqL K H b ys ∧ (xs.length ≤ i ∨ ys.length ≤ i)
/-- the zip's own records, apart from one another -/
structure ZOwn (z TI TO i1 i2 : Addr) : Prop where
  a1 : TI ≠ z
  a2 : TO ≠ z
  a3 : i1 ≠ z
  a4 : i2 ≠ z
  a5 : TI ≠ TO
  a6 : TI ≠ i1
  a7 : TI ≠ i2
  a8 : TO ≠ i1
  a9 : TO ≠ i2
  a10 : i1 ≠ i2
def tnZ (a b z TI TO i1 i2 : Addr) (i : Nat) (h : Heap) : Prop := IsZip h z TI TO .none ∧ IsPair h TI (.ref i1) (.ref i2) ∧ (∃ u v, IsPair h TO u v) ∧ h.IsListIter i1 a i ∧ h.IsListIter i2 b i
theorem zapart {h : Heap} {a b z TI TO i1 i2 : Addr} {i : Nat} {xs ys : Array Value} (o : ZOwn z TI TO i1 i2) (st : tnZ a b z TI TO i1 i2 i h) (la : h.IsList a xs) (lb : h.IsList b ys) : ZipApart z TI TO i1 i2 a b := by
  obtain ⟨hz, hTI, ⟨u, v, hTO⟩, h1, h2⟩ := st
  obtain ⟨o1, g1, c1, _⟩ := h1
  obtain ⟨o2, g2, c2, _⟩ := h2
  refine ⟨o.a1, o.a2, o.a3, o.a4, o.a5, o.a6, o.a7, o.a8, o.a9, o.a10, ?_, ?_, ?_, ?_, ?_, ?_, ?_, ?_⟩
  all_goals first
    | exact isList_ne la hz rfl (by decide)
    | exact isList_ne la hTO rfl (by decide)
    | exact isList_ne la g1 c1 (by decide)
    | exact isList_ne la g2 c2 (by decide)
    | exact isList_ne lb hz rfl (by decide)
    | exact isList_ne lb hTO rfl (by decide)
    | exact isList_ne lb g1 c1 (by decide)
    | exact isList_ne lb g2 c2 (by decide)
theorem zobj {h : Heap} {a b z TI TO i1 i2 : Addr} {i : Nat} (st : tnZ a b z TI TO i1 i2 i h) : ∀ c ∈ [z, TI, TO, i1, i2], ∃ o, h.get? c = some o ∧ ∀ v, o.data ≠ .cell v := by
  intro c hc
  obtain ⟨hz, hTI, ⟨u, v, hTO⟩, ⟨o1, g1, _, d1⟩, ⟨o2, g2, _, d2⟩⟩ := st
  simp only [List.mem_cons, List.not_mem_nil, or_false] at hc
  rcases hc with rfl | rfl | rfl | rfl | rfl
  · exact ⟨_, hz, fun v z => by cases z⟩
  · exact ⟨_, hTI, fun v z => by cases z⟩
  · exact ⟨_, hTO, fun v z => by cases z⟩
  · exact ⟨_, g1, fun v z => by rw [d1] at z; cases z⟩
  · exact ⟨_, g2, fun v z => by rw [d2] at z; cases z⟩
theorem turn_zip {P : Program} {w : World} {K : PySem.W.Frag} {elts : List Expr} {kk : Nat} {tpos : Pos} (a b z TI TO i1 i2 : Addr) (own : ZOwn z TI TO i1 i2) :
    Turn P w K (.Tuple elts kk tpos) (ItZ K a b) [z, TI, TO, i1, i2] z (tnZ a b z TI TO i1 i2) where
  mem := by simp
  obj := fun i h st c hc => zobj st c hc
  keep := fun i h h' st k => by
    obtain ⟨hz, hTI, ⟨u, v, hTO⟩, l1, l2⟩ := st
    exact ⟨k z (by simp) _ hz, k TI (by simp) _ hTI, ⟨u, v, k TO (by simp) _ hTO⟩, l1.at fun o q => k i1 (by simp) o q, l2.at fun o q => k i2 (by simp) o q⟩
  item := by
    intro X hP hw hK hc i pins s σ H E I hf st hg
    subst hP hw hK
    obtain ⟨xs, ys, x, y, hq, hq2, hx, hy⟩ := hg
    obtain ⟨its, rv, p, hz⟩ := I.list hq
    obtain ⟨its2, rv2, p2, hz2⟩ := I.list hq2
    obtain ⟨u, hu, ru⟩ := rv.get hx
    obtain ⟨u2, hu2, ru2⟩ := rv2.get hy
    have D := zapart own st p.isList p2.isList
    have W := WalksT.zip2 (prog := X.prog) (w := X.w) (A := X.A) (I.ok.hd hc) z TI TO i1 i2 a b D its.toArray its2.toArray
    have l1 := (List.getElem?_eq_some_iff.mp hu).1
    have l2 := (List.getElem?_eq_some_iff.mp hu2).1
    obtain ⟨s1, s2, s3, s4, s5⟩ := id st
    refine turn_item (fp := [z, TI, TO, i1, i2]) (vs := [x, y]) (src := srcZ X.K a b) (tn := tnZ a b z TI TO i1 i2) W I hf (fun c hc => let ⟨o, q, _⟩ := zobj st c hc; ⟨o, q⟩) (fun c hc => ?_) (by simp only [List.size_toArray]; omega) ⟨s1, s2, s3, s4, s5, p.isList, p2.isList⟩ (fun vals hP => ?_) (by show 2 ≤ sizeLine; decide)
      ⟨x, y, rfl, fun zs hzs => by rw [I.list_inj hzs hq]; exact hx, fun zs hzs => by rw [I.list_inj hzs hq2]; exact hy⟩ fun h st => ⟨st.1, st.2.1, st.2.2.1, st.2.2.2.1, st.2.2.2.2.1⟩
    · simp only [List.mem_cons, List.not_mem_nil, or_false] at hc ⊢
      rcases hc with q | q | q | q <;> simp [q]
    · obtain ⟨v1, v2, e1, e2, rfl⟩ := hP
      have f1 : v1 = u := by
        have q : its[i]? = some v1 := by simpa using e1
        rw [hu] at q
        exact (Option.some.inj q).symm
      have f2 : v2 = u2 := by
        have q : its2[i]? = some v2 := by simpa using e2
        rw [hu2] at q
        exact (Option.some.inj q).symm
      subst f1 f2
      exact .cons ru (.cons ru2 .nil)
  done := by
    intro X hP hw hK hc i pins s σ H E I hf st hg
    subst hP hw hK
    obtain ⟨xs, ys, hq, hq2, hend⟩ := hg
    obtain ⟨its, rv, p, hz⟩ := I.list hq
    obtain ⟨its2, rv2, p2, hz2⟩ := I.list hq2
    have D := zapart own st p.isList p2.isList
    obtain ⟨s1, s2, ⟨u, v, s3⟩, s4, s5⟩ := id st
    have e1 := rv.length
    have e2 := rv2.length
    refine wpAny_pyNext_zip_end (I.ok.hd hc) D s1 s2 s3 s4 s5 p.isList p2.isList (by
      rcases hend with q | q
      · exact .inl (by simp; omega)
      · exact .inr (by simp; omega)) fun h' kp => ⟨rfl, I.turnedL (t' := s.toks) (fun c o hc q => kp c o (fun e => hc (by simp [e])) (fun e => hc (by simp [e])) (fun e => hc (by simp [e])) (fun e => hc (by simp [e])) q) hf⟩
  self := fun _ _ _ _ _ st h => wpAny_pyIter_zip st.1 h
section
variable {X : Cx}
def iZip (K : PySem.W.Frag) (ta tb : TE) : TI := fun σ H R => ta σ H fun x H1 => tb σ H1 fun y H2 => ∃ a b, x = .ref a ∧ y = .ref b ∧ (∃ xs, SqL K H2 a xs) ∧ (∃ ys, SqL K H2 b ys) ∧ R (ItZ K a b) H2
theorem pi_zip {elts : List Expr} {kk : Nat} {tpos p pos : Pos} {e f : Expr} {te tf : TE} (hg : Gl X "zip") (hm : X.mg "zip" = none) (he : PE X e te) (hf : PE X f tf)
    (hs : starEach [e, f] X.env = [(false, eval e X.env), (false, eval f X.env)] := by rfl) (hs2 : starEach [f] X.env = [(false, eval f X.env)] := by rfl) : PI X (.Tuple elts kk tpos) (.Call (.Name "zip" p) [e, f] [] pos) (iZip X.K te tf) := by
  intro pins s σ H R I h
  have b1 : bootBuiltins "zip" = some (.type "zip") := by decide +kernel
  refine wpAny_Call_Name_kw (ld_blt I hg hm b1 ?_ (by decide) (by decide))
  refine PyProof.Rows.callWith_type1 ?_ (by rw [hs, hs2]) (by rw [hs2]; rfl)
  rw [hs]
  refine Calls.spliced_cons (thn (he pins s σ H _ I h) fun u s1 ⟨x, H1, I1, rx, q1⟩ => ?_)
  refine Calls.spliced_cons (thn (hf pins s1 σ H1 _ I1 q1) fun u2 s2 ⟨y, H2, I2, ry, a, b, ex, ey, ⟨xs, hq⟩, ⟨ys, hq2⟩, q⟩ => ?_)
  subst ex ey
  have eu : u = Value.ref a := rx
  have eu2 : u2 = Value.ref b := ry
  subst eu eu2
  refine Calls.spliced_nil ?_
  obtain ⟨its, rv, pl, hz⟩ := I2.list hq
  obtain ⟨its2, rv2, pl2, hz2⟩ := I2.list hq2
  refine call_zip_2 pl.isList pl2.isList fun h' z TI TO i1 i2 sz kp => ?_
  have I3 : Inv X pins σ H2 { s2 with heap := h' } := I2.kept (t' := s2.toks) kp
  refine wpAny_pyIter_zip (s := { s2 with heap := h' }) z ?_
  have ne : ∀ i j : Nat, i ≠ j → s2.heap.objs.size + i ≠ s2.heap.objs.size + j := fun i j hij e => hij (Nat.add_left_cancel e)
  refine ⟨_, [s2.heap.objs.size + 4, s2.heap.objs.size + 2, s2.heap.objs.size + 3, s2.heap.objs.size, s2.heap.objs.size + 1], _, ItZ X.K a b, H2, rfl, I3,
    turn_zip a b _ _ _ _ _ ⟨ne 2 4 (by decide), ne 3 4 (by decide), ne 0 4 (by decide), ne 1 4 (by decide), ne 2 3 (by decide), ne 2 0 (by decide), ne 2 1 (by decide), ne 3 0 (by decide), ne 3 1 (by decide), ne 0 1 (by decide)⟩,
    ⟨z, TI, ⟨_, _, TO⟩, i1, i2⟩, fun c hc => ?_, q⟩
  have nb : s2.heap.objs.size ≤ c := by
    simp only [List.mem_cons, List.not_mem_nil, or_false] at hc
    rcases hc with rfl | rfl | rfl | rfl | rfl
    · exact Nat.le_add_right _ _
    · exact Nat.le_add_right _ _
    · exact Nat.le_add_right _ _
    · exact Nat.le_refl _
    · exact Nat.le_add_right _ _
  exact I2.fpOk nb (I2.hok.fresh nb)
end
theorem for_zip {K : PySem.W.Frag} {a b : Addr} {xs ys : List V} {g : TG} {tb : TS} {D : Ends} {σ : St} {H : Hp} (Pv : Nat → St → Hp → Prop) (n : Nat) (hn : n = min xs.length ys.length) (h0 : Pv 0 σ H) (hl : ∀ i σ H, i ≤ n → Pv i σ H → SqL K H a xs ∧ SqL K H b ys)
    (hs : ∀ i x y T σ H, xs[i]? = some x → ys[i]? = some y → Pv i σ H → H T = none → g (.ref T) σ (upd H T (.tup [x, y])) fun σ2 H2 => tb { D with nx := Pv (i + 1), ct := Pv (i + 1), bk := D.nx } σ2 H2) (hd : ∀ σ H, Pv n σ H → D.nx σ H) :
    ∃ W : Nat → Nat → St → Hp → Prop, (∃ m, W 0 m σ H) ∧ ∀ i m σ H, W i m σ H →
      ((ItZ K a b).stop i H ∧ D.nx σ H) ∨ ((ItZ K a b).go i H ∧ ∃ N : St → Hp → Prop, (∀ σ' H', N σ' H' → ∃ m', m' < m ∧ W (i + 1) m' σ' H') ∧ ∀ x H', (ItZ K a b).yld i H x H' → g x σ H' fun σ2 H2 => tb { D with nx := N, ct := N, bk := D.nx } σ2 H2) := by
  refine ⟨fun i m σ H => m = n - i ∧ i ≤ n ∧ Pv i σ H, ⟨n, by simp, Nat.zero_le _, h0⟩, ?_⟩
  rintro i m σ H ⟨rfl, hi, p⟩
  have q := hl i σ H hi p
  by_cases hlt : i < n
  · have l1 : i < xs.length := by omega
    have l2 : i < ys.length := by omega
    refine .inr ⟨⟨xs, ys, xs[i], ys[i], q.1, q.2, by simp [l1], by simp [l2]⟩, Pv (i + 1), fun σ' H' p' => ⟨n - (i + 1), by omega, rfl, hlt, p'⟩, fun x H' y => ?_⟩
    obtain ⟨T, vs, nT, rfl, rfl, x, y, rfl, hx, hy⟩ := y
    exact hs i x y T σ H (hx xs q.1) (hy ys q.2) p nT
  · have e : i = n := by omega
    subst e
    exact .inl ⟨⟨xs, ys, q.1, q.2, by omega⟩, hd σ H p⟩
end L2


set_option Elab.async false
set_option linter.all false
set_option maxRecDepth 100000
set_option maxHeartbeats 4000000
namespace L2
open PySem PySem.Spec PyProof.Rows
/-! ### list.insert at a place that is not below nought -/
section
variable {X : Cx}
def rInsert : V → List V → Hp → VK → Prop := fun x vs H Q => ∃ l xs i y, x = .ref l ∧ vs = [.int i, y] ∧ H l = some (.lst xs) ∧ 0 ≤ i ∧ i < 2 ^ 63 ∧ xs.length < sizeLine ∧ Q .non (upd H l (.lst (xs.take i.toNat ++ y :: xs.drop i.toNat)))
theorem insArr (its : List Value) (i : Int) (u : Value) (hi : 0 ≤ i) : (have k := if i < 0 then (i + (its.toArray.size : Int)).toNat else min i.toNat its.toArray.size; (its.toArray.extract 0 k).push u ++ its.toArray.extract k) = (its.take i.toNat ++ u :: its.drop i.toNat).toArray := by
  have hn : ¬ i < 0 := by omega
  simp only [hn, if_false, List.size_toArray]
  apply Array.toList_inj.mp
  simp only [Array.toList_append, Array.toList_push, Array.toList_extract]
  simp
  by_cases hl : i.toNat ≤ its.length
  · rw [Nat.min_eq_left hl]
    simp
    rw [List.take_of_length_le (by simp)]
  · have hl' : its.length ≤ i.toNat := by omega
    rw [Nat.min_eq_right hl', List.drop_eq_nil_of_le hl', List.take_of_length_le hl']
    simp
theorem mt_insert : MtM X "list.insert" rInsert := by
  intro pins s σ H x vs v us Q I rx rv h
  obtain ⟨l, xs, i, y, rfl, rfl, hH, h1, h2, hz, q⟩ := h
  cases rx
  obtain ⟨u, u2, rfl, ru, ru2⟩ := rv.two
  obtain ⟨t, rfl⟩ := ru
  obtain ⟨z, its, n, r, hl, e⟩ := I.lstM hH
  refine call_meets F.slot_list_insert ⟨_, e, rfl⟩ F.entry_list_insert (F.args_list_insert_3 _ _ _) (AutoSeq1.list_insert_list_int_val_1 l its.toArray n i t u2 (by rw [fitsIndex_both (by omega) h2]; decide) (by rw [List.size_toArray]; omega)) ⟨e, ?_⟩
  refine ⟨.non, _, I.lset (its' := its.take i.toNat ++ u2 :: its.drop i.toNat) hH e (insArr its i u2 h1) ((r.take _).append (.cons ru2 (r.drop _))) ?_, rfl, q⟩
  simp only [List.length_append, List.length_cons, List.length_take, List.length_drop]
  omega
end
end L2


set_option Elab.async false
set_option linter.all false
set_option maxRecDepth 100000
set_option maxHeartbeats 4000000
namespace L2
open PySem PySem.Spec PyProof.Rows
/-! ### in and not in, of data in a list -/
section
variable {X : Cx}
def rInD (K : PySem.W.Frag) (no : Bool) : R2 := fun x y H Q => ∃ d ds a ys, DatX K H d x ∧ y = .ref a ∧ SqL K H a ys ∧ DatAll K H ds ys ∧ PyData.canLayAll0 ds = true ∧ d.canLay0 = true ∧ PyData.depthAll ds ≤ 60 ∧ Q (.bl (Bool.xor no (ds.any fun e => PyData.eqv e d))) H
theorem op_inD (hu : X.A.units + 64 < cLine) : OpR X (compareOp .In) (rInD X.K false) := by
  intro pins s σ H x y u v Q I rx ry h
  obtain ⟨d, ds, a, ys, hx, rfl, hl, hd, c1, c2, c3, q⟩ := h
  obtain ⟨bs, r1⟩ := hx.reads I rx
  obtain ⟨as, r2⟩ := DatX.reads I (d := .list ds) (v := .ref a) (.inr ⟨ds, a, ys, rfl, rfl, hl, hd⟩) ry
  refine PySem.SeqAt.in_list_reads r2 r1 c1 c2 (by have := Nat.min_le_left (PyData.depthAll ds) d.depth; omega) ⟨_, H, I, ?_, q⟩
  exact congrArg Value.bool (Bool.false_xor _).symm
theorem op_notinD (hu : X.A.units + 64 < cLine) : OpR X (compareOp .NotIn) (rInD X.K true) := by
  intro pins s σ H x y u v Q I rx ry h
  obtain ⟨d, ds, a, ys, hx, rfl, hl, hd, c1, c2, c3, q⟩ := h
  obtain ⟨bs, r1⟩ := hx.reads I rx
  obtain ⟨as, r2⟩ := DatX.reads I (d := .list ds) (v := .ref a) (.inr ⟨ds, a, ys, rfl, rfl, hl, hd⟩) ry
  refine PySem.SeqAt.notIn_list_reads r2 r1 c1 c2 (by have := Nat.min_le_left (PyData.depthAll ds) d.depth; omega) ⟨_, H, I, ?_, q⟩
  exact congrArg Value.bool (Bool.true_xor _).symm
end
end L2


set_option Elab.async false
set_option linter.all false
set_option maxRecDepth 100000
set_option maxHeartbeats 4000000
namespace L2
open PySem PySem.Spec PyProof.Rows
/-! ### a list comprehension with a tuple as its target: its block has the names xs of its own -/
def cNamesT (X : Cx) (xs : List Str) (js : List Nat) : List Str := xs ++ js.map fun j => X.N.getD j ""
section
variable {X : Cx} {pins : List (Addr × Obj)} {σ : St} {H : Hp} {s : Shared} {scope : Scope} {cl : List (Str × Addr)} {xs : List Str} {js : List Nat} {fp : List Addr} {N : List Str}
theorem comp_okT (I : Inv X pins σ H s) (hk : scope.kind = .function) (hcell : ∀ y ∈ scope.names, y.2 ≠ .cell)
    (hcl1 : ∀ y c, cl.lookup y = some c → X.env.cells.lookup y = some c) (hcl2 : ∀ y, (y, NameKind.free) ∈ scope.names → ∃ c, cl.lookup y = some c)
    (hf : ∀ b ∈ fp, FpOk X pins H b) (hlt : ∀ b ∈ fp, b < s.heap.objs.size) : (cxComp X scope cl N s H fp).Ok where
  mod := I.ok.mod
  kind := hk
  glob := I.ok.glob
  blt := I.ok.blt
  above := Nat.le_refl _
  inj := fun y z c h1 h2 => I.ok.inj y z c (hcl1 y c h1) (hcl1 z c h2)
  has := fun y hy => by
    have hy' : (relabel scope X.env).names.lookup y = some .cell ∨ (relabel scope X.env).names.lookup y = some .free := hy
    rcases hy' with h | h
    · obtain ⟨k', m, q⟩ := lookup_relabel h
      rcases q with q | ⟨_, q⟩
      · exact absurd q (hcell _ m)
      · subst q; exact hcl2 y m
    · obtain ⟨k', m, q⟩ := lookup_relabel h
      rcases q with q | ⟨q, _⟩
      · subst q; exact hcl2 y m
      · cases q
  cab := fun y c h _ => by cases h
  hd := I.ok.hd
  frames := I.ok.frames
  stk := .inl rfl
  exf := fun b hb => ⟨Nat.ne_of_lt (hlt b hb), fun y c h => (hf b hb).2.2.2.2.1 y c (hcl1 y c h)⟩
  bs := I.bs
  bsz := Nat.le_trans I.ok.bsz I.sz
  noex := fun b o e hb => by
    rcases (hf b hb).2.2.2.1 with z | z
    · exact I.ok.noex b o e z
    · exact absurd (Nat.lt_of_lt_of_le (Heap.lt_size e) (Nat.le_trans I.ok.bsz z)) (Nat.lt_irrefl _)
  exfs := fun b hb hz => (List.mem_cons.mp (I.stkSub b hz)).elim (hf b hb).2.1 (hf b hb).2.2.1
  funs := I.stack
  frf := I.stkFree

theorem comp_startT {h₁ : Heap} {tk : Nat} (I : Inv X pins σ H s) (hk : scope.kind = .function) (hcell : ∀ y ∈ scope.names, y.2 ≠ .cell)
    (hcl1 : ∀ y c, cl.lookup y = some c → X.env.cells.lookup y = some c) (hcl2 : ∀ y, (y, NameKind.free) ∈ scope.names → ∃ c, cl.lookup y = some c) (hjs : FreeAt X scope js)
    (hf : ∀ b ∈ fp, FpOk X pins H b) (hlt : ∀ b ∈ fp, b < s.heap.objs.size) {m : Str → Option Value} (hn : h₁.Ns s.heap.objs.size m) (hkeep : ∀ b o, s.heap.get? b = some o → h₁.get? b = some o) :
    Inv (cxComp X scope cl (cNamesT X xs js) s H fp) [] (List.replicate xs.length none ++ cVals js σ) H { s with heap := h₁, toks := tk } where
  ok := comp_okT I hk hcell hcl1 hcl2 hf hlt
  os := rfl
  bare := I.bare
  base := Un.kept hkeep
  loc := by
    refine ⟨m, hn, fun i y v h1 h2 h3 => ?_⟩
    by_cases hik : i < xs.length
    · rw [List.getElem?_append_left (by simpa using hik), List.getElem?_replicate_of_lt hik] at h2
      cases h2
    · generalize hkk : i - xs.length = k
      have h1' : (js.map fun j => X.N.getD j "")[k]? = some y := by
        have q : (xs ++ js.map fun j => X.N.getD j "")[i]? = some y := h1
        rw [List.getElem?_append_right (by omega), hkk] at q
        exact q
      have h2' : (js.map fun j => (σ[j]?).getD none)[k]? = some (some v) := by
        rw [List.getElem?_append_right (by simp; omega), List.length_replicate, hkk] at h2
        exact h2
      rw [List.getElem?_map] at h1' h2'
      cases hj : js[k]? with
      | none => rw [hj] at h1'; cases h1'
      | some j =>
        rw [hj] at h1' h2'
        have e1 : X.N.getD j "" = y := Option.some.inj h1'
        have e2 : (σ[j]?).getD none = some v := Option.some.inj h2'
        obtain ⟨y', n1, n2, n3, n4⟩ := hjs.all j (List.mem_of_getElem? hj)
        have e3 : y' = y := by rw [← e1, List.getD_eq_getElem?_getD, n1]; rfl
        subst e3
        have e4 : σ[j]? = some (some v) := by
          cases q : σ[j]? with
          | none => rw [q] at e2; cases e2
          | some a => rw [q] at e2; exact congrArg some e2
        obtain ⟨m0, _, hl⟩ := I.loc
        obtain ⟨u, r, l⟩ := hl j y' v n1 e4 (n2.elim (fun z => Or.inr (Or.inl z)) fun z => Or.inr (Or.inr z))
        refine ⟨u, r, .inr ⟨n4, ?_⟩⟩
        rcases l with ⟨l, _⟩ | ⟨_, c, hc, hi⟩
        · exfalso
          rcases n2 with z | z <;> (rw [z] at l; cases l)
        · obtain ⟨c', hc'⟩ := hcl2 y' n3
          have e5 := hcl1 y' c' hc'
          rw [hc] at e5
          have e6 := Option.some.inj e5
          subst e6
          obtain ⟨o, ho, hd⟩ := hi
          exact ⟨c, hc', o, hkeep c o ho, hd⟩
  cell := fun y c h => by
    obtain ⟨v, o, ho, hd⟩ := I.cell y c (hcl1 y c h)
    exact ⟨v, o, hkeep c o ho, hd⟩
  free := I.hok.fresh (Nat.le_refl _)
  freeC := fun y c h => I.freeC y c (hcl1 y c h)
  pin := fun p hp => absurd (show p ∈ ([] : List (Addr × Obj)) from hp) (by simp)
  hok := I.hok.kept hkeep
  len := by
    show (List.replicate xs.length none ++ cVals js σ).length = (cNamesT X xs js).length
    simp [cVals, cNamesT]
end

/-- [elt for a, b, .. in iter]: n names of the block's own -/
def tCompT (n : Nat) (wi : TI) (g : TG) (te : TE) (js : List Nat) : TE := fun σ H Q => wi σ H fun J H1 => ∀ D, H1 D = none →
  ∃ W : Nat → Nat → Hp → Prop, (∃ m, W 0 m (upd H1 D (.lst []))) ∧ ∀ i m H2, W i m H2 → (J.stop i H2 ∧ Q (.ref D) H2) ∨
    (J.go i H2 ∧ ∀ o : St, o.length = n → ∀ v H3, J.yld i H2 v H3 → g v (o ++ cVals js σ) H3 fun σ4 H4 => ∃ o', o'.length = n ∧ σ4 = o' ++ cVals js σ ∧ te (o' ++ cVals js σ) H4 fun y H5 =>
      ∃ ys, H5 D = some (.lst ys) ∧ ys.length < sizeLine ∧ ∃ m', m' < m ∧ W (i + 1) m' (upd H5 D (.lst (ys ++ [y]))))
section
variable {X : Cx} {elt iter : Expr} {xs : List Str} {elts : List Expr} {kk : Nat} {tp pos : Pos} {scope : Scope} {cl : List (Str × Addr)} {wi : TI} {g : TG} {te : TE} {js : List Nat}
theorem comp_coreT {use : Option (Value → Sem Unit)} {Qv : Value → Shared → Prop} {pins : List (Addr × Obj)} {s : Shared} {σ : St} {H : Hp} {Q : VK}
    (hc : X.calm = true) (hi : PI X (.Tuple elts kk tp) iter wi) (hk : scope.kind = .function) (hcell : ∀ y ∈ scope.names, y.2 ≠ .cell)
    (hcl1 : ∀ y c, cl.lookup y = some c → X.env.cells.lookup y = some c) (hcl2 : ∀ y, (y, NameKind.free) ∈ scope.names → ∃ c, cl.lookup y = some c) (hjs : FreeAt X scope js) (hnd : (cNamesT X xs js).Nodup)
    (hg : ∀ s' H' fp, PG (cxComp X scope cl (cNamesT X xs js) s' H' fp) (.Tuple elts kk tp) g) (he : ∀ s' H' fp, PE (cxComp X scope cl (cNamesT X xs js) s' H' fp) elt te)
    (I : Inv X pins σ H s) (h : tCompT xs.length wi g te js σ H Q)
    (fin : ∀ (D C : Addr) (H' : Hp) (s' : Shared), Inv X pins σ H' s' → FpOk X pins H' C → (∃ m, s'.heap.Ns C m) → Q (.ref D) H' → compPost (model X.prog X.w) X.A X.xe use Qv (.ref D) C (.ok .next) s') :
    wpAny (model X.prog X.w) X.A (eval iter X.env) (fun xv s₁ => wpAny (model X.prog X.w) X.A (pyIter xv) (fun it s₂ => wpAny (model X.prog X.w) X.A (newList []) (fun acc s₃ =>
      wpAny (model X.prog X.w) X.A (newFunctionEnv scope X.env.globals cl [] X.env.qual none .none (some X.env)) (fun cenv s₄ =>
        codeAny (model X.prog X.w) X.A (.compStart (.ListComp elt [⟨.Tuple elts kk tp, iter, [], 0⟩] scope pos) 0 it acc { cenv with scope := relabel scope X.env })
          (compPost (model X.prog X.w) X.A X.xe use Qv acc cenv.locals) s₄) X.xe s₃) X.xe s₂) X.xe s₁) X.xe s := by
  refine thn (hi pins s σ H _ I h) fun v s1 h1 => thn h1 fun itv s2 h2 => ?_
  obtain ⟨it, fp, tn, J, H2, e, I2, T, st2, f2, hW⟩ := h2
  subst e
  obtain ⟨W, ⟨m0, w0⟩, turn⟩ := hW s2.heap.objs.size (I2.hok.fresh (Nat.le_refl _))
  have hlt2 : ∀ b ∈ fp, b < s2.heap.objs.size := fun b hb => let ⟨_, e, _⟩ := T.obj _ _ st2 b hb; Heap.lt_size e
  have I3 : Inv X pins σ (upd H2 s2.heap.objs.size (.lst [])) { s2 with heap := s2.heap.push { cls := .type "list", data := .seq ([] : List Value).toArray } } :=
    I2.lnew (t' := s2.toks) (its := []) .nil (Nat.zero_le _)
  refine wpAny_newObj_type ?_
  have k23 : ∀ b o, s2.heap.get? b = some o → (s2.heap.push { cls := .type "list", data := .seq ([] : List Value).toArray }).get? b = some o := fun b o e => Heap.get?_push_of_some _ e
  have sz3 : (s2.heap.push { cls := .type "list", data := .seq ([] : List Value).toArray }).objs.size = s2.heap.objs.size + 1 := Heap.size_push ..
  generalize hs3 : ({ s2 with heap := s2.heap.push { cls := .type "list", data := .seq ([] : List Value).toArray } } : Shared) = s3 at I3
  have hs3' : s3.heap = s2.heap.push { cls := .type "list", data := .seq ([] : List Value).toArray } := by rw [← hs3]
  have hlt3 : ∀ b ∈ fp, b < s3.heap.objs.size := fun b hb => by rw [hs3', sz3]; exact Nat.lt_succ_of_lt (hlt2 b hb)
  have f3 : ∀ b ∈ fp, FpOk X pins (upd H2 s2.heap.objs.size (.lst [])) b := fun b hb => ⟨by rw [upd_ne (Nat.ne_of_lt (hlt2 b hb))]; exact (f2 b hb).1, (f2 b hb).2⟩
  refine wpAny_newFunctionEnv hcell (by intro y hy; simp at hy) (fun h₁ hns hsb => ?_) hk
  have k34 : ∀ b o, s3.heap.get? b = some o → h₁.get? b = some o := fun b o e => hsb.extBut b o (Nat.ne_of_lt (Heap.lt_size e)) (Heap.get?_push_of_some _ e)
  have I4 := comp_startT (xs := xs) (js := js) (tk := s3.toks + ([] : List (Str × Value)).length) I3 hk hcell hcl1 hcl2 hjs f3 hlt3 hns k34
  have st4 : tn 0 h₁ := T.keep 0 _ _ st2 fun b hb o e => k34 b o (by rw [hs3']; exact k23 b o e)
  -- the iterator's records stay what they are
  have stat : ∀ {H' : Hp}, (∀ b ∈ fp, H' b = none) → ∀ b ∈ fp, FpOk (cxComp X scope cl (cNamesT X xs js) s3 (upd H2 s2.heap.objs.size (.lst [])) fp) [] H' b := fun hn b hb =>
    ⟨hn b hb, Nat.ne_of_lt (hlt3 b hb), fun hz => (List.mem_cons.mp (I3.stkSub b hz)).elim (f2 b hb).2.1 (f2 b hb).2.2.1, .inl hb, fun y c q => (f2 b hb).2.2.2.2.1 y c (hcl1 y c q), fun p hp => absurd (show p ∈ ([] : List (Addr × Obj)) from hp) (by simp)⟩
  have back : ∀ {σ' : St} {H' : Hp} {s' : Shared}, Inv (cxComp X scope cl (cNamesT X xs js) s3 (upd H2 s2.heap.objs.size (.lst [])) fp) [] σ' H' s' → Inv X pins σ H' s' := fun {σ' H' s'} J' =>
    I3.call' (ch := fp) J'.os J'.base J'.hok J'.bare fun b hb => ⟨(f2 b hb).2.2.2.1, (f2 b hb).2.1, (f2 b hb).2.2.2.2.1, (f2 b hb).2.2.2.2.2⟩
  have loop : codeAny (model X.prog X.w) X.A (.compLoop (.ListComp elt [⟨.Tuple elts kk tp, iter, [], 0⟩] scope pos) 0 (.ref it) (.ref s2.heap.objs.size) (compEnvC scope cl s3.heap.objs.size X.env))
      (compPost (model X.prog X.w) X.A X.xe use Qv (.ref s2.heap.objs.size) s3.heap.objs.size) { s3 with heap := h₁, toks := s3.toks + ([] : List (Str × Value)).length } := by
    refine PyProof.Rows.LCp.codeAny_compLoop_pair (fun n s' => ∃ (i : Nat) (o : St) (H' : Hp), o.length = xs.length ∧ Inv (cxComp X scope cl (cNamesT X xs js) s3 (upd H2 s2.heap.objs.size (.lst [])) fp) [] (o ++ cVals js σ) H' s' ∧ tn i s'.heap ∧ (∀ b ∈ fp, H' b = none) ∧ W i n H') ?_ m0
      ⟨0, _, _, List.length_replicate, I4, st4, fun b hb => (f3 b hb).1, w0⟩
    rintro n s5 ⟨i, o, H5, ho, I5, st5, fr5, w5⟩
    rcases turn i n H5 w5 with ⟨stop, q⟩ | ⟨go, step⟩
    · refine thn (T.done (cxComp X scope cl (cNamesT X xs js) s3 (upd H2 s2.heap.objs.size (.lst [])) fp) rfl rfl rfl hc i [] s5 _ H5 _ I5 (stat fr5) st5 stop) fun r s6 ⟨hr, I6⟩ => ?_
      subst hr
      exact fin _ _ H5 s6 (back I6) (I3.fpOk (Nat.le_refl _) I6.free) (let ⟨m, hm, _⟩ := I6.loc; ⟨m, hm⟩) q
    · refine thn (T.item (cxComp X scope cl (cNamesT X xs js) s3 (upd H2 s2.heap.objs.size (.lst [])) fp) rfl rfl rfl hc i [] s5 _ H5 _ I5 (stat fr5) st5 go) fun r s6 ⟨u, hr, h6⟩ => ?_
      subst hr
      refine wpAny_mono h6 (fun _ s6' q6 => ?_) (fun _ _ f => f)
      obtain ⟨v, H6, I6, r6, y6, st6, fr6⟩ := q6
      have I6' := I6.pinned (stat fr6) (T.obj _ _ st6)
      refine wpAny_mono (hg s3 _ fp _ s6' _ H6 v u _ I6' r6 (step o ho v H6 y6)) (fun _ s7 q7 => ?_) (fun _ _ f => False.elim f)
      obtain ⟨σ7, H7, I7, o7, ho7, e7, q7⟩ := q7
      subst e7
      refine wpAny_mono (he s3 _ fp _ s7 _ H7 _ I7 q7) (fun y s9 q9 => ?_) (fun _ _ f => False.elim f)
      obtain ⟨yv, H9, I9, r9, ys, hD, hl, m', hm, w9⟩ := q9
      refine wpAny_mono (mt_append (X := cxComp X scope cl (cNamesT X xs js) s3 (upd H2 s2.heap.objs.size (.lst [])) fp) _ s9 _ H9 (.ref s2.heap.objs.size) [yv] (.ref s2.heap.objs.size) [y] (fun _ H' => H' = upd H9 s2.heap.objs.size (.lst (ys ++ [yv]))) I9 rfl (.cons r9 .nil) ⟨_, ys, yv, rfl, rfl, hD, hl, rfl⟩) (fun _ s10 q10 => ?_) (fun _ _ f => False.elim f)
      obtain ⟨_, H10, I10, _, e10⟩ := q10
      subst e10
      refine ⟨m', hm, i + 1, o7, _, ho7, I10.unpinned, T.keep _ _ _ st6 fun b hb o e => (I10.pin (b, o) (List.mem_append_right _ (List.mem_append_right _ (mem_pinsAt hb e)))).1, fun b hb => ?_, w9⟩
      obtain ⟨o, e, d⟩ := T.obj _ _ st6 b hb
      exact (I10.pin (b, o) (List.mem_append_right _ (List.mem_append_right _ (mem_pinsAt hb e)))).2.1
  exact codeAny_compStart_list loop (T.self _ 0 _ _ _ st4 loop)

/-- the comprehension as an expression -/
theorem pe_compT (hc : X.calm = true) (hi : PI X (.Tuple elts kk tp) iter wi) (hk : scope.kind = .function) (hcell : ∀ y ∈ scope.names, y.2 ≠ .cell) (hnames : ∀ y ∈ scope.names, y.2 = .local → scope.names.lookup y.1 = some .local)
    (hclos : closureFor scope X.env = pure cl) (hcl1 : ∀ y c, cl.lookup y = some c → X.env.cells.lookup y = some c) (hcl2 : ∀ y, (y, NameKind.free) ∈ scope.names → ∃ c, cl.lookup y = some c) (hjs : FreeAt X scope js) (hnd : (cNamesT X xs js).Nodup)
    (hg : ∀ s' H' fp, PG (cxComp X scope cl (cNamesT X xs js) s' H' fp) (.Tuple elts kk tp) g) (he : ∀ s' H' fp, PE (cxComp X scope cl (cNamesT X xs js) s' H' fp) elt te)
    (hs : ∀ x, foldedSetIterable iter X.env x = pure x := by intro _; rfl) : PE X (.ListComp elt [⟨.Tuple elts kk tp, iter, [], 0⟩] scope pos) (tCompT xs.length wi g te js) := by
  intro pins s σ H Q I h
  rw [eval_ListComp]
  refine wpAny_comprehension_free (use := none) rfl hs hclos hk hnames (comp_coreT hc hi hk hcell hcl1 hcl2 hjs hnd hg he I h fun D C H' s' I' fC hC q => ?_)
  obtain ⟨m, hm⟩ := hC
  refine ⟨m, hm, fun h' sb => ?_⟩
  obtain ⟨f0, f1, f2, f3, f4, f5⟩ := fC
  exact ⟨.ref D, H', I'.turned (t' := s'.toks) (fun b o hb e => (sb.2 b hb).trans e) f0 f1 f3 f4 f5, rfl, q⟩

/-- the closure found from the scope -/
theorem pe_compTF (hc : X.calm = true) (hi : PI X (.Tuple elts kk tp) iter wi) (hk : scope.kind = .function) (hcell : ∀ y ∈ scope.names, y.2 ≠ .cell) (hnames : ∀ y ∈ scope.names, y.2 = .local → scope.names.lookup y.1 = some .local)
    (hf : ∀ p ∈ scope.names, p.2 = .free → X.env.kindOf p.1 = some .cell ∨ X.env.kindOf p.1 = some .free) (hjs : FreeAt X scope js) (hnd : (cNamesT X xs js).Nodup)
    (hg : ∀ cl s' H' fp, PG (cxComp X scope cl (cNamesT X xs js) s' H' fp) (.Tuple elts kk tp) g) (he : ∀ cl s' H' fp, PE (cxComp X scope cl (cNamesT X xs js) s' H' fp) elt te)
    (hs : ∀ x, foldedSetIterable iter X.env x = pure x := by intro _; rfl) : PE X (.ListComp elt [⟨.Tuple elts kk tp, iter, [], 0⟩] scope pos) (tCompT xs.length wi g te js) := by
  intro pins s σ H Q I h
  obtain ⟨cl, e, p1, p2⟩ := clo_of (free_of (js := js) I fun y hy => hf (y, .free) hy rfl)
  exact pe_compT hc hi hk hcell hnames e p1 p2 hjs hnd (hg cl) (he cl) hs pins s σ H Q I h
end
end L2


set_option Elab.async false
namespace Mine
theorem int_or (a b : Int) : a < b ∨ b ≤ a := by omega
namespace Lo
/-- the greatest common factor, as an int -/
def gc (a b : Int) : Int := (Int.gcd a b : Nat)
theorem gc_pos {a b : Int} (h : b ≠ 0) : 0 < gc a b := by
  have := Int.gcd_pos_of_ne_zero_right a h
  unfold gc; omega
theorem gc_zero {a : Int} (h : 0 ≤ a) : gc a 0 = a := by
  unfold gc; rw [Int.gcd_zero_right]; omega
theorem gc_natAbs (a b : Int) : gc a.natAbs b.natAbs = gc a b := by
  unfold gc Int.gcd; simp
theorem gc_turn (g l : Int) : gc l (g.fmod l) = gc g l := by
  unfold gc
  congr 1
  rw [Int.fmod_def]
  rw [Int.gcd_comm g l]
  have : g - l * g.fdiv l = g + l * (-(g.fdiv l)) := by rw [Int.mul_neg]; omega
  rw [this]
  exact Int.gcd_add_mul_left_right ..
theorem gc_dvd_left (a b : Int) : gc a b ∣ a := Int.gcd_dvd_left ..
theorem gc_dvd_right (a b : Int) : gc a b ∣ b := Int.gcd_dvd_right ..
/-- the factor with the bottom's sign -/
def sg (t b : Int) : Int := if b < 0 then -(gc t b) else gc t b
def lowT (t b : Int) : Int := t.fdiv (sg t b)
def lowB (t b : Int) : Int := b.fdiv (sg t b)
theorem sg_ne {t b : Int} (h : b ≠ 0) : sg t b ≠ 0 := by
  have := gc_pos (a := t) h
  unfold sg; split <;> omega
theorem sg_dvd_t (t b : Int) : sg t b ∣ t := by
  unfold sg; split
  · exact Int.neg_dvd.mpr (gc_dvd_left t b)
  · exact gc_dvd_left t b
theorem sg_dvd_b (t b : Int) : sg t b ∣ b := by
  unfold sg; split
  · exact Int.neg_dvd.mpr (gc_dvd_right t b)
  · exact gc_dvd_right t b
theorem lowT_eq (t b : Int) : sg t b * lowT t b = t := by
  unfold lowT
  rw [Int.fdiv_eq_ediv_of_dvd (sg_dvd_t t b)]
  exact Int.mul_ediv_cancel' (sg_dvd_t t b)
theorem lowB_eq (t b : Int) : sg t b * lowB t b = b := by
  unfold lowB
  rw [Int.fdiv_eq_ediv_of_dvd (sg_dvd_b t b)]
  exact Int.mul_ediv_cancel' (sg_dvd_b t b)
theorem lowB_pos {t b : Int} (h : b ≠ 0) : 0 < lowB t b := by
  have e := lowB_eq t b
  have g := gc_pos (a := t) h
  rcases Int.lt_trichotomy (lowB t b) 0 with q | q | q
  · exfalso
    by_cases c : b < 0
    · have s : sg t b = -(gc t b) := by unfold sg; rw [if_pos c]
      have s0 : sg t b < 0 := by omega
      have := Int.mul_pos_of_neg_of_neg s0 q
      omega
    · have s : sg t b = gc t b := by unfold sg; rw [if_neg c]
      have s0 : 0 < sg t b := by omega
      have := Int.mul_neg_of_pos_of_neg s0 q
      omega
  · rw [q] at e; simp at e; omega
  · exact q
theorem gc_mul (f t b : Int) : gc (f * t) (f * b) = f.natAbs * gc t b := by
  unfold gc
  rw [Int.gcd_mul_left]
  rfl
theorem sg_mul {f : Int} (hf : f ≠ 0) (t : Int) {b : Int} (hb : b ≠ 0) : sg (f * t) (f * b) = f * sg t b := by
  unfold sg
  rw [gc_mul]
  rcases (by omega : 0 < f ∨ f < 0) with p | n
  · have e : (f.natAbs : Int) = f := by omega
    rw [e]
    by_cases c : b < 0
    · rw [if_pos c, if_pos (Int.mul_neg_of_pos_of_neg p c), Int.mul_neg]
    · have := Int.mul_pos p (show 0 < b by omega)
      rw [if_neg c, if_neg (by omega)]
  · have e : (f.natAbs : Int) = -f := by omega
    rw [e]
    by_cases c : b < 0
    · have := Int.mul_pos_of_neg_of_neg n c
      rw [if_pos c, if_neg (by omega), Int.mul_neg, Int.neg_mul]
    · have := Int.mul_neg_of_neg_of_pos n (show 0 < b by omega)
      rw [if_neg c, if_pos (by omega), Int.neg_mul, Int.neg_neg]
theorem lowT_mul {f : Int} (hf : f ≠ 0) (t : Int) {b : Int} (hb : b ≠ 0) : lowT (f * t) (f * b) = lowT t b := by
  have h := lowT_eq (f * t) (f * b)
  rw [sg_mul hf t hb, Int.mul_assoc] at h
  have h2 := Int.eq_of_mul_eq_mul_left hf h
  have h3 := lowT_eq t b
  exact Int.eq_of_mul_eq_mul_left (sg_ne hb) (h2.trans h3.symm)
theorem lowB_mul {f : Int} (hf : f ≠ 0) (t : Int) {b : Int} (hb : b ≠ 0) : lowB (f * t) (f * b) = lowB t b := by
  have h := lowB_eq (f * t) (f * b)
  rw [sg_mul hf t hb, Int.mul_assoc] at h
  have h2 := Int.eq_of_mul_eq_mul_left hf h
  have h3 := lowB_eq t b
  exact Int.eq_of_mul_eq_mul_left (sg_ne hb) (h2.trans h3.symm)
/-- sizes -/
theorem natAbs_le_of_mul {s x n : Int} (hs : s ≠ 0) (e : s * x = n) : x.natAbs ≤ n.natAbs := by
  rw [← e, Int.natAbs_mul]
  have : 1 ≤ s.natAbs := by omega
  exact Nat.le_mul_of_pos_left _ this
theorem lowT_le {t b : Int} (hb : b ≠ 0) : (lowT t b).natAbs ≤ t.natAbs := natAbs_le_of_mul (sg_ne hb) (lowT_eq t b)
theorem lowB_le {t b : Int} (hb : b ≠ 0) : (lowB t b).natAbs ≤ b.natAbs := natAbs_le_of_mul (sg_ne hb) (lowB_eq t b)
theorem gc_le {t b : Int} (hb : b ≠ 0) : (gc t b).natAbs ≤ b.natAbs := by
  have h := Int.gcd_dvd_right (a := t) (b := b)
  have := Nat.le_of_dvd (by omega) (Int.natAbs_dvd_natAbs.mpr h)
  unfold gc; exact this
theorem sg_le {t b : Int} (hb : b ≠ 0) : (sg t b).natAbs ≤ b.natAbs := by
  have := gc_le (t := t) hb
  unfold sg; split <;> omega
theorem low_gc {t b : Int} (hb : b ≠ 0) : gc (lowT t b) (lowB t b) = 1 := by
  have h1 := lowT_eq t b
  have h2 := lowB_eq t b
  have h3 := gc_mul (sg t b) (lowT t b) (lowB t b)
  rw [h1, h2] at h3
  have h4 := gc_pos (a := t) hb
  have h5 : ((sg t b).natAbs : Int) = gc t b := by
    unfold sg; split <;> omega
  rw [h5] at h3
  have h6 : gc t b * gc (lowT t b) (lowB t b) = gc t b * 1 := by rw [← h3, Int.mul_one]
  exact Int.eq_of_mul_eq_mul_left (by omega) h6
/-- a fraction in lowest terms is its own -/
theorem low_own {p q : Int} (hq : 0 < q) (h : gc p q = 1) : lowT p q = p ∧ lowB p q = q := by
  have s : sg p q = 1 := by unfold sg; rw [if_neg (by omega), h]
  have h1 := lowT_eq p q
  have h2 := lowB_eq p q
  rw [s, Int.one_mul] at h1 h2
  exact ⟨h1, h2⟩
theorem sg_pos {t b : Int} (hb : 0 < b) : 0 < sg t b := by
  have := gc_pos (a := t) (b := b) (by omega)
  unfold sg; rw [if_neg (by omega)]; exact this
theorem sg_neg {t b : Int} (hb : b < 0) : sg t b < 0 := by
  have := gc_pos (a := t) (b := b) (by omega)
  unfold sg; rw [if_pos hb]; omega
end Lo

/-! ### stretches and lines, as they are told -/
structure St4 where
  p : Int
  q : Int
  m : Int
  h : Int
  deriving DecidableEq
namespace Ln
def Adj (s t : St4) : Prop := s.p * t.q < t.p * s.q ∧ (t.m - s.m) * s.p + (t.h - s.h) * s.q = 0 ∧ t.m ≠ s.m
def StOk (s : St4) : Prop := 0 < s.p ∧ s.p ≤ s.q ∧ Lo.gc s.p s.q = 1 ∧ s.q < 2 ^ 40 ∧ s.m.natAbs < 2 ^ 40 ∧ s.h.natAbs < 2 ^ 40
def Ch : List St4 → Prop
  | [] => True
  | [_] => True
  | s :: t :: r => Adj s t ∧ Ch (t :: r)
theorem Ch.snoc : ∀ {S : List St4} {t : St4}, Ch S → (∀ s, S.getLast? = some s → Adj s t) → Ch (S ++ [t])
  | [], _, _, _ => trivial
  | [s], t, _, h => ⟨h s rfl, trivial⟩
  | s :: u :: r, t, c, h => ⟨c.1, Ch.snoc (S := u :: r) c.2 fun x hx => h x (by rw [List.getLast?_cons_cons]; exact hx)⟩
structure Line (L : List St4) : Prop where
  ok : ∀ s ∈ L, StOk s
  ch : Ch L
  last : ∃ s, L.getLast? = some s ∧ s.p = 1 ∧ s.q = 1
  few : L.length ≤ 100
/-- where the law's maker of lines stands behind i turns -/
structure Bt (S : List St4) (p q m h : Int) (i : Nat) : Prop where
  ok : ∀ s ∈ S, StOk s
  ch : Ch S
  p0 : 0 ≤ p
  pq : p < q
  qb : q ≤ 100001
  mb : m.natAbs ≤ 1000000 + 200000 * i
  hb : h.natAbs ≤ 100000000 + 200000 * i
  len : S.length ≤ i
  join : ∀ s, S.getLast? = some s → s.p = p ∧ s.q = q ∧ (m - s.m) * p + (h - s.h) * q = 0 ∧ m ≠ s.m
theorem Bt.start {m h : Int} (hm : m.natAbs ≤ 1000000) (hh : h.natAbs ≤ 100000000) : Bt [] 0 1 m h 0 :=
  ⟨(fun _ h => nomatch h), trivial, by omega, by omega, by omega, by omega, by omega, Nat.le_refl _, (fun _ h => nomatch h)⟩
theorem Bt.skip {S : List St4} {p q m h : Int} {i : Nat} (b : Bt S p q m h i) : Bt S p q m h (i + 1) :=
  ⟨b.ok, b.ch, b.p0, b.pq, b.qb, by have := b.mb; omega, by have := b.hb; omega, by have := b.len; omega, b.join⟩
theorem low_between {p q d m : Int} (q0 : 0 < q) (hd : 2 ≤ d.natAbs)
    (hm : (0 < d ∧ (d * p) / q + 1 ≤ m ∧ m ≤ d - 1) ∨ (d < 0 ∧ d + 1 ≤ m ∧ m ≤ -(((-d) * p) / q) - 1)) :
    p * Lo.lowB m d < Lo.lowT m d * q ∧ Lo.lowT m d < Lo.lowB m d := by
  have hd0 : d ≠ 0 := by omega
  have e1 := Lo.lowT_eq m d
  have e2 := Lo.lowB_eq m d
  have key : ∀ x y s : Int, s * x = d → s * y = m → s * (p * x - y * q) = d * p - m * q := by
    intro x y s h1 h2
    rw [Int.mul_sub, ← Int.mul_assoc, ← Int.mul_assoc, Int.mul_comm s p, Int.mul_assoc, h1, h2, Int.mul_comm p d]
  have k1 := key _ _ _ e2 e1
  have k2 : Lo.sg m d * (Lo.lowT m d - Lo.lowB m d) = m - d := by rw [Int.mul_sub, e1, e2]
  rcases hm with ⟨dp, lo, hi⟩ | ⟨dn, lo, hi⟩
  · have s0 := Lo.sg_pos (t := m) dp
    have f : d * p < m * q := by
      have := Int.lt_ediv_add_one_mul_self (d * p) q0
      have h2 : (d * p / q + 1) * q ≤ m * q := Int.mul_le_mul_of_nonneg_right lo (by omega)
      omega
    refine ⟨?_, ?_⟩
    · rcases int_or (p * Lo.lowB m d) (Lo.lowT m d * q) with z | z
      · exact z
      · exfalso
        have : 0 ≤ Lo.sg m d * (p * Lo.lowB m d - Lo.lowT m d * q) := Int.mul_nonneg (by omega) (by omega)
        omega
    · rcases int_or (Lo.lowT m d) (Lo.lowB m d) with z | z
      · exact z
      · exfalso
        have : 0 ≤ Lo.sg m d * (Lo.lowT m d - Lo.lowB m d) := Int.mul_nonneg (by omega) (by omega)
        omega
  · have s0 := Lo.sg_neg (t := m) dn
    have f : m * q < d * p := by
      have := Int.lt_ediv_add_one_mul_self ((-d) * p) q0
      have h2 : ((-d) * p / q + 1) * q ≤ (-m) * q := Int.mul_le_mul_of_nonneg_right (by omega) (by omega)
      rw [Int.neg_mul, Int.neg_mul] at *
      omega
    refine ⟨?_, ?_⟩
    · rcases int_or (p * Lo.lowB m d) (Lo.lowT m d * q) with z | z
      · exact z
      · exfalso
        have := Int.mul_nonneg (a := -(Lo.sg m d)) (b := p * Lo.lowB m d - Lo.lowT m d * q) (by omega) (by omega)
        rw [Int.neg_mul] at this
        omega
    · rcases int_or (Lo.lowT m d) (Lo.lowB m d) with z | z
      · exact z
      · exfalso
        have := Int.mul_nonneg (a := -(Lo.sg m d)) (b := Lo.lowT m d - Lo.lowB m d) (by omega) (by omega)
        rw [Int.neg_mul] at this
        omega
theorem rule_at {m d : Int} (hd : d ≠ 0) : d * Lo.lowT m d = m * Lo.lowB m d := by
  have e1 := Lo.lowT_eq m d
  have e2 := Lo.lowB_eq m d
  have : Lo.sg m d * (d * Lo.lowT m d) = Lo.sg m d * (m * Lo.lowB m d) := by
    rw [← Int.mul_assoc, Int.mul_comm (Lo.sg m d) d, Int.mul_assoc, e1, ← Int.mul_assoc, Int.mul_comm (Lo.sg m d) m, Int.mul_assoc, e2, Int.mul_comm]
  exact Int.eq_of_mul_eq_mul_left (Lo.sg_ne hd) this
theorem Bt.step {S : List St4} {p q m h d mm : Int} {i : Nat} (b : Bt S p q m h i) (hi : i < 64) (hd : 2 ≤ d.natAbs) (hd2 : d.natAbs ≤ 100001)
    (hm : (0 < d ∧ (d * p) / q + 1 ≤ mm ∧ mm ≤ d - 1) ∨ (d < 0 ∧ d + 1 ≤ mm ∧ mm ≤ -(((-d) * p) / q) - 1)) :
    Bt (S ++ [⟨Lo.lowT mm d, Lo.lowB mm d, m, h⟩]) (Lo.lowT mm d) (Lo.lowB mm d) (m - d) (h + mm) (i + 1) := by
  have q0 : 0 < q := by have := b.p0; have := b.pq; omega
  have hd0 : d ≠ 0 := by omega
  obtain ⟨r1, r2⟩ := low_between q0 hd hm
  have g := Lo.low_gc (t := mm) hd0
  have bp := Lo.lowB_pos (t := mm) hd0
  have bl := Lo.lowB_le (t := mm) hd0
  have tp : 0 < Lo.lowT mm d := by
    rcases int_or 0 (Lo.lowT mm d) with z | z
    · exact z
    · exfalso
      have h1 := Int.mul_nonneg b.p0 (show 0 ≤ Lo.lowB mm d by omega)
      have h2 : Lo.lowT mm d * q ≤ 0 := Int.mul_nonpos_of_nonpos_of_nonneg z (by omega)
      omega
  have e := rule_at (m := mm) hd0
  have dv : 0 ≤ (d * p) / q ∨ d < 0 := by
    rcases int_or d 0 with z | z
    · exact .inr z
    · exact .inl (Int.ediv_nonneg (Int.mul_nonneg z b.p0) (by omega))
  have dv2 : 0 ≤ ((-d) * p) / q ∨ 0 < d := by
    rcases int_or 0 d with z | z
    · exact .inr z
    · exact .inl (Int.ediv_nonneg (Int.mul_nonneg (by omega) b.p0) (by omega))
  have mb : mm.natAbs ≤ 100001 := by omega
  have so : StOk ⟨Lo.lowT mm d, Lo.lowB mm d, m, h⟩ := ⟨tp, by show Lo.lowT mm d ≤ Lo.lowB mm d; omega, g, by show Lo.lowB mm d < 2 ^ 40; omega, by have := b.mb; show m.natAbs < 2 ^ 40; omega, by have := b.hb; show h.natAbs < 2 ^ 40; omega⟩
  refine ⟨?_, ?_, by omega, r2, by omega, by have := b.mb; omega, by have := b.hb; omega, by have := b.len; simp; omega, ?_⟩
  · intro s hs
    rcases List.mem_append.mp hs with z | z
    · exact b.ok s z
    · have := List.mem_singleton.mp z
      subst this
      exact so
  · refine b.ch.snoc fun s hs => ?_
    obtain ⟨j1, j2, j3, j4⟩ := b.join s hs
    refine ⟨?_, ?_, j4⟩
    · show s.p * Lo.lowB mm d < Lo.lowT mm d * s.q
      rw [j1, j2]; exact r1
    · show (m - s.m) * s.p + (h - s.h) * s.q = 0
      rw [j1, j2]; exact j3
  · intro s hs
    rw [List.getLast?_append, List.getLast?_singleton, Option.some_or] at hs
    cases hs
    refine ⟨rfl, rfl, ?_, ?_⟩
    · show (m - d - m) * Lo.lowT mm d + (h + mm - h) * Lo.lowB mm d = 0
      have z1 : m - d - m = -d := by omega
      have z2 : h + mm - h = mm := by omega
      rw [z1, z2, Int.neg_mul, e]
      omega
    · show m - d ≠ m
      omega
theorem Bt.line {S : List St4} {p q m h : Int} {i : Nat} (b : Bt S p q m h i) (hi : i ≤ 64) : Line (S ++ [⟨1, 1, m, h⟩]) := by
  refine ⟨?_, ?_, ⟨⟨1, 1, m, h⟩, by rw [List.getLast?_append, List.getLast?_singleton, Option.some_or], rfl, rfl⟩, by have := b.len; simp; omega⟩
  · intro s hs
    rcases List.mem_append.mp hs with z | z
    · exact b.ok s z
    · have := List.mem_singleton.mp z
      subst this
      exact ⟨by show (0 : Int) < 1; omega, by show (1 : Int) ≤ 1; omega, (by show Lo.gc 1 1 = 1; decide), by show (1 : Int) < 2 ^ 40; decide, by have := b.mb; show m.natAbs < 2 ^ 40; omega, by have := b.hb; show h.natAbs < 2 ^ 40; omega⟩
  · refine b.ch.snoc fun s hs => ?_
    obtain ⟨j1, j2, j3, j4⟩ := b.join s hs
    refine ⟨?_, ?_, j4⟩
    · show s.p * 1 < 1 * s.q
      have := b.pq
      omega
    · show (m - s.m) * s.p + (h - s.h) * s.q = 0
      rw [j1, j2]; exact j3
/-! ### the stretch in which x lies -/
def pk (L : List St4) (p q : Int) : Option St4 := L.find? fun s => !decide (s.p * q < p * s.q)
theorem pk_at {p q : Int} : ∀ {L : List St4} {k : Nat} {s : St4}, (∀ j, j < k → ∀ t, L[j]? = some t → t.p * q < p * t.q) → L[k]? = some s → ¬ s.p * q < p * s.q → pk L p q = some s
  | [], _, _, _, h, _ => by cases h
  | t :: r, 0, s, _, h, n => by
    cases h
    unfold pk
    rw [List.find?_cons]
    simp only [decide_eq_false n, Bool.not_false]
  | t :: r, k + 1, s, a, h, n => by
    have h1 := a 0 (by omega) t rfl
    unfold pk
    rw [List.find?_cons]
    simp only [decide_eq_true h1, Bool.not_true]
    exact pk_at (L := r) (k := k) (fun j hj u hu => a (j + 1) (by omega) u hu) h n
theorem last_at {L : List St4} {s : St4} (h : L.getLast? = some s) : 0 < L.length ∧ L[L.length - 1]? = some s := by
  rw [List.getLast?_eq_getElem?] at h
  refine ⟨?_, h⟩
  rcases Nat.eq_zero_or_pos L.length with z | z
  · rw [List.length_eq_zero_iff.mp z] at h; cases h
  · exact z
/-- a stretch that ends ahead of x is not the last one -/
theorem Line.next {L : List St4} (l : Line L) {p q : Int} (hpq : p ≤ q) {k : Nat} {s : St4} (h : L[k]? = some s) (c : s.p * q < p * s.q) : k + 1 < L.length := by
  obtain ⟨t, ht, t1, t2⟩ := l.last
  obtain ⟨l0, l1⟩ := last_at ht
  have hk : k < L.length := (List.getElem?_eq_some_iff.mp h).1
  rcases Nat.lt_or_ge (k + 1) L.length with z | z
  · exact z
  · exfalso
    have : k = L.length - 1 := by omega
    rw [this, l1] at h
    cases h
    rw [t1, t2] at c
    omega
theorem Ch.get : ∀ {L : List St4} {i : Nat} {s t : St4}, Ch L → L[i]? = some s → L[i + 1]? = some t → Adj s t
  | [], _, _, _, _, h, _ => by cases h
  | [_], 0, _, _, _, _, h => by cases h
  | [_], _ + 1, _, _, _, h, _ => by cases h
  | _ :: _ :: _, 0, _, _, c, h, g => by cases h; cases g; exact c.1
  | _ :: b :: r, i + 1, _, _, c, h, g => Ch.get (L := b :: r) (i := i) c.2 h g
/-- the ends rise -/
theorem lt_trans' {a b c d e f : Int} (hb : 0 < b) (hd : 0 < d) (hf : 0 < f) (h1 : a * d < c * b) (h2 : c * f < e * d) : a * f < e * b := by
  have z1 : a * d * f < c * b * f := Int.mul_lt_mul_of_pos_right h1 hf
  have z2 : c * f * b < e * d * b := Int.mul_lt_mul_of_pos_right h2 hb
  have e1 : c * b * f = c * f * b := by rw [Int.mul_assoc, Int.mul_comm b f, ← Int.mul_assoc]
  have z3 : a * d * f < e * d * b := by omega
  have e2 : a * d * f = d * (a * f) := by rw [Int.mul_comm a d, Int.mul_assoc]
  have e3 : e * d * b = d * (e * b) := by rw [Int.mul_comm e d, Int.mul_assoc]
  rw [e2, e3] at z3
  exact Int.lt_of_mul_lt_mul_left z3 (by omega)
theorem Line.at {L : List St4} (l : Line L) {i : Nat} {s : St4} (h : L[i]? = some s) : StOk s := l.ok s (List.mem_of_getElem? h)
theorem Line.rise {L : List St4} (l : Line L) : ∀ {n i : Nat} {s t : St4}, L[i]? = some s → L[i + n + 1]? = some t → s.p * t.q < t.p * s.q
  | 0, _, _, _, h, g => (l.ch.get h g).1
  | n + 1, i, s, t, h, g => by
    have hl : i + n + 1 < L.length := by have := (List.getElem?_eq_some_iff.mp g).1; omega
    have hu : L[i + n + 1]? = some (L[i + n + 1]) := List.getElem?_eq_getElem hl
    have r1 := l.rise (n := n) h hu
    have r2 := (l.ch.get (i := i + n + 1) hu g).1
    have o1 := l.at h
    have o2 := l.at hu
    have o3 := l.at g
    exact lt_trans' (by have := o1.1; have := o1.2.1; omega) (by have := o2.1; have := o2.2.1; omega) (by have := o3.1; have := o3.2.1; omega) r1 r2
/-- each end lies in its own stretch -/
theorem Line.own {L : List St4} (l : Line L) {i : Nat} {s : St4} (h : L[i]? = some s) : pk L s.p s.q = some s := by
  refine pk_at (k := i) (fun j hj t ht => ?_) h (by omega)
  have e : i = j + (i - j - 1) + 1 := by omega
  rw [e] at h
  exact l.rise ht h
theorem Line.first {L : List St4} (l : Line L) {s : St4} (h : L[0]? = some s) : pk L 0 1 = some s := by
  refine pk_at (k := 0) (fun j hj => absurd hj (by omega)) h ?_
  have := (l.at h).1
  omega
theorem pk_mem {L : List St4} {p q : Int} {s : St4} (h : pk L p q = some s) : s ∈ L := List.mem_of_find?_eq_some h
theorem Line.pos {L : List St4} (l : Line L) : 0 < L.length := let ⟨_, h, _⟩ := l.last; (last_at h).1
end Ln
end Mine


set_option Elab.async false
set_option linter.all false
namespace Mine
namespace Ln
/-- the end ahead of the i-th stretch -/
def bef (M : List St4) : Nat → Int × Int
  | 0 => (0, 1)
  | i + 1 => match M[i]? with
    | some s => (s.p, s.q)
    | none => (0, 1)
theorem bef_succ {M : List St4} {i : Nat} {s : St4} (h : M[i]? = some s) : bef M (i + 1) = (s.p, s.q) := by
  show (match M[i]? with | some s => (s.p, s.q) | none => (0, 1)) = _
  rw [h]
def Fit (s : St4) : Prop := 0 < s.q ∧ s.p.natAbs < 2 ^ 90 ∧ s.q.natAbs < 2 ^ 90 ∧ s.m.natAbs < 2 ^ 90 ∧ s.h.natAbs < 2 ^ 90
theorem StOk.fit {s : St4} (h : StOk s) : Fit s := by
  obtain ⟨h1, h2, h3, h4, h5, h6⟩ := h
  exact ⟨by omega, by omega, by omega, by omega, by omega⟩
/-! ### neighbours of one rule become one -/
def jnStep (A : List St4) (s : St4) : List St4 := match A.getLast? with
  | some t => if t.m = s.m ∧ t.h = s.h then A.dropLast ++ [s] else A ++ [s]
  | none => A ++ [s]
def jn (M : List St4) : List St4 := M.foldl jnStep []
theorem jn_snoc (M : List St4) (t : St4) : jn (M ++ [t]) = jnStep (jn M) t := by
  unfold jn
  rw [List.foldl_append]
  rfl
theorem jnStep_new {A : List St4} {s : St4} (h : ∀ t, A.getLast? = some t → t.m ≠ s.m) : jnStep A s = A ++ [s] := by
  unfold jnStep
  cases e : A.getLast? with
  | none => rfl
  | some t => simp [h t e]
theorem jnStep_same {A : List St4} {t s : St4} (h1 : t.m = s.m) (h2 : t.h = s.h) : jnStep (A ++ [t]) s = A ++ [s] := by
  unfold jnStep
  rw [List.getLast?_append, List.getLast?_singleton, Option.some_or]
  simp [h1, h2]
theorem Line.bef_rise {L : List St4} (l : Line L) {i : Nat} {s : St4} (h : L[i]? = some s) : (bef L i).1 * s.q < s.p * (bef L i).2 ∧ 0 < (bef L i).2 ∧ 0 ≤ (bef L i).1 ∧ (bef L i).2 < 2 ^ 40 ∧ (bef L i).1 ≤ (bef L i).2 := by
  cases i with
  | zero =>
    have := (l.at h).1
    exact ⟨by show 0 * s.q < s.p * 1; omega, (show (0 : Int) < 1 by decide), (show (0 : Int) ≤ 0 by decide), (show (1 : Int) < 2 ^ 40 by decide), (show (0 : Int) ≤ 1 by decide)⟩
  | succ k =>
    have hk : k < L.length := by have := (List.getElem?_eq_some_iff.mp h).1; omega
    have e : L[k]? = some L[k] := List.getElem?_eq_getElem hk
    rw [bef_succ e]
    have o := l.at e
    exact ⟨(l.ch.get e h).1, by have := o.1; have := o.2.1; show 0 < L[k].q; omega, by have := o.1; show 0 ≤ L[k].p; omega, o.2.2.2.1, o.2.1⟩
theorem prod_small {x y : Int} {m n : Nat} (hx : x.natAbs < 2 ^ m) (hy : y.natAbs < 2 ^ n) : (x * y).natAbs < 2 ^ (m + n) := by
  rw [Int.natAbs_mul, Nat.pow_add]
  exact Nat.mul_lt_mul'' hx hy
end Ln
end Mine


set_option Elab.async false
set_option linter.all false
namespace Mine
namespace Ln
/-! ### lines and ways within a bound -/
def OkB (n : Nat) (s : St4) : Prop := 0 < s.p ∧ s.p ≤ s.q ∧ Lo.gc s.p s.q = 1 ∧ s.q.natAbs < 2 ^ n ∧ s.m.natAbs < 2 ^ n ∧ s.h.natAbs < 2 ^ n
theorem StOk.okB {s : St4} (h : StOk s) : OkB 40 s := by
  obtain ⟨h1, h2, h3, h4, h5, h6⟩ := h
  exact ⟨h1, h2, h3, by omega, h5, h6⟩
theorem OkB.mono {n k : Nat} {s : St4} (h : OkB n s) (e : n ≤ k) : OkB k s := by
  have := Nat.pow_le_pow_right (show 0 < 2 by decide) e
  obtain ⟨h1, h2, h3, h4, h5, h6⟩ := h
  exact ⟨h1, h2, h3, by omega, by omega, by omega⟩
def AdjW (s t : St4) : Prop := s.p * t.q < t.p * s.q ∧ (t.m - s.m) * s.p + (t.h - s.h) * s.q = 0
def ChW : List St4 → Prop
  | [] => True
  | [_] => True
  | s :: t :: r => AdjW s t ∧ ChW (t :: r)
def End1 (L : List St4) : Prop := ∃ s, L.getLast? = some s ∧ s.p = 1 ∧ s.q = 1
structure Way (n : Nat) (L : List St4) : Prop where
  ok : ∀ s ∈ L, OkB n s
  ch : ChW L
  last : End1 L
structure LineB (n : Nat) (L : List St4) : Prop where
  ok : ∀ s ∈ L, OkB n s
  ch : Ch L
  last : End1 L
theorem Ch.way : ∀ {L : List St4}, Ch L → ChW L
  | [], _ => trivial
  | [_], _ => trivial
  | _ :: _ :: _, h => ⟨⟨h.1.1, h.1.2.1⟩, Ch.way h.2⟩
theorem Line.b {L : List St4} (l : Line L) : LineB 40 L := ⟨fun s h => (l.ok s h).okB, l.ch, l.last⟩
theorem LineB.way {n : Nat} {L : List St4} (l : LineB n L) : Way n L := ⟨l.ok, l.ch.way, l.last⟩
theorem End1.tail {s t : St4} {r : List St4} (h : End1 (s :: t :: r)) : End1 (t :: r) := by
  obtain ⟨u, h1, h2⟩ := h
  rw [List.getLast?_cons_cons] at h1
  exact ⟨u, h1, h2⟩
theorem Way.tail {n : Nat} {s t : St4} {r : List St4} (w : Way n (s :: t :: r)) : Way n (t :: r) := ⟨fun u hu => w.ok u (List.mem_cons_of_mem _ hu), w.ch.2, w.last.tail⟩
theorem Way.one {n : Nat} {s : St4} (w : Way n [s]) : s.p = 1 ∧ s.q = 1 := by
  obtain ⟨u, h1, h2⟩ := w.last
  cases h1
  exact h2
theorem Way.hd {n : Nat} {s : St4} {r : List St4} (w : Way n (s :: r)) : OkB n s := w.ok s List.mem_cons_self
theorem Way.ne {n : Nat} (w : Way n []) : False := by
  obtain ⟨u, h1, _⟩ := w.last
  cases h1
/-- a stretch whose end lies ahead of some x up to 1 is not the last -/
theorem Way.more {n : Nat} {s : St4} {r : List St4} (w : Way n (s :: r)) {p q : Int} (hpq : p ≤ q) (c : s.p * q < p * s.q) : ∃ t r', r = t :: r' := by
  cases r with
  | nil =>
    obtain ⟨e1, e2⟩ := w.one
    rw [e1, e2] at c
    omega
  | cons t r' => exact ⟨t, r', rfl⟩
theorem pk_cons_lt {s : St4} {r : List St4} {p q : Int} (h : s.p * q < p * s.q) : pk (s :: r) p q = pk r p q := by
  unfold pk
  rw [List.find?_cons]
  simp only [decide_eq_true h, Bool.not_true]
theorem pk_cons_ge {s : St4} {r : List St4} {p q : Int} (h : ¬ s.p * q < p * s.q) : pk (s :: r) p q = some s := by
  unfold pk
  rw [List.find?_cons]
  simp only [decide_eq_false h, Bool.not_false]
theorem nlt_trans {a b c d e f : Int} (hb : 0 < b) (hd : 0 < d) (hf : 0 < f) (h1 : a * d < c * b) (h2 : ¬ a * f < e * b) : ¬ c * f < e * d := by
  intro h
  exact h2 (lt_trans' hb hd hf h1 h)
theorem OkB.q0 {n : Nat} {s : St4} (h : OkB n s) : 0 < s.q := by have := h.1; have := h.2.1; omega
/-- equal fractions in lowest terms are the same -/
theorem frac_eq {p q a b : Int} (hq : 0 < q) (hb : 0 < b) (g1 : Lo.gc p q = 1) (g2 : Lo.gc a b = 1) (e : p * b = a * q) : p = a ∧ q = b := by
  obtain ⟨z1, z2⟩ := Lo.low_own hq g1
  obtain ⟨z3, z4⟩ := Lo.low_own hb g2
  have t1 := Lo.lowT_mul (f := b) (by omega) p (b := q) (by omega)
  have t2 := Lo.lowB_mul (f := b) (by omega) p (b := q) (by omega)
  have t3 := Lo.lowT_mul (f := q) (by omega) a (b := b) (by omega)
  have t4 := Lo.lowB_mul (f := q) (by omega) a (b := b) (by omega)
  have e1 : b * p = q * a := by rw [Int.mul_comm, e, Int.mul_comm]
  rw [e1, Int.mul_comm b q] at t1 t2
  exact ⟨by rw [← z1, ← t1, t3, z3], by rw [← z2, ← t2, t4, z4]⟩
/-! ### joining, from the front -/
def jnR : List St4 → List St4
  | [] => []
  | [s] => [s]
  | s :: t :: r => if s.m = t.m ∧ s.h = t.h then jnR (t :: r) else s :: jnR (t :: r)
theorem jn_fold : ∀ (r : List St4) (A : List St4) (s : St4), r.foldl jnStep (A ++ [s]) = A ++ jnR (s :: r)
  | [], _, _ => rfl
  | t :: r, A, s => by
    rw [List.foldl_cons]
    by_cases c : s.m = t.m ∧ s.h = t.h
    · rw [jnStep_same c.1 c.2, jn_fold r A t]
      show _ = A ++ (if s.m = t.m ∧ s.h = t.h then jnR (t :: r) else s :: jnR (t :: r))
      rw [if_pos c]
    · have e : jnStep (A ++ [s]) t = (A ++ [s]) ++ [t] := by
        unfold jnStep
        rw [List.getLast?_append, List.getLast?_singleton, Option.some_or]
        simp only [c, if_false]
      rw [e, jn_fold r (A ++ [s]) t]
      show _ = A ++ (if s.m = t.m ∧ s.h = t.h then jnR (t :: r) else s :: jnR (t :: r))
      rw [if_neg c, List.append_assoc]
      rfl
theorem jn_eq : ∀ (M : List St4), jn M = jnR M
  | [] => rfl
  | s :: r => by
    have := jn_fold r [] s
    rw [List.nil_append, List.nil_append] at this
    rw [← this]
    rfl
theorem jnR_len : ∀ (M : List St4), (jnR M).length ≤ M.length
  | [] => Nat.le_refl _
  | [_] => Nat.le_refl _
  | a :: b :: r => by
    show (if a.m = b.m ∧ a.h = b.h then jnR (b :: r) else a :: jnR (b :: r)).length ≤ _
    have := jnR_len (b :: r)
    split
    · rw [List.length_cons]; omega
    · rw [List.length_cons, List.length_cons]; omega
/-- the first one behind joining: the rule of the first, an end at least as far -/
theorem jnR_head {n : Nat} : ∀ {s : St4} {r : List St4}, Way n (s :: r) → ∃ u v, jnR (s :: r) = u :: v ∧ u.m = s.m ∧ u.h = s.h ∧ (u = s ∨ s.p * u.q < u.p * s.q) ∧ OkB n u
  | s, [], w => ⟨s, [], rfl, rfl, rfl, .inl rfl, w.hd⟩
  | s, t :: r, w => by
    by_cases c : s.m = t.m ∧ s.h = t.h
    · obtain ⟨u, v, e, e1, e2, e3, o⟩ := jnR_head w.tail
      refine ⟨u, v, ?_, e1.trans c.1.symm, e2.trans c.2.symm, .inr ?_, o⟩
      · show (if s.m = t.m ∧ s.h = t.h then jnR (t :: r) else s :: jnR (t :: r)) = _
        rw [if_pos c, e]
      · have a := w.ch.1.1
        rcases e3 with rfl | e3
        · exact a
        · exact lt_trans' w.hd.q0 w.tail.hd.q0 o.q0 a e3
    · refine ⟨s, jnR (t :: r), ?_, rfl, rfl, .inl rfl, w.hd⟩
      show (if s.m = t.m ∧ s.h = t.h then jnR (t :: r) else s :: jnR (t :: r)) = _
      rw [if_neg c]
theorem jnR_line {n : Nat} : ∀ {M : List St4}, Way n M → LineB n (jnR M)
  | [], w => w.ne.elim
  | [s], w => ⟨w.ok, trivial, w.last⟩
  | s :: t :: r, w => by
    have L := jnR_line w.tail
    by_cases c : s.m = t.m ∧ s.h = t.h
    · have e : jnR (s :: t :: r) = jnR (t :: r) := by
        show (if s.m = t.m ∧ s.h = t.h then jnR (t :: r) else s :: jnR (t :: r)) = _
        rw [if_pos c]
      rw [e]; exact L
    · have e : jnR (s :: t :: r) = s :: jnR (t :: r) := by
        show (if s.m = t.m ∧ s.h = t.h then jnR (t :: r) else s :: jnR (t :: r)) = _
        rw [if_neg c]
      obtain ⟨u, v, e0, e1, e2, e3, o⟩ := jnR_head w.tail
      rw [e]
      rw [e0] at L ⊢
      have a := w.ch.1
      refine ⟨fun x hx => ?_, ⟨⟨?_, ?_, ?_⟩, L.ch⟩, ?_⟩
      · rcases List.mem_cons.mp hx with z | z
        · rw [z]; exact w.hd
        · exact L.ok x z
      · rcases e3 with rfl | e3
        · exact a.1
        · exact lt_trans' w.hd.q0 w.tail.hd.q0 o.q0 a.1 e3
      · rw [e1, e2]; exact a.2
      · intro q
        rw [e1] at q
        apply c
        refine ⟨q.symm, ?_⟩
        have a2 := a.2
        rw [q, Int.sub_self, Int.zero_mul, Int.zero_add] at a2
        rcases Int.mul_eq_zero.mp a2 with z | z
        · omega
        · have := w.hd.q0; omega
      · obtain ⟨x, h1, h2⟩ := L.last
        exact ⟨x, by rw [List.getLast?_cons_cons]; exact h1, h2⟩
/-- joining leaves the rule at each place as it is -/
theorem jnR_pk {n : Nat} {p q : Int} (hq : 0 < q) (hpq : p ≤ q) : ∀ {M : List St4}, Way n M → ∃ s u, pk M p q = some s ∧ pk (jnR M) p q = some u ∧ u.m = s.m ∧ u.h = s.h
  | [], w => w.ne.elim
  | [s], w => by
    obtain ⟨e1, e2⟩ := w.one
    have : pk [s] p q = some s := pk_cons_ge (by rw [e1, e2]; omega)
    exact ⟨s, s, this, this, rfl, rfl⟩
  | s :: t :: r, w => by
    by_cases c : s.m = t.m ∧ s.h = t.h
    · have e : jnR (s :: t :: r) = jnR (t :: r) := by
        show (if s.m = t.m ∧ s.h = t.h then jnR (t :: r) else s :: jnR (t :: r)) = _
        rw [if_pos c]
      rw [e]
      by_cases l : s.p * q < p * s.q
      · rw [pk_cons_lt l]
        exact jnR_pk hq hpq w.tail
      · obtain ⟨u, v, e0, e1, e2, e3, o⟩ := jnR_head w.tail
        refine ⟨s, u, pk_cons_ge l, ?_, e1.trans c.1.symm, e2.trans c.2.symm⟩
        rw [e0]
        refine pk_cons_ge ?_
        have lt : s.p * u.q < u.p * s.q := by
          rcases e3 with rfl | e3
          · exact w.ch.1.1
          · exact lt_trans' w.hd.q0 w.tail.hd.q0 o.q0 w.ch.1.1 e3
        exact nlt_trans w.hd.q0 o.q0 hq lt l
    · have e : jnR (s :: t :: r) = s :: jnR (t :: r) := by
        show (if s.m = t.m ∧ s.h = t.h then jnR (t :: r) else s :: jnR (t :: r)) = _
        rw [if_neg c]
      rw [e]
      by_cases l : s.p * q < p * s.q
      · rw [pk_cons_lt l, pk_cons_lt l]
        exact jnR_pk hq hpq w.tail
      · exact ⟨s, s, pk_cons_ge l, pk_cons_ge l, rfl, rfl⟩
end Ln
end Mine


set_option Elab.async false
set_option linter.all false
namespace Mine
namespace Ln
/-! ### two lines side by side -/
structure Pc where
  p : Int
  q : Int
  a : St4
  b : St4
def sbs : List St4 → List St4 → List Pc
  | [], _ => []
  | _ :: _, [] => []
  | a :: A, b :: B =>
    if a.p * b.q < b.p * a.q then ⟨a.p, a.q, a, b⟩ :: sbs A (b :: B)
    else if a.p = b.p ∧ a.q = b.q then ⟨b.p, b.q, a, b⟩ :: sbs A B
    else ⟨b.p, b.q, a, b⟩ :: sbs (a :: A) B
termination_by A B => A.length + B.length
theorem sbs_nil (B : List St4) : sbs [] B = [] := by rw [sbs]
theorem sbs_nil' : ∀ (A : List St4), sbs A [] = []
  | [] => by rw [sbs]
  | _ :: _ => by rw [sbs]
theorem sbs_lt {a b : St4} {A B : List St4} (h : a.p * b.q < b.p * a.q) : sbs (a :: A) (b :: B) = ⟨a.p, a.q, a, b⟩ :: sbs A (b :: B) := by
  rw [sbs, if_pos h]
theorem sbs_eq {a b : St4} {A B : List St4} (e : a.p = b.p ∧ a.q = b.q) : sbs (a :: A) (b :: B) = ⟨b.p, b.q, a, b⟩ :: sbs A B := by
  rw [sbs, if_neg (by rw [e.1, e.2]; omega), if_pos e]
theorem sbs_gt {a b : St4} {A B : List St4} (h : ¬ a.p * b.q < b.p * a.q) (e : ¬ (a.p = b.p ∧ a.q = b.q)) : sbs (a :: A) (b :: B) = ⟨b.p, b.q, a, b⟩ :: sbs (a :: A) B := by
  rw [sbs, if_neg h, if_neg e]
/-- the three ways in which two ends lie -/
theorem ends_cases {n : Nat} {a b : St4} (ha : OkB n a) (hb : OkB n b) : a.p * b.q < b.p * a.q ∨ (a.p = b.p ∧ a.q = b.q) ∨ (b.p * a.q < a.p * b.q ∧ ¬ a.p * b.q < b.p * a.q ∧ ¬ (a.p = b.p ∧ a.q = b.q)) := by
  rcases Int.lt_trichotomy (a.p * b.q) (b.p * a.q) with h | h | h
  · exact .inl h
  · exact .inr (.inl (frac_eq ha.q0 hb.q0 ha.2.2.1 hb.2.2.1 h))
  · refine .inr (.inr ⟨h, by omega, fun e => ?_⟩)
    rw [e.1, e.2] at h
    omega
theorem sbs_len : ∀ (A B : List St4), (sbs A B).length ≤ A.length + B.length
  | [], B => by rw [sbs_nil]; exact Nat.zero_le _
  | _ :: _, [] => by rw [sbs_nil']; exact Nat.zero_le _
  | a :: A, b :: B => by
    by_cases h : a.p * b.q < b.p * a.q
    · rw [sbs_lt h]
      have := sbs_len A (b :: B)
      simp only [List.length_cons] at *
      omega
    · by_cases e : a.p = b.p ∧ a.q = b.q
      · rw [sbs_eq e]
        have := sbs_len A B
        simp only [List.length_cons] at *
        omega
      · rw [sbs_gt h e]
        have := sbs_len (a :: A) B
        simp only [List.length_cons] at *
        omega
termination_by A B => A.length + B.length
/-- the piece in which x lies -/
def pkP (P : List Pc) (p q : Int) : Option Pc := P.find? fun c => !decide (c.p * q < p * c.q)
theorem pkP_lt {c : Pc} {r : List Pc} {p q : Int} (h : c.p * q < p * c.q) : pkP (c :: r) p q = pkP r p q := by
  unfold pkP
  rw [List.find?_cons]
  simp only [decide_eq_true h, Bool.not_true]
theorem pkP_ge {c : Pc} {r : List Pc} {p q : Int} (h : ¬ c.p * q < p * c.q) : pkP (c :: r) p q = some c := by
  unfold pkP
  rw [List.find?_cons]
  simp only [decide_eq_false h, Bool.not_false]
theorem sbs_pk {n : Nat} {p q : Int} (hq : 0 < q) (hpq : p ≤ q) : ∀ (A B : List St4), Way n A → Way n B → ∃ c, pkP (sbs A B) p q = some c ∧ pk A p q = some c.a ∧ pk B p q = some c.b
  | [], _, w, _ => w.ne.elim
  | _ :: _, [], _, w => w.ne.elim
  | a :: A, b :: B, wa, wb => by
    rcases ends_cases wa.hd wb.hd with h | h | ⟨h, h1, h2⟩
    · rw [sbs_lt h]
      by_cases l : a.p * q < p * a.q
      · obtain ⟨t, A', rfl⟩ := wa.more hpq l
        rw [pkP_lt (c := ⟨a.p, a.q, a, b⟩) l, pk_cons_lt (s := a) l]
        exact sbs_pk hq hpq (t :: A') (b :: B) wa.tail wb
      · exact ⟨⟨a.p, a.q, a, b⟩, pkP_ge (c := ⟨a.p, a.q, a, b⟩) l, pk_cons_ge l, pk_cons_ge (nlt_trans wa.hd.q0 wb.hd.q0 hq h l)⟩
    · rw [sbs_eq h]
      by_cases l : b.p * q < p * b.q
      · have la : a.p * q < p * a.q := by rw [h.1, h.2]; exact l
        obtain ⟨t, A', rfl⟩ := wa.more hpq la
        obtain ⟨u, B', rfl⟩ := wb.more hpq l
        rw [pkP_lt (c := ⟨b.p, b.q, a, b⟩) l, pk_cons_lt (s := a) la, pk_cons_lt (s := b) l]
        exact sbs_pk hq hpq (t :: A') (u :: B') wa.tail wb.tail
      · have la : ¬ a.p * q < p * a.q := by rw [h.1, h.2]; exact l
        exact ⟨⟨b.p, b.q, a, b⟩, pkP_ge (c := ⟨b.p, b.q, a, b⟩) l, pk_cons_ge la, pk_cons_ge l⟩
    · rw [sbs_gt h1 h2]
      by_cases l : b.p * q < p * b.q
      · obtain ⟨u, B', rfl⟩ := wb.more hpq l
        rw [pkP_lt (c := ⟨b.p, b.q, a, b⟩) l, pk_cons_lt (s := b) l]
        exact sbs_pk hq hpq (a :: A) (u :: B') wa wb.tail
      · exact ⟨⟨b.p, b.q, a, b⟩, pkP_ge (c := ⟨b.p, b.q, a, b⟩) l, pk_cons_ge (nlt_trans wb.hd.q0 wa.hd.q0 hq h l), pk_cons_ge l⟩
termination_by A B => A.length + B.length
/-! ### the pieces as a way -/
def AdjP (c d : Pc) : Prop := c.p * d.q < d.p * c.q ∧ (d.a.m - c.a.m) * c.p + (d.a.h - c.a.h) * c.q = 0 ∧ (d.b.m - c.b.m) * c.p + (d.b.h - c.b.h) * c.q = 0
def ChP : List Pc → Prop
  | [] => True
  | [_] => True
  | c :: d :: r => AdjP c d ∧ ChP (d :: r)
theorem ChP.cons {c : Pc} {r : List Pc} (h : ChP r) (k : ∀ d r', r = d :: r' → AdjP c d) : ChP (c :: r) := by
  cases r with
  | nil => trivial
  | cons d r' => exact ⟨k d r' rfl, h⟩
structure PcOk (n : Nat) (c : Pc) : Prop where
  a : OkB n c.a
  b : OkB n c.b
  e : 0 < c.p ∧ c.p ≤ c.q ∧ Lo.gc c.p c.q = 1 ∧ c.q.natAbs < 2 ^ n
/-- the first piece -/
theorem sbs_head {n : Nat} {a b : St4} {A B : List St4} (ha : OkB n a) (hb : OkB n b) : ∃ c r, sbs (a :: A) (b :: B) = c :: r ∧ c.a = a ∧ c.b = b ∧ ((c.p = a.p ∧ c.q = a.q) ∨ (c.p = b.p ∧ c.q = b.q)) := by
  rcases ends_cases ha hb with h | h | ⟨h, h1, h2⟩
  · exact ⟨_, _, sbs_lt h, rfl, rfl, .inl ⟨rfl, rfl⟩⟩
  · exact ⟨_, _, sbs_eq h, rfl, rfl, .inr ⟨rfl, rfl⟩⟩
  · exact ⟨_, _, sbs_gt h1 h2, rfl, rfl, .inr ⟨rfl, rfl⟩⟩
theorem self0 (s : St4) (p q : Int) : (s.m - s.m) * p + (s.h - s.h) * q = 0 := by
  rw [Int.sub_self, Int.sub_self, Int.zero_mul, Int.zero_mul]; rfl
theorem Way.only {n : Nat} {s : St4} {r : List St4} (w : Way n (s :: r)) (e : s.p = s.q) : r = [] := by
  cases r with
  | nil => rfl
  | cons t r' =>
    exfalso
    have h := w.ch.1.1
    have o := w.tail.hd
    have q0 := w.hd.q0
    rw [e] at h
    have h2 : s.q * t.q < s.q * t.p := by rw [Int.mul_comm s.q t.p]; exact h
    have := Int.lt_of_mul_lt_mul_left h2 (by omega)
    have := o.2.1
    omega
theorem sbs_way {n : Nat} : ∀ (A B : List St4), Way n A → Way n B → (∀ c ∈ sbs A B, PcOk n c) ∧ ChP (sbs A B) ∧ ∃ c, (sbs A B).getLast? = some c ∧ c.p = 1 ∧ c.q = 1
  | [], _, w, _ => w.ne.elim
  | _ :: _, [], _, w => w.ne.elim
  | a :: A, b :: B, wa, wb => by
    have oa := wa.hd
    have ob := wb.hd
    have okA : ∀ {p q : Int}, p = a.p → q = a.q → PcOk n ⟨p, q, a, b⟩ := fun e1 e2 => by subst e1 e2; exact ⟨oa, ob, oa.1, oa.2.1, oa.2.2.1, oa.2.2.2.1⟩
    have okB : ∀ {p q : Int}, p = b.p → q = b.q → PcOk n ⟨p, q, a, b⟩ := fun e1 e2 => by subst e1 e2; exact ⟨oa, ob, ob.1, ob.2.1, ob.2.2.1, ob.2.2.2.1⟩
    have lastc : ∀ {c : Pc} {r : List Pc}, (∃ d, r.getLast? = some d ∧ d.p = 1 ∧ d.q = 1) → ∃ d, (c :: r).getLast? = some d ∧ d.p = 1 ∧ d.q = 1 := fun {c r} ⟨d, h1, h2⟩ => by
      cases r with
      | nil => cases h1
      | cons x r' => exact ⟨d, by rw [List.getLast?_cons_cons]; exact h1, h2⟩
    have allc : ∀ {c : Pc} {r : List Pc}, PcOk n c → (∀ d ∈ r, PcOk n d) → ∀ d ∈ c :: r, PcOk n d := fun h1 h2 d hd => by
      rcases List.mem_cons.mp hd with e | e
      · rw [e]; exact h1
      · exact h2 d e
    rcases ends_cases oa ob with h | h | ⟨h, h1, h2⟩
    · obtain ⟨t, A', rfl⟩ := wa.more ob.2.1 h
      obtain ⟨i1, i2, i3⟩ := sbs_way (t :: A') (b :: B) wa.tail wb
      rw [sbs_lt h]
      refine ⟨allc (okA rfl rfl) i1, i2.cons fun d r' e => ?_, lastc i3⟩
      obtain ⟨c, r, e0, e1, e2, e3⟩ := sbs_head (A := A') (B := B) wa.tail.hd ob
      rw [e0] at e
      cases e
      refine ⟨?_, ?_, ?_⟩
      · show a.p * d.q < d.p * a.q
        rcases e3 with ⟨z1, z2⟩ | ⟨z1, z2⟩
        · rw [z1, z2]; exact wa.ch.1.1
        · rw [z1, z2]; exact h
      · show (d.a.m - a.m) * a.p + (d.a.h - a.h) * a.q = 0
        rw [e1]; exact wa.ch.1.2
      · show (d.b.m - b.m) * a.p + (d.b.h - b.h) * a.q = 0
        rw [e2]; exact self0 b _ _
    · rw [sbs_eq h]
      cases A with
      | nil =>
        obtain ⟨z1, z2⟩ := wa.one
        have eb : B = [] := wb.only (by rw [← h.1, ← h.2, z1, z2])
        subst eb
        rw [sbs_nil]
        exact ⟨allc (okB rfl rfl) (fun _ h => nomatch h), trivial, ⟨⟨b.p, b.q, a, b⟩, rfl, by show b.p = 1; rw [← h.1]; exact z1, by show b.q = 1; rw [← h.2]; exact z2⟩⟩
      | cons t A' =>
        have lb : b.p * t.q < t.p * b.q := by have := wa.ch.1.1; rw [h.1, h.2] at this; exact this
        obtain ⟨u, B', rfl⟩ := wb.more wa.tail.hd.2.1 lb
        obtain ⟨i1, i2, i3⟩ := sbs_way (t :: A') (u :: B') wa.tail wb.tail
        refine ⟨allc (okB rfl rfl) i1, i2.cons fun d r' e => ?_, lastc i3⟩
        obtain ⟨c, r, e0, e1, e2, e3⟩ := sbs_head (A := A') (B := B') wa.tail.hd wb.tail.hd
        rw [e0] at e
        cases e
        refine ⟨?_, ?_, ?_⟩
        · show b.p * d.q < d.p * b.q
          rcases e3 with ⟨z1, z2⟩ | ⟨z1, z2⟩
          · rw [z1, z2]; exact lb
          · rw [z1, z2]; exact wb.ch.1.1
        · show (d.a.m - a.m) * b.p + (d.a.h - a.h) * b.q = 0
          rw [e1, ← h.1, ← h.2]; exact wa.ch.1.2
        · show (d.b.m - b.m) * b.p + (d.b.h - b.h) * b.q = 0
          rw [e2]; exact wb.ch.1.2
    · obtain ⟨u, B', rfl⟩ := wb.more oa.2.1 h
      obtain ⟨i1, i2, i3⟩ := sbs_way (a :: A) (u :: B') wa wb.tail
      rw [sbs_gt h1 h2]
      refine ⟨allc (okB rfl rfl) i1, i2.cons fun d r' e => ?_, lastc i3⟩
      obtain ⟨c, r, e0, e1, e2, e3⟩ := sbs_head (A := A) (B := B') oa wb.tail.hd
      rw [e0] at e
      cases e
      refine ⟨?_, ?_, ?_⟩
      · show b.p * d.q < d.p * b.q
        rcases e3 with ⟨z1, z2⟩ | ⟨z1, z2⟩
        · rw [z1, z2]; exact h
        · rw [z1, z2]; exact wb.ch.1.1
      · show (d.a.m - a.m) * b.p + (d.a.h - a.h) * b.q = 0
        rw [e1]; exact self0 a _ _
      · show (d.b.m - b.m) * b.p + (d.b.h - b.h) * b.q = 0
        rw [e2]; exact wb.ch.1.2
termination_by A B => A.length + B.length
end Ln
end Mine


set_option Elab.async false
set_option linter.all false
namespace Mine
/-- what u's rule tells of a place, taken with the bottom -/
def St4.at (u : St4) (p q : Int) : Int := u.m * p + u.h * q
namespace Ln
/-! ### added -/
/-! ### turned, raised: the rule of each stretch by a map that keeps ends -/
theorem map_pk {f : St4 → St4} (h : ∀ s, (f s).p = s.p ∧ (f s).q = s.q) {p q : Int} : ∀ (L : List St4), pk (L.map f) p q = (pk L p q).map f
  | [] => rfl
  | s :: r => by
    rw [List.map_cons]
    by_cases l : s.p * q < p * s.q
    · rw [pk_cons_lt l, pk_cons_lt (by rw [(h s).1, (h s).2]; exact l)]
      exact map_pk h r
    · rw [pk_cons_ge l, pk_cons_ge (by rw [(h s).1, (h s).2]; exact l)]
      rfl
theorem map_ch {f : St4 → St4} (h : ∀ s t, Adj s t → Adj (f s) (f t)) : ∀ {L : List St4}, Ch L → Ch (L.map f)
  | [], _ => trivial
  | [_], _ => trivial
  | _ :: b :: r, c => ⟨h _ _ c.1, map_ch h (L := b :: r) c.2⟩
theorem map_line {f : St4 → St4} {n k : Nat} {L : List St4} (h : ∀ s, (f s).p = s.p ∧ (f s).q = s.q) (ha : ∀ s t, Adj s t → Adj (f s) (f t)) (hb : ∀ s, OkB n s → OkB k (f s)) (l : LineB n L) : LineB k (L.map f) := by
  refine ⟨fun s hs => ?_, map_ch ha l.ch, ?_⟩
  · obtain ⟨t, ht, rfl⟩ := List.mem_map.mp hs
    exact hb t (l.ok t ht)
  · obtain ⟨s, h1, h2, h3⟩ := l.last
    exact ⟨f s, by rw [List.getLast?_map, h1]; rfl, by rw [(h s).1]; exact h2, by rw [(h s).2]; exact h3⟩
def tnS (s : St4) : St4 := ⟨s.p, s.q, -s.m, -s.h⟩
def rsS (k : Int) (s : St4) : St4 := ⟨s.p, s.q, s.m, s.h + k⟩
theorem turned_line {n : Nat} {L : List St4} (l : LineB n L) : LineB n (L.map tnS) := by
  refine map_line (fun s => ⟨rfl, rfl⟩) (fun s t a => ⟨a.1, ?_, ?_⟩) (fun s o => ⟨o.1, o.2.1, o.2.2.1, o.2.2.2.1, ?_, ?_⟩) l
  · have := a.2.1
    show (-t.m - -s.m) * s.p + (-t.h - -s.h) * s.q = 0
    grind
  · have := a.2.2
    show -t.m ≠ -s.m
    omega
  · have := o.2.2.2.2.1
    show (-s.m).natAbs < _
    omega
  · have := o.2.2.2.2.2
    show (-s.h).natAbs < _
    omega
theorem raised_line {n : Nat} {k : Int} {L : List St4} (hk : k.natAbs < 2 ^ n) (l : LineB n L) : LineB (n + 1) (L.map (rsS k)) := by
  have e : 2 ^ (n + 1) = 2 ^ n + 2 ^ n := by rw [Nat.pow_succ]; omega
  refine map_line (fun s => ⟨rfl, rfl⟩) (fun s t a => ⟨a.1, ?_, a.2.2⟩) (fun s o => ⟨o.1, o.2.1, o.2.2.1, ?_, ?_, ?_⟩) l
  · have := a.2.1
    show (t.m - s.m) * s.p + (t.h + k - (s.h + k)) * s.q = 0
    rw [show t.h + k - (s.h + k) = t.h - s.h by omega]
    exact this
  · have := o.2.2.2.1
    show s.q.natAbs < _
    omega
  · have := o.2.2.2.2.1
    show s.m.natAbs < _
    omega
  · have := o.2.2.2.2.2
    show (s.h + k).natAbs < _
    omega
theorem turned_at {L : List St4} {p q : Int} {s : St4} (h : pk L p q = some s) : pk (L.map tnS) p q = some (tnS s) ∧ (tnS s).at p q = -(s.at p q) := by
  refine ⟨by rw [map_pk (f := tnS) (fun s => ⟨rfl, rfl⟩), h]; rfl, ?_⟩
  show -s.m * p + -s.h * q = -(s.m * p + s.h * q)
  rw [Int.neg_mul, Int.neg_mul]
  omega
theorem LineB.mono {n k : Nat} {L : List St4} (l : LineB n L) (e : n ≤ k) : LineB k L := ⟨fun s h => (l.ok s h).mono e, l.ch, l.last⟩
end Ln
end Mine


set_option Elab.async false
set_option linter.all false
namespace Mine
namespace Ln
/-! ### the greater one of two lines -/
theorem interp (p q p1 q1 p2 q2 s h : Int) : (p2 * q1 - p1 * q2) * (s * p + h * q) = (p2 * q - p * q2) * (s * p1 + h * q1) + (p * q1 - p1 * q) * (s * p2 + h * q2) := by grind
/-- what is not below nought at both sides is not so between -/
theorem between {p q p1 q1 p2 q2 s h : Int} (l : p1 * q2 < p2 * q1) (l1 : p1 * q ≤ p * q1) (l2 : p * q2 ≤ p2 * q) (d1 : 0 ≤ s * p1 + h * q1) (d2 : 0 ≤ s * p2 + h * q2) : 0 ≤ s * p + h * q := by
  have e := interp p q p1 q1 p2 q2 s h
  have z1 : 0 ≤ (p2 * q - p * q2) * (s * p1 + h * q1) := Int.mul_nonneg (by omega) d1
  have z2 : 0 ≤ (p * q1 - p1 * q) * (s * p2 + h * q2) := Int.mul_nonneg (by omega) d2
  rcases int_or (s * p + h * q) 0 with z | z
  · exfalso
    have := Int.mul_neg_of_pos_of_neg (show 0 < p2 * q1 - p1 * q2 by omega) z
    omega
  · exact z
theorem between' {p q p1 q1 p2 q2 s h : Int} (l : p1 * q2 < p2 * q1) (l1 : p1 * q ≤ p * q1) (l2 : p * q2 ≤ p2 * q) (d1 : s * p1 + h * q1 ≤ 0) (d2 : s * p2 + h * q2 ≤ 0) : s * p + h * q ≤ 0 := by
  have n : ∀ x y : Int, -s * x + -h * y = -(s * x + h * y) := fun x y => by rw [Int.neg_mul, Int.neg_mul]; omega
  have := between (s := -s) (h := -h) l l1 l2 (by rw [n]; omega) (by rw [n]; omega)
  rw [n] at this
  omega
/-- where a rule changes its sign -/
theorem meet_in {p1 q1 p2 q2 x y s h : Int} (hq1 : 0 < q1) (hq2 : 0 < q2) (hy : 0 < y) (l : p1 * q2 < p2 * q1) (e : s * x + h * y = 0) (d1 : 0 < s * p1 + h * q1) (d2 : s * p2 + h * q2 < 0) : p1 * y < x * q1 ∧ x * q2 < p2 * y := by
  refine ⟨?_, ?_⟩
  · rcases int_or (p1 * y) (x * q1) with z | z
    · exact z
    · exfalso
      have l3 : x * q2 < p2 * y := by
        rcases int_or (x * q1) (p1 * y) with z' | z'
        · exact lt_trans' hy hq1 hq2 z' l
        · have e1 : x * q1 = p1 * y := by omega
          have z1 : y * (p1 * q2) < y * (p2 * q1) := Int.mul_lt_mul_of_pos_left l hy
          have z2 : y * (p1 * q2) = q1 * (x * q2) := by
            rw [← Int.mul_assoc, Int.mul_comm y p1, ← e1, Int.mul_comm x q1, Int.mul_assoc]
          have z3 : y * (p2 * q1) = q1 * (p2 * y) := by rw [Int.mul_comm y, Int.mul_comm p2 q1, Int.mul_assoc]
          rw [z2, z3] at z1
          exact Int.lt_of_mul_lt_mul_left z1 (by omega)
      have := between' (p := p1) (q := q1) (p1 := x) (q1 := y) (p2 := p2) (q2 := q2) (s := s) (h := h) l3 z (by omega) (by omega) (by omega)
      omega
  · rcases int_or (x * q2) (p2 * y) with z | z
    · exact z
    · exfalso
      have l3 : p1 * y < x * q1 := by
        rcases int_or (p2 * y) (x * q2) with z' | z'
        · exact lt_trans' hq1 hq2 hy l z'
        · have e1 : x * q2 = p2 * y := by omega
          have z1 : y * (p1 * q2) < y * (p2 * q1) := Int.mul_lt_mul_of_pos_left l hy
          have z2 : y * (p1 * q2) = q2 * (p1 * y) := by rw [Int.mul_comm y, Int.mul_comm p1 q2, Int.mul_assoc]
          have z3 : y * (p2 * q1) = q2 * (x * q1) := by
            rw [← Int.mul_assoc, Int.mul_comm y p2, ← e1, Int.mul_comm x q2, Int.mul_assoc]
          rw [z2, z3] at z1
          exact Int.lt_of_mul_lt_mul_left z1 (by omega)
      have := between (p := p2) (q := q2) (p1 := p1) (q1 := q1) (p2 := x) (q2 := y) (s := s) (h := h) l3 (by omega) z (by omega) (by omega)
      omega
theorem meet_in' {p1 q1 p2 q2 x y s h : Int} (hq1 : 0 < q1) (hq2 : 0 < q2) (hy : 0 < y) (l : p1 * q2 < p2 * q1) (e : s * x + h * y = 0) (d : (s * p1 + h * q1) * (s * p2 + h * q2) < 0) : p1 * y < x * q1 ∧ x * q2 < p2 * y := by
  have n : ∀ x y : Int, -s * x + -h * y = -(s * x + h * y) := fun x y => by rw [Int.neg_mul, Int.neg_mul]; omega
  rcases Int.lt_trichotomy (s * p1 + h * q1) 0 with z | z | z
  · have z2 : 0 < s * p2 + h * q2 := by
      rcases int_or 0 (s * p2 + h * q2) with w | w
      · exact w
      · have := Int.mul_nonneg_of_nonpos_of_nonpos (a := s * p1 + h * q1) (b := s * p2 + h * q2) (by omega) w
        omega
    exact meet_in (s := -s) (h := -h) hq1 hq2 hy l (by rw [n]; omega) (by rw [n]; omega) (by rw [n]; omega)
  · rw [z, Int.zero_mul] at d
    omega
  · have z2 : s * p2 + h * q2 < 0 := by
      rcases int_or (s * p2 + h * q2) 0 with w | w
      · exact w
      · have := Int.mul_nonneg (a := s * p1 + h * q1) (b := s * p2 + h * q2) (by omega) w
        omega
    exact meet_in hq1 hq2 hy l e z z2
/-- a piece's stretches -/
def gs (sp sq : Int) (c : Pc) : List St4 :=
  if ((c.a.m - c.b.m) * sp + (c.a.h - c.b.h) * sq) * ((c.a.m - c.b.m) * c.p + (c.a.h - c.b.h) * c.q) < 0 then
    [⟨Lo.lowT (-(c.a.h - c.b.h)) (c.a.m - c.b.m), Lo.lowB (-(c.a.h - c.b.h)) (c.a.m - c.b.m), (if 0 < (c.a.m - c.b.m) * sp + (c.a.h - c.b.h) * sq then c.a else c.b).m, (if 0 < (c.a.m - c.b.m) * sp + (c.a.h - c.b.h) * sq then c.a else c.b).h⟩,
     ⟨c.p, c.q, (if 0 < (c.a.m - c.b.m) * c.p + (c.a.h - c.b.h) * c.q then c.a else c.b).m, (if 0 < (c.a.m - c.b.m) * c.p + (c.a.h - c.b.h) * c.q then c.a else c.b).h⟩]
  else if (c.a.m - c.b.m) * sp + (c.a.h - c.b.h) * sq = 0 then
    [⟨c.p, c.q, (if 0 < (c.a.m - c.b.m) * c.p + (c.a.h - c.b.h) * c.q then c.a else c.b).m, (if 0 < (c.a.m - c.b.m) * c.p + (c.a.h - c.b.h) * c.q then c.a else c.b).h⟩]
  else [⟨c.p, c.q, (if 0 < (c.a.m - c.b.m) * sp + (c.a.h - c.b.h) * sq then c.a else c.b).m, (if 0 < (c.a.m - c.b.m) * sp + (c.a.h - c.b.h) * sq then c.a else c.b).h⟩]
def mx (c : Pc) (p q : Int) : Int := max (c.a.at p q) (c.b.at p q)
theorem dif_at (c : Pc) (p q : Int) : (c.a.m - c.b.m) * p + (c.a.h - c.b.h) * q = c.a.at p q - c.b.at p q := by
  unfold St4.at
  rw [Int.sub_mul, Int.sub_mul]
  omega
theorem at_mk (p' q' : Int) (u : St4) (p q : Int) : (St4.mk p' q' u.m u.h).at p q = u.at p q := rfl
/-- of one piece: one stretch, or two that meet between -/
theorem gs_spec {n : Nat} {sp sq : Int} {c : Pc} (hc : PcOk n c) (h0 : 0 ≤ sp) (hs : 0 < sq) (l : sp * c.q < c.p * sq) :
    (∃ u, gs sp sq c = [u] ∧ OkB (n + 1) u ∧ u.p = c.p ∧ u.q = c.q ∧ ∀ p q, sp * q ≤ p * sq → p * c.q ≤ c.p * q → u.at p q = mx c p q) ∨
    (∃ v u, gs sp sq c = [v, u] ∧ OkB (n + 1) v ∧ OkB (n + 1) u ∧ u.p = c.p ∧ u.q = c.q ∧ sp * v.q < v.p * sq ∧ AdjW v u ∧ (∀ p q, sp * q ≤ p * sq → p * v.q ≤ v.p * q → v.at p q = mx c p q) ∧ ∀ p q, v.p * q ≤ p * v.q → p * c.q ≤ c.p * q → u.at p q = mx c p q) := by
  obtain ⟨⟨_, _, _, _, a5, a6⟩, ⟨_, _, _, _, b5, b6⟩, e1, e2, e3, e4⟩ := hc
  have cq : 0 < c.q := by omega
  have pw : 2 ^ (n + 1) = 2 ^ n + 2 ^ n := by rw [Nat.pow_succ]; omega
  have okE : ∀ g : St4, g = c.a ∨ g = c.b → OkB (n + 1) ⟨c.p, c.q, g.m, g.h⟩ := fun g hg => by
    refine ⟨e1, e2, e3, by show c.q.natAbs < _; omega, ?_, ?_⟩
    · show g.m.natAbs < _
      rcases hg with rfl | rfl <;> omega
    · show g.h.natAbs < _
      rcases hg with rfl | rfl <;> omega
  have pick : ∀ (b : Prop) [Decidable b], (if b then c.a else c.b) = c.a ∨ (if b then c.a else c.b) = c.b := fun b _ => by split; exact .inl rfl; exact .inr rfl
  unfold gs
  generalize hd1 : (c.a.m - c.b.m) * sp + (c.a.h - c.b.h) * sq = d1
  generalize hd2 : (c.a.m - c.b.m) * c.p + (c.a.h - c.b.h) * c.q = d2
  by_cases k : d1 * d2 < 0
  · rw [if_pos k]
    right
    have sl : c.a.m - c.b.m ≠ 0 := by
      intro z
      rw [z, Int.zero_mul, Int.zero_add] at hd1 hd2
      subst hd1 hd2
      have : 0 ≤ ((c.a.h - c.b.h) * (c.a.h - c.b.h)) * (sq * c.q) := Int.mul_nonneg (by
        rcases int_or (c.a.h - c.b.h) 0 with w | w
        · exact Int.mul_nonneg_of_nonpos_of_nonpos (by omega) (by omega)
        · exact Int.mul_nonneg w w) (Int.mul_nonneg (by omega) (by omega))
      have e : (c.a.h - c.b.h) * sq * ((c.a.h - c.b.h) * c.q) = ((c.a.h - c.b.h) * (c.a.h - c.b.h)) * (sq * c.q) := by
        generalize c.a.h - c.b.h = z
        grind
      omega
    have mq := Lo.lowB_pos (t := -(c.a.h - c.b.h)) sl
    have ml := Lo.lowB_le (t := -(c.a.h - c.b.h)) sl
    have mg := Lo.low_gc (t := -(c.a.h - c.b.h)) sl
    have mr := rule_at (m := -(c.a.h - c.b.h)) sl
    generalize Lo.lowT (-(c.a.h - c.b.h)) (c.a.m - c.b.m) = x at *
    generalize Lo.lowB (-(c.a.h - c.b.h)) (c.a.m - c.b.m) = y at *
    have me : (c.a.m - c.b.m) * x + (c.a.h - c.b.h) * y = 0 := by rw [mr, Int.neg_mul]; omega
    obtain ⟨m1, m2⟩ := meet_in' hs cq mq l me (by rw [hd1, hd2]; exact k)
    have xp : 0 < x := by
      rcases int_or 0 x with z | z
      · exact z
      · exfalso
        have z1 : 0 ≤ sp * y := Int.mul_nonneg h0 (by omega)
        have z2 : x * sq ≤ 0 := Int.mul_nonpos_of_nonpos_of_nonneg z (by omega)
        omega
    have xy : x < y := by
      have z1 : c.p * y ≤ c.q * y := Int.mul_le_mul_of_nonneg_right e2 (by omega)
      have z2 : c.q * x < c.q * y := by rw [Int.mul_comm c.q x]; omega
      exact Int.lt_of_mul_lt_mul_left z2 (by omega)
    have sg1 : (0 < d1 ∧ d2 < 0) ∨ (d1 < 0 ∧ 0 < d2) := by
      rcases Int.lt_trichotomy d1 0 with z | z | z
      · right
        refine ⟨z, ?_⟩
        rcases int_or 0 d2 with w | w
        · exact w
        · have := Int.mul_nonneg_of_nonpos_of_nonpos (a := d1) (b := d2) (by omega) w
          omega
      · rw [z, Int.zero_mul] at k; omega
      · left
        refine ⟨z, ?_⟩
        rcases int_or d2 0 with w | w
        · exact w
        · have := Int.mul_nonneg (a := d1) (b := d2) (by omega) w
          omega
    refine ⟨_, _, rfl, ⟨xp, by show x ≤ y; omega, mg, by show y.natAbs < _; omega, ?_, ?_⟩, okE _ (pick _), rfl, rfl, m1, ⟨m2, ?_⟩, ?_, ?_⟩
    · show (if 0 < d1 then c.a else c.b).m.natAbs < _
      rcases pick (0 < d1) with e | e <;> rw [e] <;> omega
    · show (if 0 < d1 then c.a else c.b).h.natAbs < _
      rcases pick (0 < d1) with e | e <;> rw [e] <;> omega
    · show ((if 0 < d2 then c.a else c.b).m - (if 0 < d1 then c.a else c.b).m) * x + ((if 0 < d2 then c.a else c.b).h - (if 0 < d1 then c.a else c.b).h) * y = 0
      rcases sg1 with ⟨z1, z2⟩ | ⟨z1, z2⟩
      · rw [if_neg (by omega), if_pos z1]
        have : (c.b.m - c.a.m) * x + (c.b.h - c.a.h) * y = -((c.a.m - c.b.m) * x + (c.a.h - c.b.h) * y) := by
          rw [show c.b.m - c.a.m = -(c.a.m - c.b.m) by omega, show c.b.h - c.a.h = -(c.a.h - c.b.h) by omega, Int.neg_mul, Int.neg_mul]
          omega
        rw [this, me]; rfl
      · rw [if_pos z2, if_neg (by omega)]
        exact me
    · intro p q hp1 hp2
      rw [at_mk]
      unfold mx
      rcases sg1 with ⟨z1, z2⟩ | ⟨z1, z2⟩
      · rw [if_pos z1]
        have := between (p := p) (q := q) (s := c.a.m - c.b.m) (h := c.a.h - c.b.h) m1 hp1 hp2 (by omega) (by omega)
        rw [dif_at] at this
        omega
      · rw [if_neg (by omega)]
        have := between' (p := p) (q := q) (s := c.a.m - c.b.m) (h := c.a.h - c.b.h) m1 hp1 hp2 (by omega) (by omega)
        rw [dif_at] at this
        omega
    · intro p q hp1 hp2
      rw [at_mk]
      unfold mx
      rcases sg1 with ⟨z1, z2⟩ | ⟨z1, z2⟩
      · rw [if_neg (by omega)]
        have := between' (p := p) (q := q) (s := c.a.m - c.b.m) (h := c.a.h - c.b.h) m2 hp1 hp2 (by omega) (by omega)
        rw [dif_at] at this
        omega
      · rw [if_pos z2]
        have := between (p := p) (q := q) (s := c.a.m - c.b.m) (h := c.a.h - c.b.h) m2 hp1 hp2 (by omega) (by omega)
        rw [dif_at] at this
        omega
  · rw [if_neg k]
    left
    by_cases z0 : d1 = 0
    · rw [if_pos z0]
      refine ⟨_, rfl, okE _ (pick _), rfl, rfl, fun p q hp1 hp2 => ?_⟩
      rw [at_mk]
      unfold mx
      by_cases z : 0 < d2
      · rw [if_pos z]
        have := between (p := p) (q := q) (s := c.a.m - c.b.m) (h := c.a.h - c.b.h) l hp1 hp2 (by omega) (by omega)
        rw [dif_at] at this
        omega
      · rw [if_neg z]
        have := between' (p := p) (q := q) (s := c.a.m - c.b.m) (h := c.a.h - c.b.h) l hp1 hp2 (by omega) (by omega)
        rw [dif_at] at this
        omega
    · rw [if_neg z0]
      refine ⟨_, rfl, okE _ (pick _), rfl, rfl, fun p q hp1 hp2 => ?_⟩
      rw [at_mk]
      unfold mx
      by_cases z : 0 < d1
      · rw [if_pos z]
        have w : 0 ≤ d2 := by
          rcases int_or d2 0 with w | w
          · have := Int.mul_neg_of_pos_of_neg z w
            omega
          · exact w
        have := between (p := p) (q := q) (s := c.a.m - c.b.m) (h := c.a.h - c.b.h) l hp1 hp2 (by omega) (by omega)
        rw [dif_at] at this
        omega
      · rw [if_neg z]
        have w : d2 ≤ 0 := by
          rcases int_or 0 d2 with w | w
          · have := Int.mul_neg_of_neg_of_pos (show d1 < 0 by omega) w
            omega
          · exact w
        have := between' (p := p) (q := q) (s := c.a.m - c.b.m) (h := c.a.h - c.b.h) l hp1 hp2 (by omega) (by omega)
        rw [dif_at] at this
        omega
end Ln
end Mine


set_option Elab.async false
set_option linter.all false
namespace Mine
namespace Ln
def gr : Int → Int → List Pc → List St4
  | _, _, [] => []
  | sp, sq, c :: r => gs sp sq c ++ gr c.p c.q r
theorem adj_at {s t : St4} : (t.m - s.m) * s.p + (t.h - s.h) * s.q = t.at s.p s.q - s.at s.p s.q := by
  unfold St4.at
  rw [Int.sub_mul, Int.sub_mul]
  omega
theorem AdjP.mx {c d : Pc} (h : AdjP c d) : mx d c.p c.q = mx c c.p c.q := by
  have h1 := h.2.1
  have h2 := h.2.2
  have z1 : d.a.at c.p c.q = c.a.at c.p c.q := by
    have : (d.a.m - c.a.m) * c.p + (d.a.h - c.a.h) * c.q = d.a.at c.p c.q - c.a.at c.p c.q := by
      unfold St4.at
      rw [Int.sub_mul, Int.sub_mul]
      omega
    omega
  have z2 : d.b.at c.p c.q = c.b.at c.p c.q := by
    have : (d.b.m - c.b.m) * c.p + (d.b.h - c.b.h) * c.q = d.b.at c.p c.q - c.b.at c.p c.q := by
      unfold St4.at
      rw [Int.sub_mul, Int.sub_mul]
      omega
    omega
  unfold Ln.mx
  rw [z1, z2]
/-- all that is told of the pieces from some start on -/
theorem gr_spec {n : Nat} : ∀ (P : List Pc) (c : Pc) (sp sq : Int), 0 ≤ sp → 0 < sq → sp * c.q < c.p * sq → (∀ d ∈ c :: P, PcOk n d) → ChP (c :: P) → (∃ d, (c :: P).getLast? = some d ∧ d.p = 1 ∧ d.q = 1) →
    (∀ s ∈ gr sp sq (c :: P), OkB (n + 1) s) ∧ ChW (gr sp sq (c :: P)) ∧ End1 (gr sp sq (c :: P)) ∧
    (∃ u r, gr sp sq (c :: P) = u :: r ∧ sp * u.q < u.p * sq ∧ u.at sp sq = mx c sp sq) ∧
    ∀ p q, 0 < q → p ≤ q → sp * q ≤ p * sq → ∃ d u, pkP (c :: P) p q = some d ∧ pk (gr sp sq (c :: P)) p q = some u ∧ u.at p q = mx d p q
  | P, c, sp, sq, h0, hs, l, ok, ch, last => by
    have oc := ok c List.mem_cons_self
    have cq : 0 < c.q := by have := oc.e.1; have := oc.e.2.1; omega
    -- what stands behind this piece
    have rest : (P = [] ∧ c.p = 1 ∧ c.q = 1) ∨ ∃ d r, P = d :: r ∧ AdjP c d ∧
        (∀ s ∈ gr c.p c.q P, OkB (n + 1) s) ∧ ChW (gr c.p c.q P) ∧ End1 (gr c.p c.q P) ∧
        (∃ u r, gr c.p c.q P = u :: r ∧ c.p * u.q < u.p * c.q ∧ u.at c.p c.q = mx c c.p c.q) ∧
        ∀ p q, 0 < q → p ≤ q → c.p * q ≤ p * c.q → ∃ d u, pkP P p q = some d ∧ pk (gr c.p c.q P) p q = some u ∧ u.at p q = mx d p q := by
      cases P with
      | nil =>
        obtain ⟨d, h1, h2⟩ := last
        cases h1
        exact .inl ⟨rfl, h2⟩
      | cons d r =>
        right
        have i := gr_spec r d c.p c.q (by have := oc.e.1; omega) cq ch.1.1 (fun x hx => ok x (List.mem_cons_of_mem _ hx)) ch.2 (by
          obtain ⟨x, h1, h2⟩ := last
          rw [List.getLast?_cons_cons] at h1
          exact ⟨x, h1, h2⟩)
        obtain ⟨i1, i2, i3, ⟨u, r', i4, i5, i6⟩, i7⟩ := i
        exact ⟨d, r, rfl, ch.1, i1, i2, i3, ⟨u, r', i4, i5, by rw [i6]; exact ch.1.mx⟩, i7⟩
    -- the last stretch of this piece, u, and what follows
    have joinE : ∀ u : St4, OkB (n + 1) u → u.p = c.p → u.q = c.q → u.at c.p c.q = mx c c.p c.q →
        (∀ s ∈ u :: gr c.p c.q P, OkB (n + 1) s) ∧ ChW (u :: gr c.p c.q P) ∧ End1 (u :: gr c.p c.q P) := fun u ou e1 e2 e3 => by
      rcases rest with ⟨rfl, z1, z2⟩ | ⟨d, r, _, _, i1, i2, i3, ⟨v, r', i4, i5, i6⟩, _⟩
      · refine ⟨fun s hs => ?_, trivial, ⟨u, rfl, e1.trans z1, e2.trans z2⟩⟩
        rw [List.mem_singleton.mp hs]
        exact ou
      · rw [i4] at i1 i2 i3 ⊢
        refine ⟨fun s hs => ?_, ⟨⟨by rw [e1, e2]; exact i5, ?_⟩, i2⟩, ?_⟩
        · rcases List.mem_cons.mp hs with z | z
          · rw [z]; exact ou
          · exact i1 s z
        · rw [adj_at, e1, e2, i6, e3]
          omega
        · obtain ⟨x, h1, h2⟩ := i3
          exact ⟨x, by rw [List.getLast?_cons_cons]; exact h1, h2⟩
    have nle : ∀ {a b : Int}, ¬ a < b → b ≤ a := fun h => by omega
    have pkR : ∀ (u : St4), u.p = c.p → u.q = c.q → ∀ p q, 0 < q → p ≤ q → (p * c.q ≤ c.p * q → u.at p q = mx c p q) →
        ∃ d w, pkP (c :: P) p q = some d ∧ pk (u :: gr c.p c.q P) p q = some w ∧ w.at p q = mx d p q := fun u e1 e2 p q hq hpq hm => by
      by_cases k : c.p * q < p * c.q
      · rcases rest with ⟨rfl, z1, z2⟩ | ⟨d, r, _, _, _, _, _, _, i7⟩
        · rw [z1, z2] at k
          omega
        · rw [pkP_lt k, pk_cons_lt (s := u) (by rw [e1, e2]; exact k)]
          exact i7 p q hq hpq (by omega)
      · exact ⟨c, u, pkP_ge k, pk_cons_ge (by rw [e1, e2]; exact k), hm (nle k)⟩
    rcases gs_spec oc h0 hs l with ⟨u, g, ou, e1, e2, hm⟩ | ⟨v, u, g, ov, ou, e1, e2, lv, av, hv, hm⟩
    · have e : gr sp sq (c :: P) = u :: gr c.p c.q P := by
        show gs sp sq c ++ gr c.p c.q P = _
        rw [g]; rfl
      rw [e]
      obtain ⟨j1, j2, j3⟩ := joinE u ou e1 e2 (hm _ _ (by omega) (by omega))
      exact ⟨j1, j2, j3, ⟨u, _, rfl, by rw [e1, e2]; exact l, hm _ _ (by omega) (by omega)⟩, fun p q hq hpq hsp => pkR u e1 e2 p q hq hpq fun z => hm p q hsp z⟩
    · have e : gr sp sq (c :: P) = v :: u :: gr c.p c.q P := by
        show gs sp sq c ++ gr c.p c.q P = _
        rw [g]; rfl
      rw [e]
      have vu : v.p * c.q < c.p * v.q := by have := av.1; rw [e1, e2] at this; exact this
      obtain ⟨j1, j2, j3⟩ := joinE u ou e1 e2 (hm _ _ (by omega) (by omega))
      refine ⟨fun s hs => ?_, ⟨av, j2⟩, ?_, ⟨v, _, rfl, lv, hv _ _ (by omega) (by omega)⟩, fun p q hq hpq hsp => ?_⟩
      · rcases List.mem_cons.mp hs with z | z
        · rw [z]; exact ov
        · exact j1 s z
      · obtain ⟨x, h1, h2⟩ := j3
        exact ⟨x, by rw [List.getLast?_cons_cons]; exact h1, h2⟩
      · by_cases k : v.p * q < p * v.q
        · rw [pk_cons_lt k]
          exact pkR u e1 e2 p q hq hpq fun z => hm p q (by omega) z
        · refine ⟨c, v, pkP_ge (nlt_trans ov.q0 cq hq vu k), pk_cons_ge k, hv p q hsp (nle k)⟩
/-- the greater line -/
theorem greater_way {n : Nat} {A B : List St4} (wa : Way n A) (wb : Way n B) : Way (n + 1) (gr 0 1 (sbs A B)) ∧ ∀ p q, 0 < q → 0 ≤ p → p ≤ q →
    ∃ s t u, pk A p q = some s ∧ pk B p q = some t ∧ pk (gr 0 1 (sbs A B)) p q = some u ∧ u.at p q = max (s.at p q) (t.at p q) := by
  obtain ⟨h1, h2, h3⟩ := sbs_way A B wa wb
  cases e : sbs A B with
  | nil =>
    rw [e] at h3
    obtain ⟨_, z, _⟩ := h3
    cases z
  | cons c P =>
    rw [e] at h1 h2 h3
    have oc := h1 c List.mem_cons_self
    obtain ⟨i1, i2, i3, _, i5⟩ := gr_spec P c 0 1 (by omega) (by omega) (by have := oc.e.1; omega) h1 h2 h3
    refine ⟨⟨i1, i2, i3⟩, fun p q hq h0 hpq => ?_⟩
    obtain ⟨d, u, k1, k2, k3⟩ := i5 p q hq hpq (by omega)
    obtain ⟨d', k4, k5, k6⟩ := sbs_pk hq hpq A B wa wb
    rw [e, k1] at k4
    cases k4
    exact ⟨d.a, d.b, u, k5, k6, k2, k3⟩
theorem greater_line {n : Nat} {A B : List St4} (wa : Way n A) (wb : Way n B) : LineB (n + 1) (jn (gr 0 1 (sbs A B))) := by rw [jn_eq]; exact jnR_line (greater_way wa wb).1
theorem greater_at {n : Nat} {A B : List St4} (wa : Way n A) (wb : Way n B) {p q : Int} (hq : 0 < q) (h0 : 0 ≤ p) (hpq : p ≤ q) :
    ∃ s t u, pk A p q = some s ∧ pk B p q = some t ∧ pk (jn (gr 0 1 (sbs A B))) p q = some u ∧ u.at p q = max (s.at p q) (t.at p q) := by
  obtain ⟨w, h⟩ := greater_way wa wb
  obtain ⟨s, t, v, h1, h2, h3, h4⟩ := h p q hq h0 hpq
  obtain ⟨v', u, h5, h6, h7, h8⟩ := jnR_pk hq hpq w
  rw [h3] at h5
  cases h5
  refine ⟨s, t, u, h1, h2, by rw [jn_eq]; exact h6, ?_⟩
  rw [← h4]
  unfold St4.at
  rw [h7, h8]
theorem gs_len (sp sq : Int) (c : Pc) : (gs sp sq c).length ≤ 2 := by
  unfold gs
  split
  · exact Nat.le_refl _
  · split <;> exact Nat.le_succ _
theorem gr_len : ∀ (P : List Pc) (sp sq : Int), (gr sp sq P).length ≤ 2 * P.length
  | [], _, _ => Nat.le_refl _
  | c :: r, sp, sq => by
    show (gs sp sq c ++ gr c.p c.q r).length ≤ _
    have := gs_len sp sq c
    have := gr_len r c.p c.q
    rw [List.length_append, List.length_cons]
    omega
end Ln
end Mine


set_option Elab.async false
set_option linter.all false
namespace Mine
namespace Ln
/-- a line within wider bounds -/
structure LineK (L : List St4) : Prop where
  b : LineB 45 L
  few : L.length ≤ 100
theorem LineK.ok {L : List St4} (l : LineK L) : ∀ s ∈ L, OkB 45 s := l.b.ok
theorem LineK.ch {L : List St4} (l : LineK L) : Ch L := l.b.ch
theorem LineK.last {L : List St4} (l : LineK L) : ∃ s, L.getLast? = some s ∧ s.p = 1 ∧ s.q = 1 := l.b.last
theorem LineK.way {L : List St4} (l : LineK L) : Way 45 L := l.b.way
theorem Line.k {L : List St4} (l : Line L) : LineK L := ⟨l.b.mono (by decide), l.few⟩
theorem LineK.pos {L : List St4} (l : LineK L) : 0 < L.length := let ⟨_, h, _⟩ := l.last; (last_at h).1
theorem LineK.at {L : List St4} (l : LineK L) {i : Nat} {s : St4} (h : L[i]? = some s) : OkB 45 s := l.ok s (List.mem_of_getElem? h)
theorem LineK.next {L : List St4} (l : LineK L) {p q : Int} (hpq : p ≤ q) {k : Nat} {s : St4} (h : L[k]? = some s) (c : s.p * q < p * s.q) : k + 1 < L.length := by
  obtain ⟨t, ht, t1, t2⟩ := l.last
  obtain ⟨l0, l1⟩ := last_at ht
  have hk : k < L.length := (List.getElem?_eq_some_iff.mp h).1
  rcases Nat.lt_or_ge (k + 1) L.length with z | z
  · exact z
  · exfalso
    have : k = L.length - 1 := by omega
    rw [this, l1] at h
    cases h
    rw [t1, t2] at c
    omega
theorem LineK.bef_rise {L : List St4} (l : LineK L) {i : Nat} {s : St4} (h : L[i]? = some s) : (bef L i).1 * s.q < s.p * (bef L i).2 ∧ 0 < (bef L i).2 ∧ 0 ≤ (bef L i).1 ∧ (bef L i).2 < 2 ^ 45 ∧ (bef L i).1 ≤ (bef L i).2 := by
  cases i with
  | zero =>
    have := (l.at h).1
    exact ⟨by show 0 * s.q < s.p * 1; omega, (show (0 : Int) < 1 by decide), (show (0 : Int) ≤ 0 by decide), (show (1 : Int) < 2 ^ 45 by decide), (show (0 : Int) ≤ 1 by decide)⟩
  | succ k =>
    have hk : k < L.length := by have := (List.getElem?_eq_some_iff.mp h).1; omega
    have e : L[k]? = some L[k] := List.getElem?_eq_getElem hk
    rw [bef_succ e]
    have o := l.at e
    exact ⟨(l.ch.get e h).1, by have := o.1; have := o.2.1; show 0 < L[k].q; omega, by have := o.1; show 0 ≤ L[k].p; omega, by have := o.2.2.2.1; show L[k].q < 2 ^ 45; omega, o.2.1⟩
theorem sbs_step {A B : List St4} {i j : Nat} {a b : St4} (ha : A[i]? = some a) (hb : B[j]? = some b) :
    sbs (A.drop i) (B.drop j) = if a.p * b.q < b.p * a.q then ⟨a.p, a.q, a, b⟩ :: sbs (A.drop (i + 1)) (B.drop j) else if a.p = b.p ∧ a.q = b.q then ⟨b.p, b.q, a, b⟩ :: sbs (A.drop (i + 1)) (B.drop (j + 1)) else ⟨b.p, b.q, a, b⟩ :: sbs (A.drop i) (B.drop (j + 1)) := by
  obtain ⟨h1, e1⟩ := List.getElem?_eq_some_iff.mp ha
  obtain ⟨h2, e2⟩ := List.getElem?_eq_some_iff.mp hb
  have d1 : A.drop i = a :: A.drop (i + 1) := by rw [List.drop_eq_getElem_cons h1, e1]
  have d2 : B.drop j = b :: B.drop (j + 1) := by rw [List.drop_eq_getElem_cons h2, e2]
  by_cases c : a.p * b.q < b.p * a.q
  · rw [if_pos c, d1]
    rw [show sbs (a :: A.drop (i + 1)) (B.drop j) = sbs (a :: A.drop (i + 1)) (b :: B.drop (j + 1)) by rw [d2], sbs_lt c, d2]
  · rw [if_neg c]
    by_cases e : a.p = b.p ∧ a.q = b.q
    · rw [if_pos e, d1, d2, sbs_eq e]
    · rw [if_neg e, d2, d1, sbs_gt c e]
theorem sbs_stop {A B : List St4} {i j : Nat} (h : A.length ≤ i ∨ B.length ≤ j) : sbs (A.drop i) (B.drop j) = [] := by
  rcases h with h | h
  · rw [List.drop_eq_nil_of_le h, sbs_nil]
  · rw [List.drop_eq_nil_of_le h, sbs_nil']
end Ln
end Mine


set_option Elab.async false
set_option linter.all false
namespace Mine
namespace Ln
/-! ### two lines of one height everywhere are one -/
theorem lin0 {a b sp sq ep eq : Int} (he : 0 < eq) (l : sp * eq < ep * sq) (h1 : a * ep + b * eq = 0) (h2 : a * (sp + ep) + b * (sq + eq) = 0) : a = 0 ∧ b = 0 := by
  have h3 : a * sp + b * sq = 0 := by grind
  have h4 : a * (sp * eq - ep * sq) = 0 := by grind
  have a0 : a = 0 := by
    rcases Int.mul_eq_zero.mp h4 with z | z
    · exact z
    · omega
  subst a0
  have h5 : b * eq = 0 := by omega
  rcases Int.mul_eq_zero.mp h5 with z | z
  · exact ⟨rfl, z⟩
  · omega
/-- two rules that tell the same at an end and at the mediant of the start and it are one -/
theorem rule_one {s t : St4} {sp sq ep eq : Int} (he : 0 < eq) (l : sp * eq < ep * sq) (h1 : s.at ep eq = t.at ep eq) (h2 : s.at (sp + ep) (sq + eq) = t.at (sp + ep) (sq + eq)) : s.m = t.m ∧ s.h = t.h := by
  have e1 : s.m * ep + s.h * eq = t.m * ep + t.h * eq := h1
  have e2 : s.m * (sp + ep) + s.h * (sq + eq) = t.m * (sp + ep) + t.h * (sq + eq) := h2
  obtain ⟨z1, z2⟩ := lin0 (a := s.m - t.m) (b := s.h - t.h) he l (by grind) (by grind)
  omega
/-- a point within, and the end, of what both rules tell the same from a start on -/
theorem med {sp sq ep eq : Int} (hs : 0 < sq) (he : 0 < eq) (l : sp * eq < ep * sq) : 0 < sq + eq ∧ sp * (sq + eq) < (sp + ep) * sq ∧ (sp + ep) * eq < ep * (sq + eq) := by
  refine ⟨by omega, ?_, ?_⟩ <;> grind
/-- from a start on: the first stretches have one rule -/
theorem first_rule {n m : Nat} {s t : St4} {L M : List St4} {sp sq : Int} (hs : 0 < sq) (os : OkB n s) (ot : OkB m t) (l1 : sp * s.q < s.p * sq) (l2 : sp * t.q < t.p * sq) (hle : s.p * t.q ≤ t.p * s.q)
    (H : ∀ p q, 0 < q → sp * q < p * sq → p ≤ q → ∀ a b, pk (s :: L) p q = some a → pk (t :: M) p q = some b → a.at p q = b.at p q) : s.m = t.m ∧ s.h = t.h := by
  have hq := os.q0
  have tq := ot.q0
  obtain ⟨m0, m1, m2⟩ := med hs hq l1
  have pq := os.2.1
  refine rule_one hq l1 ?_ ?_
  · refine H s.p s.q hq l1 pq s t (pk_cons_ge (by omega)) (pk_cons_ge (by omega))
  · have n1 : ¬ s.p * (sq + s.q) < (sp + s.p) * s.q := by omega
    have n2 : ¬ t.p * (sq + s.q) < (sp + s.p) * t.q := by
      intro z
      -- (sp + s.p) / (sq + s.q) is below s's end, which is not above t's
      have := lt_trans' (a := t.p) (b := t.q) (c := sp + s.p) (d := sq + s.q) (e := s.p) (f := s.q) tq m0 hq z m2
      omega
    refine H (sp + s.p) (sq + s.q) m0 m1 ?_ s t (pk_cons_ge n1) (pk_cons_ge n2)
    -- at most 1
    have : (sp + s.p) * s.q < s.p * (sq + s.q) := m2
    rcases Int.lt_or_le (sq + s.q) (sp + s.p) with z | z
    · exfalso
      have y1 : s.p * (sq + s.q) ≤ s.q * (sq + s.q) := Int.mul_le_mul_of_nonneg_right pq (by omega)
      have y2 : s.q * (sq + s.q) < s.q * (sp + s.p) := Int.mul_lt_mul_of_pos_left z hq
      rw [Int.mul_comm s.q (sp + s.p)] at y2
      omega
    · exact z
theorem uniq_aux {n m : Nat} : ∀ (L M : List St4) (sp sq : Int), 0 < sq → (∀ s ∈ L, OkB n s) → (∀ t ∈ M, OkB m t) → Ch L → Ch M → End1 L → End1 M → (∀ s, L.head? = some s → sp * s.q < s.p * sq) → (∀ t, M.head? = some t → sp * t.q < t.p * sq) →
    (∀ p q, 0 < q → sp * q < p * sq → p ≤ q → ∀ a b, pk L p q = some a → pk M p q = some b → a.at p q = b.at p q) → L = M
  | [], _, _, _, _, _, _, _, _, e, _, _, _, _ => by obtain ⟨s, h, _⟩ := e; cases h
  | _ :: _, [], _, _, _, _, _, _, _, _, e, _, _, _ => by obtain ⟨s, h, _⟩ := e; cases h
  | s :: L, t :: M, sp, sq, hs, oL, oM, cL, cM, eL, eM, lL, lM, H => by
    have os := oL s List.mem_cons_self
    have ot := oM t List.mem_cons_self
    have sq0 := os.q0
    have tq0 := ot.q0
    have l1 := lL s rfl
    have l2 := lM t rfl
    -- no stretch may end ahead of the other's
    have ends : ∀ {n m : Nat} {s t : St4} {L M : List St4}, (∀ a ∈ s :: L, OkB n a) → (∀ a ∈ t :: M, OkB m a) → Ch (s :: L) → End1 (s :: L) → s.m = t.m → (∀ p q, 0 < q → sp * q < p * sq → p ≤ q → ∀ a b, pk (s :: L) p q = some a → pk (t :: M) p q = some b → a.at p q = b.at p q) → sp * s.q < s.p * sq → ¬ s.p * t.q < t.p * s.q := by
      intro n m s t L M oL oM cL eL em H l1 z
      have os := oL s List.mem_cons_self
      have ot := oM t List.mem_cons_self
      have sq0 := os.q0
      have tq0 := ot.q0
      cases L with
      | nil =>
        obtain ⟨u, hu, u1, u2⟩ := eL
        have e : s = u := by simpa using hu
        subst e
        rw [u1, u2] at z
        have := ot.2.1
        omega
      | cons u r =>
        have ou := oL u (List.mem_cons_of_mem _ List.mem_cons_self)
        have ad := cL.1
        have uq0 := ou.q0
        have up : ∀ p q, 0 < q → s.p * q < p * s.q → sp * q < p * sq := fun p q hq hl => lt_trans' hs sq0 hq l1 hl
        have H2 : ∀ p q, 0 < q → s.p * q < p * s.q → p ≤ q → ∀ a b, pk (u :: r) p q = some a → pk (t :: M) p q = some b → a.at p q = b.at p q := fun p q hq hl hpq a b ha hb => H p q hq (up p q hq hl) hpq a b (by rw [pk_cons_lt hl]; exact ha) hb
        have ru : u.m = t.m := by
          rcases Int.lt_or_le (t.p * u.q) (u.p * t.q) with y | y
          · exact (first_rule (s := t) (t := u) (L := M) (M := r) sq0 ot ou z ad.1 (by omega) fun p q hq hl hpq a b ha hb => (H2 p q hq hl hpq b a hb ha).symm).1.symm
          · exact (first_rule (s := u) (t := t) (L := r) (M := M) sq0 ou ot ad.1 z (by omega) H2).1
        exact ad.2.2 (by omega)
    have rr : s.m = t.m ∧ s.h = t.h := by
      rcases Int.lt_or_le (t.p * s.q) (s.p * t.q) with y | y
      · have := first_rule (s := t) (t := s) (L := M) (M := L) hs ot os l2 l1 (by omega) fun p q hq hl hpq a b ha hb => (H p q hq hl hpq b a hb ha).symm
        exact ⟨this.1.symm, this.2.symm⟩
      · exact first_rule hs os ot l1 l2 y H
    have n1 := ends oL oM cL eL rr.1 H l1
    have n2 := ends oM oL cM eM rr.1.symm (fun p q hq hl hpq a b ha hb => (H p q hq hl hpq b a hb ha).symm) l2
    obtain ⟨e1, e2⟩ := frac_eq sq0 tq0 os.2.2.1 ot.2.2.1 (show s.p * t.q = t.p * s.q by omega)
    have est : s = t := by
      obtain ⟨a, b, c, d⟩ := s
      obtain ⟨a', b', c', d'⟩ := t
      simp only at e1 e2 rr
      rw [e1, e2, rr.1, rr.2]
    subst est
    congr 1
    cases L with
    | nil =>
      cases M with
      | nil => rfl
      | cons u r =>
        exfalso
        obtain ⟨v, hv, v1, v2⟩ := eL
        have e : s = v := by simpa using hv
        subst e
        have ad := cM.1
        have ou := oM u (List.mem_cons_of_mem _ List.mem_cons_self)
        have := ad.1
        have := ou.2.1
        rw [v1, v2] at *
        omega
    | cons u r =>
      cases M with
      | nil =>
        exfalso
        obtain ⟨v, hv, v1, v2⟩ := eM
        have e : s = v := by simpa using hv
        subst e
        have ad := cL.1
        have ou := oL u (List.mem_cons_of_mem _ List.mem_cons_self)
        have := ad.1
        have := ou.2.1
        rw [v1, v2] at *
        omega
      | cons v k =>
        refine uniq_aux (u :: r) (v :: k) s.p s.q sq0 (fun a ha => oL a (List.mem_cons_of_mem _ ha)) (fun a ha => oM a (List.mem_cons_of_mem _ ha)) cL.2 cM.2 eL.tail eM.tail (fun a ha => ?_) (fun a ha => ?_) fun p q hq hl hpq a b ha hb => ?_
        · have e : u = a := by simpa using ha
          subst e
          exact cL.1.1
        · have e : v = a := by simpa using ha
          subst e
          exact cM.1.1
        · exact H p q hq (lt_trans' hs sq0 hq l1 hl) hpq a b (by rw [pk_cons_lt hl]; exact ha) (by rw [pk_cons_lt hl]; exact hb)
/-- two lines of one height everywhere are one -/
theorem uniq {n m : Nat} {L M : List St4} (hL : LineB n L) (hM : LineB m M) (H : ∀ p q, 0 < q → 0 ≤ p → p ≤ q → ∀ a b, pk L p q = some a → pk M p q = some b → a.at p q = b.at p q) : L = M :=
  uniq_aux L M 0 1 (by decide) hL.ok hM.ok hL.ch hM.ch hL.last hM.last (fun s h => by have := (hL.ok s (List.mem_of_head? h)).1; omega) (fun s h => by have := (hM.ok s (List.mem_of_head? h)).1; omega) fun p q hq hl hpq => H p q hq (by omega) hpq
end Ln
end Mine


set_option Elab.async false
set_option linter.all false
namespace Mine
/-- the height of L at p / q, taken with the bottom -/
def hAt (L : List St4) (p q : Int) : Int := match Ln.pk L p q with
  | some s => s.at p q
  | none => 0
theorem hAt_of {L : List St4} {p q : Int} {s : St4} (h : Ln.pk L p q = some s) : hAt L p q = s.at p q := by unfold hAt; rw [h]
theorem hAt_some {n : Nat} {L : List St4} (w : Ln.Way n L) {p q : Int} (hq : 0 < q) (hpq : p ≤ q) : ∃ s, Ln.pk L p q = some s := by
  obtain ⟨s, u, h, _⟩ := Ln.jnR_pk hq hpq w
  exact ⟨s, h⟩
/-- two lines of the same heights are one -/
theorem line_one {n m : Nat} {L M : List St4} (hL : Ln.LineB n L) (hM : Ln.LineB m M) (H : ∀ p q, 0 < q → 0 ≤ p → p ≤ q → hAt L p q = hAt M p q) : L = M :=
  Ln.uniq hL hM fun p q hq h0 hpq a b ha hb => by
    have := H p q hq h0 hpq
    rwa [hAt_of ha, hAt_of hb] at this
def up (A B : List St4) : List St4 := Ln.jn (Ln.gr 0 1 (Ln.sbs A B))
def le (A B : List St4) : List St4 := (up (A.map Ln.tnS) (B.map Ln.tnS)).map Ln.tnS
theorem up_length {A B : List St4} : (up A B).length ≤ 2 * (A.length + B.length) := by
  unfold up
  rw [Ln.jn_eq]
  have h1 := Ln.jnR_len (Ln.gr 0 1 (Ln.sbs A B))
  have h2 := Ln.gr_len (Ln.sbs A B) 0 1
  have h3 := Ln.sbs_len A B
  omega
theorem le_length {A B : List St4} : (le A B).length ≤ 2 * (A.length + B.length) := by
  have := up_length (A := A.map Ln.tnS) (B := B.map Ln.tnS)
  unfold le
  rw [List.length_map]
  rw [List.length_map, List.length_map] at this
  exact this
theorem up_line {n : Nat} {A B : List St4} (a : Ln.LineB n A) (b : Ln.LineB n B) : Ln.LineB (n + 1) (up A B) := Ln.greater_line a.way b.way
theorem up_at {n : Nat} {A B : List St4} (a : Ln.LineB n A) (b : Ln.LineB n B) {p q : Int} (hq : 0 < q) (h0 : 0 ≤ p) (hpq : p ≤ q) : hAt (up A B) p q = max (hAt A p q) (hAt B p q) := by
  obtain ⟨s, t, u, h1, h2, h3, h4⟩ := Ln.greater_at a.way b.way hq h0 hpq
  unfold up
  rw [hAt_of h1, hAt_of h2, hAt_of h3]
  exact h4
theorem tn_at {n : Nat} {A : List St4} (a : Ln.LineB n A) {p q : Int} (hq : 0 < q) (hpq : p ≤ q) : hAt (A.map Ln.tnS) p q = - hAt A p q := by
  obtain ⟨s, h1⟩ := hAt_some a.way hq hpq
  obtain ⟨h2, h3⟩ := Ln.turned_at h1
  rw [hAt_of h1, hAt_of h2]
  omega
theorem le_line {n : Nat} {A B : List St4} (a : Ln.LineB n A) (b : Ln.LineB n B) : Ln.LineB (n + 1) (le A B) := Ln.turned_line (up_line (Ln.turned_line a) (Ln.turned_line b))
theorem le_at {n : Nat} {A B : List St4} (a : Ln.LineB n A) (b : Ln.LineB n B) {p q : Int} (hq : 0 < q) (h0 : 0 ≤ p) (hpq : p ≤ q) : hAt (le A B) p q = min (hAt A p q) (hAt B p q) := by
  have e := tn_at (up_line (Ln.turned_line a) (Ln.turned_line b)) hq hpq
  have e2 := up_at (Ln.turned_line a) (Ln.turned_line b) hq h0 hpq
  rw [tn_at a hq hpq, tn_at b hq hpq] at e2
  show hAt ((up (A.map Ln.tnS) (B.map Ln.tnS)).map Ln.tnS) p q = _
  rw [e, e2]
  omega
/-! ### cutting off -/
def St1 (h : Int) : List St4 := [⟨1, 1, 0, h⟩]
theorem st1_line {h : Int} (hh : h.natAbs < 2 ^ 40) : Ln.LineB 40 (St1 h) :=
  ⟨fun s hs => by rw [List.mem_singleton.mp hs]; exact ⟨show (0 : Int) < 1 by decide, show (1 : Int) ≤ 1 by decide, show Lo.gc 1 1 = 1 by decide, show (1 : Int).natAbs < 2 ^ 40 by decide, show (0 : Int).natAbs < 2 ^ 40 by decide, hh⟩, trivial, ⟨_, rfl, rfl, rfl⟩⟩
theorem st1_at {h p q : Int} (hpq : p ≤ q) : hAt (St1 h) p q = h * q := by
  have : Ln.pk (St1 h) p q = some ⟨1, 1, 0, h⟩ := Ln.pk_cons_ge (by show ¬ 1 * q < p * 1; omega)
  rw [hAt_of this]
  show 0 * p + h * q = _
  omega
def cut (A : List St4) : List St4 := le (up A (St1 0)) (St1 1)
theorem s0_line {n : Nat} (h : 40 ≤ n) : Ln.LineB n (St1 0) := (st1_line (by decide)).mono h
theorem s1_line {n : Nat} (h : 40 ≤ n) : Ln.LineB n (St1 1) := (st1_line (by decide)).mono h
theorem up0_line {n : Nat} {A : List St4} (h : 40 ≤ n) (a : Ln.LineB n A) : Ln.LineB (n + 1) (up A (St1 0)) := up_line a (s0_line h)
theorem cut_line {n : Nat} {A : List St4} (h : 40 ≤ n) (a : Ln.LineB n A) : Ln.LineB (n + 2) (cut A) := le_line (up0_line h a) (s1_line (by omega))
theorem up0_at {n : Nat} {A : List St4} (h : 40 ≤ n) (a : Ln.LineB n A) {p q : Int} (hq : 0 < q) (h0 : 0 ≤ p) (hpq : p ≤ q) : hAt (up A (St1 0)) p q = max (hAt A p q) 0 := by
  rw [up_at a (s0_line h) hq h0 hpq, st1_at hpq, Int.zero_mul]
theorem cut_at {n : Nat} {A : List St4} (h : 40 ≤ n) (a : Ln.LineB n A) {p q : Int} (hq : 0 < q) (h0 : 0 ≤ p) (hpq : p ≤ q) : hAt (cut A) p q = min (max (hAt A p q) 0) q := by
  unfold cut
  rw [le_at (up0_line h a) (s1_line (by omega)) hq h0 hpq, up0_at h a hq h0 hpq, st1_at hpq, Int.one_mul]
/-- nowhere beyond -/
def Inn (A : List St4) : Prop := ∀ p q, 0 < q → 0 ≤ p → p ≤ q → 0 ≤ hAt A p q ∧ hAt A p q ≤ q
theorem cut_inn {n : Nat} {A : List St4} (h : 40 ≤ n) (a : Ln.LineB n A) : Inn (cut A) := fun p q hq h0 hpq => by
  rw [cut_at h a hq h0 hpq]
  omega
theorem up0_own {n : Nat} {A : List St4} (h : 40 ≤ n) (a : Ln.LineB n A) (i : Inn A) : up A (St1 0) = A := line_one (up0_line h a) a fun p q hq h0 hpq => by
  have := i p q hq h0 hpq
  rw [up0_at h a hq h0 hpq]
  omega
theorem cut_own {n : Nat} {A : List St4} (h : 40 ≤ n) (a : Ln.LineB n A) (i : Inn A) : cut A = A := line_one (cut_line h a) a fun p q hq h0 hpq => by
  have := i p q hq h0 hpq
  rw [cut_at h a hq h0 hpq]
  omega
/-! ### by its bends -/
def endsL (L : List St4) : List (Int × Int) := (0, 1) :: L.map fun s => (s.p, s.q)
def inB (t q : Int) : Bool := decide (0 ≤ t ∧ t ≤ q)
def wi (L : List St4) : Bool := (endsL L).all fun x => inB (hAt L x.1 x.2) x.2
def bdL (L : List St4) : List (St4 × Int × Int) := (L.take 1).map (fun s => (s, 0, 1)) ++ L.map fun s => (s, s.p, s.q)
namespace Ln
theorem LineB.rise {n : Nat} {L : List St4} (l : LineB n L) : ∀ {k i : Nat} {s t : St4}, L[i]? = some s → L[i + k + 1]? = some t → s.p * t.q < t.p * s.q
  | 0, _, _, _, h, g => (l.ch.get h g).1
  | k + 1, i, s, t, h, g => by
    have hl : i + k + 1 < L.length := by have := (List.getElem?_eq_some_iff.mp g).1; omega
    have hu : L[i + k + 1]? = some (L[i + k + 1]) := List.getElem?_eq_getElem hl
    have r1 := l.rise (k := k) h hu
    have r2 := (l.ch.get (i := i + k + 1) hu g).1
    have o1 := l.ok _ (List.mem_of_getElem? h)
    have o2 := l.ok _ (List.mem_of_getElem? hu)
    have o3 := l.ok _ (List.mem_of_getElem? g)
    exact lt_trans' o1.q0 o2.q0 o3.q0 r1 r2
theorem LineB.own {n : Nat} {L : List St4} (l : LineB n L) {s : St4} (h : s ∈ L) : pk L s.p s.q = some s := by
  obtain ⟨i, hi, e⟩ := List.mem_iff_getElem.mp h
  have h : L[i]? = some s := by rw [List.getElem?_eq_getElem hi, e]
  refine pk_at (k := i) (fun j hj t ht => ?_) h (by omega)
  have e : i = j + (i - j - 1) + 1 := by omega
  rw [e] at h
  exact l.rise ht h
theorem LineB.first {n : Nat} {s : St4} {r : List St4} (l : LineB n (s :: r)) : pk (s :: r) 0 1 = some s := by
  have := (l.ok s List.mem_cons_self).1
  exact pk_cons_ge (by omega)
end Ln
theorem wi_bd {n : Nat} {L : List St4} (l : Ln.LineB n L) : (bdL L).all (fun b => inB (b.1.at b.2.1 b.2.2) b.2.2) = wi L := by
  unfold bdL wi endsL
  cases L with
  | nil => obtain ⟨s, h, _⟩ := l.last; cases h
  | cons s r =>
    rw [List.all_append, List.all_cons, hAt_of l.first]
    congr 1
    · show (inB (s.at 0 1) 1 && true) = inB (s.at 0 1) 1
      rw [Bool.and_true]
    · rw [List.all_map, List.all_map]
      rw [Bool.eq_iff_iff, List.all_eq_true, List.all_eq_true]
      refine ⟨fun h x hx => ?_, fun h x hx => ?_⟩
      · have := h x hx
        show inB (hAt (s :: r) x.p x.q) x.q = true
        rw [hAt_of (l.own hx)]
        exact this
      · have := h x hx
        show inB (x.at x.p x.q) x.q = true
        rw [← hAt_of (l.own hx)]
        exact this
theorem wi_iff {L : List St4} : wi L = true ↔ ∀ x ∈ endsL L, 0 ≤ hAt L x.1 x.2 ∧ hAt L x.1 x.2 ≤ x.2 := by
  unfold wi
  rw [List.all_eq_true]
  exact ⟨fun h x hx => of_decide_eq_true (h x hx), fun h x hx => decide_eq_true (h x hx)⟩
/-- within at both sides of a stretch is within all over it -/
theorem in_stretch {s : St4} {sp sq p q : Int} (l : sp * s.q < s.p * sq) (l1 : sp * q ≤ p * sq) (l2 : p * s.q ≤ s.p * q) (d1 : 0 ≤ s.at sp sq ∧ s.at sp sq ≤ sq) (d2 : 0 ≤ s.at s.p s.q ∧ s.at s.p s.q ≤ s.q) : 0 ≤ s.at p q ∧ s.at p q ≤ q := by
  obtain ⟨a1, a2⟩ := d1
  obtain ⟨b1, b2⟩ := d2
  have e : ∀ x y : Int, s.at x y = s.m * x + s.h * y := fun x y => rfl
  rw [e] at *
  refine ⟨Ln.between l l1 l2 a1 b1, ?_⟩
  have z := Ln.between' (s := s.m) (h := s.h - 1) l l1 l2 (by rw [Int.sub_mul]; omega) (by rw [Int.sub_mul]; omega)
  rw [Int.sub_mul] at z
  omega
theorem inn_aux {n : Nat} : ∀ (L : List St4) (sp sq : Int), 0 < sq → (∀ s ∈ L, Ln.OkB n s) → Ln.Ch L → (∀ s, L.head? = some s → sp * s.q < s.p * sq ∧ 0 ≤ s.at sp sq ∧ s.at sp sq ≤ sq) → (∀ s ∈ L, 0 ≤ s.at s.p s.q ∧ s.at s.p s.q ≤ s.q) →
    ∀ p q, 0 < q → sp * q ≤ p * sq → ∀ s, Ln.pk L p q = some s → 0 ≤ s.at p q ∧ s.at p q ≤ q
  | [], _, _, _, _, _, _, _, _, _, _, _, _, h => by cases h
  | t :: r, sp, sq, hs, ok, ch, hd, al, p, q, hq, hl, s, h => by
    by_cases c : t.p * q < p * t.q
    · rw [Ln.pk_cons_lt c] at h
      have ot := ok t List.mem_cons_self
      have at0 := al t List.mem_cons_self
      refine inn_aux r t.p t.q ot.q0 (fun a ha => ok a (List.mem_cons_of_mem _ ha)) ?_ (fun a ha => ?_) (fun a ha => al a (List.mem_cons_of_mem _ ha)) p q hq (by omega) s h
      · cases r with
        | nil => trivial
        | cons u r' => exact ch.2
      · cases r with
        | nil => cases ha
        | cons u r' =>
          have e0 : u = a := by simpa using ha
          subst e0
          have j := ch.1
          have e := Ln.adj_at (s := t) (t := u)
          rw [j.2.1] at e
          exact ⟨j.1, by omega, by omega⟩
    · rw [Ln.pk_cons_ge c] at h
      cases h
      obtain ⟨h1, h2⟩ := hd t rfl
      exact in_stretch h1 hl (by omega) h2 (al t List.mem_cons_self)
theorem wi_inn {n : Nat} {L : List St4} (l : Ln.LineB n L) (h : wi L = true) : Inn L := fun p q hq h0 hpq => by
  have hw := wi_iff.mp h
  obtain ⟨s, hs⟩ := hAt_some l.way hq hpq
  rw [hAt_of hs]
  refine inn_aux L 0 1 (by decide) l.ok l.ch (fun a ha => ?_) (fun a ha => ?_) p q hq (by omega) s hs
  · cases L with
    | nil => cases ha
    | cons u r =>
      have e0 : u = a := by simpa using ha
      subst e0
      have := (l.ok u List.mem_cons_self).1
      have z := hw (0, 1) List.mem_cons_self
      rw [hAt_of l.first] at z
      exact ⟨by omega, z⟩
  · have z := hw (a.p, a.q) (List.mem_cons_of_mem _ (List.mem_map.mpr ⟨a, ha, rfl⟩))
    rw [hAt_of (l.own ha)] at z
    exact z
theorem inn_wi {n : Nat} {L : List St4} (l : Ln.LineB n L) (h : Inn L) : wi L = true := by
  refine wi_iff.mpr fun x hx => ?_
  rcases List.mem_cons.mp hx with z | z
  · rw [z]
    exact h 0 1 (by decide) (by decide) (by decide)
  · obtain ⟨s, hs, rfl⟩ := List.mem_map.mp z
    have o := l.ok s hs
    exact h s.p s.q o.q0 (by have := o.1; omega) o.2.1
/-- cutting off leaves just what stays -/
theorem cut_wi {n : Nat} {A : List St4} (h : 40 ≤ n) (a : Ln.LineB n A) : decide (cut A = A) = wi A := by
  cases e : wi A with
  | true => exact decide_eq_true (cut_own h a (wi_inn a e))
  | false =>
    refine decide_eq_false fun z => ?_
    have i := cut_inn h a
    rw [z] at i
    rw [inn_wi a i] at e
    cases e
end Mine


set_option Elab.async false
set_option linter.all false
set_option maxRecDepth 100000
set_option maxHeartbeats 4000000
namespace Mine
open PySem L2
/-! ### small numbers -/
def Sm (x : Int) : Prop := x.natAbs < 2 ^ 200
abbrev bits (x : Int) : Nat := Builtin.Int.intBits x
theorem bits_of {x : Int} {m : Nat} (h : x.natAbs < 2 ^ m) : bits x ≤ m := intBits_le_iff.mpr h
theorem mulS {a b : Int} (ha : Sm a) (hb : Sm b) : IntMulOk a b := IntMulOk.of_le (m := 200) (n := 200) (bits_of ha) (bits_of hb) (by decide)
theorem sm_of {x : Int} (h : x.natAbs ≤ 10 ^ 50) : Sm x := Nat.lt_of_le_of_lt h (by decide +kernel)
theorem div_ok {t x : Int} (h0 : x ≠ 0) (h : Sm x) : CDivK t x := ⟨h0, Nat.lt_of_lt_of_le ((Nat.log2_lt (by omega)).mpr h) (by decide)⟩
theorem abs_is (i : Int) : (if i < 0 then -i else i) = (i.natAbs : Int) := by split <;> omega
theorem Sm.neg {x : Int} (h : Sm x) : Sm (-x) := by unfold Sm at *; rw [Int.natAbs_neg]; exact h
/-! ### items of the script -/
theorem at_script {ns : List Int} {i : Int} (h0 : 0 ≤ i) (h : i < (ns.length : Int)) : ∃ v : Int, atI (ns.map V.int) i = some (.int v) ∧ v ∈ ns := by
  have hi : i.toNat < ns.length := by omega
  have ek : i = ((i.toNat : Nat) : Int) := by omega
  have q : atI (ns.map V.int) ((i.toNat : Nat) : Int) = some (.int ns[i.toNat]) := atI_nat (by rw [List.getElem?_map, List.getElem?_eq_getElem hi] <;> rfl)
  rw [← ek] at q
  exact ⟨_, q, List.getElem_mem hi⟩
theorem at_of {xs : List V} {i : Int} {x : V} (h0 : 0 ≤ i) (h : xs[i.toNat]? = some x) : atI xs i = some x := by
  have ek : i = ((i.toNat : Nat) : Int) := by omega
  rw [ek]
  exact atI_nat h
/-- a script as the law has it: a list of at most 63 ints, each of at most 2 ** 20 bits; it is frozen -/
structure Scr (K : PySem.W.Frag) (H : Hp) (a : Addr) (ns : List Int) : Prop where
  sq : (∃ o, H a = some (.frz o (.lst (ns.map V.int)))) ∨ ∃ (o : Obj) (its : Array Value) (n : Nat), K.lookup a = some o ∧ o.cls = .type "list" ∧ o.dict = none ∧ o.data = .seq its n ∧ its.size ≤ sizeLine ∧ Vals (ns.map V.int) its.toList
  few : ns.length ≤ 63
  bit : ∀ n ∈ ns, bits n ≤ 1048576
theorem Scr.l {K : PySem.W.Frag} {H : Hp} {a : Addr} {ns : List Int} (S : Scr K H a ns) : SqL K H a (ns.map V.int) := S.sq.elim (fun h => .inl (.inr h)) .inr
theorem Scr.ts {K : PySem.W.Frag} {H H' : Hp} {a : Addr} {ns : List Int} (S : Scr K H a ns) (e : Tst H H') : Scr K H' a ns := ⟨S.sq.elim (fun ⟨o, h⟩ => .inl ⟨o, e.f _ _ _ h⟩) .inr, S.few, S.bit⟩
theorem scr_of {K : PySem.W.Frag} {H : Hp} {a : Addr} {ns : List Int} (O : Only H) (h : SqL K H a (ns.map V.int)) (few : ns.length ≤ 63) (bit : ∀ n ∈ ns, bits n ≤ 1048576) : Scr K H a ns := by
  refine ⟨?_, few, bit⟩
  rcases h with (h | h) | h
  · exfalso
    rcases O a with z | ⟨o, xs, z⟩
    · rw [h] at z; cases z
    · rw [h] at z; cases z
  · exact .inl h
  · exact .inr h
theorem same_new {H : Hp} {p : Addr} (h : H p = none) (o : HO) : Same H (upd H p o) := fun b u q => by rw [upd_ne (ne_of_none q h)]; exact q
/-- a change at what was not there at first -/
theorem same_mut {H H' : Hp} {l : Addr} (e : Same H H') (h : H l = none) (o : HO) : Same H (upd H' l o) := fun b u q => by rw [upd_ne (ne_of_none q h)]; exact e b u q
/-! ### fractions, stretches, lines as data -/
def frD (p q : Int) : PyData := .tuple [.int p, .int q]
def stD (s : St4) : PyData := .tuple [frD s.p s.q, .int s.m, .int s.h]
def lnD (L : List St4) : PyData := .tuple (L.map stD)
section
variable {K : PySem.W.Frag} {H H' : Hp} {a : Addr} {v e : V} {p q m h : Int} {s : St4} {L : List St4}
theorem fr_mk (g : SqT K H a [.int p, .int q]) : Dat K H (frD p q) (.ref a) := ⟨a, _, rfl, g, _, _, rfl, rfl, _, _, rfl, rfl, rfl⟩
theorem fr_el (g : Dat K H (frD p q) v) : ∃ a, v = .ref a ∧ SqT K H a [.int p, .int q] := by
  obtain ⟨a, xs, rfl, g, x, r, rfl, hx, y, t, rfl, hy, ht⟩ := g
  cases (show x = V.int p from hx)
  cases (show y = V.int q from hy)
  cases (show t = [] from ht)
  exact ⟨a, rfl, g⟩
theorem st_mk (g : SqT K H a [e, .int s.m, .int s.h]) (f : Dat K H (frD s.p s.q) e) : Dat K H (stD s) (.ref a) := ⟨a, _, rfl, g, _, _, rfl, f, _, _, rfl, rfl, _, _, rfl, rfl, rfl⟩
theorem st_el (g : Dat K H (stD s) v) : ∃ a e, v = .ref a ∧ SqT K H a [e, .int s.m, .int s.h] ∧ Dat K H (frD s.p s.q) e := by
  obtain ⟨a, xs, rfl, g, x, r, rfl, hx, y, t, rfl, hy, z, u, rfl, hz, hu⟩ := g
  cases (show y = V.int s.m from hy)
  cases (show z = V.int s.h from hz)
  cases (show u = [] from hu)
  exact ⟨a, x, rfl, g, hx⟩
theorem ln_el (g : Dat K H (lnD L) v) : ∃ a xs, v = .ref a ∧ SqT K H a xs ∧ DatAll K H (L.map stD) xs := g
theorem ln_at {xs : List V} (g : DatAll K H (L.map stD) xs) {i : Nat} (h : L[i]? = some s) : ∃ x, xs[i]? = some x ∧ Dat K H (stD s) x := g.get (by rw [List.getElem?_map, h]; rfl)
theorem ln_at' {xs : List V} (g : DatAll K H (L.map stD) xs) {i : Nat} {x : V} (h : xs[i]? = some x) : ∃ s, L[i]? = some s ∧ Dat K H (stD s) x := by
  obtain ⟨d, e1, e2⟩ := g.get' h
  rw [List.getElem?_map] at e1
  cases z : L[i]? with
  | none => rw [z] at e1; cases e1
  | some s => rw [z] at e1; cases e1; exact ⟨s, rfl, e2⟩
theorem ln_len {xs : List V} (g : DatAll K H (L.map stD) xs) : xs.length = L.length := by rw [g.len, List.length_map]
end
theorem fr_lay (p q : Int) : (frD p q).canLay0 = true := by simp [frD, PyData.canLay0, PyData.canLayAll0]
theorem fr_depth (p q : Int) : (frD p q).depth = 1 := by simp [frD, PyData.depth, PyData.depthAll]
theorem st_lay (s : St4) : (stD s).canLay0 = true := by simp [stD, PyData.canLay0, PyData.canLayAll0, fr_lay]
theorem st_depth (s : St4) : (stD s).depth = 2 := by simp [stD, PyData.depth, PyData.depthAll, fr_depth]
theorem ln_shaped (L : List St4) : SeqAt.shaped (lnD L) = true := by
  have h1 := lay_map st_lay L
  have h2 := depth_map (f := stD) (n := 2) (fun s => by rw [st_depth]; exact Nat.le_refl _) L
  have h3 : PyData.depthAll (L.map stD) + 1 ≤ 64 := by omega
  simp only [SeqAt.shaped, lnD, PyData.canLay0, h1, PyData.depth, Bool.true_and]
  exact decide_eq_true h3
theorem lnl_shaped (L : List St4) : SeqAt.shaped (.list (L.map stD)) = true := by
  have h1 := lay_map st_lay L
  have h2 := depth_map (f := stD) (n := 2) (fun s => by rw [st_depth]; exact Nat.le_refl _) L
  have h3 : PyData.depthAll (L.map stD) + 1 ≤ 64 := by omega
  simp only [SeqAt.shaped, PyData.canLay0, h1, PyData.depth, Bool.true_and]
  exact decide_eq_true h3
theorem fr_shaped (p q : Int) : SeqAt.shaped (frD p q) = true := by simp [SeqAt.shaped, fr_lay, fr_depth]
theorem fr_eqv (p q r s : Int) : PyData.eqv (frD p q) (frD r s) = decide (p = r ∧ q = s) := by
  simp only [frD, PyData.eqv, PyData.eqvAll, Bool.and_true]
  by_cases h1 : p = r <;> by_cases h2 : q = s <;> simp [h1, h2]
theorem st_eqv (s t : St4) : PyData.eqv (stD s) (stD t) = decide (s = t) := by
  obtain ⟨p, q, m, h⟩ := s
  obtain ⟨p', q', m', h'⟩ := t
  simp only [stD, PyData.eqv, PyData.eqvAll, Bool.and_true, fr_eqv, St4.mk.injEq]
  by_cases h1 : p = p' <;> by_cases h2 : q = q' <;> by_cases h3 : m = m' <;> by_cases h4 : h = h' <;> simp [h1, h2, h3, h4]
theorem ln_eqv (L M : List St4) : PyData.eqv (lnD L) (lnD M) = decide (L = M) := by
  simp only [lnD, PyData.eqv]
  exact eqv_map st_eqv L M
mutual
theorem eqv_self : ∀ d : PyData, d.canLay0 = true → PyData.eqv d d = true
  | .none, _ => by simp [PyData.eqv]
  | .bool _, _ => by simp [PyData.eqv]
  | .int _, _ => by simp [PyData.eqv]
  | .str _, _ => by simp [PyData.eqv]
  | .list xs, h => by simp only [PyData.eqv]; exact eqvAll_self xs (by simpa [PyData.canLay0] using h)
  | .tuple xs, h => by simp only [PyData.eqv]; exact eqvAll_self xs (by simpa [PyData.canLay0] using h)
  | .dict _, h => by simp [PyData.canLay0] at h
theorem eqvAll_self : ∀ xs : List PyData, PyData.canLayAll0 xs = true → PyData.eqvAll xs xs = true
  | [], _ => by simp [PyData.eqvAll]
  | x :: xs, h => by
    have h' : x.canLay0 = true ∧ PyData.canLayAll0 xs = true := by simpa [PyData.canLayAll0] using h
    simp [PyData.eqvAll, eqv_self x h'.1, eqvAll_self xs h'.2]
end
theorem eqv_shaped {d : PyData} (h : SeqAt.shaped d = true) : PyData.eqv d d = true := eqv_self d (SeqAt.canLay_of_shaped h)
end Mine


set_option Elab.async false
set_option linter.all false
set_option maxRecDepth 100000
set_option maxHeartbeats 4000000

namespace Mine
open PySem L2
def top (i : Nat) : Stmt := PySem.Challenge.pw_leansay_k20_cut_off_and_stays.main.body.getD i (.Pass ⟨0, 0, 0, 0⟩)
abbrev s_common_factor : Stmt := top 4
abbrev n_common_factor : List Str := ["one", "other", "greater", "lesser", "rest"]
theorem sc_common_factor : FnScope n_common_factor ["one", "other"] (defScope s_common_factor) := ⟨rfl, rfl, rfl, by decide +kernel, rfl, by decide +kernel, by decide +kernel⟩
abbrev s_fraction : Stmt := top 5
abbrev n_fraction : List Str := ["top", "bottom", "factor"]
theorem sc_fraction : FnScope n_fraction ["top", "bottom"] (defScope s_fraction) := ⟨rfl, rfl, rfl, by decide +kernel, rfl, by decide +kernel, by decide +kernel⟩
abbrev s_less : Stmt := top 6
abbrev n_less : List Str := ["one", "other"]
theorem sc_less : FnScope n_less ["one", "other"] (defScope s_less) := ⟨rfl, rfl, rfl, by decide +kernel, rfl, by decide +kernel, by decide +kernel⟩
abbrev s_is_outside : Stmt := top 10
abbrev n_is_outside : List Str := ["x"]
theorem sc_is_outside : FnScope n_is_outside ["x"] (defScope s_is_outside) := ⟨rfl, rfl, rfl, by decide +kernel, rfl, by decide +kernel, by decide +kernel⟩
abbrev s_told_by_stretch : Stmt := top 11
abbrev n_told_by_stretch : List Str := ["stretch", "x"]
theorem sc_told_by_stretch : FnScope n_told_by_stretch ["stretch", "x"] (defScope s_told_by_stretch) := ⟨rfl, rfl, rfl, by decide +kernel, rfl, by decide +kernel, by decide +kernel⟩
abbrev s_joined : Stmt := top 12
abbrev n_joined : List Str := ["stretches", "line", "stretch"]
theorem sc_joined : FnScope n_joined ["stretches"] (defScope s_joined) := ⟨rfl, rfl, rfl, by decide +kernel, rfl, by decide +kernel, by decide +kernel⟩
abbrev s_bends : Stmt := top 13
abbrev n_bends : List Str := ["line", "found", "stretch"]
theorem sc_bends : FnScope n_bends ["line"] (defScope s_bends) := ⟨rfl, rfl, rfl, by decide +kernel, rfl, by decide +kernel, by decide +kernel⟩
abbrev s_stays : Stmt := top 14
abbrev n_stays : List Str := ["line"]
theorem sc_stays : FnScope n_stays ["line"] (defScope s_stays) := ⟨rfl, rfl, rfl, by decide +kernel, rfl, by decide +kernel, by decide +kernel⟩
abbrev s_straight : Stmt := top 16
abbrev n_straight : List Str := ["slope", "height"]
theorem sc_straight : FnScope n_straight ["slope", "height"] (defScope s_straight) := ⟨rfl, rfl, rfl, by decide +kernel, rfl, by decide +kernel, by decide +kernel⟩
abbrev s_side_by_side : Stmt := top 17
abbrev n_side_by_side : List Str := ["one", "other", "pieces", "i", "j", "end"]
theorem sc_side_by_side : FnScope n_side_by_side ["one", "other"] (defScope s_side_by_side) := ⟨rfl, rfl, rfl, by decide +kernel, rfl, by decide +kernel, by decide +kernel⟩
abbrev s_turned : Stmt := top 18
abbrev n_turned : List Str := ["line"]
theorem sc_turned : FnScope n_turned ["line"] (defScope s_turned) := ⟨rfl, rfl, rfl, by decide +kernel, rfl, by decide +kernel, by decide +kernel⟩
abbrev s_greater_stretches : Stmt := top 19
abbrev n_greater_stretches : List Str := ["start", "end", "first", "second", "slope", "height", "at_start", "at_end", "greater_at_start", "greater_at_end", "meeting"]
theorem sc_greater_stretches : FnScope n_greater_stretches ["start", "end", "first", "second"] (defScope s_greater_stretches) := ⟨rfl, rfl, rfl, by decide +kernel, rfl, by decide +kernel, by decide +kernel⟩
abbrev s_greater_line : Stmt := top 20
abbrev n_greater_line : List Str := ["one", "other", "stretches", "start", "end", "first", "second"]
theorem sc_greater_line : FnScope n_greater_line ["one", "other"] (defScope s_greater_line) := ⟨rfl, rfl, rfl, by decide +kernel, rfl, by decide +kernel, by decide +kernel⟩
abbrev s_lesser_line : Stmt := top 21
abbrev n_lesser_line : List Str := ["one", "other"]
theorem sc_lesser_line : FnScope n_lesser_line ["one", "other"] (defScope s_lesser_line) := ⟨rfl, rfl, rfl, by decide +kernel, rfl, by decide +kernel, by decide +kernel⟩
abbrev s_cut_off : Stmt := top 22
abbrev n_cut_off : List Str := ["line"]
theorem sc_cut_off : FnScope n_cut_off ["line"] (defScope s_cut_off) := ⟨rfl, rfl, rfl, by decide +kernel, rfl, by decide +kernel, by decide +kernel⟩
abbrev s_l_cell_at : Stmt := top 24
abbrev n_l_cell_at : List Str := ["_law_script", "_law_k", "_law_cell"]
theorem sc_l_cell_at : FnScope n_l_cell_at ["_law_script", "_law_k"] (defScope s_l_cell_at) := ⟨rfl, rfl, rfl, by decide +kernel, rfl, by decide +kernel, by decide +kernel⟩
abbrev s_l_divisor : Stmt := top 25
abbrev n_l_divisor : List Str := ["_law_a", "_law_b", "_law_rest"]
theorem sc_l_divisor : FnScope n_l_divisor ["_law_a", "_law_b"] (defScope s_l_divisor) := ⟨rfl, rfl, rfl, by decide +kernel, rfl, by decide +kernel, by decide +kernel⟩
abbrev s_l_lowest : Stmt := top 26
abbrev n_l_lowest : List Str := ["_law_top", "_law_bottom", "_law_by"]
theorem sc_l_lowest : FnScope n_l_lowest ["_law_top", "_law_bottom"] (defScope s_l_lowest) := ⟨rfl, rfl, rfl, by decide +kernel, rfl, by decide +kernel, by decide +kernel⟩
abbrev s_l_built : Stmt := top 27
abbrev n_l_built : List Str := ["_law_script", "_law_first", "_law_last", "_law_cell", "_law_slope", "_law_height_here", "_law_stretches", "_law_start", "_law_k", "_law_d", "_law_low", "_law_high", "_law_m"]
theorem sc_l_built : FnScope n_l_built ["_law_script", "_law_first", "_law_last"] (defScope s_l_built) := ⟨rfl, rfl, rfl, by decide +kernel, rfl, by decide +kernel, by decide +kernel⟩
abbrev s_l_whole : Stmt := top 28
abbrev n_l_whole : List Str := ["_law_found"]
theorem sc_l_whole : FnScope n_l_whole ["_law_found"] (defScope s_l_whole) := ⟨rfl, rfl, rfl, by decide +kernel, rfl, by decide +kernel, by decide +kernel⟩
abbrev s_l_is_stretch : Stmt := top 29
abbrev n_l_is_stretch : List Str := ["_law_one", "_law_end"]
theorem sc_l_is_stretch : FnScope n_l_is_stretch ["_law_one"] (defScope s_l_is_stretch) := ⟨rfl, rfl, rfl, by decide +kernel, rfl, by decide +kernel, by decide +kernel⟩
abbrev s_l_is_line : Stmt := top 30
abbrev n_l_is_line : List Str := ["_law_line", "_law_start", "_law_k", "_law_one", "_law_end", "_law_ahead", "_law_gap"]
theorem sc_l_is_line : FnScope n_l_is_line ["_law_line"] (defScope s_l_is_line) := ⟨rfl, rfl, rfl, by decide +kernel, rfl, by decide +kernel, by decide +kernel⟩
abbrev s_l_height : Stmt := top 31
abbrev n_l_height : List Str := ["_law_line", "_law_x", "_law_k"]
theorem sc_l_height : FnScope n_l_height ["_law_line", "_law_x"] (defScope s_l_height) := ⟨rfl, rfl, rfl, by decide +kernel, rfl, by decide +kernel, by decide +kernel⟩
abbrev s_l_spots : Stmt := top 32
abbrev n_l_spots : List Str := ["_law_lines", "_law_ends", "_law_line", "_law_spots_here", "_law_one", "_law_two", "_law_part", "_law_top"]
theorem sc_l_spots : FnScope n_l_spots ["_law_lines"] (defScope s_l_spots) := ⟨rfl, rfl, rfl, by decide +kernel, rfl, by decide +kernel, by decide +kernel⟩
abbrev s_l_rising : Stmt := top 33
abbrev n_l_rising : List Str := ["_law_ends", "_law_found", "_law_end", "_law_at"]
theorem sc_l_rising : FnScope n_l_rising ["_law_ends"] (defScope s_l_rising) := ⟨rfl, rfl, rfl, by decide +kernel, rfl, by decide +kernel, by decide +kernel⟩
abbrev s_l_as : Stmt := top 34
abbrev n_l_as : List Str := ["_law_found", "_law_line", "_law_x"]
theorem sc_l_as : FnScope n_l_as ["_law_found", "_law_line"] (defScope s_l_as) := ⟨rfl, rfl, rfl, by decide +kernel, rfl, by decide +kernel, by decide +kernel⟩
abbrev s_l_within : Stmt := top 35
abbrev n_l_within : List Str := ["_law_line", "_law_x"]
theorem sc_l_within : FnScope n_l_within ["_law_line"] (defScope s_l_within) := ⟨rfl, rfl, rfl, by decide +kernel, rfl, by decide +kernel, by decide +kernel⟩
abbrev s_l_truth : Stmt := top 36
abbrev n_l_truth : List Str := ["_law_found", "_law_due"]
theorem sc_l_truth : FnScope n_l_truth ["_law_found", "_law_due"] (defScope s_l_truth) := ⟨rfl, rfl, rfl, by decide +kernel, rfl, by decide +kernel, by decide +kernel⟩
abbrev s_law : Stmt := top 37
abbrev n_law : List Str := ["_law_script", "_law_line", "_law_cell", "_law_x", "_law_by", "_law_found"]
theorem sc_law : FnScope n_law ["_law_script"] (defScope s_law) := ⟨rfl, rfl, rfl, by decide +kernel, rfl, by decide +kernel, by decide +kernel⟩
end Mine

namespace Mine
open PySem L2
local macro_rules | `(tactic| walk_at "mul") => `(tactic| first | exact mulS (by assumption) (by assumption) | exact mulS (by first | assumption | exact sm_of (by omega) | exact sm_of (by decide) | exact sm_mod (by decide) (by decide)) (by first | assumption | exact sm_of (by omega) | exact sm_of (by decide) | exact sm_mod (by decide) (by decide)))
local macro_rules | `(tactic| walk_at "rd1") => `(tactic| first
  | refine ⟨_, rfl, ?_⟩
  | refine ⟨_, _, rfl, rfl, ?_⟩
  | (refine' ⟨_, _, _, _, rfl, rfl, ?sq, ?ia, ?k⟩; (case' sq => first | assumption | exact Scr.l (by assumption)); (case' ia => rfl))
  | refine ⟨rfl, ?_⟩
  | (refine ⟨?m, ?_⟩; (case' m => walk_at "mul"))
  | (refine ⟨?m, ?_⟩; (case' m => show (0 : Int) < _; decide))
  | (refine ⟨?m, ?_⟩; (case' m => exact ⟨by decide, by decide⟩))
  | (refine ⟨?m, ?_⟩; (case' m => exact ⟨by decide, by decide, by decide⟩)))
local macro_rules | `(tactic| walk_at "rd") => `(tactic| repeat walk_at "rd1")
/-! ### what the defs promise -/
def spFactor : Sp := fun vs H Q _ => ∃ a b : Int, vs = [.int a, .int b] ∧ Q (.int (Lo.gc a b)) H
def spLow : Sp := fun vs H Q _ => ∃ t b : Int, vs = [.int t, .int b] ∧ b ≠ 0 ∧ Sm b ∧ ∀ a H', Same H H' → H' a = some (.tup [.int (Lo.lowT t b), .int (Lo.lowB t b)]) → Q (.ref a) H'
def spLess (K : PySem.W.Frag) : Sp := fun vs H Q _ => ∃ (x y : V) (p q r s : Int), vs = [x, y] ∧ Dat K H (frD p q) x ∧ Dat K H (frD r s) y ∧ Sm p ∧ Sm q ∧ Sm r ∧ Sm s ∧ Q (.bl (decide (p * s < r * q))) H
def spCell (K : PySem.W.Frag) : Sp := fun vs H Q _ => ∃ (a : Addr) (ns : List Int) (k : Int), vs = [.ref a, .int k] ∧ Scr K H a ns ∧ 0 ≤ k ∧ k ≤ 100 ∧ ∀ v : Int, 0 ≤ v → v < 10 ^ 18 → Q (.int v) H
def spBuilt (K : PySem.W.Frag) : Sp := fun vs H Q _ => ∃ (a : Addr) (ns : List Int) (f l : Int), vs = [.ref a, .int f, .int l] ∧ Scr K H a ns ∧ 0 ≤ f ∧ f < l ∧ l ≤ 60 ∧
  ∀ (L : List St4) (b : Addr) (us : List V) (H' : Hp), Same H H' → H b = none → H' b = some (.lst us) → DatAll K H' (L.map stD) us → Ln.Line L → (L.length : Int) ≤ l - f → Q (.ref b) H'
section
variable {P : Program} {w : World} {K : PySem.W.Frag} {mg : Str → Option Value} {base : Heap}
theorem ok_factor (T : TopDef K mg "common_factor" s_common_factor) (Z_abs : mg "abs" = none) : Def P w K mg base 1 "common_factor" ["one", "other"] spFactor := by
  refine def_of T sc_common_factor (fun _ _ _ _ _ _ us hl => match us, hl with | [_, _], _ => rfl) (fun vs H Q E h => ?_) (fun f cdv A outer s H vs Q E hr h => ?_)
  · obtain ⟨a, b, rfl, _⟩ := h
    rfl
  obtain ⟨a, b, rfl, q⟩ := h
  have nd := sc_common_factor.nd
  refine ⟨_, (pss_cons (ps_set (i := 2) nd rfl (Or.inl rfl) (pe_callB call_abs rfl Z_abs (by decide +kernel) (pa_cons (pv 0) pa_nil)))
    (pss_cons (ps_set (i := 3) nd rfl (Or.inl rfl) (pe_callB call_abs rfl Z_abs (by decide +kernel) (pa_cons (pv 1) pa_nil)))
    (pss_cons (ps_while PassesOwn.never (pt_cmpR op_ne (pv 3) pe_int (nomark _)) (pss_cons (ps_set (i := 4) nd rfl (Or.inl rfl) (pe_op op_modN (pv 2) (pv 3)))
    (pss_cons (ps_set (i := 2) nd rfl (Or.inl rfl) (pv 3))
    (pss_one (ps_set (i := 3) nd rfl (Or.inl rfl) (pv 4))))))
    (pss_one (ps_ret (pv 2)))))), ?_⟩
  refine ⟨_, rfl, _, rfl, _, rfl, _, rfl, ?_⟩
  rw [abs_is, abs_is]
  refine ⟨fun m σ H' => H' = H ∧ ∃ (g l : Int) (o : Option V), σ = [some (.int a), some (.int b), some (.int g), some (.int l), o] ∧ 0 ≤ g ∧ 0 ≤ l ∧ l.toNat = m ∧ Lo.gc g l = Lo.gc a b, ⟨_, rfl, _, _, _, rfl, by omega, by omega, rfl, Lo.gc_natAbs a b⟩, ?_⟩
  rintro m σ H' ⟨rfl, g, l, o, rfl, hg, hl, rfl, e⟩
  refine ⟨_, rfl, rfl, _, rfl, ?_⟩
  refine ite2 (fun c => ?_) (fun c => ?_)
  · have c' : l ≠ 0 := fun z => by
      rw [z, decide_eq_true (rfl : V.int 0 = V.int 0)] at c
      cases c
    have c2 : 0 < l := by omega
    refine ⟨fun σ' H'' => H'' = H' ∧ σ' = [some (.int a), some (.int b), some (.int l), some (.int (g.fmod l)), some (.int (g.fmod l))], ?_, ?_⟩
    · rintro σ' H'' ⟨rfl, rfl⟩
      have z0 := Int.fmod_nonneg_of_pos g c2
      have z1 := Int.fmod_lt_of_pos g c2
      exact ⟨_, (show (g.fmod l).toNat < l.toNat by omega), rfl, l, g.fmod l, _, rfl, by omega, z0, rfl, by rw [Lo.gc_turn]; exact e⟩
    · exact ⟨_, rfl, _, rfl, _, _, rfl, rfl, c', _, rfl, _, rfl, rfl, rfl⟩
  · have l0 : l = 0 := by
      by_cases z : l = 0
      · exact z
      · exfalso
        refine c ?_
        have n : ¬ (V.int l = V.int 0) := fun q => z (V.int.inj q)
        rw [decide_eq_false n]
        rfl
    subst l0
    rw [Lo.gc_zero hg] at e
    subst e
    exact ⟨_, rfl, q⟩
theorem ok_fraction (T : TopDef K mg "fraction" s_fraction) (D_common_factor : Def P w K mg base 1 "common_factor" ["one", "other"] spFactor) : Def P w K mg base 2 "fraction" ["top", "bottom"] spLow := by
  refine def_of T sc_fraction (fun _ _ _ _ _ _ us hl => match us, hl with | [_, _], _ => rfl) (fun vs H Q E h => ?_) (fun f cdv A outer s H vs Q E hr h => ?_)
  · obtain ⟨t, b, rfl, _⟩ := h
    rfl
  obtain ⟨t, b, rfl, hb, hs, q⟩ := h
  have nd := sc_fraction.nd
  refine ⟨_, (pss_cons (ps_if (pt_cmpR op_eq (pv 1) pe_int (nomark _)) (pss_one ps_never) pss_nil)
    (pss_cons (ps_set (i := 2) nd rfl (Or.inl rfl) (pe_def D_common_factor (hr.mono (by decide)) rfl (pa_cons (pv 0) (pa_cons (pv 1) pa_nil))))
    (pss_cons (ps_if (pt_cmpR op_lt (pv 1) pe_int (nomark _)) (pss_one (ps_set (i := 2) nd rfl (Or.inl rfl) (pe_un un_neg (pv 2)))) pss_nil)
    (pss_one (ps_ret (pe_tup (pa_cons (pe_op op_fdivK (pv 0) (pv 2)) (pa_cons (pe_op op_fdivK (pv 1) (pv 2)) pa_nil)))))))), ?_⟩
  refine ⟨_, rfl, rfl, _, rfl, ?_⟩
  refine ite2 (fun c => absurd (V.int.inj (of_decide_eq_true c)) hb) (fun c => ?_)
  have hg2 : Sm (Lo.sg t b) := Nat.lt_of_le_of_lt (Lo.sg_le hb) hs
  refine ⟨_, rfl, _, rfl, t, b, rfl, ?_⟩
  refine ⟨_, rfl, _, _, rfl, rfl, _, rfl, ?_⟩
  refine ite2 (fun c => ?_) (fun c => ?_)
  · have c2 : b < 0 := of_decide_eq_true c
    have es : -(Lo.gc t b) = Lo.sg t b := by unfold Lo.sg; rw [if_pos c2]
    refine ⟨_, rfl, _, rfl, _, rfl, _, rfl, _, _, rfl, rfl, (by rw [es]; exact div_ok (Lo.sg_ne hb) hg2), _, rfl, _, rfl, _, _, rfl, rfl, (by rw [es]; exact div_ok (Lo.sg_ne hb) hg2), (by show 2 ≤ sizeLine; decide), fun p hp => ?_⟩
    rw [es]
    exact q p _ (same_new hp _) upd_same
  · have c2 : ¬ b < 0 := fun z => c (decide_eq_true z)
    have es : Lo.gc t b = Lo.sg t b := by unfold Lo.sg; rw [if_neg c2]
    refine ⟨_, rfl, _, rfl, _, _, rfl, rfl, (by rw [es]; exact div_ok (Lo.sg_ne hb) hg2), _, rfl, _, rfl, _, _, rfl, rfl, (by rw [es]; exact div_ok (Lo.sg_ne hb) hg2), (by show 2 ≤ sizeLine; decide), fun p hp => ?_⟩
    rw [es]
    exact q p _ (same_new hp _) upd_same
theorem ok_less (T : TopDef K mg "less" s_less) : Def P w K mg base 1 "less" ["one", "other"] (spLess K) := by
  refine def_of T sc_less (fun _ _ _ _ _ _ us hl => match us, hl with | [_, _], _ => rfl) (fun vs H Q E h => ?_) (fun f cdv A outer s H vs Q E hr h => ?_)
  · obtain ⟨x, y, p, q, r, s, rfl, _⟩ := h
    rfl
  obtain ⟨x, y, p, q, r, s, rfl, hx, hy, b1, b2, b3, b4, k⟩ := h
  obtain ⟨a, rfl, sa⟩ := fr_el hx
  obtain ⟨c, rfl, sc⟩ := fr_el hy
  have nd := sc_less.nd
  refine ⟨_, (pss_one (ps_ret (pe_cmpR op_lt (pe_op op_mulK (pe_ix ix_tup (pv 0) pe_int (fun _ _ => rfl)) (pe_ix ix_tup (pv 1) pe_int (fun _ _ => rfl))) (pe_op op_mulK (pe_ix ix_tup (pv 1) pe_int (fun _ _ => rfl)) (pe_ix ix_tup (pv 0) pe_int (fun _ _ => rfl))) (nomark _)))), ?_⟩
  walk_at "rd"
  exact k
theorem ok_cell_at (T : TopDef K mg "_law_cell_at" s_l_cell_at) (Z_len : mg "len" = none) : Def P w K mg base 1 "_law_cell_at" ["_law_script", "_law_k"] (spCell K) := by
  refine def_of T sc_l_cell_at (fun _ _ _ _ _ _ us hl => match us, hl with | [_, _], _ => rfl) (fun vs H Q E h => ?_) (fun f cdv A outer s H vs Q E hr h => ?_)
  · obtain ⟨a, ns, k, rfl, _⟩ := h
    rfl
  obtain ⟨a, ns, k, rfl, S, h0, h1, q⟩ := h
  have nd := sc_l_cell_at.nd
  have hl : (ns.map V.int).length = ns.length := List.length_map _
  have tail : ∃ t, PSs (cxOf CX0 P w K mg base n_l_cell_at "_law_cell_at" (defScope s_l_cell_at) f cdv A outer s H E).nox ((defBody s_l_cell_at).drop 2) t ∧
      ∀ v : Int, 0 ≤ v → v < 10 ^ 18 → t { nx := fun _ H' => Q .non H', rt := Q } [some (.ref a), some (.int k), some (.int v)] H := by
    refine ⟨_, (pss_cons (ps_if (PW.pt (pw_and (pt_cmpR op_gt (pe_callB call_len rfl Z_len (by decide +kernel) (pa_cons (pv 0) pa_nil)) pe_int (nomark _)) (pw_and1 (pt_cmpR op_eq (pe_op op_mod (pe_ix ix_list (pv 0) pe_int (fun _ _ => rfl)) pe_int) pe_int (nomark _))))) (pss_one (ps_ret (pv 2))) pss_nil)
    (pss_one (ps_ret (pe_op op_mod (pe_op op_mulK (pe_op op_mod (pe_op op_add (pe_op op_mulK (pv 2) pe_int) (pe_op op_mulK pe_int (pv 1))) pe_int) pe_int) pe_int)))), fun v v0 v1 => ?_⟩
    have fin : ∀ x : Int, Q (.int (x % 2147483629)) H := fun x => q _ (Int.emod_nonneg _ (by decide)) (Int.lt_trans (Int.emod_lt_of_pos x (by decide)) (by decide))
    have sv : Sm v := sm_of (by omega)
    have sk : Sm k := sm_of (by omega)
    refine ⟨_, rfl, _, _, rfl, .inl ⟨_, S.l, rfl⟩, ?_⟩
    walk_at "rd"
    refine ite2 (fun c => ?_) (fun c => iteF ?_)
    · have c' : (0 : Int) < ((ns.map V.int).length : Nat) := of_decide_eq_true c
      rw [hl] at c'
      obtain ⟨u, hu, mu⟩ := at_script (ns := ns) (Int.le_refl 0) c'
      refine ⟨_, rfl, _, _, _, _, rfl, rfl, S.l, hu, _, _, rfl, rfl, (show (0 : Int) < _ by decide), rfl, _, rfl, ?_⟩
      refine ite2 (fun c2 => ⟨_, rfl, q v v0 v1⟩) (fun c2 => ?_)
      walk_at "rd"
      exact fin _
    · walk_at "rd"
      exact fin _
  obtain ⟨t2, ht2, hq2⟩ := tail
  refine ⟨_, pss_cons (ps_set (i := 2) nd rfl (Or.inl rfl) pe_int) (pss_cons (ps_if (pt_cmpR op_lt (pv 1) (pe_callB call_len rfl Z_len (by decide +kernel) (pa_cons (pv 0) pa_nil)) (nomark _)) (pss_one (ps_set (i := 2) nd rfl (Or.inl rfl) (pe_op op_mod (pe_ix ix_list (pv 0) (pv 1) (fun _ _ => rfl)) (pe_op op_pow pe_int pe_int)))) pss_nil) ht2), ?_⟩
  refine ⟨_, rfl, _, rfl, _, _, rfl, .inl ⟨_, S.l, rfl⟩, _, _, rfl, rfl, _, rfl, ?_⟩
  refine ite2 (fun c => ?_) (fun c => ?_)
  · have c' : k < (((ns.map V.int).length : Nat) : Int) := of_decide_eq_true c
    rw [hl] at c'
    obtain ⟨u, hu, mu⟩ := at_script (ns := ns) h0 c'
    refine ⟨_, rfl, _, rfl, _, _, _, _, rfl, rfl, S.l, hu, _, _, rfl, rfl, ⟨by decide, by decide, by decide⟩, _, _, rfl, rfl, (show (0 : Int) < _ by decide), ?_⟩
    exact hq2 _ (Int.emod_nonneg _ (by decide)) (Int.emod_lt_of_pos _ (by decide))
  · exact hq2 0 (by decide) (by decide)
theorem ok_divisor (T : TopDef K mg "_law_divisor" s_l_divisor) (Z_abs : mg "abs" = none) : Def P w K mg base 1 "_law_divisor" ["_law_a", "_law_b"] spFactor := by
  refine def_of T sc_l_divisor (fun _ _ _ _ _ _ us hl => match us, hl with | [_, _], _ => rfl) (fun vs H Q E h => ?_) (fun f cdv A outer s H vs Q E hr h => ?_)
  · obtain ⟨a, b, rfl, _⟩ := h
    rfl
  obtain ⟨a, b, rfl, q⟩ := h
  have nd := sc_l_divisor.nd
  refine ⟨_, (pss_cons (ps_set (i := 0) nd rfl (Or.inl rfl) (pe_callB call_abs rfl Z_abs (by decide +kernel) (pa_cons (pv 0) pa_nil)))
    (pss_cons (ps_set (i := 1) nd rfl (Or.inl rfl) (pe_callB call_abs rfl Z_abs (by decide +kernel) (pa_cons (pv 1) pa_nil)))
    (pss_cons (ps_while PassesOwn.never (pt_cmpR op_gt (pv 1) pe_int (nomark _)) (pss_cons (ps_set (i := 2) nd rfl (Or.inl rfl) (pe_op op_modN (pv 0) (pv 1)))
    (pss_cons (ps_set (i := 0) nd rfl (Or.inl rfl) (pv 1))
    (pss_one (ps_set (i := 1) nd rfl (Or.inl rfl) (pv 2))))))
    (pss_one (ps_ret (pv 0)))))), ?_⟩
  refine ⟨_, rfl, _, rfl, _, rfl, _, rfl, ?_⟩
  rw [abs_is, abs_is]
  refine ⟨fun m σ H' => H' = H ∧ ∃ (g l : Int) (o : Option V), σ = [some (.int g), some (.int l), o] ∧ 0 ≤ g ∧ 0 ≤ l ∧ l.toNat = m ∧ Lo.gc g l = Lo.gc a b, ⟨_, rfl, _, _, _, rfl, by omega, by omega, rfl, Lo.gc_natAbs a b⟩, ?_⟩
  rintro m σ H' ⟨rfl, g, l, o, rfl, hg, hl, rfl, e⟩
  refine ⟨_, rfl, _, _, rfl, rfl, _, rfl, ?_⟩
  refine ite2 (fun c => ?_) (fun c => ?_)
  · have c2 : 0 < l := of_decide_eq_true c
    refine ⟨fun σ' H'' => H'' = H' ∧ σ' = [some (.int l), some (.int (g.fmod l)), some (.int (g.fmod l))], ?_, ?_⟩
    · rintro σ' H'' ⟨rfl, rfl⟩
      have z0 := Int.fmod_nonneg_of_pos g c2
      have z1 := Int.fmod_lt_of_pos g c2
      exact ⟨_, (show (g.fmod l).toNat < l.toNat by omega), rfl, l, g.fmod l, _, rfl, by omega, z0, rfl, by rw [Lo.gc_turn]; exact e⟩
    · exact ⟨_, rfl, _, rfl, _, _, rfl, rfl, (by omega), _, rfl, _, rfl, rfl, rfl⟩
  · have c2 : ¬ 0 < l := fun z => c (decide_eq_true z)
    have l0 : l = 0 := by omega
    subst l0
    rw [Lo.gc_zero hg] at e
    subst e
    exact ⟨_, rfl, q⟩
theorem ok_lowest (T : TopDef K mg "_law_lowest" s_l_lowest) (D__law_divisor : Def P w K mg base 1 "_law_divisor" ["_law_a", "_law_b"] spFactor) : Def P w K mg base 2 "_law_lowest" ["_law_top", "_law_bottom"] spLow := by
  refine def_of T sc_l_lowest (fun _ _ _ _ _ _ us hl => match us, hl with | [_, _], _ => rfl) (fun vs H Q E h => ?_) (fun f cdv A outer s H vs Q E hr h => ?_)
  · obtain ⟨t, b, rfl, _⟩ := h
    rfl
  obtain ⟨t, b, rfl, hb, hs, q⟩ := h
  have nd := sc_l_lowest.nd
  have tail : ∃ tt, PSs (cxOf CX0 P w K mg base n_l_lowest "_law_lowest" (defScope s_l_lowest) f cdv A outer s H E).nox ((defBody s_l_lowest).drop 1) tt ∧
      ∀ t' b' : Int, 0 < b' → Sm b' → Lo.lowT t' b' = Lo.lowT t b → Lo.lowB t' b' = Lo.lowB t b → tt { nx := fun _ H' => Q .non H', rt := Q } [some (.int t'), some (.int b'), none] H := by
    refine ⟨_, (pss_cons (ps_set (i := 2) nd rfl (Or.inl rfl) (pe_def D__law_divisor (hr.mono (by decide)) rfl (pa_cons (pv 0) (pa_cons (pv 1) pa_nil))))
    (pss_one (ps_ret (pe_tup (pa_cons (pe_op op_fdivK (pv 0) (pv 2)) (pa_cons (pe_op op_fdivK (pv 1) (pv 2)) pa_nil)))))), fun t' b' h0 hs' e1 e2 => ?_⟩
    have es : Lo.gc t' b' = Lo.sg t' b' := by unfold Lo.sg; rw [if_neg (by omega)]
    have hg2 : Sm (Lo.sg t' b') := Nat.lt_of_le_of_lt (Lo.sg_le (by omega)) hs'
    refine ⟨_, rfl, _, rfl, t', b', rfl, ?_⟩
    refine ⟨_, rfl, _, rfl, _, _, rfl, rfl, (by rw [es]; exact div_ok (Lo.sg_ne (by omega)) hg2), _, rfl, _, rfl, _, _, rfl, rfl, (by rw [es]; exact div_ok (Lo.sg_ne (by omega)) hg2), (by show 2 ≤ sizeLine; decide), fun p hp => ?_⟩
    rw [es]
    refine q p _ (same_new hp _) ?_
    rw [upd_same, ← e1, ← e2]
    rfl
  obtain ⟨t2, ht2, hq2⟩ := tail
  refine ⟨_, pss_cons (ps_if (pt_cmpR op_lt (pv 1) pe_int (nomark _)) (pss_cons (ps_set (i := 0) nd rfl (Or.inl rfl) (pe_un un_neg (pv 0)))
    (pss_one (ps_set (i := 1) nd rfl (Or.inl rfl) (pe_un un_neg (pv 1))))) pss_nil) ht2, ?_⟩
  refine ⟨_, rfl, _, _, rfl, rfl, _, rfl, ?_⟩
  refine ite2 (fun c => ?_) (fun c => ?_)
  · have c2 : b < 0 := of_decide_eq_true c
    refine ⟨_, rfl, _, rfl, _, rfl, _, rfl, ?_⟩
    have m1 := Lo.lowT_mul (f := -1) (by decide) t hb
    have m2 := Lo.lowB_mul (f := -1) (by decide) t hb
    rw [Int.neg_one_mul, Int.neg_one_mul] at m1 m2
    exact hq2 (-t) (-b) (by omega) hs.neg m1 m2
  · have c2 : ¬ b < 0 := fun z => c (decide_eq_true z)
    exact hq2 t b (by omega) hs rfl rfl
end
end Mine

namespace Mine
open PySem L2
local macro_rules | `(tactic| walk_at "mul") => `(tactic| first | exact mulS (by assumption) (by assumption) | exact mulS (by first | assumption | exact sm_of (by omega) | exact sm_of (by decide) | exact sm_mod (by decide) (by decide)) (by first | assumption | exact sm_of (by omega) | exact sm_of (by decide) | exact sm_mod (by decide) (by decide)))
local macro_rules | `(tactic| walk_at "rd1") => `(tactic| first
  | refine ⟨_, rfl, ?_⟩
  | refine ⟨_, _, rfl, rfl, ?_⟩
  | (refine' ⟨_, _, _, _, rfl, rfl, ?sq, ?ia, ?k⟩; (case' sq => first | assumption | exact Scr.l (by assumption)); (case' ia => rfl))
  | refine ⟨rfl, ?_⟩
  | (refine ⟨?m, ?_⟩; (case' m => walk_at "mul"))
  | (refine ⟨?m, ?_⟩; (case' m => exact div_ok (by first | assumption | omega) (by assumption)))
  | (refine ⟨?m, ?_⟩; (case' m => show (0 : Int) < _; decide))
  | (refine ⟨?m, ?_⟩; (case' m => exact ⟨by decide, by decide⟩))
  | (refine ⟨?m, ?_⟩; (case' m => exact ⟨by decide, by decide, by decide⟩)))
local macro_rules | `(tactic| walk_at "rd") => `(tactic| repeat walk_at "rd1")
def forBody (s : Stmt) : List Stmt := match s with
  | .For _ _ b _ _ => b
  | _ => []
def stAt (s : Stmt) (i : Nat) : Stmt := (defBody s).getD i (.Pass ⟨0, 0, 0, 0⟩)
/-- between two turns of the maker's loop -/
def BtInv (K : PySem.W.Frag) (H : Hp) (a b : Addr) (f l : Int) (i : Nat) (σ : St) (H' : Hp) : Prop := ∃ (S : List St4) (us : List V) (t : Addr) (p q m h : Int) (o3 o8 o9 o10 o11 o12 : Option V),
  σ = [some (.ref a), some (.int f), some (.int l), o3, some (.int m), some (.int h), some (.ref b), some (.ref t), o8, o9, o10, o11, o12] ∧ Same H H' ∧ H' b = some (.lst us) ∧ DatAll K H' (S.map stD) us ∧ H' t = some (.tup [.int p, .int q]) ∧ Ln.Bt S p q m h i
section
variable {P : Program} {w : World} {K : PySem.W.Frag} {mg : Str → Option Value} {base : Heap}
theorem ok_built (T : TopDef K mg "_law_built" s_l_built) (Z_len : mg "len" = none) (Z_min : mg "min" = none) (Z_range : mg "range" = none) (D__law_cell_at : Def P w K mg base 1 "_law_cell_at" ["_law_script", "_law_k"] (spCell K))
    (D__law_lowest : Def P w K mg base 2 "_law_lowest" ["_law_top", "_law_bottom"] spLow) : Def P w K mg base 3 "_law_built" ["_law_script", "_law_first", "_law_last"] (spBuilt K) := by
  refine def_of T sc_l_built (fun _ _ _ _ _ _ us hl => match us, hl with | [_, _, _], _ => rfl) (fun vs H Q E h => ?_) (fun f cdv A outer s H vs Q E hr h => ?_)
  · obtain ⟨a, ns, f, l, rfl, _⟩ := h
    rfl
  obtain ⟨a, ns, f0, l, rfl, S, f1, f2, l2, q⟩ := h
  have nd := sc_l_built.nd
  -- the last statement of a turn
  have t6 : ∃ t, PSs (cxOf CX0 P w K mg base n_l_built "_law_built" (defScope s_l_built) f cdv A outer s H E).nox ((forBody (stAt s_l_built 6)).drop 6) t ∧
      ∀ (N B : St → Hp → Prop) (b tt : Addr) (S : List St4) (us : List V) (H' : Hp) (cell d low high m h p q : Int) (o8 o12 : Option V) (i : Nat), i < 64 → H b = none → Same H H' → H' b = some (.lst us) → DatAll K H' (S.map stD) us → H' tt = some (.tup [.int p, .int q]) → Ln.Bt S p q m h i →
        2 ≤ d.natAbs → d.natAbs ≤ 100001 → ((0 < d ∧ low = (d * p) / q + 1 ∧ high = d - 1) ∨ (d < 0 ∧ low = d + 1 ∧ high = -(((-d) * p) / q) - 1)) →
        (∀ σ' H'', BtInv K H a b f0 l (i + 1) σ' H'' → N σ' H'') →
        t { nx := N, ct := N, bk := B, rt := Q } [some (.ref a), some (.int f0), some (.int l), some (.int cell), some (.int m), some (.int h), some (.ref b), some (.ref tt), o8, some (.int d), some (.int low), some (.int high), o12] H' := by
    refine ⟨_, (pss_one (ps_if (pt_cmpR op_le (pv 10) (pv 11) (nomark _)) (pss_cons (ps_set (i := 12) nd rfl (Or.inl rfl) (pe_op op_add (pv 10) (pe_op op_modN (pe_op op_fdiv (pv 3) pe_int) (pe_op op_add (pe_op op_sub (pv 11) (pv 10)) pe_int))))
    (pss_cons (ps_set (i := 7) nd rfl (Or.inl rfl) (pe_def D__law_lowest (hr.mono (by decide)) rfl (pa_cons (pv 12) (pa_cons (pv 9) pa_nil))))
    (pss_cons (ps_expr (pe_bm PySem.F.plainAttrs_list PySem.F.slot_list_append PySem.F.type_list_append mt_append (pv 6) (pa_cons (pe_tup (pa_cons (pv 7) (pa_cons (pv 4) (pa_cons (pv 5) pa_nil)))) pa_nil)))
    (pss_cons (ps_set (i := 4) nd rfl (Or.inl rfl) (pe_op op_sub (pv 4) (pv 9)))
    (pss_one (ps_set (i := 5) nd rfl (Or.inl rfl) (pe_op op_add (pv 5) (pv 12)))))))) pss_nil)), ?_⟩
    intro N B b tt S us H' cell d low high m h p q' o8 o12 i hi hb sm hl da ht bt d1 d2 dd n
    walk_at "rd"
    refine ite2 (fun c => ?_) (fun c => ?_)
    · have c' : low ≤ high := of_decide_eq_true c
      have z0 : (0 : Int) < high - low + 1 := by omega
      have y0 := Int.fmod_nonneg_of_pos (cell / 9000000) z0
      have y1 := Int.fmod_lt_of_pos (cell / 9000000) z0
      refine ⟨_, rfl, _, rfl, _, _, rfl, rfl, ⟨by decide, by decide⟩, _, rfl, _, rfl, _, _, rfl, rfl, _, _, rfl, rfl, _, _, rfl, rfl, (by omega), _, _, rfl, rfl, ?_⟩
      have st := bt.step (d := d) (mm := (low + (cell / 9000000).fmod (high - low + 1))) hi d1 d2 (by
        rcases dd with ⟨x1, x2, x3⟩ | ⟨x1, x2, x3⟩
        · exact .inl ⟨x1, by omega, by omega⟩
        · exact .inr ⟨x1, by omega, by omega⟩)
      refine ⟨_, rfl, _, rfl, (low + (cell / 9000000).fmod (high - low + 1)), d, rfl, by omega, sm_of (by omega), fun t2 H2 s2 e2 => ?_⟩
      have hl2 := s2 _ _ hl
      refine ⟨_, rfl, .inl ⟨rfl, _, SqL.of hl2⟩, _, rfl, _, rfl, _, rfl, (by show 3 ≤ sizeLine; decide), fun p3 h3 => ?_⟩
      have s3 := same_new h3 (.tup [.ref t2, .int m, .int h])
      have hl3 := s3 _ _ hl2
      have len : us.length ≤ 1000 := by rw [ln_len da]; have := bt.len; omega
      refine ⟨b, us, _, rfl, rfl, hl3, small1000 len, ?_⟩
      refine ⟨_, rfl, _, rfl, _, _, rfl, rfl, ?_⟩
      refine ⟨_, rfl, _, rfl, _, _, rfl, rfl, ?_⟩
      have t4 : Tst (upd H2 p3 (.tup [.ref t2, .int m, .int h])) (upd (upd H2 p3 (.tup [.ref t2, .int m, .int h])) b (.lst (us ++ [.ref p3]))) := ts_mut hl3
      refine n _ _ ⟨S ++ [⟨Lo.lowT (low + (cell / 9000000).fmod (high - low + 1)) d, Lo.lowB (low + (cell / 9000000).fmod (high - low + 1)) d, m, h⟩], us ++ [.ref p3], t2, Lo.lowT (low + (cell / 9000000).fmod (high - low + 1)) d, Lo.lowB (low + (cell / 9000000).fmod (high - low + 1)) d, m - d, h + (low + (cell / 9000000).fmod (high - low + 1)), _, _, _, _, _, _, rfl, same_mut (sm.trans (s2.trans s3)) hb _, upd_same, ?_, t4.t _ _ (s3 _ _ e2), st⟩
      rw [List.map_append]
      refine (da.ts ((s2.trans s3).ts.trans t4)).snoc ?_
      exact st_mk (s := ⟨Lo.lowT (low + (cell / 9000000).fmod (high - low + 1)) d, Lo.lowB (low + (cell / 9000000).fmod (high - low + 1)) d, m, h⟩) (SqT.of (t4.t _ _ upd_same)) (fr_mk (SqT.of (t4.t _ _ (s3 _ _ e2))))
    · exact n _ _ ⟨S, us, tt, p, q', m, h, _, _, _, _, _, _, rfl, sm, hl, da, ht, bt.skip⟩
  obtain ⟨t6, ht6, hq6⟩ := t6
  have t3 : ∃ t, PSs (cxOf CX0 P w K mg base n_l_built "_law_built" (defScope s_l_built) f cdv A outer s H E).nox ((forBody (stAt s_l_built 6)).drop 3) t ∧
      ∀ (N B : St → Hp → Prop) (b tt : Addr) (S : List St4) (us : List V) (H' : Hp) (cell d m h p q : Int) (o8 o10 o11 o12 : Option V) (i : Nat), i < 64 → H b = none → Same H H' → H' b = some (.lst us) → DatAll K H' (S.map stD) us → H' tt = some (.tup [.int p, .int q]) → Ln.Bt S p q m h i →
        2 ≤ d → d ≤ 100001 → (∀ σ' H'', BtInv K H a b f0 l (i + 1) σ' H'' → N σ' H'') →
        t { nx := N, ct := N, bk := B, rt := Q } [some (.ref a), some (.int f0), some (.int l), some (.int cell), some (.int m), some (.int h), some (.ref b), some (.ref tt), o8, some (.int d), o10, o11, o12] H' := by
    refine ⟨_, pss_cons (ps_set (i := 10) nd rfl (Or.inl rfl) (pe_op op_add (pe_op op_fdivK (pe_op op_mulK (pv 9) (pe_ix ix_tup (pv 7) pe_int (fun _ _ => rfl))) (pe_ix ix_tup (pv 7) pe_int (fun _ _ => rfl))) pe_int)) (pss_cons (ps_set (i := 11) nd rfl (Or.inl rfl) (pe_op op_sub (pv 9) pe_int)) (pss_cons (ps_if (pt_cmpR op_eq (pe_op op_mod (pv 3) pe_int) pe_int (nomark _)) (pss_cons (ps_set (i := 9) nd rfl (Or.inl rfl) (pe_un un_neg (pv 9)))
    (pss_cons (ps_set (i := 10) nd rfl (Or.inl rfl) (pe_op op_add (pv 9) pe_int))
    (pss_one (ps_set (i := 11) nd rfl (Or.inl rfl) (pe_op op_sub (pe_un un_neg (pe_op op_fdivK (pe_op op_mulK (pe_un un_neg (pv 9)) (pe_ix ix_tup (pv 7) pe_int (fun _ _ => rfl))) (pe_ix ix_tup (pv 7) pe_int (fun _ _ => rfl)))) pe_int))))) pss_nil) ht6)), ?_⟩
    intro N B b tt S us H' cell d m h p q' o8 o10 o11 o12 i hi hb sm hl da ht bt d1 d2 n
    have sq : SqT K H' tt [.int p, .int q'] := SqT.of ht
    have b1 := bt.p0
    have b2 := bt.pq
    have b3 := bt.qb
    have sp : Sm p := sm_of (by omega)
    have sq' : Sm q' := sm_of (by omega)
    have sd : Sm d := sm_of (by omega)
    have sdn : Sm (- -d) := sm_of (by omega)
    have q0 : q' ≠ 0 := by omega
    have fd : ∀ x : Int, x.fdiv q' = x / q' := fun x => Int.fdiv_eq_ediv_of_nonneg x (by omega)
    walk_at "rd"
    refine ite2 (fun c => ?_) (fun c => ?_)
    · walk_at "rd"
      exact hq6 N B b tt S us H' cell (-d) _ _ m h p q' _ _ i hi hb sm hl da ht bt (by omega) (by omega) (.inr ⟨by omega, rfl, by rw [fd]⟩) n
    · exact hq6 N B b tt S us H' cell d _ _ m h p q' _ _ i hi hb sm hl da ht bt (by omega) (by omega) (.inl ⟨by omega, by rw [fd], rfl⟩) n
  obtain ⟨t3, ht3, hq3⟩ := t3
  -- from the empty list on
  have r4 : ∃ t, PSs (cxOf CX0 P w K mg base n_l_built "_law_built" (defScope s_l_built) f cdv A outer s H E).nox ((defBody s_l_built).drop 4) t ∧
      ∀ (m h : Int) (o3 : Option V), m.natAbs ≤ 1000000 → h.natAbs ≤ 100000000 → t { nx := fun _ H' => Q .non H', rt := Q } [some (.ref a), some (.int f0), some (.int l), o3, some (.int m), some (.int h), none, none, none, none, none, none, none] H := by
    refine ⟨_, pss_cons (ps_set (i := 6) nd rfl (Or.inl rfl) (pe_lst pa_nil)) (pss_cons (ps_set (i := 7) nd rfl (Or.inl rfl) (pe_tup (pa_cons pe_int (pa_cons pe_int pa_nil)))) (pss_cons (ps_for PassesOwn.never rfl (pi_range2 rfl Z_range (pa_cons (pe_op op_add (pv 1) pe_int) (pa_cons (pe_callB (call_min2 rfl) rfl Z_min (by decide +kernel) (pa_cons (pe_callB call_len rfl Z_len (by decide +kernel) (pa_cons (pv 0) pa_nil)) (pa_cons (pv 2) pa_nil))) pa_nil))) (pg_name (i := 8) nd rfl (Or.inl rfl)) (pss_cons (ps_set (i := 3) nd rfl (Or.inl rfl) (pe_def D__law_cell_at (hr.mono (by decide)) rfl (pa_cons (pv 0) (pa_cons (pv 8) pa_nil)))) (pss_cons (ps_set (i := 9) nd rfl (Or.inl rfl) (pe_op op_add pe_int (pe_op op_mod (pe_op op_fdiv (pv 3) pe_int) pe_int))) (pss_cons (ps_if (pt_cmpR op_eq (pe_op op_mod (pe_op op_fdiv (pv 3) pe_int) pe_int) pe_int (nomark _)) (pss_one (ps_set (i := 9) nd rfl (Or.inl rfl) (pe_op op_add pe_int (pe_op op_mod (pe_op op_fdiv (pv 3) pe_int) pe_int)))) pss_nil) ht3)))) (pss_one (ps_ret (pe_op op_cat (pv 6) (pe_lst (pa_cons (pe_tup (pa_cons (pe_tup (pa_cons pe_int (pa_cons pe_int pa_nil))) (pa_cons (pv 4) (pa_cons (pv 5) pa_nil)))) pa_nil))))))), ?_⟩
    intro m h o3 hm hh
    refine ⟨(by show 0 ≤ sizeLine; decide), fun b hb => ?_⟩
    have s1 := same_new hb (.lst [])
    refine ⟨(by show 2 ≤ sizeLine; decide), fun t0 h0 => ?_⟩
    have s2 := same_new h0 (.tup [.int 0, .int 1])
    have few := S.few
    refine ⟨_, rfl, _, _, rfl, rfl, _, rfl, _, _, rfl, .inl ⟨_, (S.ts (s1.trans s2).ts).l, rfl⟩, _, rfl, _, _, rfl, _, _, rfl, ⟨by omega, by omega, (by rw [List.length_map]; split <;> omega), (by rw [List.length_map]; split <;> omega)⟩, ?_⟩
    have nn : ∀ z : Int, z = (if l < ((ns.map V.int).length : Int) then l else ((ns.map V.int).length : Int)) - (f0 + 1) → z.toNat ≤ 63 ∧ (z.toNat : Int) ≤ l - f0 - 1 := by
      intro z hz
      rw [List.length_map] at hz
      split at hz <;> exact ⟨by omega, by omega⟩
    refine for_range (fun i σ H' => i ≤ 63 ∧ BtInv K H a b f0 l i σ H') ⟨by omega, [], [], t0, 0, 1, m, h, _, _, _, _, _, _, rfl, s1.trans s2, s2 _ _ upd_same, rfl, upd_same, Ln.Bt.start hm hh⟩ (fun i σ H' hi hI => ?_) (fun σ H' hI => ?_)
    · have hi2 : i < 63 := Nat.lt_of_lt_of_le hi (nn _ rfl).1
      obtain ⟨_, S', us, tt, p, q', m', h', p3, p8, p9, p10, p11, p12, rfl, sm, hl, da, ht, bt⟩ := hI
      refine ⟨_, rfl, _, rfl, a, ns, _, rfl, S.ts sm.ts, by omega, by omega, fun v v0 v1 => ?_⟩
      have e1 := Int.emod_nonneg (v / 2) (show (9 : Int) ≠ 0 by decide)
      have e2 := Int.emod_lt_of_pos (v / 2) (show (0 : Int) < 9 by decide)
      have e3 := Int.emod_nonneg (v / 90) (show (99999 : Int) ≠ 0 by decide)
      have e4 := Int.emod_lt_of_pos (v / 90) (show (0 : Int) < 99999 by decide)
      walk_at "rd"
      refine ite2 (fun c => ?_) (fun c => ?_)
      · walk_at "rd"
        exact hq3 _ _ b tt S' us H' v _ m' h' p q' _ _ _ _ i (by omega) hb sm hl da ht bt (by omega) (by omega) fun σ' H'' z => ⟨by omega, z⟩
      · exact hq3 _ _ b tt S' us H' v _ m' h' p q' _ _ _ _ i (by omega) hb sm hl da ht bt (by omega) (by omega) fun σ' H'' z => ⟨by omega, z⟩
    · obtain ⟨hn, S', us, tt, p, q', m', h', p3, p8, p9, p10, p11, p12, rfl, sm, hl, da, ht, bt⟩ := hI
      refine ⟨_, rfl, (by show 2 ≤ sizeLine; decide), fun t1 h1 => ?_⟩
      have u1 := same_new h1 (.tup [.int 1, .int 1])
      refine ⟨_, rfl, _, rfl, (by show 3 ≤ sizeLine; decide), fun t2 h2 => ?_⟩
      have u2 := same_new h2 (.tup [.ref t1, .int m', .int h'])
      refine ⟨(by show 1 ≤ sizeLine; decide), fun l3 h3 => ?_⟩
      have u3 := same_new h3 (.lst [.ref t2])
      have ua := u1.trans (u2.trans u3)
      have len : us.length ≤ 100 := by rw [ln_len da]; have := bt.len; omega
      refine ⟨b, l3, us, [.ref t2], rfl, rfl, ua _ _ hl, upd_same, Nat.le_of_lt (small1000 (by simp; omega)), fun l4 h4 => ?_⟩
      have u4 := same_new h4 (.lst (us ++ [.ref t2]))
      have ub := ua.trans u4
      refine q (S' ++ [⟨1, 1, m', h'⟩]) l4 (us ++ [.ref t2]) _ (sm.trans ub) ((sm.trans ua).free h4) upd_same ?_ (bt.line (by omega)) (by have z := (nn _ rfl).2; have := bt.len; rw [List.length_append]; show ((S'.length + 1 : Nat) : Int) ≤ l - f0; omega)
      rw [List.map_append]
      refine (da.ts ub.ts).snoc ?_
      exact st_mk (s := ⟨1, 1, m', h'⟩) (SqT.of ((u3.trans u4) _ _ upd_same)) (fr_mk (SqT.of (((u2.trans u3).trans u4) _ _ upd_same)))
  obtain ⟨t4, ht4, hq4⟩ := r4
  refine ⟨_, pss_cons (ps_set (i := 3) nd rfl (Or.inl rfl) (pe_def D__law_cell_at (hr.mono (by decide)) rfl (pa_cons (pv 0) (pa_cons (pv 1) pa_nil)))) (pss_cons (ps_set (i := 4) nd rfl (Or.inl rfl) (pe_op op_sub (pe_op op_mod (pv 3) pe_int) pe_int)) (pss_cons (ps_set (i := 5) nd rfl (Or.inl rfl) (pe_op op_sub (pe_op op_mod (pe_op op_fdiv (pv 3) pe_int) pe_int) pe_int)) (pss_cons (ps_if (pt_cmpR op_eq (pe_op op_mod (pe_op op_fdiv (pv 3) pe_int) pe_int) pe_int (nomark _)) (pss_cons (ps_set (i := 4) nd rfl (Or.inl rfl) (pe_op op_sub (pe_op op_mod (pe_op op_fdiv (pv 3) pe_int) pe_int) pe_int))
    (pss_one (ps_set (i := 5) nd rfl (Or.inl rfl) (pe_op op_sub (pe_op op_mod (pe_op op_fdiv (pv 3) pe_int) pe_int) pe_int)))) pss_nil) ht4))), ?_⟩
  refine ⟨_, rfl, _, rfl, a, ns, f0, rfl, S, f1, by omega, fun v v0 v1 => ?_⟩
  have e1 := Int.emod_nonneg v (show (25 : Int) ≠ 0 by decide)
  have e2 := Int.emod_lt_of_pos v (show (0 : Int) < 25 by decide)
  have e3 := Int.emod_nonneg (v / 25) (show (9 : Int) ≠ 0 by decide)
  have e4 := Int.emod_lt_of_pos (v / 25) (show (0 : Int) < 9 by decide)
  have e5 := Int.emod_nonneg (v / 900) (show (1999999 : Int) ≠ 0 by decide)
  have e6 := Int.emod_lt_of_pos (v / 900) (show (0 : Int) < 1999999 by decide)
  have e7 := Int.emod_nonneg (v / 7) (show (199999999 : Int) ≠ 0 by decide)
  have e8 := Int.emod_lt_of_pos (v / 7) (show (0 : Int) < 199999999 by decide)
  walk_at "rd"
  refine ite2 (fun c => ?_) (fun c => ?_)
  · walk_at "rd"
    exact hq4 _ _ _ (by omega) (by omega)
  · exact hq4 _ _ _ (by omega) (by omega)
end
end Mine



set_option Elab.async false
set_option linter.all false
set_option maxRecDepth 100000
set_option maxHeartbeats 4000000

namespace Mine
open PySem L2
local macro_rules | `(tactic| walk_at "mul") => `(tactic| first | exact mulS (by assumption) (by assumption) | exact mulS (by first | assumption | exact sm_of (by omega) | exact sm_of (by decide) | exact sm_mod (by decide) (by decide)) (by first | assumption | exact sm_of (by omega) | exact sm_of (by decide) | exact sm_mod (by decide) (by decide)))
local macro_rules | `(tactic| walk_at "rd1") => `(tactic| first
  | refine ⟨_, rfl, ?_⟩
  | refine ⟨_, _, rfl, rfl, ?_⟩
  | (refine' ⟨_, _, _, _, rfl, rfl, ?sq, ?ia, ?k⟩; (case' sq => first | assumption | exact Scr.l (by assumption)); (case' ia => first | rfl | assumption))
  | refine ⟨rfl, ?_⟩
  | (refine ⟨?m, ?_⟩; (case' m => walk_at "mul"))
  | (refine ⟨?m, ?_⟩; (case' m => exact div_ok (by first | assumption | omega) (by assumption)))
  | (refine ⟨?m, ?_⟩; (case' m => show (0 : Int) < _; decide))
  | (refine ⟨?m, ?_⟩; (case' m => exact ⟨by decide, by decide⟩))
  | (refine ⟨?m, ?_⟩; (case' m => exact ⟨by decide, by decide, by decide⟩)))
local macro_rules | `(tactic| walk_at "rd") => `(tactic| repeat walk_at "rd1")

theorem stb_sm {s : St4} (h : Ln.OkB 45 s) : Sm s.p ∧ Sm s.q ∧ Sm s.m ∧ Sm s.h ∧ 0 < s.q := by
  obtain ⟨h1, h2, h3, h4, h5, h6⟩ := h
  exact ⟨sm_of (by omega), sm_of (by omega), sm_of (by omega), sm_of (by omega), by omega⟩
/-- a list of stretches -/
def LnL (K : PySem.W.Frag) (H : Hp) (M : List St4) (v : V) : Prop := ∃ l us, v = .ref l ∧ SqL K H l us ∧ DatAll K H (M.map stD) us
def spJoined (K : PySem.W.Frag) : Sp := fun vs H Q _ => ∃ (x : V) (M : List St4), vs = [x] ∧ LnL K H M x ∧ M.length ≤ 1000 ∧ ∀ v H', Same H H' → Dat K H' (lnD (Ln.jn M)) v → Q v H'
theorem at_last {xs : List V} {x : V} (h : xs.getLast? = some x) : atI xs (-1) = some x := by
  rw [List.getLast?_eq_getElem?] at h
  have hl := (List.getElem?_eq_some_iff.mp h).1
  have e : ixN xs.length (-1) = some (xs.length - 1) := by
    unfold ixN
    rw [if_neg (by decide), if_pos (by omega)]
    congr 1
    omega
  show (ixN xs.length (-1)).bind (fun j => xs[j]?) = some x
  rw [e]
  exact h
theorem cut1_ne (e m h : V) : ¬ (HT.sIx ([e, m, h] : List V).length 0 (some 1) = 0 ∧ HT.sIx ([e, m, h] : List V).length ([e, m, h] : List V).length none = ([e, m, h] : List V).length) := by
  rintro ⟨z, _⟩
  exact absurd (show (1 : Nat) = 0 from z) (by decide)
theorem jn_len : ∀ (M : List St4) (A : List St4), (M.foldl Ln.jnStep A).length ≤ A.length + M.length
  | [], A => by simp
  | s :: r, A => by
    have h := jn_len r (Ln.jnStep A s)
    have h2 : (Ln.jnStep A s).length ≤ A.length + 1 := by
      unfold Ln.jnStep
      split
      · split
        · simp <;> omega
        · simp
      · simp
    simp only [List.foldl_cons, List.length_cons]
    omega
theorem DatAll.take {K : PySem.W.Frag} {H : Hp} : ∀ {ds : List PyData} {xs : List V} (n : Nat), DatAll K H ds xs → DatAll K H (ds.take n) (xs.take n)
  | _, _, 0, _ => rfl
  | [], _, _ + 1, h => by cases (show _ = ([] : List V) from h); rfl
  | _ :: _, _, n + 1, ⟨x, r, h1, h2, h3⟩ => by subst h1; exact ⟨x, _, rfl, h2, DatAll.take n h3⟩
section
variable {P : Program} {w : World} {K : PySem.W.Frag} {mg : Str → Option Value} {base : Heap}
theorem ok_joined (T : TopDef K mg "joined" s_joined) (Z_tuple : mg "tuple" = none) : Def P w K mg base 1 "joined" ["stretches"] (spJoined K) := by
  refine def_of T sc_joined (fun _ _ _ _ _ _ us hl => match us, hl with | [_], _ => rfl) (fun vs H Q E h => ?_) (fun f cdv A outer s H vs Q E hr h => ?_)
  · obtain ⟨x, M, rfl, _⟩ := h
    rfl
  obtain ⟨x, M, rfl, ⟨l, us, rfl, sl, da⟩, few, k⟩ := h
  have nd := sc_joined.nd
  have hu := hr.units
  have lus := ln_len da
  refine ⟨_, (pss_cons (ps_set (i := 1) nd rfl (Or.inl rfl) (pe_lst pa_nil))
    (pss_cons (ps_for PassesOwn.never rfl (pi_list (pv 0)) (pg_name (i := 2) nd rfl (Or.inl rfl)) (pss_cons (ps_if (PW.pt (pw_and (pt_cmpR (op_neD hu) (pv 1) (pe_lst pa_nil) (nomark _)) (pw_and1 (pt_cmpR (op_eqD hu) (pe_slice sl_tup (pe_ix ix_list (pv 1) (pe_un un_neg pe_int) (fun _ _ => rfl)) (po_some pe_int) po_none) (pe_slice sl_tup (pv 2) (po_some pe_int) po_none) (nomark _))))) (pss_one (ps_expr (pe_bm0 PySem.F.plainAttrs_list PySem.F.slot_list_pop PySem.F.type_list_pop mt_pop (pv 1)))) pss_nil)
    (pss_one (ps_expr (pe_bm PySem.F.plainAttrs_list PySem.F.slot_list_append PySem.F.type_list_append mt_append (pv 1) (pa_cons (pv 2) pa_nil))))))
    (pss_one (ps_ret (pe_callTy call_tuple_of rfl Z_tuple (by decide +kernel) (pa_cons (pv 1) pa_nil)))))), ?_⟩
  refine ⟨(by show 0 ≤ sizeLine; decide), fun b hb => ?_⟩
  have u0 := same_new hb (.lst [])
  refine ⟨_, rfl, l, rfl, ⟨us, u0.seq sl⟩, ?_⟩
  refine for_list (xs := us) (fun i σ H' => Same H H' ∧ ∃ xs o2, σ = [some (.ref l), some (.ref b), o2] ∧ H' b = some (.lst xs) ∧ DatAll K H' ((Ln.jn (M.take i)).map stD) xs) ⟨u0, [], _, rfl, upd_same, rfl⟩ (fun i σ H' _ h => h.1.seq sl) (fun i x σ H' hx h => ?_) (fun σ H' h => ?_)
  · obtain ⟨sm, xs, o2, rfl, hbx, dx⟩ := h
    obtain ⟨st, hst, dst⟩ := ln_at' (da.ts sm.ts) hx
    have hi := (List.getElem?_eq_some_iff.mp hst).1
    have tk : Ln.jn (M.take (i + 1)) = Ln.jnStep (Ln.jn (M.take i)) st := by
      rw [List.take_add_one, hst]
      exact Ln.jn_snoc _ _
    have lx : xs.length ≤ 1000 := by
      rw [ln_len dx]
      have := jn_len (M.take i) []
      rw [List.length_take] at this
      show (Ln.jn (M.take i)).length ≤ 1000
      unfold Ln.jn
      simp at this
      omega
    rw [tk]
    refine ⟨_, rfl, (by show 0 ≤ sizeLine; decide), fun e he => ?_⟩
    have u1 := same_new he (.lst [])
    refine ⟨_, _, .inr ⟨(Ln.jn (M.take i)).map stD, b, xs, rfl, rfl, SqL.of (u1 _ _ hbx), dx.ts u1.ts⟩, .inr ⟨[], e, [], rfl, rfl, SqL.of upd_same, rfl⟩, lnl_shaped _, by decide, _, rfl, ?_⟩
    have eqn : PyData.eqv (.list ((Ln.jn (M.take i)).map stD)) (.list []) = decide (Ln.jn (M.take i) = []) := by
      simp only [PyData.eqv]
      exact eqv_map st_eqv _ []
    rw [eqn]
    -- the append behind both ways
    have app : ∀ (ys : List V) (B : List St4) (H2 : Hp), Same H H2 → Tst H' H2 → H2 b = some (.lst ys) → ys.length ≤ 1000 → DatAll K H2 (B.map stD) ys → B ++ [st] = Ln.jnStep (Ln.jn (M.take i)) st →
        (Same H (upd H2 b (.lst (ys ++ [x]))) ∧ ∃ xs o2, [some (V.ref l), some (V.ref b), some x] = [some (.ref l), some (.ref b), o2] ∧ upd H2 b (.lst (ys ++ [x])) b = some (.lst xs) ∧ DatAll K (upd H2 b (.lst (ys ++ [x]))) ((Ln.jnStep (Ln.jn (M.take i)) st).map stD) xs) := by
      intro ys B H2 s2 tH hy hl2 dy eB
      refine ⟨same_mut s2 hb _, ys ++ [x], _, rfl, upd_same, ?_⟩
      rw [← eB, List.map_append]
      have t2 : Tst H2 (upd H2 b (.lst (ys ++ [x]))) := ts_mut hy
      exact (dy.ts t2).snoc (dst.ts (tH.trans t2))
    by_cases hA : Ln.jn (M.take i) = []
    · rw [decide_eq_true hA]
      refine iteF (iteF ?_)
      have hb1 := u1 _ _ hbx
      refine ⟨_, rfl, .inl ⟨rfl, _, SqL.of hb1⟩, _, rfl, b, xs, _, rfl, rfl, hb1, small1000 lx, ?_⟩
      refine app xs (Ln.jn (M.take i)) _ (sm.trans u1) u1.ts hb1 lx (dx.ts u1.ts) ?_
      rw [Ln.jnStep_new (fun t ht => by rw [hA] at ht; cases ht)]
    · rw [decide_eq_false hA]
      refine iteT ?_
      have hb1 := u1 _ _ hbx
      have hlast : ∃ t, (Ln.jn (M.take i)).getLast? = some t := by
        cases z : (Ln.jn (M.take i)).getLast? with
        | none => exact absurd (List.getLast?_eq_none_iff.mp z) hA
        | some t => exact ⟨t, rfl⟩
      obtain ⟨t, ht⟩ := hlast
      obtain ⟨lp, ht'⟩ := Ln.last_at ht
      obtain ⟨y, hy, dy⟩ := ln_at dx ht'
      have hy2 : xs.getLast? = some y := by rw [List.getLast?_eq_getElem?, ln_len dx]; exact hy
      obtain ⟨c1, f1, rfl, q1, _⟩ := st_el (dy.ts u1.ts)
      obtain ⟨c2, f2, rfl, q2, _⟩ := st_el (dst.ts u1.ts)
      refine ⟨_, rfl, _, rfl, _, _, _, _, rfl, rfl, SqL.of hb1, at_last hy2, _, rfl, c1, _, rfl, q1, cut1_ne _ _ _, fun p3 h3 => ?_⟩
      have u3 := same_new h3 (.tup (cutV [f1, .int t.m, .int t.h] (some 1) none))
      refine ⟨_, rfl, _, rfl, c2, _, rfl, q2.ts u3.ts, cut1_ne _ _ _, fun p4 h4 => ?_⟩
      have u4 := same_new h4 (.tup (cutV [f2, .int st.m, .int st.h] (some 1) none))
      refine ⟨_, _, .inl (fr_mk (p := t.m) (q := t.h) (SqT.of (u4 _ _ upd_same))), .inl (fr_mk (p := st.m) (q := st.h) (SqT.of upd_same)), fr_shaped _ _, fr_shaped _ _, _, rfl, ?_⟩
      rw [fr_eqv]
      have ua := u1.trans (u3.trans u4)
      have hb4 := ua _ _ hbx
      have stepE : Ln.jnStep (Ln.jn (M.take i)) st = if t.m = st.m ∧ t.h = st.h then (Ln.jn (M.take i)).dropLast ++ [st] else Ln.jn (M.take i) ++ [st] := by
        show (match (Ln.jn (M.take i)).getLast? with | some t => if t.m = st.m ∧ t.h = st.h then (Ln.jn (M.take i)).dropLast ++ [st] else Ln.jn (M.take i) ++ [st] | none => _) = _
        rw [ht]
      by_cases same : t.m = st.m ∧ t.h = st.h
      · rw [decide_eq_true same]
        refine iteT ?_
        have lpx : 0 < xs.length := by rw [ln_len dx]; exact lp
        refine ⟨_, rfl, .inl ⟨rfl, _, SqL.of hb4⟩, b, xs, _, rfl, rfl, hb4, List.getElem?_eq_getElem (by omega), ?_⟩
        have t5 : Tst (upd (upd (upd H' e (.lst [])) p3 (.tup (cutV [f1, .int t.m, .int t.h] (some 1) none))) p4 (.tup (cutV [f2, .int st.m, .int st.h] (some 1) none))) (upd (upd (upd (upd H' e (.lst [])) p3 (.tup (cutV [f1, .int t.m, .int t.h] (some 1) none))) p4 (.tup (cutV [f2, .int st.m, .int st.h] (some 1) none))) b (.lst xs.dropLast)) := ts_mut hb4
        refine ⟨_, rfl, .inl ⟨rfl, _, SqL.of upd_same⟩, _, rfl, b, xs.dropLast, _, rfl, rfl, upd_same, small1000 (by rw [List.length_dropLast]; omega), ?_⟩
        refine app xs.dropLast (Ln.jn (M.take i)).dropLast _ (same_mut (sm.trans ua) hb _) (ua.ts.trans t5) upd_same (by rw [List.length_dropLast]; omega) ?_ (by rw [stepE, if_pos same])
        have dd := Mine.DatAll.take (xs.length - 1) ((dx.ts ua.ts).ts t5)
        have e1 : ((Ln.jn (M.take i)).map stD).take (xs.length - 1) = ((Ln.jn (M.take i)).dropLast).map stD := by rw [List.dropLast_eq_take, List.map_take, ln_len dx]
        rw [e1, ← List.dropLast_eq_take] at dd
        exact dd
      · rw [decide_eq_false same]
        refine iteF ?_
        refine ⟨_, rfl, .inl ⟨rfl, _, SqL.of hb4⟩, _, rfl, b, xs, _, rfl, rfl, hb4, small1000 lx, ?_⟩
        exact app xs (Ln.jn (M.take i)) _ (sm.trans ua) ua.ts hb4 lx (dx.ts ua.ts) (by rw [stepE, if_neg same])
  · obtain ⟨sm, xs, o2, rfl, hbx, dx⟩ := h
    refine ⟨_, rfl, b, xs, rfl, .inl ⟨SqL.of hbx, fun t ht => ?_⟩⟩
    have u1 := same_new ht (.tup xs)
    rw [lus, List.take_length] at dx
    exact k _ _ (sm.trans u1) ⟨t, xs, rfl, SqT.of upd_same, dx.ts u1.ts⟩
end
def spHt (K : PySem.W.Frag) : Sp := fun vs H Q _ => ∃ (x y : V) (L : List St4) (p q : Int), vs = [x, y] ∧ Dat K H (lnD L) x ∧ Ln.LineK L ∧ Dat K H (frD p q) y ∧ 0 < q ∧ p ≤ q ∧ Sm p ∧ Sm q ∧ ∀ s, Ln.pk L p q = some s → ∀ v H', Same H H' → Dat K H' (frD (s.m * p + s.h * q) q) v → Q v H'
def spWhole : Sp := fun vs H Q _ => ∃ i : Int, vs = [.int i] ∧ Q (.bl true) H
def spIsStretch (K : PySem.W.Frag) : Sp := fun vs H Q _ => ∃ (x : V) (s : St4), vs = [x] ∧ Dat K H (stD s) x ∧ Ln.OkB 45 s ∧ Q (.bl true) H
def spIsLine (K : PySem.W.Frag) : Sp := fun vs H Q _ => ∃ (x : V) (L : List St4), vs = [x] ∧ Dat K H (lnD L) x ∧ Ln.LineK L ∧ ∀ H', Same H H' → Q (.bl true) H'
theorem kit_same {K : PySem.W.Frag} {t : Value} : PySem.W.kitOne K t t = some true := by unfold PySem.W.kitOne; rw [if_pos (beq_self_eq_true t)]
theorem tNoIf_go {σ : St} {H : Hp} {A B : Hp → Prop} (h : A H) : tNoIf σ H fun b H4 => if b = true then A H4 else B H4 := by
  show if true = true then A H else B H
  rw [if_pos rfl]
  exact h
section
variable {P : Program} {w : World} {K : PySem.W.Frag} {mg : Str → Option Value} {base : Heap}
theorem ok_whole (T : TopDef K mg "_law_whole" s_l_whole) (Z_isinstance : mg "isinstance" = none) (Z_int : mg "int" = none) (Z_bool : mg "bool" = none) (kb : PySem.W.kitOne K (.type "int") (.type "bool") = some false) : Def P w K mg base 1 "_law_whole" ["_law_found"] spWhole := by
  refine def_of T sc_l_whole (fun _ _ _ _ _ _ us hl => match us, hl with | [_], _ => rfl) (fun vs H Q E h => ?_) (fun f cdv A outer s H vs Q E hr h => ?_)
  · obtain ⟨i, rfl, _⟩ := h
    rfl
  obtain ⟨i, rfl, q⟩ := h
  have nd := sc_l_whole.nd
  refine ⟨_, (pss_one (ps_ret (pe_and (pe_callB call_isi rfl Z_isinstance (by decide +kernel) (pa_cons (pv 0) (pa_cons (pe_bltn (v := V.ty "int") rfl Z_int (by decide +kernel) rfl) pa_nil))) (pe_one (pe_not (pe_callB call_isi rfl Z_isinstance (by decide +kernel) (pa_cons (pv 0) (pa_cons (pe_bltn (v := V.ty "bool") rfl Z_bool (by decide +kernel) rfl) pa_nil)))))))), ?_⟩
  exact ⟨_, rfl, _, _, _, _, true, rfl, (fun _ h => h), TyOf.int _, kit_same, _, rfl, iteT ⟨_, rfl, _, _, _, _, false, rfl, (fun _ h => h), TyOf.int _, kb, _, rfl, q⟩⟩
theorem ok_is_stretch (T : TopDef K mg "_law_is_stretch" s_l_is_stretch) (Z_isinstance : mg "isinstance" = none) (Z_tuple : mg "tuple" = none) (Z_len : mg "len" = none) (D__law_whole : Def P w K mg base 1 "_law_whole" ["_law_found"] spWhole) (D__law_divisor : Def P w K mg base 1 "_law_divisor" ["_law_a", "_law_b"] spFactor) :
    Def P w K mg base 2 "_law_is_stretch" ["_law_one"] (spIsStretch K) := by
  refine def_of T sc_l_is_stretch (fun _ _ _ _ _ _ us hl => match us, hl with | [_], _ => rfl) (fun vs H Q E h => ?_) (fun f cdv A outer s H vs Q E hr h => ?_)
  · obtain ⟨x, s, rfl, _⟩ := h
    rfl
  obtain ⟨x, s, rfl, hx, ok, k⟩ := h
  obtain ⟨a, e, rfl, sa, de⟩ := st_el hx
  obtain ⟨b, rfl, sb⟩ := fr_el de
  have nd := sc_l_is_stretch.nd
  refine ⟨_, (pss_cons (ps_if (PW.pt (pw_or (pt_not (pt_val (pe_callB call_isiT rfl Z_isinstance (by decide +kernel) (pa_cons (pv 0) (pa_cons (pe_bltn (v := V.ty "tuple") rfl Z_tuple (by decide +kernel) rfl) pa_nil))))) (pw_or (pt_cmpR op_ne (pe_callB call_len rfl Z_len (by decide +kernel) (pa_cons (pv 0) pa_nil)) pe_int (nomark _)) (pw_or (pt_not (pt_val (pe_def D__law_whole (hr.mono (by decide)) rfl (pa_cons (pe_ix ix_tup (pv 0) pe_int (fun _ _ => rfl)) pa_nil)))) (pw_or1 (pt_not (pt_val (pe_def D__law_whole (hr.mono (by decide)) rfl (pa_cons (pe_ix ix_tup (pv 0) pe_int (fun _ _ => rfl)) pa_nil))))))))) (pss_one (ps_ret pe_bl)) pss_nil)
    (pss_cons (ps_set (i := 1) nd rfl (Or.inl rfl) (pe_ix ix_tup (pv 0) pe_int (fun _ _ => rfl)))
    (pss_cons (ps_if (PW.pt (pw_or (pt_not (pt_val (pe_callB call_isiT rfl Z_isinstance (by decide +kernel) (pa_cons (pv 1) (pa_cons (pe_bltn (v := V.ty "tuple") rfl Z_tuple (by decide +kernel) rfl) pa_nil))))) (pw_or (pt_cmpR op_ne (pe_callB call_len rfl Z_len (by decide +kernel) (pa_cons (pv 1) pa_nil)) pe_int (nomark _)) (pw_or (pt_not (pt_val (pe_def D__law_whole (hr.mono (by decide)) rfl (pa_cons (pe_ix ix_tup (pv 1) pe_int (fun _ _ => rfl)) pa_nil)))) (pw_or1 (pt_not (pt_val (pe_def D__law_whole (hr.mono (by decide)) rfl (pa_cons (pe_ix ix_tup (pv 1) pe_int (fun _ _ => rfl)) pa_nil))))))))) (pss_one (ps_ret pe_bl)) pss_nil)
    (pss_one (ps_ret (pe_and (pe_cmpR op_gt (pe_ix ix_tup (pv 1) pe_int (fun _ _ => rfl)) pe_int (nomark _)) (pe_one (pe_cmpR op_eq (pe_def D__law_divisor (hr.mono (by decide)) rfl (pa_cons (pe_ix ix_tup (pv 1) pe_int (fun _ _ => rfl)) (pa_cons (pe_ix ix_tup (pv 1) pe_int (fun _ _ => rfl)) pa_nil))) pe_int (nomark _))))))))), ?_⟩
  refine ⟨_, rfl, a, _, _, _, true, rfl, (fun _ h => h), sa, kit_same, _, rfl, iteF ?_⟩
  refine ⟨_, rfl, _, _, rfl, .inr ⟨_, sa, rfl⟩, rfl, _, rfl, iteNS rfl ?_⟩
  refine ⟨_, rfl, _, _, _, _, rfl, rfl, sa, rfl, s.m, rfl, _, rfl, iteF ?_⟩
  refine ⟨_, rfl, _, _, _, _, rfl, rfl, sa, rfl, s.h, rfl, _, rfl, iteF ?_⟩
  refine ⟨_, rfl, _, _, _, _, rfl, rfl, sa, rfl, ?_⟩
  refine ⟨_, rfl, b, _, _, _, true, rfl, (fun _ h => h), sb, kit_same, _, rfl, iteF ?_⟩
  refine ⟨_, rfl, _, _, rfl, .inr ⟨_, sb, rfl⟩, rfl, _, rfl, iteNS rfl ?_⟩
  refine ⟨_, rfl, _, _, _, _, rfl, rfl, sb, rfl, s.p, rfl, _, rfl, iteF ?_⟩
  refine ⟨_, rfl, _, _, _, _, rfl, rfl, sb, rfl, s.q, rfl, _, rfl, iteF ?_⟩
  refine ⟨_, rfl, _, _, _, _, rfl, rfl, sb, rfl, _, _, rfl, rfl, _, rfl, ?_⟩
  rw [decide_eq_true (show (0 : Int) < s.q by have := ok.1; have := ok.2.1; omega)]
  refine iteT ?_
  refine ⟨_, rfl, _, _, _, _, rfl, rfl, sb, rfl, _, rfl, _, _, _, _, rfl, rfl, sb, rfl, s.p, s.q, rfl, rfl, ?_⟩
  rw [ok.2.2.1]
  exact k
theorem ok_is_line (T : TopDef K mg "_law_is_line" s_l_is_line) (Z_isinstance : mg "isinstance" = none) (Z_tuple : mg "tuple" = none) (Z_len : mg "len" = none) (Z_all : mg "all" = none) (Z_enumerate : mg "enumerate" = none) (D__law_is_stretch : Def P w K mg base 2 "_law_is_stretch" ["_law_one"] (spIsStretch K)) :
    Def P w K mg base 3 "_law_is_line" ["_law_line"] (spIsLine K) := by
  refine def_of T sc_l_is_line (fun _ _ _ _ _ _ us hl => match us, hl with | [_], _ => rfl) (fun vs H Q E h => ?_) (fun f cdv A outer s H vs Q E hr h => ?_)
  · obtain ⟨x, L, rfl, _⟩ := h
    rfl
  obtain ⟨x, L, rfl, hx, ln, k⟩ := h
  obtain ⟨a, xs, rfl, sa, da⟩ := ln_el hx
  have nd := sc_l_is_line.nd
  have hu := hr.units
  have lx := ln_len da
  have lp := ln.pos
  have few := ln.few
  refine ⟨_, (pss_cons (ps_if (PW.pt (pw_or (pt_not (pt_val (pe_callB call_isiT rfl Z_isinstance (by decide +kernel) (pa_cons (pv 0) (pa_cons (pe_bltn (v := V.ty "tuple") rfl Z_tuple (by decide +kernel) rfl) pa_nil))))) (pw_or (pt_cmpR op_eq (pe_callB call_len rfl Z_len (by decide +kernel) (pa_cons (pv 0) pa_nil)) pe_int (nomark _)) (pw_or1 (pt_not (pt_val (pe_callB (call_all rfl) rfl Z_all (by decide +kernel) (pa_cons (pe_compF rfl (pi_tup (pv 0)) rfl (by decide +kernel) (by decide +kernel) rfl (show ∀ p ∈ Scope.names _, p.2 = NameKind.free → List.lookup p.1 (defScope s_l_is_line).names = some .cell ∨ List.lookup p.1 (defScope s_l_is_line).names = some .free by decide +kernel) fa_nil (show (["_law_one"] : List Str).Nodup by decide +kernel) (fun _ _ _ _ => pif_nil) (fun _ _ _ _ => (pe_def D__law_is_stretch (hr.mono (by decide)) rfl (pa_cons (pv 0) pa_nil)))) pa_nil)))))))) (pss_one (ps_ret pe_bl)) pss_nil)
    (pss_cons (ps_set (i := 1) nd rfl (Or.inl rfl) (pe_tup (pa_cons pe_int (pa_cons pe_int pa_nil))))
    (pss_cons (ps_for PassesOwn.never rfl (pi_enumT rfl Z_enumerate (pv 0)) (pg_tup rfl (pgs_cons (pg_name (i := 2) nd rfl (Or.inl rfl)) (pgs_cons (pg_name (i := 3) nd rfl (Or.inl rfl)) pgs_nil))) (pss_cons (ps_set (i := 4) nd rfl (Or.inl rfl) (pe_ix ix_tup (pv 3) pe_int (fun _ _ => rfl)))
    (pss_cons (ps_if (pt_cmpR op_ge (pe_op op_mulK (pe_ix ix_tup (pv 1) pe_int (fun _ _ => rfl)) (pe_ix ix_tup (pv 4) pe_int (fun _ _ => rfl))) (pe_op op_mulK (pe_ix ix_tup (pv 4) pe_int (fun _ _ => rfl)) (pe_ix ix_tup (pv 1) pe_int (fun _ _ => rfl))) (nomark _)) (pss_one (ps_ret pe_bl)) pss_nil)
    (pss_cons (ps_if (pt_cmpR op_gt (pv 2) pe_int (nomark _)) (pss_cons (ps_set (i := 5) nd rfl (Or.inl rfl) (pe_ix ix_tup (pv 0) (pe_op op_sub (pv 2) pe_int) (fun _ _ => rfl)))
    (pss_cons (ps_set (i := 6) nd rfl (Or.inl rfl) (pe_op op_add (pe_op op_mulK (pe_op op_sub (pe_ix ix_tup (pv 3) pe_int (fun _ _ => rfl)) (pe_ix ix_tup (pv 5) pe_int (fun _ _ => rfl))) (pe_ix ix_tup (pv 1) pe_int (fun _ _ => rfl))) (pe_op op_mulK (pe_op op_sub (pe_ix ix_tup (pv 3) pe_int (fun _ _ => rfl)) (pe_ix ix_tup (pv 5) pe_int (fun _ _ => rfl))) (pe_ix ix_tup (pv 1) pe_int (fun _ _ => rfl)))))
    (pss_one (ps_if (PW.pt (pw_or (pt_cmpR op_ne (pv 6) pe_int (nomark _)) (pw_or1 (pt_cmpR (op_eqD hu) (pe_slice sl_tup (pv 3) (po_some pe_int) po_none) (pe_slice sl_tup (pv 5) (po_some pe_int) po_none) (nomark _))))) (pss_one (ps_ret pe_bl)) pss_nil)))) pss_nil)
    (pss_one (ps_set (i := 1) nd rfl (Or.inl rfl) (pv 4)))))))
    (pss_one (ps_ret (pe_cmpR (op_eqD hu) (pv 1) (pe_tup (pa_cons pe_int (pa_cons pe_int pa_nil))) (nomark _))))))), ?_⟩
  refine ⟨_, rfl, a, _, _, _, true, rfl, (fun _ h => h), sa, kit_same, _, rfl, iteF ?_⟩
  refine ⟨_, rfl, _, _, rfl, .inr ⟨_, sa, rfl⟩, rfl, _, rfl, ?_⟩
  rw [decide_eq_false (show ¬ (V.int ((xs.length : Nat) : Int) = V.int 0) from fun z => by have := V.int.inj z; omega)]
  refine iteF ?_
  refine ⟨_, rfl, a, rfl, ⟨xs, sa⟩, fun D hD => ?_⟩
  refine ⟨fun i m H2 => m = xs.length - i ∧ i ≤ xs.length ∧ Same H H2 ∧ H2 D = some (.lst ((List.replicate i true).map V.bl)), ⟨_, rfl, Nat.zero_le _, same_new hD _, upd_same⟩, ?_⟩
  rintro i m H2 ⟨rfl, hi, sm, hlD⟩
  have sa2 := sa.ts sm.ts
  by_cases hlt : i < xs.length
  · refine .inr ⟨⟨xs, _, sa2, List.getElem?_eq_getElem hlt⟩, fun v H3 y => ?_⟩
    obtain ⟨rfl, y⟩ := y
    obtain ⟨st, hst, dst⟩ := ln_at' (da.ts sm.ts) (y xs sa2)
    refine tNoIf_go ?_
    refine ⟨_, rfl, v, st, rfl, dst, ln.at hst, ?_⟩
    refine ⟨_, hlD, small1000 (by simp; omega), xs.length - (i + 1), by omega, rfl, hlt, same_mut sm hD _, ?_⟩
    rw [upd_same, List.replicate_succ', List.map_append]
    rfl
  have ei : i = xs.length := by omega
  subst ei
  refine .inl ⟨⟨xs, sa2, Nat.le_refl _⟩, ?_⟩
  refine ⟨D, List.replicate xs.length true, rfl, SqL.of hlD, _, rfl, ?_⟩
  have e1 : (List.replicate xs.length true).all id = true := by simp
  rw [e1]
  refine iteF ?_
  refine ⟨(by show 2 ≤ sizeLine; decide), fun t0 h0 => ?_⟩
  have u0 := same_new h0 (.tup [.int 0, .int 1])
  have s0 := sm.trans u0
  refine ⟨_, rfl, a, rfl, ⟨xs, sa.ts s0.ts⟩, ?_⟩
  refine for_enumT (xs := xs) (fun i σ H' => Same H H' ∧ ∃ t o2 o3 o4 o5 o6, σ = [some (.ref a), some (.ref t), o2, o3, o4, o5, o6] ∧ Dat K H' (frD (Ln.bef L i).1 (Ln.bef L i).2) (.ref t)) ⟨s0, t0, _, _, _, _, _, rfl, fr_mk (SqT.of upd_same)⟩ (fun i σ H' _ h => sa.ts h.1.ts) (fun i x T' σ H' hx h hT => ?_) (fun σ H' h => ?_)
  · obtain ⟨sm', t, o2, o3, o4, o5, o6, rfl, dt⟩ := h
    obtain ⟨st, hst, dst⟩ := ln_at' (da.ts sm'.ts) hx
    have u1 := same_new hT (.tup [.int i, x])
    obtain ⟨c, e, rfl, q1, d1⟩ := st_el (dst.ts u1.ts)
    obtain ⟨b, rfl, qb⟩ := fr_el d1
    obtain ⟨t', et, qt⟩ := fr_el (dt.ts u1.ts)
    cases et
    obtain ⟨m1, m2, m3, m4, m5⟩ := stb_sm (ln.at hst)
    obtain ⟨r1, r2, r3, r4, r5⟩ := ln.bef_rise hst
    have sb1 : Sm (Ln.bef L i).1 := sm_of (by omega)
    have sb2 : Sm (Ln.bef L i).2 := sm_of (by omega)
    refine ⟨T', _, rfl, SqT.of upd_same, rfl, _, _, rfl, _, _, rfl, rfl, ?_⟩
    walk_at "rd"
    rw [decide_eq_false (show ¬ (st.p * (Ln.bef L i).2 ≤ (Ln.bef L i).1 * st.q) by omega)]
    refine iteF ?_
    walk_at "rd"
    have fin : Same H (upd H' T' (.tup [.int i, .ref c])) ∧ Dat K (upd H' T' (.tup [.int i, .ref c])) (frD (Ln.bef L (i + 1)).1 (Ln.bef L (i + 1)).2) (.ref b) := ⟨sm'.trans u1, by rw [Ln.bef_succ hst]; exact d1⟩
    by_cases hi0 : i = 0
    · subst hi0
      refine iteF ?_
      refine ⟨_, rfl, ?_⟩
      exact ⟨fin.1, b, _, _, _, _, _, rfl, fin.2⟩
    · rw [decide_eq_true (show (0 : Int) < (i : Int) by omega)]
      refine iteT ?_
      have hj : i - 1 < L.length := by have := (List.getElem?_eq_some_iff.mp hst).1; omega
      have ej : L[i - 1]? = some L[i - 1] := List.getElem?_eq_getElem hj
      have adj := ln.ch.get (i := i - 1) ej (by rw [show i - 1 + 1 = i by omega]; exact hst)
      obtain ⟨y, hy, dy⟩ := ln_at ((da.ts sm'.ts).ts u1.ts) ej
      obtain ⟨c2, e2, rfl, q2, _⟩ := st_el dy
      obtain ⟨n1, n2, n3, n4, n5⟩ := stb_sm (ln.at ej)
      have eb : Ln.bef L i = (L[i - 1].p, L[i - 1].q) := by
        have z := Ln.bef_succ ej
        rw [show i - 1 + 1 = i by omega] at z
        exact z
      have aty : atI xs ((i : Int) - 1) = some (.ref c2) := at_of (by omega) (by rw [show ((i : Int) - 1).toNat = i - 1 by omega]; exact hy)
      have sd1 : Sm (st.m - L[i - 1].m) := by
        have z1 := (ln.at hst).2.2.2.2.1
        have z2 := (ln.at ej).2.2.2.2.1
        exact sm_of (by omega)
      have sd2 : Sm (st.h - L[i - 1].h) := by
        have z1 := (ln.at hst).2.2.2.2.2
        have z2 := (ln.at ej).2.2.2.2.2
        exact sm_of (by omega)
      refine ⟨_, rfl, _, rfl, _, _, rfl, rfl, _, _, _, _, rfl, rfl, (sa.ts sm'.ts).ts u1.ts, aty, ?_⟩
      walk_at "rd"
      have gap : (st.m - L[i - 1].m) * (Ln.bef L i).1 + (st.h - L[i - 1].h) * (Ln.bef L i).2 = 0 := by
        rw [eb]; exact adj.2.1
      refine iteNS (congrArg V.int gap) ?_
      refine ⟨_, rfl, _, rfl, c, _, rfl, q1, cut1_ne _ _ _, fun p3 h3 => ?_⟩
      have u3 := same_new h3 (.tup (cutV [.ref b, .int st.m, .int st.h] (some 1) none))
      refine ⟨_, rfl, _, rfl, c2, _, rfl, q2.ts u3.ts, cut1_ne _ _ _, fun p4 h4 => ?_⟩
      have u4 := same_new h4 (.tup (cutV [e2, .int L[i - 1].m, .int L[i - 1].h] (some 1) none))
      refine ⟨_, _, .inl (fr_mk (p := st.m) (q := st.h) (SqT.of (u4 _ _ upd_same))), .inl (fr_mk (p := L[i - 1].m) (q := L[i - 1].h) (SqT.of upd_same)), fr_shaped _ _, fr_shaped _ _, _, rfl, ?_⟩
      rw [fr_eqv, decide_eq_false (fun z => adj.2.2 z.1)]
      refine iteF ?_
      refine ⟨_, rfl, ?_⟩
      exact ⟨fin.1.trans (u3.trans u4), b, _, _, _, _, _, rfl, fin.2.ts (u3.trans u4).ts⟩
  · obtain ⟨sm', t, o2, o3, o4, o5, o6, rfl, dt⟩ := h
    obtain ⟨st, hst, e1, e2⟩ := ln.last
    obtain ⟨l0, l1⟩ := Ln.last_at hst
    have eb : Ln.bef L xs.length = (1, 1) := by
      rw [lx, show L.length = (L.length - 1) + 1 by omega, Ln.bef_succ l1, e1, e2]
    rw [eb] at dt
    refine ⟨_, rfl, (by show 2 ≤ sizeLine; decide), fun p hp => ?_⟩
    have u1 := same_new hp (.tup [.int 1, .int 1])
    refine ⟨_, _, .inl (dt.ts u1.ts), .inl (fr_mk (p := 1) (q := 1) (SqT.of upd_same)), fr_shaped _ _, fr_shaped _ _, ?_⟩
    rw [eqv_shaped (fr_shaped 1 1)]
    exact k _ (sm'.trans u1)
theorem ok_height (T : TopDef K mg "_law_height" s_l_height) : Def P w K mg base 1 "_law_height" ["_law_line", "_law_x"] (spHt K) := by
  refine def_of T sc_l_height (fun _ _ _ _ _ _ us hl => match us, hl with | [_, _], _ => rfl) (fun vs H Q E h => ?_) (fun f cdv A outer s H vs Q E hr h => ?_)
  · obtain ⟨x, y, L, p, q, rfl, _⟩ := h
    rfl
  obtain ⟨x, y, L, p, q, rfl, hx, ln, hy, q0, pq, b1, b2, k⟩ := h
  obtain ⟨a, xs, rfl, sa, da⟩ := ln_el hx
  obtain ⟨c, rfl, sc⟩ := fr_el hy
  have nd := sc_l_height.nd
  refine ⟨_, (pss_cons (ps_set (i := 2) nd rfl (Or.inl rfl) pe_int)
    (pss_cons (ps_while PassesOwn.never (pt_cmpR op_lt (pe_op op_mulK (pe_ix ix_tup (pe_ix ix_tup (pe_ix ix_tup (pv 0) (pv 2) (fun _ _ => rfl)) pe_int (fun _ _ => rfl)) pe_int (fun _ _ => rfl)) (pe_ix ix_tup (pv 1) pe_int (fun _ _ => rfl))) (pe_op op_mulK (pe_ix ix_tup (pv 1) pe_int (fun _ _ => rfl)) (pe_ix ix_tup (pe_ix ix_tup (pe_ix ix_tup (pv 0) (pv 2) (fun _ _ => rfl)) pe_int (fun _ _ => rfl)) pe_int (fun _ _ => rfl))) (nomark _)) (pss_one (ps_set (i := 2) nd rfl (Or.inl rfl) (pe_op op_add (pv 2) pe_int))))
    (pss_one (ps_ret (pe_tup (pa_cons (pe_op op_add (pe_op op_mulK (pe_ix ix_tup (pe_ix ix_tup (pv 0) (pv 2) (fun _ _ => rfl)) pe_int (fun _ _ => rfl)) (pe_ix ix_tup (pv 1) pe_int (fun _ _ => rfl))) (pe_op op_mulK (pe_ix ix_tup (pe_ix ix_tup (pv 0) (pv 2) (fun _ _ => rfl)) pe_int (fun _ _ => rfl)) (pe_ix ix_tup (pv 1) pe_int (fun _ _ => rfl)))) (pa_cons (pe_ix ix_tup (pv 1) pe_int (fun _ _ => rfl)) pa_nil))))))), ?_⟩
  refine ⟨fun m σ H' => H' = H ∧ ∃ i : Nat, i < L.length ∧ m = L.length - i ∧ σ = [some (.ref a), some (.ref c), some (.int i)] ∧ ∀ j, j < i → ∀ t, L[j]? = some t → t.p * q < p * t.q, ⟨_, rfl, 0, ln.pos, rfl, rfl, fun j hj => absurd hj (by omega)⟩, ?_⟩
  rintro m σ H' ⟨rfl, i, hi, rfl, rfl, ahead⟩
  have hs : L[i]? = some L[i] := List.getElem?_eq_getElem hi
  obtain ⟨v, hv, dv⟩ := ln_at da hs
  obtain ⟨c1, e1, rfl, q1, d1⟩ := st_el dv
  obtain ⟨f1, rfl, r1⟩ := fr_el d1
  obtain ⟨m1, m2, m3, m4, m5⟩ := stb_sm (ln.at hs)
  have at1 : atI xs (i : Int) = some (.ref c1) := atI_nat hv
  walk_at "rd"
  refine ite2 (fun c2 => ?_) (fun c2 => ?_)
  · have c3 := of_decide_eq_true c2
    have nx := ln.next pq hs c3
    refine ⟨fun σ' H'' => H'' = H' ∧ σ' = [some (.ref a), some (.ref c), some (.int (i + 1 : Int))], ?_, ⟨_, rfl, _, _, rfl, rfl, rfl, rfl⟩⟩
    rintro σ' H'' ⟨rfl, rfl⟩
    refine ⟨L.length - (i + 1), by omega, rfl, i + 1, nx, rfl, rfl, fun j hj t ht => ?_⟩
    rcases Nat.lt_or_ge j i with z | z
    · exact ahead j z t ht
    · have : j = i := by omega
      subst this
      rw [hs] at ht
      cases ht
      exact c3
  · have c3 : ¬ L[i].p * q < p * L[i].q := fun z => c2 (decide_eq_true z)
    walk_at "rd"
    refine ⟨(by show 2 ≤ sizeLine; decide), fun t h => ?_⟩
    exact k _ (Ln.pk_at ahead hs c3) _ _ (same_new h _) (fr_mk (SqT.of upd_same))
end
end Mine



set_option Elab.async false
set_option linter.all false
set_option maxRecDepth 100000
set_option maxHeartbeats 4000000

namespace Mine
open PySem L2
local macro_rules | `(tactic| walk_at "mul") => `(tactic| first | exact mulS (by assumption) (by assumption) | exact mulS (by first | assumption | exact sm_of (by omega) | exact sm_of (by decide) | exact sm_mod (by decide) (by decide)) (by first | assumption | exact sm_of (by omega) | exact sm_of (by decide) | exact sm_mod (by decide) (by decide)))
local macro_rules | `(tactic| walk_at "rd1") => `(tactic| first
  | refine ⟨_, rfl, ?_⟩
  | refine ⟨_, _, rfl, rfl, ?_⟩
  | (refine' ⟨_, _, _, _, rfl, rfl, ?sq, ?ia, ?k⟩; (case' sq => first | assumption | exact Scr.l (by assumption)); (case' ia => first | rfl | assumption))
  | refine ⟨rfl, ?_⟩
  | (refine ⟨?m, ?_⟩; (case' m => walk_at "mul"))
  | (refine ⟨?m, ?_⟩; (case' m => exact div_ok (by first | assumption | omega) (by assumption)))
  | (refine ⟨?m, ?_⟩; (case' m => show (0 : Int) < _; decide))
  | (refine ⟨?m, ?_⟩; (case' m => exact ⟨by decide, by decide⟩))
  | (refine ⟨?m, ?_⟩; (case' m => exact ⟨by decide, by decide, by decide⟩)))
local macro_rules | `(tactic| walk_at "rd") => `(tactic| repeat walk_at "rd1")

/-- a piece as data -/
def pcD (c : Ln.Pc) : PyData := .tuple [frD c.p c.q, stD c.a, stD c.b]
theorem pc_mk {K : PySem.W.Frag} {H : Hp} {a : Addr} {e f g : V} {c : Ln.Pc} (q : SqT K H a [e, f, g]) (h1 : Dat K H (frD c.p c.q) e) (h2 : Dat K H (stD c.a) f) (h3 : Dat K H (stD c.b) g) : Dat K H (pcD c) (.ref a) := ⟨a, _, rfl, q, _, _, rfl, h1, _, _, rfl, h2, _, _, rfl, h3, rfl⟩
theorem pc_el {K : PySem.W.Frag} {H : Hp} {v : V} {c : Ln.Pc} (g : Dat K H (pcD c) v) : ∃ a e f g, v = .ref a ∧ SqT K H a [e, f, g] ∧ Dat K H (frD c.p c.q) e ∧ Dat K H (stD c.a) f ∧ Dat K H (stD c.b) g := by
  obtain ⟨a, xs, rfl, g, x, r, rfl, hx, y, t, rfl, hy, z, u, rfl, hz, hu⟩ := g
  cases (show u = [] from hu)
  exact ⟨a, x, y, z, rfl, g, hx, hy, hz⟩
def spSbs (K : PySem.W.Frag) : Sp := fun vs H Q _ => ∃ (x y : V) (A B : List St4), vs = [x, y] ∧ Dat K H (lnD A) x ∧ Ln.LineK A ∧ Dat K H (lnD B) y ∧ Ln.LineK B ∧
  ∀ (l : Addr) (us : List V) (H' : Hp), Same H H' → H l = none → H' l = some (.lst us) → DatAll K H' ((Ln.sbs A B).map pcD) us → Q (.ref l) H'
section
variable {P : Program} {w : World} {K : PySem.W.Frag} {mg : Str → Option Value} {base : Heap}
theorem ok_side_by_side (T : TopDef K mg "side_by_side" s_side_by_side) (Z_len : mg "len" = none) (D_less : Def P w K mg base 1 "less" ["one", "other"] (spLess K)) : Def P w K mg base 2 "side_by_side" ["one", "other"] (spSbs K) := by
  refine def_of T sc_side_by_side (fun _ _ _ _ _ _ us hl => match us, hl with | [_, _], _ => rfl) (fun vs H Q E h => ?_) (fun f cdv A outer s H vs Q E hr h => ?_)
  · obtain ⟨x, y, A, B, rfl, _⟩ := h
    rfl
  obtain ⟨x, y, A, B, rfl, hx, la, hy, lb, k⟩ := h
  obtain ⟨a, xs, rfl, sa, da⟩ := ln_el hx
  obtain ⟨b, ys, rfl, sb, db⟩ := ln_el hy
  have nd := sc_side_by_side.nd
  have hu := hr.units
  have lx := ln_len da
  have ly := ln_len db
  have fa := la.few
  have fb := lb.few
  have slen := Ln.sbs_len A B
  refine ⟨_, (pss_cons (ps_set (i := 2) nd rfl (Or.inl rfl) (pe_lst pa_nil))
    (pss_cons (ps_set (i := 3) nd rfl (Or.inl rfl) pe_int)
    (pss_cons (ps_set (i := 4) nd rfl (Or.inl rfl) pe_int)
    (pss_cons (ps_while PassesOwn.never (PW.pt (pw_and (pt_cmpR op_lt (pv 3) (pe_callB call_len rfl Z_len (by decide +kernel) (pa_cons (pv 0) pa_nil)) (nomark _)) (pw_and1 (pt_cmpR op_lt (pv 4) (pe_callB call_len rfl Z_len (by decide +kernel) (pa_cons (pv 1) pa_nil)) (nomark _))))) (pss_cons (ps_set (i := 5) nd rfl (Or.inl rfl) (pe_ifExp (pt_val (pe_def D_less (hr.mono (by decide)) rfl (pa_cons (pe_ix ix_tup (pe_ix ix_tup (pv 0) (pv 3) (fun _ _ => rfl)) pe_int (fun _ _ => rfl)) (pa_cons (pe_ix ix_tup (pe_ix ix_tup (pv 1) (pv 4) (fun _ _ => rfl)) pe_int (fun _ _ => rfl)) pa_nil)))) (pe_ix ix_tup (pe_ix ix_tup (pv 0) (pv 3) (fun _ _ => rfl)) pe_int (fun _ _ => rfl)) (pe_ix ix_tup (pe_ix ix_tup (pv 1) (pv 4) (fun _ _ => rfl)) pe_int (fun _ _ => rfl))))
    (pss_cons (ps_expr (pe_bm PySem.F.plainAttrs_list PySem.F.slot_list_append PySem.F.type_list_append mt_append (pv 2) (pa_cons (pe_tup (pa_cons (pv 5) (pa_cons (pe_ix ix_tup (pv 0) (pv 3) (fun _ _ => rfl)) (pa_cons (pe_ix ix_tup (pv 1) (pv 4) (fun _ _ => rfl)) pa_nil)))) pa_nil)))
    (pss_cons (ps_if (pt_cmpR (op_eqD hu) (pe_ix ix_tup (pe_ix ix_tup (pv 0) (pv 3) (fun _ _ => rfl)) pe_int (fun _ _ => rfl)) (pv 5) (nomark _)) (pss_one (ps_aug (i := 3) nd rfl (Or.inl rfl) pe_int ip_add)) pss_nil)
    (pss_one (ps_if (pt_cmpR (op_eqD hu) (pe_ix ix_tup (pe_ix ix_tup (pv 1) (pv 4) (fun _ _ => rfl)) pe_int (fun _ _ => rfl)) (pv 5) (nomark _)) (pss_one (ps_aug (i := 4) nd rfl (Or.inl rfl) pe_int ip_add)) pss_nil))))))
    (pss_one (ps_ret (pv 2))))))), ?_⟩
  refine ⟨(by show 0 ≤ sizeLine; decide), fun l hb => ?_⟩
  have u0 := same_new hb (.lst [])
  refine ⟨fun m σ H' => Same H H' ∧ ∃ (i j : Nat) (o5 : Option V) (zs : List V) (dn : List Ln.Pc), σ = [some (.ref a), some (.ref b), some (.ref l), some (.int i), some (.int j), o5] ∧ H' l = some (.lst zs) ∧ DatAll K H' (dn.map pcD) zs ∧ dn ++ Ln.sbs (A.drop i) (B.drop j) = Ln.sbs A B ∧ i ≤ A.length ∧ j ≤ B.length ∧ m = (A.length - i) + (B.length - j),
    ⟨_, u0, 0, 0, _, [], [], rfl, upd_same, rfl, rfl, Nat.zero_le _, Nat.zero_le _, rfl⟩, ?_⟩
  rintro m σ H' ⟨sm, i, j, o5, zs, dn, rfl, hl, dz, al, hi, hj, rfl⟩
  have sa2 := sa.ts sm.ts
  have sb2 := sb.ts sm.ts
  have lz : zs.length ≤ 1000 := by
    have z1 : zs.length = dn.length := by rw [dz.len, List.length_map]
    have z2 := congrArg List.length al
    rw [List.length_append] at z2
    omega
  have fin : (A.length ≤ i ∨ B.length ≤ j) → Q (.ref l) H' := fun z => by
    rw [Ln.sbs_stop z, List.append_nil] at al
    rw [al] at dz
    exact k l zs H' sm hb hl dz
  refine ⟨_, rfl, _, rfl, _, _, rfl, .inr ⟨_, sa2, rfl⟩, _, _, rfl, rfl, _, rfl, ?_⟩
  by_cases ci : i < A.length
  case neg =>
    rw [decide_eq_false (show ¬ ((i : Int) < ((xs.length : Nat) : Int)) by omega)]
    refine iteF (iteF ?_)
    exact ⟨_, rfl, fin (.inl (by omega))⟩
  rw [decide_eq_true (show ((i : Int) < ((xs.length : Nat) : Int)) by omega)]
  refine iteT ?_
  refine ⟨_, rfl, _, rfl, _, _, rfl, .inr ⟨_, sb2, rfl⟩, _, _, rfl, rfl, _, rfl, ?_⟩
  by_cases cj : j < B.length
  case neg =>
    rw [decide_eq_false (show ¬ ((j : Int) < ((ys.length : Nat) : Int)) by omega)]
    refine iteF ?_
    exact ⟨_, rfl, fin (.inr (by omega))⟩
  rw [decide_eq_true (show ((j : Int) < ((ys.length : Nat) : Int)) by omega)]
  refine iteT ?_
  have hs1 : A[i]? = some A[i] := List.getElem?_eq_getElem ci
  have hs2 : B[j]? = some B[j] := List.getElem?_eq_getElem cj
  obtain ⟨v1, hv1, dv1⟩ := ln_at (da.ts sm.ts) hs1
  obtain ⟨v2, hv2, dv2⟩ := ln_at (db.ts sm.ts) hs2
  obtain ⟨c1, e1, rfl, q1, d1⟩ := st_el dv1
  obtain ⟨c2, e2, rfl, q2, d2⟩ := st_el dv2
  obtain ⟨f1, rfl, r1⟩ := fr_el d1
  obtain ⟨f2, rfl, r2⟩ := fr_el d2
  obtain ⟨m1, m2, m3, m4, m5⟩ := stb_sm (la.at hs1)
  obtain ⟨n1, n2, n3, n4, n5⟩ := stb_sm (lb.at hs2)
  have at1 : atI xs (i : Int) = some (.ref c1) := atI_nat hv1
  have at2 : atI ys (j : Int) = some (.ref c2) := atI_nat hv2
  have stp := Ln.sbs_step hs1 hs2
  refine ⟨fun σ' H'' => Same H H'' ∧ ∃ (i2 j2 : Nat) (o5 : Option V) (zs : List V) (dn : List Ln.Pc), σ' = [some (.ref a), some (.ref b), some (.ref l), some (.int i2), some (.int j2), o5] ∧ H'' l = some (.lst zs) ∧ DatAll K H'' (dn.map pcD) zs ∧ dn ++ Ln.sbs (A.drop i2) (B.drop j2) = Ln.sbs A B ∧ i2 ≤ A.length ∧ j2 ≤ B.length ∧ (A.length - i2) + (B.length - j2) < (A.length - i) + (B.length - j), ?_, ?_⟩
  · rintro σ' H'' ⟨h1, i2, j2, o, zs, dn, h2, h3, h4, h5, h6, h7, h8⟩
    exact ⟨_, h8, h1, i2, j2, o, zs, dn, h2, h3, h4, h5, h6, h7, rfl⟩
  refine ⟨_, rfl, _, rfl, _, _, _, _, rfl, rfl, sa2, at1, _, _, _, _, rfl, rfl, q1, rfl, _, rfl, _, rfl, _, _, _, _, rfl, rfl, sb2, at2, _, _, _, _, rfl, rfl, q2, rfl, _, _, _, _, _, _, rfl, d1, d2, m1, m2, n1, n2, _, rfl, ?_⟩
  rcases Ln.ends_cases (la.at hs1) (lb.at hs2) with h | h | ⟨h, h1, h2⟩
  · rw [decide_eq_true h]
    rw [if_pos h] at stp
    refine iteT ?_
    refine ⟨_, rfl, _, rfl, _, _, _, _, rfl, rfl, sa2, at1, _, _, _, _, rfl, rfl, q1, rfl, ?_⟩
    refine ⟨_, rfl, .inl ⟨rfl, _, SqL.of hl⟩, _, rfl, _, rfl, _, rfl, _, _, _, _, rfl, rfl, sa2, at1, _, rfl, _, rfl, _, _, _, _, rfl, rfl, sb2, at2, (by show 3 ≤ sizeLine; decide), fun t ht => ?_⟩
    have u1 := same_new ht (.tup [.ref f1, .ref c1, .ref c2])
    have hl1 := u1 _ _ hl
    refine ⟨l, zs, _, rfl, rfl, hl1, small1000 lz, ?_⟩
    have t2 : Tst (upd H' t (.tup [.ref f1, .ref c1, .ref c2])) (upd (upd H' t (.tup [.ref f1, .ref c1, .ref c2])) l (.lst (zs ++ [.ref t]))) := ts_mut hl1
    have tt := u1.ts.trans t2
    have nt : t ≠ l := fun e => by rw [e, hl] at ht; cases ht
    have dpc : Dat K (upd (upd H' t (.tup [.ref f1, .ref c1, .ref c2])) l (.lst (zs ++ [.ref t]))) (pcD ⟨A[i].p, A[i].q, A[i], B[j]⟩) (.ref t) := pc_mk (SqT.of (by rw [upd_ne nt]; exact upd_same)) (d1.ts tt) (dv1.ts tt) (dv2.ts tt)
    refine ⟨_, rfl, _, rfl, _, _, _, _, rfl, rfl, sa2.ts tt, at1, _, _, _, _, rfl, rfl, q1.ts tt, rfl, _, rfl, ?_⟩
    refine ⟨_, _, .inl (d1.ts tt), .inl (d1.ts tt), fr_shaped _ _, fr_shaped _ _, _, rfl, ?_⟩
    rw [fr_eqv, decide_eq_true ⟨rfl, rfl⟩]
    refine iteT ?_
    refine ⟨_, rfl, _, _, rfl, rfl, ?_⟩
    refine ⟨_, rfl, _, rfl, _, _, _, _, rfl, rfl, sb2.ts tt, at2, _, _, _, _, rfl, rfl, q2.ts tt, rfl, _, rfl, ?_⟩
    refine ⟨_, _, .inl (d2.ts tt), .inl (d1.ts tt), fr_shaped _ _, fr_shaped _ _, _, rfl, ?_⟩
    rw [fr_eqv, decide_eq_false (show ¬ (B[j].p = A[i].p ∧ B[j].q = A[i].q) from fun z => by rw [z.1, z.2] at h; omega)]
    refine iteF ?_
    refine ⟨same_mut (sm.trans u1) hb _, i + 1, j, _, zs ++ [.ref t], dn ++ [⟨A[i].p, A[i].q, A[i], B[j]⟩], rfl, upd_same, ?_, ?_, by omega, by omega, by omega⟩
    · rw [List.map_append]
      exact (dz.ts tt).snoc dpc
    · rw [← al, stp, List.append_assoc]
      rfl
  · rw [decide_eq_false (show ¬ (A[i].p * B[j].q < B[j].p * A[i].q) by rw [h.1, h.2]; omega)]
    rw [if_neg (show ¬ (A[i].p * B[j].q < B[j].p * A[i].q) by rw [h.1, h.2]; omega), if_pos h] at stp
    refine iteF ?_
    refine ⟨_, rfl, _, rfl, _, _, _, _, rfl, rfl, sb2, at2, _, _, _, _, rfl, rfl, q2, rfl, ?_⟩
    refine ⟨_, rfl, .inl ⟨rfl, _, SqL.of hl⟩, _, rfl, _, rfl, _, rfl, _, _, _, _, rfl, rfl, sa2, at1, _, rfl, _, rfl, _, _, _, _, rfl, rfl, sb2, at2, (by show 3 ≤ sizeLine; decide), fun t ht => ?_⟩
    have u1 := same_new ht (.tup [.ref f2, .ref c1, .ref c2])
    have hl1 := u1 _ _ hl
    refine ⟨l, zs, _, rfl, rfl, hl1, small1000 lz, ?_⟩
    have t2 : Tst (upd H' t (.tup [.ref f2, .ref c1, .ref c2])) (upd (upd H' t (.tup [.ref f2, .ref c1, .ref c2])) l (.lst (zs ++ [.ref t]))) := ts_mut hl1
    have tt := u1.ts.trans t2
    have nt : t ≠ l := fun e => by rw [e, hl] at ht; cases ht
    have dpc : Dat K (upd (upd H' t (.tup [.ref f2, .ref c1, .ref c2])) l (.lst (zs ++ [.ref t]))) (pcD ⟨B[j].p, B[j].q, A[i], B[j]⟩) (.ref t) := pc_mk (SqT.of (by rw [upd_ne nt]; exact upd_same)) (d2.ts tt) (dv1.ts tt) (dv2.ts tt)
    refine ⟨_, rfl, _, rfl, _, _, _, _, rfl, rfl, sa2.ts tt, at1, _, _, _, _, rfl, rfl, q1.ts tt, rfl, _, rfl, ?_⟩
    refine ⟨_, _, .inl (d1.ts tt), .inl (d2.ts tt), fr_shaped _ _, fr_shaped _ _, _, rfl, ?_⟩
    rw [fr_eqv, decide_eq_true h]
    refine iteT ?_
    refine ⟨_, rfl, _, _, rfl, rfl, ?_⟩
    refine ⟨_, rfl, _, rfl, _, _, _, _, rfl, rfl, sb2.ts tt, at2, _, _, _, _, rfl, rfl, q2.ts tt, rfl, _, rfl, ?_⟩
    refine ⟨_, _, .inl (d2.ts tt), .inl (d2.ts tt), fr_shaped _ _, fr_shaped _ _, _, rfl, ?_⟩
    rw [fr_eqv, decide_eq_true ⟨rfl, rfl⟩]
    refine iteT ?_
    refine ⟨_, rfl, _, _, rfl, rfl, ?_⟩
    refine ⟨same_mut (sm.trans u1) hb _, i + 1, j + 1, _, zs ++ [.ref t], dn ++ [⟨B[j].p, B[j].q, A[i], B[j]⟩], rfl, upd_same, ?_, ?_, by omega, by omega, by omega⟩
    · rw [List.map_append]
      exact (dz.ts tt).snoc dpc
    · rw [← al, stp, List.append_assoc]
      rfl
  · rw [decide_eq_false h1]
    rw [if_neg h1, if_neg h2] at stp
    refine iteF ?_
    refine ⟨_, rfl, _, rfl, _, _, _, _, rfl, rfl, sb2, at2, _, _, _, _, rfl, rfl, q2, rfl, ?_⟩
    refine ⟨_, rfl, .inl ⟨rfl, _, SqL.of hl⟩, _, rfl, _, rfl, _, rfl, _, _, _, _, rfl, rfl, sa2, at1, _, rfl, _, rfl, _, _, _, _, rfl, rfl, sb2, at2, (by show 3 ≤ sizeLine; decide), fun t ht => ?_⟩
    have u1 := same_new ht (.tup [.ref f2, .ref c1, .ref c2])
    have hl1 := u1 _ _ hl
    refine ⟨l, zs, _, rfl, rfl, hl1, small1000 lz, ?_⟩
    have t2 : Tst (upd H' t (.tup [.ref f2, .ref c1, .ref c2])) (upd (upd H' t (.tup [.ref f2, .ref c1, .ref c2])) l (.lst (zs ++ [.ref t]))) := ts_mut hl1
    have tt := u1.ts.trans t2
    have nt : t ≠ l := fun e => by rw [e, hl] at ht; cases ht
    have dpc : Dat K (upd (upd H' t (.tup [.ref f2, .ref c1, .ref c2])) l (.lst (zs ++ [.ref t]))) (pcD ⟨B[j].p, B[j].q, A[i], B[j]⟩) (.ref t) := pc_mk (SqT.of (by rw [upd_ne nt]; exact upd_same)) (d2.ts tt) (dv1.ts tt) (dv2.ts tt)
    refine ⟨_, rfl, _, rfl, _, _, _, _, rfl, rfl, sa2.ts tt, at1, _, _, _, _, rfl, rfl, q1.ts tt, rfl, _, rfl, ?_⟩
    refine ⟨_, _, .inl (d1.ts tt), .inl (d2.ts tt), fr_shaped _ _, fr_shaped _ _, _, rfl, ?_⟩
    rw [fr_eqv, decide_eq_false h2]
    refine iteF ?_
    refine ⟨_, rfl, _, rfl, _, _, _, _, rfl, rfl, sb2.ts tt, at2, _, _, _, _, rfl, rfl, q2.ts tt, rfl, _, rfl, ?_⟩
    refine ⟨_, _, .inl (d2.ts tt), .inl (d2.ts tt), fr_shaped _ _, fr_shaped _ _, _, rfl, ?_⟩
    rw [fr_eqv, decide_eq_true ⟨rfl, rfl⟩]
    refine iteT ?_
    refine ⟨_, rfl, _, _, rfl, rfl, ?_⟩
    refine ⟨same_mut (sm.trans u1) hb _, i, j + 1, _, zs ++ [.ref t], dn ++ [⟨B[j].p, B[j].q, A[i], B[j]⟩], rfl, upd_same, ?_, ?_, by omega, by omega, by omega⟩
    · rw [List.map_append]
      exact (dz.ts tt).snoc dpc
    · rw [← al, stp, List.append_assoc]
      rfl
end
end Mine



set_option Elab.async false
set_option linter.all false
set_option maxRecDepth 100000
set_option maxHeartbeats 4000000

namespace Mine
open PySem L2
local macro_rules | `(tactic| walk_at "mul") => `(tactic| first | exact mulS (by assumption) (by assumption) | exact mulS (by first | assumption | exact sm_of (by omega) | exact sm_of (by decide) | exact sm_mod (by decide) (by decide)) (by first | assumption | exact sm_of (by omega) | exact sm_of (by decide) | exact sm_mod (by decide) (by decide)))
local macro_rules | `(tactic| walk_at "rd1") => `(tactic| first
  | refine ⟨_, rfl, ?_⟩
  | refine ⟨_, _, rfl, rfl, ?_⟩
  | (refine' ⟨_, _, _, _, rfl, rfl, ?sq, ?ia, ?k⟩; (case' sq => first | assumption | exact Scr.l (by assumption)); (case' ia => first | rfl | assumption))
  | refine ⟨rfl, ?_⟩
  | (refine ⟨?m, ?_⟩; (case' m => walk_at "mul"))
  | (refine ⟨?m, ?_⟩; (case' m => exact div_ok (by first | assumption | omega) (by assumption)))
  | (refine ⟨?m, ?_⟩; (case' m => show (0 : Int) < _; decide))
  | (refine ⟨?m, ?_⟩; (case' m => exact ⟨by decide, by decide⟩))
  | (refine ⟨?m, ?_⟩; (case' m => exact ⟨by decide, by decide, by decide⟩)))
local macro_rules | `(tactic| walk_at "rd") => `(tactic| repeat walk_at "rd1")

theorem pg_tupK {X : Cx} {K : PySem.W.Frag} {es : List Expr} {k : Nat} {pos : Pos} {t : TGs} {n : Nat} (e : X.K = K) (hc : X.calm = true) (h : PGs X es t)
    (hn : (assignEach es X.env).length = n := by rfl) (hst : (assignEach es X.env).findIdx? (·.1) = none := by rfl) : PG X (.Tuple es k pos) (gTup K n t) := by
  subst e
  exact pg_tup hc h hn hst
theorem len3 {o : St} (h : o.length = 3) : ∃ a b c, o = [a, b, c] := by
  match o, h with
  | [a, b, c], _ => exact ⟨a, b, c, rfl⟩
def spTurned (K : PySem.W.Frag) : Sp := fun vs H Q _ => ∃ (x : V) (L : List St4), vs = [x] ∧ Dat K H (lnD L) x ∧ L.length ≤ 100 ∧ ∀ v H', Same H H' → Dat K H' (lnD (L.map Ln.tnS)) v → Q v H'
theorem map_step {α : Type} {f : St4 → α} {L : List St4} {i : Nat} {s : St4} (h : L[i]? = some s) : (L.take (i + 1)).map f = (L.take i).map f ++ [f s] := by
  rw [List.take_add_one, h, List.map_append]
  rfl
theorem ne_lst {H : Hp} {t D : Addr} {zs : List V} (ht : H t = none) (h : H D = some (.lst zs)) : D ≠ t := fun e => by rw [e, ht] at h; cases h
section
variable {P : Program} {w : World} {K : PySem.W.Frag} {mg : Str → Option Value} {base : Heap}
theorem ok_turned (T : TopDef K mg "turned" s_turned) (Z_tuple : mg "tuple" = none) : Def P w K mg base 1 "turned" ["line"] (spTurned K) := by
  refine def_of T sc_turned (fun _ _ _ _ _ _ us hl => match us, hl with | [_], _ => rfl) (fun vs H Q E h => ?_) (fun f cdv A outer s H vs Q E hr h => ?_)
  · obtain ⟨x, L, rfl, _⟩ := h
    rfl
  obtain ⟨x, L, rfl, hx, few, k⟩ := h
  obtain ⟨a, xs, rfl, sa, da⟩ := ln_el hx
  have nd := sc_turned.nd
  have lx := ln_len da
  refine ⟨_, (pss_one (ps_ret (pe_callTy call_tuple_of rfl Z_tuple (by decide +kernel) (pa_cons (pe_compTF (xs := ["end", "slope", "height"]) rfl (pi_tup (pv 0)) rfl (by decide +kernel) (by decide +kernel) (show ∀ p ∈ Scope.names _, p.2 = NameKind.free → List.lookup p.1 (defScope s_turned).names = some .cell ∨ List.lookup p.1 (defScope s_turned).names = some .free by decide +kernel) fa_nil (show (["end", "slope", "height"] : List Str).Nodup by decide +kernel) (fun _ _ _ _ => pg_tupK (K := K) (n := 3) rfl rfl (pgs_cons (pg_name (i := 0) (show (["end", "slope", "height"] : List Str).Nodup by decide +kernel) rfl (Or.inl rfl) (.inr rfl)) (pgs_cons (pg_name (i := 1) (show (["end", "slope", "height"] : List Str).Nodup by decide +kernel) rfl (Or.inl rfl) (.inr rfl)) (pgs_cons (pg_name (i := 2) (show (["end", "slope", "height"] : List Str).Nodup by decide +kernel) rfl (Or.inl rfl) (.inr rfl)) pgs_nil)))) (fun _ _ _ _ => (pe_tup (pa_cons (pv 0) (pa_cons (pe_un un_neg (pv 1)) (pa_cons (pe_un un_neg (pv 2)) pa_nil)))))) pa_nil)))), ?_⟩
  refine ⟨_, rfl, a, rfl, ⟨xs, sa⟩, fun D hD => ?_⟩
  refine ⟨fun i m H2 => m = xs.length - i ∧ i ≤ xs.length ∧ Same H H2 ∧ ∃ zs, H2 D = some (.lst zs) ∧ DatAll K H2 (((L.take i).map Ln.tnS).map stD) zs, ⟨_, rfl, Nat.zero_le _, same_new hD _, [], upd_same, rfl⟩, ?_⟩
  rintro i m H2 ⟨rfl, hi, sm, zs, hlD, dz⟩
  have sa2 := sa.ts sm.ts
  have lz : zs.length ≤ 1000 := by rw [dz.len]; simp; omega
  by_cases hlt : i < xs.length
  · refine .inr ⟨⟨xs, _, sa2, List.getElem?_eq_getElem hlt⟩, fun o ho v H3 y => ?_⟩
    obtain ⟨rfl, y⟩ := y
    obtain ⟨st, hst, dst⟩ := ln_at' (da.ts sm.ts) (y xs sa2)
    obtain ⟨c, e, rfl, q1, d1⟩ := st_el dst
    obtain ⟨o1, o2, o3, rfl⟩ := len3 ho
    refine ⟨c, _, rfl, q1, rfl, _, _, rfl, _, _, rfl, _, _, rfl, rfl, [some e, some (.int st.m), some (.int st.h)], rfl, rfl, ?_⟩
    refine ⟨_, rfl, _, rfl, _, rfl, _, rfl, _, rfl, (by show 3 ≤ sizeLine; decide), fun t ht => ?_⟩
    have u1 := same_new ht (.tup [e, .int (-st.m), .int (-st.h)])
    have hD1 := u1 _ _ hlD
    have t2 : Tst (upd H3 t (.tup [e, .int (-st.m), .int (-st.h)])) (upd (upd H3 t (.tup [e, .int (-st.m), .int (-st.h)])) D (.lst (zs ++ [.ref t]))) := ts_mut hD1
    have tt := u1.ts.trans t2
    refine ⟨zs, hD1, small1000 lz, xs.length - (i + 1), by omega, rfl, hlt, same_mut (sm.trans u1) hD _, zs ++ [.ref t], upd_same, ?_⟩
    rw [map_step hst, List.map_append]
    exact (dz.ts tt).snoc (st_mk (s := Ln.tnS st) (SqT.of (by rw [upd_ne (ne_lst ht hlD).symm]; exact upd_same)) (d1.ts tt))
  have ei : i = xs.length := by omega
  subst ei
  refine .inl ⟨⟨xs, sa2, Nat.le_refl _⟩, ?_⟩
  rw [lx, List.take_length] at dz
  refine ⟨D, zs, rfl, .inl ⟨SqL.of hlD, fun t ht => ?_⟩⟩
  have u1 := same_new ht (.tup zs)
  exact k _ _ (sm.trans u1) ⟨t, zs, rfl, SqT.of upd_same, dz.ts u1.ts⟩
theorem pc_at' {H : Hp} {xs : List V} {Ps : List Ln.Pc} (g : DatAll K H (Ps.map pcD) xs) {i : Nat} {x : V} (h : xs[i]? = some x) : ∃ c, Ps[i]? = some c ∧ Dat K H (pcD c) x := by
  obtain ⟨d, e1, e2⟩ := g.get' h
  rw [List.getElem?_map] at e1
  cases z : Ps[i]? with
  | none => rw [z] at e1; cases e1
  | some s => rw [z] at e1; cases e1; exact ⟨s, rfl, e2⟩
end
end Mine



set_option Elab.async false
set_option linter.all false
set_option maxRecDepth 100000
set_option maxHeartbeats 4000000

namespace Mine
open PySem L2
local macro_rules | `(tactic| walk_at "mul") => `(tactic| first | exact mulS (by assumption) (by assumption) | exact mulS (by first | assumption | exact sm_of (by omega) | exact sm_of (by decide) | exact sm_mod (by decide) (by decide)) (by first | assumption | exact sm_of (by omega) | exact sm_of (by decide) | exact sm_mod (by decide) (by decide)))
local macro_rules | `(tactic| walk_at "rd1") => `(tactic| first
  | refine ⟨_, rfl, ?_⟩
  | refine ⟨_, _, rfl, rfl, ?_⟩
  | (refine' ⟨_, _, _, _, rfl, rfl, ?sq, ?ia, ?k⟩; (case' sq => first | assumption | exact Scr.l (by assumption)); (case' ia => first | rfl | assumption))
  | refine ⟨rfl, ?_⟩
  | (refine ⟨?m, ?_⟩; (case' m => walk_at "mul"))
  | (refine ⟨?m, ?_⟩; (case' m => exact div_ok (by first | assumption | omega) (by assumption)))
  | (refine ⟨?m, ?_⟩; (case' m => show (0 : Int) < _; decide))
  | (refine ⟨?m, ?_⟩; (case' m => exact ⟨by decide, by decide⟩))
  | (refine ⟨?m, ?_⟩; (case' m => exact ⟨by decide, by decide, by decide⟩)))
local macro_rules | `(tactic| walk_at "rd") => `(tactic| repeat walk_at "rd1")

def frX (x : Int × Int) : PyData := frD x.1 x.2
def XOk (x : Int × Int) : Prop := 0 ≤ x.1 ∧ x.1 ≤ x.2 ∧ 0 < x.2 ∧ x.2 < 2 ^ 45
theorem XOk.sm {x : Int × Int} (h : XOk x) : Sm x.1 ∧ Sm x.2 := by
  obtain ⟨h1, h2, h3, h4⟩ := h
  exact ⟨sm_of (by omega), sm_of (by omega)⟩
theorem DatAll.drop {K : PySem.W.Frag} {H : Hp} : ∀ {ds : List PyData} {xs : List V} (n : Nat), DatAll K H ds xs → DatAll K H (ds.drop n) (xs.drop n)
  | _, _, 0, h => h
  | [], _, _ + 1, h => by cases (show _ = ([] : List V) from h); rfl
  | _ :: _, _, n + 1, ⟨x, r, h1, h2, h3⟩ => by subst h1; exact DatAll.drop n h3
theorem fx_at' {K : PySem.W.Frag} {H : Hp} {xs : List V} {ps : List (Int × Int)} (g : DatAll K H (ps.map frX) xs) {i : Nat} {x : V} (h : xs[i]? = some x) : ∃ c, ps[i]? = some c ∧ Dat K H (frD c.1 c.2) x := by
  obtain ⟨d, e1, e2⟩ := g.get' h
  rw [List.getElem?_map] at e1
  cases z : ps[i]? with
  | none => rw [z] at e1; cases e1
  | some s => rw [z] at e1; cases e1; exact ⟨s, rfl, e2⟩
theorem fx_len {K : PySem.W.Frag} {H : Hp} {xs : List V} {ps : List (Int × Int)} (g : DatAll K H (ps.map frX) xs) : xs.length = ps.length := by rw [g.len, List.length_map]
def spRising (K : PySem.W.Frag) : Sp := fun vs H Q _ => ∃ (l : Addr) (us : List V) (ps : List (Int × Int)), vs = [.ref l] ∧ SqL K H l us ∧ DatAll K H (ps.map frX) us ∧ (∀ x ∈ ps, XOk x) ∧ ps.length ≤ 200 ∧
  ∀ (l' : Addr) (us' : List V) (qs : List (Int × Int)) (H' : Hp), Same H H' → H l' = none → H' l' = some (.lst us') → DatAll K H' (qs.map frX) us' → (∀ x ∈ qs, XOk x) → qs.length = ps.length → Q (.ref l') H'
section
variable {P : Program} {w : World} {K : PySem.W.Frag} {mg : Str → Option Value} {base : Heap}
theorem ok_rising (T : TopDef K mg "_law_rising" s_l_rising) (Z_len : mg "len" = none) : Def P w K mg base 1 "_law_rising" ["_law_ends"] (spRising K) := by
  refine def_of T sc_l_rising (fun _ _ _ _ _ _ us hl => match us, hl with | [_], _ => rfl) (fun vs H Q E h => ?_) (fun f cdv A outer s H vs Q E hr h => ?_)
  · obtain ⟨l, us, ps, rfl, _⟩ := h
    rfl
  obtain ⟨l, us, ps, rfl, sl, da, okp, few, k⟩ := h
  have nd := sc_l_rising.nd
  have lu := fx_len da
  refine ⟨_, (pss_cons (ps_set (i := 1) nd rfl (Or.inl rfl) (pe_lst pa_nil))
    (pss_cons (ps_for PassesOwn.never rfl (pi_list (pv 0)) (pg_name (i := 2) nd rfl (Or.inl rfl)) (pss_cons (ps_set (i := 3) nd rfl (Or.inl rfl) pe_int)
    (pss_cons (ps_while PassesOwn.never (PW.pt (pw_and (pt_cmpR op_lt (pv 3) (pe_callB call_len rfl Z_len (by decide +kernel) (pa_cons (pv 1) pa_nil)) (nomark _)) (pw_and1 (pt_cmpR op_lt (pe_op op_mulK (pe_ix ix_tup (pe_ix ix_list (pv 1) (pv 3) (fun _ _ => rfl)) pe_int (fun _ _ => rfl)) (pe_ix ix_tup (pv 2) pe_int (fun _ _ => rfl))) (pe_op op_mulK (pe_ix ix_tup (pv 2) pe_int (fun _ _ => rfl)) (pe_ix ix_tup (pe_ix ix_list (pv 1) (pv 3) (fun _ _ => rfl)) pe_int (fun _ _ => rfl))) (nomark _))))) (pss_one (ps_set (i := 3) nd rfl (Or.inl rfl) (pe_op op_add (pv 3) pe_int))))
    (pss_one (ps_expr (pe_bm PySem.F.plainAttrs_list PySem.F.slot_list_insert PySem.F.type_list_insert mt_insert (pv 1) (pa_cons (pv 3) (pa_cons (pv 2) pa_nil))))))))
    (pss_one (ps_ret (pv 1))))), ?_⟩
  refine ⟨(by show 0 ≤ sizeLine; decide), fun b hb => ?_⟩
  have u0 := same_new hb (.lst [])
  refine ⟨_, rfl, l, rfl, ⟨us, u0.seq sl⟩, ?_⟩
  refine for_list (xs := us) (fun i σ H' => Same H H' ∧ ∃ (zs : List V) (qs : List (Int × Int)) (o2 o3 : Option V), σ = [some (.ref l), some (.ref b), o2, o3] ∧ H' b = some (.lst zs) ∧ DatAll K H' (qs.map frX) zs ∧ (∀ x ∈ qs, XOk x) ∧ qs.length = i) ⟨u0, [], [], _, _, rfl, upd_same, rfl, (fun _ h => nomatch h), rfl⟩ (fun i σ H' _ h => h.1.seq sl) (fun i x σ H' hx h => ?_) (fun σ H' h => ?_)
  · obtain ⟨sm, zs, qs, o2, o3, rfl, hbz, dz, okq, lq⟩ := h
    obtain ⟨c, hc, dc⟩ := fx_at' (da.ts sm.ts) hx
    obtain ⟨ca, rfl, qc⟩ := fr_el dc
    have xok := okp c (List.mem_of_getElem? hc)
    obtain ⟨m1, m2⟩ := xok.sm
    have lz := fx_len dz
    have hi : i < ps.length := (List.getElem?_eq_some_iff.mp hc).1
    refine ⟨fun m σ H'' => H'' = H' ∧ ∃ n : Nat, n ≤ zs.length ∧ m = zs.length - n ∧ σ = [some (.ref l), some (.ref b), some (.ref ca), some (.int n)], ⟨_, rfl, 0, Nat.zero_le _, rfl, rfl⟩, ?_⟩
    rintro m σ H'' ⟨rfl, n, hn, rfl, rfl⟩
    -- behind the loop
    have fin : ∀ {σ' : St}, σ' = [some (.ref l), some (.ref b), some (.ref ca), some (.int n)] → (Same H (upd H'' b (.lst (zs.take n ++ .ref ca :: zs.drop n))) ∧ ∃ (zs' : List V) (qs' : List (Int × Int)) (o2 o3 : Option V), σ' = [some (.ref l), some (.ref b), o2, o3] ∧ upd H'' b (.lst (zs.take n ++ .ref ca :: zs.drop n)) b = some (.lst zs') ∧ DatAll K (upd H'' b (.lst (zs.take n ++ .ref ca :: zs.drop n))) (qs'.map frX) zs' ∧ (∀ x ∈ qs', XOk x) ∧ qs'.length = i + 1) := by
      intro σ' e
      have t2 : Tst H'' (upd H'' b (.lst (zs.take n ++ .ref ca :: zs.drop n))) := ts_mut hbz
      refine ⟨same_mut sm hb _, _, qs.take n ++ c :: qs.drop n, _, _, e, upd_same, ?_, fun x hx => ?_, ?_⟩
      · rw [List.map_append, List.map_cons, List.map_take, List.map_drop]
        exact (Mine.DatAll.take n (dz.ts t2)).append ⟨_, _, rfl, dc.ts t2, Mine.DatAll.drop n (dz.ts t2)⟩
      · rcases List.mem_append.mp hx with z | z
        · exact okq x (List.mem_of_mem_take z)
        · rcases List.mem_cons.mp z with z | z
          · rw [z]; exact xok
          · exact okq x (List.mem_of_mem_drop z)
      · rw [List.length_append, List.length_cons, List.length_take, List.length_drop]
        omega
    refine ⟨_, rfl, _, rfl, _, _, rfl, .inl ⟨_, SqL.of hbz, rfl⟩, _, _, rfl, rfl, _, rfl, ?_⟩
    by_cases cn : n < zs.length
    case neg =>
      rw [decide_eq_false (show ¬ ((n : Int) < ((zs.length : Nat) : Int)) by omega)]
      refine iteF (iteF ?_)
      refine ⟨_, rfl, .inl ⟨rfl, _, SqL.of hbz⟩, _, rfl, _, rfl, b, zs, n, _, rfl, rfl, hbz, by omega, by omega, small1000 (by omega), ?_⟩
      rw [Int.toNat_natCast]
      exact fin rfl
    rw [decide_eq_true (show ((n : Int) < ((zs.length : Nat) : Int)) by omega)]
    refine iteT ?_
    have hz : zs[n]? = some zs[n] := List.getElem?_eq_getElem cn
    obtain ⟨d, hd, dd⟩ := fx_at' dz hz
    obtain ⟨db, edb, qd⟩ := fr_el dd
    rw [edb] at hz
    have yok := okq d (List.mem_of_getElem? hd)
    obtain ⟨n1, n2⟩ := yok.sm
    have atn : atI zs (n : Int) = some (.ref db) := atI_nat hz
    have sbz : SqL K H'' b zs := SqL.of hbz
    walk_at "rd"
    refine ite2 (fun c2 => ?_) (fun c2 => ?_)
    · refine ⟨fun σ' H3 => H3 = H'' ∧ σ' = [some (.ref l), some (.ref b), some (.ref ca), some (.int (n + 1 : Int))], ?_, ⟨_, rfl, _, _, rfl, rfl, rfl, rfl⟩⟩
      rintro σ' H3 ⟨rfl, rfl⟩
      exact ⟨zs.length - (n + 1), by omega, rfl, n + 1, cn, rfl, rfl⟩
    · refine ⟨_, rfl, .inl ⟨rfl, _, SqL.of hbz⟩, _, rfl, _, rfl, b, zs, n, _, rfl, rfl, hbz, by omega, by omega, small1000 (by omega), ?_⟩
      rw [Int.toNat_natCast]
      exact fin rfl
  · obtain ⟨sm, zs, qs, o2, o3, rfl, hbz, dz, okq, lq⟩ := h
    exact ⟨_, rfl, k b zs qs H' sm hb hbz dz okq (by omega)⟩
end
end Mine



set_option Elab.async false
set_option linter.all false
set_option maxRecDepth 100000
set_option maxHeartbeats 4000000

namespace Mine
open PySem L2
local macro_rules | `(tactic| walk_at "mul") => `(tactic| first | exact mulS (by assumption) (by assumption) | exact mulS (by first | assumption | exact sm_of (by omega) | exact sm_of (by decide) | exact sm_mod (by decide) (by decide)) (by first | assumption | exact sm_of (by omega) | exact sm_of (by decide) | exact sm_mod (by decide) (by decide)))
local macro_rules | `(tactic| walk_at "rd1") => `(tactic| first
  | refine ⟨_, rfl, ?_⟩
  | refine ⟨_, _, rfl, rfl, ?_⟩
  | (refine' ⟨_, _, _, _, rfl, rfl, ?sq, ?ia, ?k⟩; (case' sq => first | assumption | exact Scr.l (by assumption)); (case' ia => first | rfl | assumption))
  | refine ⟨rfl, ?_⟩
  | (refine ⟨?m, ?_⟩; (case' m => walk_at "mul"))
  | (refine ⟨?m, ?_⟩; (case' m => exact div_ok (by first | assumption | omega) (by assumption)))
  | (refine ⟨?m, ?_⟩; (case' m => show (0 : Int) < _; decide))
  | (refine ⟨?m, ?_⟩; (case' m => exact ⟨by decide, by decide⟩))
  | (refine ⟨?m, ?_⟩; (case' m => exact ⟨by decide, by decide, by decide⟩)))
local macro_rules | `(tactic| walk_at "rd") => `(tactic| repeat walk_at "rd1")

theorem op_notinDK {X : Cx} {K : PySem.W.Frag} (e : X.K = K) (hu : X.A.units + 64 < cLine) : OpR X (compareOp .NotIn) (rInD K true) := e ▸ op_notinD hu
def XOk2 (x : Int × Int) : Prop := 0 ≤ x.1 ∧ x.1 ≤ x.2 ∧ 0 < x.2 ∧ x.2 < 2 ^ 100
theorem XOk.two {x : Int × Int} (h : XOk x) : XOk2 x := by
  obtain ⟨h1, h2, h3, h4⟩ := h
  exact ⟨h1, h2, h3, by omega⟩
theorem low_ok {t b : Int} (hb : 0 < b) (h0 : 0 ≤ t) (h1 : t ≤ b) (h2 : b < 2 ^ 100) : XOk2 (Lo.lowT t b, Lo.lowB t b) := by
  have e1 := Lo.lowT_eq t b
  have e2 := Lo.lowB_eq t b
  have s := Lo.sg_pos (t := t) hb
  have p := Lo.lowB_pos (t := t) (show b ≠ 0 by omega)
  have l := Lo.lowB_le (t := t) (show b ≠ 0 by omega)
  refine ⟨?_, ?_, p, ?_⟩
  · show 0 ≤ Lo.lowT t b
    rcases int_or (Lo.lowT t b) 0 with z | z
    · exfalso
      have := Int.mul_neg_of_pos_of_neg s z
      omega
    · exact z
  · show Lo.lowT t b ≤ Lo.lowB t b
    have : Lo.sg t b * Lo.lowT t b ≤ Lo.sg t b * Lo.lowB t b := by omega
    exact Int.le_of_mul_le_mul_left this s
  · show Lo.lowB t b < 2 ^ 100
    omega
theorem top_ok {a b : Int × Int} (ha : XOk a) (hb : XOk b) : 0 ≤ a.1 * b.2 ∧ a.1 * b.2 ≤ a.2 * b.2 ∧ 0 ≤ b.1 * a.2 ∧ b.1 * a.2 ≤ a.2 * b.2 ∧ 0 < a.2 * b.2 ∧ a.2 * b.2 < 2 ^ 90 := by
  obtain ⟨a1, a2, a3, a4⟩ := ha
  obtain ⟨b1, b2, b3, b4⟩ := hb
  refine ⟨Int.mul_nonneg a1 (by omega), Int.mul_le_mul_of_nonneg_right a2 (by omega), Int.mul_nonneg b1 (by omega), ?_, Int.mul_pos a3 b3, ?_⟩
  · rw [Int.mul_comm a.2 b.2]
    exact Int.mul_le_mul_of_nonneg_right b2 (by omega)
  · have z := Ln.prod_small (x := a.2) (y := b.2) (m := 45) (n := 45) (by omega) (by omega)
    omega
def spSpots (K : PySem.W.Frag) : Sp := fun vs H Q _ => ∃ (l : Addr) (us : List V) (Ls : List (List St4)), vs = [.ref l] ∧ SqL K H l us ∧ DatAll K H (Ls.map lnD) us ∧ (∀ L ∈ Ls, Ln.LineK L ∧ L.length ≤ 90) ∧ Ls.length ≤ 2 ∧
  ∀ (l' : Addr) (us' : List V) (qs : List (Int × Int)) (H' : Hp), Same H H' → H' l' = some (.lst us') → DatAll K H' (qs.map frX) us' → (∀ x ∈ qs, XOk2 x) → Q (.ref l') H'
theorem lns_at' {K : PySem.W.Frag} {H : Hp} {xs : List V} {Ls : List (List St4)} (g : DatAll K H (Ls.map lnD) xs) {i : Nat} {x : V} (h : xs[i]? = some x) : ∃ c, Ls[i]? = some c ∧ Dat K H (lnD c) x := by
  obtain ⟨d, e1, e2⟩ := g.get' h
  rw [List.getElem?_map] at e1
  cases z : Ls[i]? with
  | none => rw [z] at e1; cases e1
  | some s => rw [z] at e1; cases e1; exact ⟨s, rfl, e2⟩
theorem okb_x {s : St4} (h : Ln.OkB 45 s) : XOk (s.p, s.q) := by
  obtain ⟨h1, h2, h3, h4, _⟩ := h
  exact ⟨by show 0 ≤ s.p; omega, h2, by show 0 < s.q; omega, by show s.q < 2 ^ 45; omega⟩
theorem same_none {H H' : Hp} {l : Addr} (e : Same H H') (h : H' l = none) : H l = none := by
  cases hh : H l with
  | none => rfl
  | some o => rw [e _ _ hh] at h; cases h
section
variable {P : Program} {w : World} {K : PySem.W.Frag} {mg : Str → Option Value} {base : Heap}
theorem ok_spots (T : TopDef K mg "_law_spots" s_l_spots) (Z_list : mg "list" = none) (Z_zip : mg "zip" = none) (D__law_rising : Def P w K mg base 1 "_law_rising" ["_law_ends"] (spRising K)) (D__law_lowest : Def P w K mg base 2 "_law_lowest" ["_law_top", "_law_bottom"] spLow) : Def P w K mg base 3 "_law_spots" ["_law_lines"] (spSpots K) := by
  refine def_of T sc_l_spots (fun _ _ _ _ _ _ us hl => match us, hl with | [_], _ => rfl) (fun vs H Q E h => ?_) (fun f cdv A outer s H vs Q E hr h => ?_)
  · obtain ⟨l, us, Ls, rfl, _⟩ := h
    rfl
  obtain ⟨l, us, Ls, rfl, sl, da, okl, few, k⟩ := h
  have nd := sc_l_spots.nd
  have hu := hr.units
  have lu : us.length = Ls.length := by rw [da.len, List.length_map]
  refine ⟨_, (pss_cons (ps_set (i := 1) nd rfl (Or.inr rfl) (pe_lst (pa_cons (pe_tup (pa_cons pe_int (pa_cons pe_int pa_nil))) pa_nil)))
    (pss_cons (ps_for PassesOwn.never rfl (pi_list (pv 0)) (pg_name (i := 2) nd rfl (Or.inl rfl)) (pss_one (ps_expr (pe_bm PySem.F.plainAttrs_list PySem.F.slot_list_extend PySem.F.type_list_extend mt_extend (pv 1) (pa_cons (pe_compF rfl (pi_tup (pv 2)) rfl (by decide +kernel) (by decide +kernel) rfl (show ∀ p ∈ Scope.names _, p.2 = NameKind.free → List.lookup p.1 (defScope s_l_spots).names = some .cell ∨ List.lookup p.1 (defScope s_l_spots).names = some .free by decide +kernel) (fa_cons (j := 1) rfl (Or.inl rfl) (by decide +kernel) (Or.inl rfl) fa_nil) (show (["_law_one", "_law_ends"] : List Str).Nodup by decide +kernel) (fun _ _ _ _ => (pif_one (pt_cmpR (op_notinDK (K := K) rfl hu) (pe_ix (ix_tupK (K := K) rfl) (pv 0) pe_int (fun _ _ => rfl)) (pv 1) rfl))) (fun _ _ _ _ => (pe_ix (ix_tupK (K := K) rfl) (pv 0) pe_int (fun _ _ => rfl)))) pa_nil)))))
    (pss_cons (ps_set (i := 1) nd rfl (Or.inr rfl) (pe_def D__law_rising (hr.mono (by decide)) rfl (pa_cons (pv 1) pa_nil)))
    (pss_cons (ps_set (i := 3) nd rfl (Or.inl rfl) (pe_callTy call_list_of rfl Z_list (by decide +kernel) (pa_cons (pv 1) pa_nil)))
    (pss_cons (ps_for PassesOwn.never rfl (pi_zip rfl Z_zip (pv 1) (pe_slice sl_list (pv 1) (po_some pe_int) po_none)) (pg_tup rfl (pgs_cons (pg_name (i := 4) nd rfl (Or.inl rfl)) (pgs_cons (pg_name (i := 5) nd rfl (Or.inl rfl)) pgs_nil))) (pss_one (ps_for PassesOwn.never rfl (pi_tup (pe_tup (pa_cons pe_int (pa_cons pe_int (pa_cons pe_int pa_nil))))) (pg_name (i := 6) nd rfl (Or.inl rfl)) (pss_cons (ps_set (i := 7) nd rfl (Or.inl rfl) (pe_op op_add (pe_op op_mulK (pe_op op_mulK (pe_ix ix_tup (pv 4) pe_int (fun _ _ => rfl)) (pe_ix ix_tup (pv 5) pe_int (fun _ _ => rfl))) (pe_op op_sub pe_int (pv 6))) (pe_op op_mulK (pe_op op_mulK (pe_ix ix_tup (pv 5) pe_int (fun _ _ => rfl)) (pe_ix ix_tup (pv 4) pe_int (fun _ _ => rfl))) (pv 6))))
    (pss_one (ps_expr (pe_bm PySem.F.plainAttrs_list PySem.F.slot_list_append PySem.F.type_list_append mt_append (pv 3) (pa_cons (pe_def D__law_lowest (hr.mono (by decide)) rfl (pa_cons (pv 7) (pa_cons (pe_op op_mulK (pe_op op_mulK pe_int (pe_ix ix_tup (pv 4) pe_int (fun _ _ => rfl))) (pe_ix ix_tup (pv 5) pe_int (fun _ _ => rfl))) pa_nil))) pa_nil))))))))
    (pss_one (ps_ret (pv 3)))))))), ?_⟩
  refine ⟨(by show 2 ≤ sizeLine; decide), fun t0 h0 => ⟨(by show 1 ≤ sizeLine; decide), fun e0 he => ?_⟩⟩
  have u0 := same_new h0 (.tup [.int 0, .int 1])
  have u1 := u0.trans (same_new he (.lst [.ref t0]))
  have he0 : H e0 = none := same_none u0 he
  refine ⟨_, rfl, l, rfl, ⟨us, u1.seq sl⟩, ?_⟩
  refine for_list (xs := us) (fun i σ H' => Same H H' ∧ ∃ (zs : List V) (ps : List (Int × Int)) (o2 o3 o4 o5 o6 o7 : Option V), σ = [some (.ref l), some (.ref e0), o2, o3, o4, o5, o6, o7] ∧ H' e0 = some (.lst zs) ∧ DatAll K H' (ps.map frX) zs ∧ (∀ x ∈ ps, XOk x) ∧ ps.length ≤ 1 + 90 * i) ⟨u1, [.ref t0], [(0, 1)], _, _, _, _, _, _, rfl, upd_same, ⟨_, _, rfl, fr_mk (p := 0) (q := 1) (SqT.of (same_new he _ _ _ upd_same)), rfl⟩, (fun x hx => by rw [List.mem_singleton.mp hx]; exact ⟨by decide, by decide, by decide, by decide⟩), by simp⟩ (fun i σ H' _ h => h.1.seq sl) (fun i x σ H' hx h => ?_) (fun σ H' h => ?_)
  · obtain ⟨sm, zs, ps, o2, o3, o4, o5, o6, o7, rfl, hz, dz, okp, lp⟩ := h
    obtain ⟨L, hL, dL⟩ := lns_at' (da.ts sm.ts) hx
    obtain ⟨ln, l40⟩ := okl L (List.mem_of_getElem? hL)
    have hi : i < Ls.length := (List.getElem?_eq_some_iff.mp hL).1
    obtain ⟨a, xs, rfl, sa, dxs⟩ := ln_el dL
    have lx := ln_len dxs
    have lz := fx_len dz
    refine ⟨_, rfl, .inl ⟨rfl, _, SqL.of hz⟩, _, rfl, a, rfl, ⟨xs, sa⟩, fun D hD => ?_⟩
    refine ⟨fun j m H2 => m = xs.length - j ∧ j ≤ xs.length ∧ Same H' H2 ∧ ∃ (ys : List V) (qs : List (Int × Int)), H2 D = some (.lst ys) ∧ DatAll K H2 (qs.map frX) ys ∧ (∀ x ∈ qs, XOk x) ∧ qs.length ≤ j, ⟨_, rfl, Nat.zero_le _, same_new hD _, [], [], upd_same, rfl, (fun _ h => nomatch h), Nat.le_refl _⟩, ?_⟩
    rintro j m H2 ⟨rfl, hj, s2, ys, qs, hlD, dy, okq, lq⟩
    have sa2 := sa.ts s2.ts
    have ly := fx_len dy
    by_cases hlt : j < xs.length
    · refine .inr ⟨⟨xs, _, sa2, List.getElem?_eq_getElem hlt⟩, fun v H3 y => ?_⟩
      obtain ⟨rfl, y⟩ := y
      obtain ⟨st, hst, dst⟩ := ln_at' (dxs.ts s2.ts) (y xs sa2)
      obtain ⟨c, e, rfl, q1, d1⟩ := st_el dst
      refine ⟨_, rfl, _, _, _, _, rfl, rfl, q1, rfl, _, rfl, frD st.p st.q, ps.map frX, e0, zs, .inl d1, rfl, SqL.of (s2 _ _ hz), dz.ts s2.ts, lay_map (f := frX) (fun x => fr_lay _ _) ps, fr_lay _ _, Nat.le_trans (depth_map (f := frX) (n := 1) (fun x => by unfold frX; rw [fr_depth]; exact Nat.le_refl _) ps) (by decide), _, rfl, ?_⟩
      refine ite2 (fun c2 => ?_) (fun c2 => ?_)
      · refine ⟨_, rfl, _, _, _, _, rfl, rfl, q1, rfl, ys, hlD, small1000 (by omega), xs.length - (j + 1), by omega, rfl, hlt, same_mut s2 hD _, ys ++ [e], qs ++ [(st.p, st.q)], upd_same, ?_, fun x hx => ?_, by simp; omega⟩
        · have t2 : Tst H3 (upd H3 D (.lst (ys ++ [e]))) := ts_mut hlD
          rw [List.map_append]
          exact (dy.ts t2).snoc (d1.ts t2)
        · rcases List.mem_append.mp hx with z | z
          · exact okq x z
          · rw [List.mem_singleton.mp z]; exact okb_x (ln.at hst)
      · exact ⟨xs.length - (j + 1), by omega, rfl, hlt, s2, ys, qs, hlD, dy, okq, by omega⟩
    have ej : j = xs.length := by omega
    subst ej
    refine .inl ⟨⟨xs, sa2, Nat.le_refl _⟩, ?_⟩
    have hz2 := s2 _ _ hz
    refine ⟨e0, D, zs, ys, rfl, rfl, hz2, hlD, Nat.le_of_lt (small1000 (by omega)), ?_⟩
    have t2 : Tst H2 (upd H2 e0 (.lst (zs ++ ys))) := ts_mut hz2
    refine ⟨same_mut (sm.trans s2) he0 _, zs ++ ys, ps ++ qs, _, _, _, _, _, _, rfl, upd_same, ?_, fun x hx => ?_, ?_⟩
    · rw [List.map_append]
      exact ((dz.ts s2.ts).ts t2).append (dy.ts t2)
    · rcases List.mem_append.mp hx with z | z
      · exact okp x z
      · exact okq x z
    · rw [List.length_append]
      omega
  · obtain ⟨sm, zs, ps, o2, o3, o4, o5, o6, o7, rfl, hz, dz, okp, lp⟩ := h
    refine ⟨_, rfl, e0, zs, ps, rfl, SqL.of hz, dz, okp, by omega, fun e1 us1 qs H1 s1 hn1 he1 d1 okq lq => ?_⟩
    have lu1 := fx_len d1
    have m1 := sm.trans s1
    refine ⟨_, rfl, e1, us1, rfl, .inl (SqL.of he1), fun sp hsp => ?_⟩
    have u2 := same_new hsp (.lst us1)
    have m2 := m1.trans u2
    have hn2 : H sp = none := same_none m1 hsp
    refine ⟨_, rfl, _, rfl, _, rfl, e1, us1, rfl, SqL.of (u2 _ _ he1), fun cu hcu => ?_⟩
    have u3 := same_new hcu (.lst (cutV us1 (some 1) none))
    have m3 := m2.trans u3
    have he3 : upd (upd H1 sp (.lst us1)) cu (.lst (cutV us1 (some 1) none)) e1 = some (.lst us1) := u3 _ _ (u2 _ _ he1)
    have lc : (cutV us1 (some 1) none).length ≤ us1.length := cutV_length _ _ _
    -- the data of the cut
    have dcut : ∀ {H' : Hp}, DatAll K H' (qs.map frX) us1 → ∃ rs : List (Int × Int), DatAll K H' (rs.map frX) (cutV us1 (some 1) none) ∧ ∀ x ∈ rs, XOk x := fun {H'} d => by
      refine ⟨(qs.drop (HT.sIx us1.length 0 (some 1))).take (HT.sIx us1.length us1.length none - HT.sIx us1.length 0 (some 1)), ?_, fun x hx => okq x (List.mem_of_mem_drop (List.mem_of_mem_take hx))⟩
      rw [List.map_take, List.map_drop]
      exact Mine.DatAll.take _ (Mine.DatAll.drop _ d)
    refine ⟨e1, cu, rfl, rfl, ⟨us1, SqL.of he3⟩, ⟨_, SqL.of upd_same⟩, ?_⟩
    have t13 : Tst H1 (upd (upd H1 sp (.lst us1)) cu (.lst (cutV us1 (some 1) none))) := (u2.trans u3).ts
    have hsp3 : upd (upd H1 sp (.lst us1)) cu (.lst (cutV us1 (some 1) none)) sp = some (.lst us1) := u3 _ _ upd_same
    have hb1 : H1 sp = none := hsp
    have hcu1 : H1 cu = none := same_none u2 hcu
    refine for_zip (xs := us1) (ys := cutV us1 (some 1) none) (fun i σ H' => Same H H' ∧ Tst H1 H' ∧ H' e1 = some (.lst us1) ∧ H' cu = some (.lst (cutV us1 (some 1) none)) ∧ ∃ (zs : List V) (rs : List (Int × Int)) (o2 o4 o5 o6 o7 : Option V), σ = [some (.ref l), some (.ref e1), o2, some (.ref sp), o4, o5, o6, o7] ∧ H' sp = some (.lst zs) ∧ DatAll K H' (rs.map frX) zs ∧ (∀ x ∈ rs, XOk2 x) ∧ rs.length ≤ 200 + 3 * i) (min us1.length (cutV us1 (some 1) none).length) rfl
      ⟨m3, t13, he3, upd_same, us1, qs, _, _, _, _, _, rfl, hsp3, d1.ts t13, fun x hx => (okq x hx).two, by omega⟩ (fun i σ H' _ h => ⟨SqL.of h.2.2.1, SqL.of h.2.2.2.1⟩) (fun i x y T' σ H' hx hy h hT => ?_) (fun σ H' h => ?_)
    · obtain ⟨sm', t', he', hc', zs, rs, o2, o4, o5, o6, o7, rfl, hs', dz', okr, lr⟩ := h
      have u4 := same_new hT (.tup [x, y])
      have li : i < us1.length := (List.getElem?_eq_some_iff.mp hx).1
      obtain ⟨c, hc, dc⟩ := fx_at' (d1.ts t') hx
      obtain ⟨rs2, dr2, okr2⟩ := dcut (d1.ts t')
      obtain ⟨d, hd, dd⟩ := fx_at' dr2 hy
      obtain ⟨ca, rfl, qc⟩ := fr_el (dc.ts u4.ts)
      obtain ⟨db, rfl, qd⟩ := fr_el (dd.ts u4.ts)
      have xok := okq c (List.mem_of_getElem? hc)
      have yok := okr2 d (List.mem_of_getElem? hd)
      obtain ⟨p1, p2, p3, p4, p5, p6⟩ := top_ok xok yok
      obtain ⟨m1', m2'⟩ := xok.sm
      obtain ⟨n1, n2⟩ := yok.sm
      refine ⟨T', _, rfl, SqT.of upd_same, rfl, _, _, rfl, _, _, rfl, rfl, ?_⟩
      refine ⟨(by show 3 ≤ sizeLine; decide), fun t3 h3 => ?_⟩
      have u5 := same_new h3 (.tup [.int 1, .int 2, .int 3])
      have n1e : ∀ {o : HO} {b : Addr} {u : HO}, H' b = some u → upd H' T' o b = some u := fun h => same_new hT _ _ _ h
      refine ⟨t3, rfl, ⟨_, SqT.of upd_same⟩, ?_⟩
      refine for_tup (xs := [.int 1, .int 2, .int 3]) (fun j σ H2 => Same H H2 ∧ Tst (upd (upd H' T' (.tup [.ref ca, .ref db])) t3 (.tup [.int 1, .int 2, .int 3])) H2 ∧ H2 e1 = some (.lst us1) ∧ H2 cu = some (.lst (cutV us1 (some 1) none)) ∧ ∃ (zs : List V) (rs : List (Int × Int)) (o2 o6 o7 : Option V), σ = [some (.ref l), some (.ref e1), o2, some (.ref sp), some (.ref ca), some (.ref db), o6, o7] ∧ H2 sp = some (.lst zs) ∧ DatAll K H2 (rs.map frX) zs ∧ (∀ x ∈ rs, XOk2 x) ∧ rs.length ≤ 200 + 3 * i + j)
        ⟨sm'.trans (u4.trans u5), Tst.refl _, u5 _ _ (u4 _ _ he'), u5 _ _ (u4 _ _ hc'), zs, rs, _, _, _, rfl, u5 _ _ (u4 _ _ hs'), (dz'.ts u4.ts).ts u5.ts, okr, by omega⟩ (fun j σ H2 _ h => (SqT.of (K := K) (xs := [.int 1, .int 2, .int 3]) upd_same).ts h.2.1) (fun j x σ H2 hx h => ?_) (fun σ H2 h => ?_)
      · obtain ⟨sm2, t2', he2, hc2, zs2, rs2', o2', o6', o7', rfl, hs2, dz2, okr3, lr3⟩ := h
        have qc2 : SqT K H2 ca [.int c.1, .int c.2] := (qc.ts u5.ts).ts t2'
        have qd2 : SqT K H2 db [.int d.1, .int d.2] := (qd.ts u5.ts).ts t2'
        have hkk : ∃ kk : Int, x = .int kk ∧ (kk = 1 ∨ kk = 2 ∨ kk = 3) := by
          match j, hx with
          | 0, h => cases h; exact ⟨1, rfl, .inl rfl⟩
          | 1, h => cases h; exact ⟨2, rfl, .inr (.inl rfl)⟩
          | 2, h => cases h; exact ⟨3, rfl, .inr (.inr rfl)⟩
        obtain ⟨kk, rfl, hk⟩ := hkk
        have s4 : Sm (4 - kk) := sm_of (by omega)
        have s5 : Sm kk := sm_of (by omega)
        have s6 : Sm (c.1 * d.2) := sm_of (by omega)
        have s7 : Sm (d.1 * c.2) := sm_of (by omega)
        have s8 : Sm 4 := sm_of (by decide)
        have s9 : Sm (4 * c.2) := by have := xok.2.2.2; have := xok.2.2.1; exact sm_of (by omega)
        have e4 : 4 * c.2 * d.2 = 4 * (c.2 * d.2) := Int.mul_assoc _ _ _
        have lj : j < 3 := (List.getElem?_eq_some_iff.mp hx).1
        have lz2 := fx_len dz2
        walk_at "rd"
        refine ⟨.inl ⟨rfl, _, SqL.of hs2⟩, ?_⟩
        walk_at "rd"
        refine ⟨c.1 * d.2 * (4 - kk) + d.1 * c.2 * kk, 4 * c.2 * d.2, rfl, by omega, sm_of (by omega), fun ra H3 s3 hra => ?_⟩
        have hs3 := s3 _ _ hs2
        have hok : XOk2 (Lo.lowT (c.1 * d.2 * (4 - kk) + d.1 * c.2 * kk) (4 * c.2 * d.2), Lo.lowB (c.1 * d.2 * (4 - kk) + d.1 * c.2 * kk) (4 * c.2 * d.2)) := by
          rcases hk with rfl | rfl | rfl <;> exact low_ok (by omega) (by omega) (by omega) (by omega)
        have t5 : Tst H3 (upd H3 sp (.lst (zs2 ++ [.ref ra]))) := ts_mut hs3
        have nra : ra ≠ sp := fun e => by rw [e, hs3] at hra; cases hra
        have nes : e1 ≠ sp := fun e => by rw [e, hsp] at he1; cases he1
        have ncs : cu ≠ sp := fun e => by rw [e, upd_same] at hcu; cases hcu
        refine ⟨sp, zs2, _, rfl, rfl, hs3, small1000 (by omega), ?_⟩
        refine ⟨same_mut (sm2.trans s3) hn2 _, (t2'.trans s3.ts).trans t5, by rw [upd_ne nes]; exact s3 _ _ he2, by rw [upd_ne ncs]; exact s3 _ _ hc2, zs2 ++ [.ref ra], rs2' ++ [(Lo.lowT (c.1 * d.2 * (4 - kk) + d.1 * c.2 * kk) (4 * c.2 * d.2), Lo.lowB (c.1 * d.2 * (4 - kk) + d.1 * c.2 * kk) (4 * c.2 * d.2))], _, _, _, rfl, upd_same, ?_, fun x hx => ?_, by rw [List.length_append, List.length_singleton]; omega⟩
        · rw [List.map_append]
          exact ((dz2.ts s3.ts).ts t5).snoc (fr_mk (SqT.of (by rw [upd_ne nra]; exact hra)))
        · rcases List.mem_append.mp hx with z | z
          · exact okr3 x z
          · rw [List.mem_singleton.mp z]; exact hok
      · obtain ⟨sm2, t2', he2, hc2, zs2, rs2', o2', o6', o7', rfl, hs2, dz2, okr3, lr3⟩ := h
        refine ⟨sm2, t'.trans ((u4.trans u5).ts.trans t2'), he2, hc2, zs2, rs2', _, _, _, _, _, rfl, hs2, dz2, okr3, by simp at lr3; omega⟩
    · obtain ⟨sm', t', he', hc', zs, rs, o2, o4, o5, o6, o7, rfl, hs', dz', okr, lr⟩ := h
      exact ⟨_, rfl, k sp zs rs H' sm' hs' dz' okr⟩
end
end Mine



set_option Elab.async false
set_option linter.all false
set_option maxRecDepth 100000
set_option maxHeartbeats 4000000

namespace Mine
open PySem L2
local macro_rules | `(tactic| walk_at "mul") => `(tactic| first | exact mulS (by assumption) (by assumption) | exact mulS (by first | assumption | exact sm_of (by omega) | exact sm_of (by decide) | exact sm_mod (by decide) (by decide)) (by first | assumption | exact sm_of (by omega) | exact sm_of (by decide) | exact sm_mod (by decide) (by decide)))
local macro_rules | `(tactic| walk_at "rd1") => `(tactic| first
  | refine ⟨_, rfl, ?_⟩
  | refine ⟨_, _, rfl, rfl, ?_⟩
  | (refine' ⟨_, _, _, _, rfl, rfl, ?sq, ?ia, ?k⟩; (case' sq => first | assumption | exact Scr.l (by assumption)); (case' ia => first | rfl | assumption))
  | refine ⟨rfl, ?_⟩
  | (refine ⟨?m, ?_⟩; (case' m => walk_at "mul"))
  | (refine ⟨?m, ?_⟩; (case' m => exact div_ok (by first | assumption | omega) (by assumption)))
  | (refine ⟨?m, ?_⟩; (case' m => show (0 : Int) < _; decide))
  | (refine ⟨?m, ?_⟩; (case' m => exact ⟨by decide, by decide⟩))
  | (refine ⟨?m, ?_⟩; (case' m => exact ⟨by decide, by decide, by decide⟩)))
local macro_rules | `(tactic| walk_at "rd") => `(tactic| repeat walk_at "rd1")

def spGst (K : PySem.W.Frag) : Sp := fun vs H Q _ => ∃ (v0 v1 f g : V) (sp sq : Int) (c : Ln.Pc), vs = [v0, v1, f, g] ∧ Dat K H (frD sp sq) v0 ∧ Dat K H (frD c.p c.q) v1 ∧ Dat K H (stD c.a) f ∧ Dat K H (stD c.b) g ∧ Ln.PcOk 45 c ∧ 0 ≤ sp ∧ sp ≤ sq ∧ 0 < sq ∧ sq < 2 ^ 46 ∧
  ∀ (l : Addr) (us : List V) (H' : Hp), Same H H' → H' l = some (.lst us) → DatAll K H' ((Ln.gs sp sq c).map stD) us → us.length ≤ 2 → Q (.ref l) H'
theorem gs_of {sp sq : Int} {c : Ln.Pc} {u1 u2 : St4} (h1 : (if 0 < (c.a.m - c.b.m) * sp + (c.a.h - c.b.h) * sq then c.a else c.b) = u1) (h2 : (if 0 < (c.a.m - c.b.m) * c.p + (c.a.h - c.b.h) * c.q then c.a else c.b) = u2) :
    Ln.gs sp sq c = (if ((c.a.m - c.b.m) * sp + (c.a.h - c.b.h) * sq) * ((c.a.m - c.b.m) * c.p + (c.a.h - c.b.h) * c.q) < 0 then [⟨Lo.lowT (-(c.a.h - c.b.h)) (c.a.m - c.b.m), Lo.lowB (-(c.a.h - c.b.h)) (c.a.m - c.b.m), u1.m, u1.h⟩, ⟨c.p, c.q, u2.m, u2.h⟩] else if (c.a.m - c.b.m) * sp + (c.a.h - c.b.h) * sq = 0 then [⟨c.p, c.q, u2.m, u2.h⟩] else [⟨c.p, c.q, u1.m, u1.h⟩]) := by
  unfold Ln.gs
  rw [h1, h2]
theorem slope_ne {S h sq q : Int} {sp p : Int} (hs : 0 < sq) (hq : 0 < q) (c : (S * sp + h * sq) * (S * p + h * q) < 0) : S ≠ 0 := by
  intro z
  subst z
  rw [Int.zero_mul, Int.zero_mul, Int.zero_add, Int.zero_add] at c
  rcases Int.le_total 0 h with y | y
  · have := Int.mul_nonneg (Int.mul_nonneg y (Int.le_of_lt hs)) (Int.mul_nonneg y (Int.le_of_lt hq))
    omega
  · have := Int.mul_nonneg_of_nonpos_of_nonpos (Int.mul_nonpos_of_nonpos_of_nonneg y (Int.le_of_lt hs)) (Int.mul_nonpos_of_nonpos_of_nonneg y (Int.le_of_lt hq))
    omega
section
variable {P : Program} {w : World} {K : PySem.W.Frag} {mg : Str → Option Value} {base : Heap}
theorem ok_gst (T : TopDef K mg "greater_stretches" s_greater_stretches) (D_fraction : Def P w K mg base 2 "fraction" ["top", "bottom"] spLow) : Def P w K mg base 3 "greater_stretches" ["start", "end", "first", "second"] (spGst K) := by
  refine def_of T sc_greater_stretches (fun _ _ _ _ _ _ us hl => match us, hl with | [_, _, _, _], _ => rfl) (fun vs H Q E h => ?_) (fun f cdv A outer s H vs Q E hr h => ?_)
  · obtain ⟨v0, v1, f, g, sp, sq, c, rfl, _⟩ := h
    rfl
  obtain ⟨v0, v1, f', g, sp, sq, c, rfl, d0, d1, df, dg, ok, p0, pq, q0, qb, k⟩ := h
  have nd := sc_greater_stretches.nd
  have t6 : ∃ t, PSs (cxOf CX0 P w K mg base n_greater_stretches "greater_stretches" (defScope s_greater_stretches) f cdv A outer s H E).nox ((defBody s_greater_stretches).drop 6) t ∧
      ∀ (S Hh AS AE : Int) (u1 u2 : St4) (w1 w2 : V), Sm AS → Sm AE → Sm S → (AS * AE < 0 → S ≠ 0) → Dat K H (stD u1) w1 → Dat K H (stD u2) w2 →
        (∀ (l : Addr) (us : List V) (H' : Hp), Same H H' → H' l = some (.lst us) → DatAll K H' ((if AS * AE < 0 then [⟨Lo.lowT (-Hh) S, Lo.lowB (-Hh) S, u1.m, u1.h⟩, ⟨c.p, c.q, u2.m, u2.h⟩] else if AS = 0 then [⟨c.p, c.q, u2.m, u2.h⟩] else [⟨c.p, c.q, u1.m, u1.h⟩]).map stD) us → us.length ≤ 2 → Q (.ref l) H') →
        t { nx := fun _ H' => Q .non H', rt := Q } [some v0, some v1, some f', some g, some (.int S), some (.int Hh), some (.int AS), some (.int AE), some w1, some w2, none] H := by
    refine ⟨_, (pss_cons (ps_if (pt_cmpR op_lt (pe_op op_mulK (pv 6) (pv 7)) pe_int (nomark _)) (pss_cons (ps_set (i := 10) nd rfl (Or.inl rfl) (pe_def D_fraction (hr.mono (by decide)) rfl (pa_cons (pe_un un_neg (pv 5)) (pa_cons (pv 4) pa_nil))))
    (pss_one (ps_ret (pe_lst (pa_cons (pe_op op_catT (pe_tup (pa_cons (pv 10) pa_nil)) (pe_slice sl_tup (pv 8) (po_some pe_int) po_none)) (pa_cons (pe_op op_catT (pe_tup (pa_cons (pv 1) pa_nil)) (pe_slice sl_tup (pv 9) (po_some pe_int) po_none)) pa_nil)))))) pss_nil)
    (pss_cons (ps_if (pt_cmpR op_eq (pv 6) pe_int (nomark _)) (pss_one (ps_ret (pe_lst (pa_cons (pe_op op_catT (pe_tup (pa_cons (pv 1) pa_nil)) (pe_slice sl_tup (pv 9) (po_some pe_int) po_none)) pa_nil)))) pss_nil)
    (pss_one (ps_ret (pe_lst (pa_cons (pe_op op_catT (pe_tup (pa_cons (pv 1) pa_nil)) (pe_slice sl_tup (pv 8) (po_some pe_int) po_none)) pa_nil)))))), fun S Hh AS AE u1 u2 w1 w2 bAS bAE bS hS e1 e2 kk => ?_⟩
    obtain ⟨a1, f1, rfl, q1, _⟩ := st_el e1
    obtain ⟨a2, f2, rfl, q2, _⟩ := st_el e2
    refine ⟨_, rfl, _, rfl, _, _, rfl, rfl, mulS bAS bAE, _, _, rfl, rfl, _, rfl, ?_⟩
    refine ite2 (fun cc => ?_) (fun cc => ?_)
    · have c' : AS * AE < 0 := of_decide_eq_true cc
      rw [if_pos c'] at kk
      refine ⟨_, rfl, _, rfl, _, rfl, -Hh, S, rfl, hS c', bS, fun t1 H1 s1 ht1 => ?_⟩
      refine ⟨_, rfl, (by show 1 ≤ sizeLine; decide), fun p1 hp1 => ?_⟩
      have n1 := same_new hp1 (.tup [.ref t1])
      refine ⟨_, rfl, _, rfl, a1, _, rfl, q1.ts (s1.trans n1).ts, cut1_ne _ _ _, fun p2 hp2 => ?_⟩
      have n2 := same_new hp2 (.tup (cutV [f1, .int u1.m, .int u1.h] (some 1) none))
      refine ⟨p1, p2, [.ref t1], [.int u1.m, .int u1.h], rfl, rfl, SqT.of (n2 _ _ upd_same), SqT.of upd_same, by simp, (by show 3 ≤ sizeLine; decide), (fun z => nomatch z), fun _ p3 hp3 => ?_⟩
      have n3 := same_new hp3 (.tup ([.ref t1] ++ [.int u1.m, .int u1.h]))
      have m3 := s1.trans (n1.trans (n2.trans n3))
      refine ⟨_, rfl, (by show 1 ≤ sizeLine; decide), fun p4 hp4 => ?_⟩
      have n4 := same_new hp4 (.tup [v1])
      refine ⟨_, rfl, _, rfl, a2, _, rfl, q2.ts (m3.trans n4).ts, cut1_ne _ _ _, fun p5 hp5 => ?_⟩
      have n5 := same_new hp5 (.tup (cutV [f2, .int u2.m, .int u2.h] (some 1) none))
      refine ⟨p4, p5, [v1], [.int u2.m, .int u2.h], rfl, rfl, SqT.of (n5 _ _ upd_same), SqT.of upd_same, by simp, (by show 3 ≤ sizeLine; decide), (fun z => nomatch z), fun _ p6 hp6 => ?_⟩
      have n6 := same_new hp6 (.tup ([v1] ++ [.int u2.m, .int u2.h]))
      refine ⟨(by show 2 ≤ sizeLine; decide), fun l hl => ?_⟩
      have n7 := same_new hl (.lst [.ref p3, .ref p6])
      have m47 := n4.trans (n5.trans (n6.trans n7))
      have ft : Dat K _ (frD (Lo.lowT (-Hh) S) (Lo.lowB (-Hh) S)) (.ref t1) := fr_mk (SqT.of ht1)
      refine kk l _ _ (m3.trans m47) upd_same ?_ (by simp)
      exact ⟨_, _, rfl, st_mk (s := ⟨Lo.lowT (-Hh) S, Lo.lowB (-Hh) S, u1.m, u1.h⟩) (SqT.of (m47 _ _ upd_same)) (ft.ts ((n1.trans (n2.trans n3)).trans m47).ts), _, _, rfl, st_mk (s := ⟨c.p, c.q, u2.m, u2.h⟩) (SqT.of (n7 _ _ upd_same)) (d1.ts (m3.trans m47).ts), rfl⟩
    have c' : ¬ AS * AE < 0 := fun z => cc (decide_eq_true z)
    rw [if_neg c'] at kk
    refine ⟨_, rfl, rfl, _, rfl, ?_⟩
    refine ite2 (fun cc => ?_) (fun cc => ?_)
    · have e0 : AS = 0 := V.int.inj (of_decide_eq_true cc)
      rw [if_pos e0] at kk
      refine ⟨_, rfl, (by show 1 ≤ sizeLine; decide), fun p4 hp4 => ?_⟩
      have n4 := same_new hp4 (.tup [v1])
      refine ⟨_, rfl, _, rfl, a2, _, rfl, q2.ts n4.ts, cut1_ne _ _ _, fun p5 hp5 => ?_⟩
      have n5 := same_new hp5 (.tup (cutV [f2, .int u2.m, .int u2.h] (some 1) none))
      refine ⟨p4, p5, [v1], [.int u2.m, .int u2.h], rfl, rfl, SqT.of (n5 _ _ upd_same), SqT.of upd_same, by simp, (by show 3 ≤ sizeLine; decide), (fun z => nomatch z), fun _ p6 hp6 => ?_⟩
      have n6 := same_new hp6 (.tup ([v1] ++ [.int u2.m, .int u2.h]))
      refine ⟨(by show 1 ≤ sizeLine; decide), fun l hl => ?_⟩
      have n7 := same_new hl (.lst [.ref p6])
      have m47 := n4.trans (n5.trans (n6.trans n7))
      refine kk l _ _ m47 upd_same ?_ (by simp)
      exact ⟨_, _, rfl, st_mk (s := ⟨c.p, c.q, u2.m, u2.h⟩) (SqT.of (n7 _ _ upd_same)) (d1.ts m47.ts), rfl⟩
    · have e0 : ¬ AS = 0 := fun z => cc (decide_eq_true (congrArg V.int z))
      rw [if_neg e0] at kk
      refine ⟨_, rfl, (by show 1 ≤ sizeLine; decide), fun p4 hp4 => ?_⟩
      have n4 := same_new hp4 (.tup [v1])
      refine ⟨_, rfl, _, rfl, a1, _, rfl, q1.ts n4.ts, cut1_ne _ _ _, fun p5 hp5 => ?_⟩
      have n5 := same_new hp5 (.tup (cutV [f1, .int u1.m, .int u1.h] (some 1) none))
      refine ⟨p4, p5, [v1], [.int u1.m, .int u1.h], rfl, rfl, SqT.of (n5 _ _ upd_same), SqT.of upd_same, by simp, (by show 3 ≤ sizeLine; decide), (fun z => nomatch z), fun _ p6 hp6 => ?_⟩
      have n6 := same_new hp6 (.tup ([v1] ++ [.int u1.m, .int u1.h]))
      refine ⟨(by show 1 ≤ sizeLine; decide), fun l hl => ?_⟩
      have n7 := same_new hl (.lst [.ref p6])
      have m47 := n4.trans (n5.trans (n6.trans n7))
      refine kk l _ _ m47 upd_same ?_ (by simp)
      exact ⟨_, _, rfl, st_mk (s := ⟨c.p, c.q, u1.m, u1.h⟩) (SqT.of (n7 _ _ upd_same)) (d1.ts m47.ts), rfl⟩
  obtain ⟨t6, ht6, hq6⟩ := t6
  obtain ⟨a0, rfl, s0⟩ := fr_el d0
  obtain ⟨a1, rfl, s1⟩ := fr_el d1
  obtain ⟨fa, ef, rfl, qf, ff⟩ := st_el df
  obtain ⟨ga, eg, rfl, qg, gg⟩ := st_el dg
  have oa := ok.a.2.2.2.2
  have ob := ok.b.2.2.2.2
  have bS : (c.a.m - c.b.m).natAbs < 2 ^ 46 := by omega
  have bH : (c.a.h - c.b.h).natAbs < 2 ^ 46 := by omega
  obtain ⟨cp0, cpq, _, cq⟩ := ok.e
  have bsp : sp.natAbs < 2 ^ 46 := by omega
  have bsq : sq.natAbs < 2 ^ 46 := by omega
  have bcp : c.p.natAbs < 2 ^ 46 := by omega
  have bcq : c.q.natAbs < 2 ^ 46 := by omega
  have small : ∀ {x : Int}, x.natAbs < 2 ^ 46 → Sm x := fun h => Nat.lt_of_lt_of_le h (by decide)
  have y1 := Ln.prod_small (x := c.a.m - c.b.m) (y := sp) (m := 46) (n := 46) bS bsp
  have y2 := Ln.prod_small (x := c.a.h - c.b.h) (y := sq) (m := 46) (n := 46) bH bsq
  have y3 := Ln.prod_small (x := c.a.m - c.b.m) (y := c.p) (m := 46) (n := 46) bS bcp
  have y4 := Ln.prod_small (x := c.a.h - c.b.h) (y := c.q) (m := 46) (n := 46) bH bcq
  have bAS : Sm ((c.a.m - c.b.m) * sp + (c.a.h - c.b.h) * sq) := Nat.lt_of_lt_of_le (m := 2 ^ 93) (by omega) (by decide)
  have bAE : Sm ((c.a.m - c.b.m) * c.p + (c.a.h - c.b.h) * c.q) := Nat.lt_of_lt_of_le (m := 2 ^ 93) (by omega) (by decide)
  have hS : ((c.a.m - c.b.m) * sp + (c.a.h - c.b.h) * sq) * ((c.a.m - c.b.m) * c.p + (c.a.h - c.b.h) * c.q) < 0 → c.a.m - c.b.m ≠ 0 := slope_ne q0 (by omega)
  refine ⟨_, pss_cons (ps_set (i := 4) nd rfl (Or.inl rfl) (pe_op op_sub (pe_ix ix_tup (pv 2) pe_int (fun _ _ => rfl)) (pe_ix ix_tup (pv 3) pe_int (fun _ _ => rfl)))) (pss_cons (ps_set (i := 5) nd rfl (Or.inl rfl) (pe_op op_sub (pe_ix ix_tup (pv 2) pe_int (fun _ _ => rfl)) (pe_ix ix_tup (pv 3) pe_int (fun _ _ => rfl)))) (pss_cons (ps_set (i := 6) nd rfl (Or.inl rfl) (pe_op op_add (pe_op op_mulK (pv 4) (pe_ix ix_tup (pv 0) pe_int (fun _ _ => rfl))) (pe_op op_mulK (pv 5) (pe_ix ix_tup (pv 0) pe_int (fun _ _ => rfl))))) (pss_cons (ps_set (i := 7) nd rfl (Or.inl rfl) (pe_op op_add (pe_op op_mulK (pv 4) (pe_ix ix_tup (pv 1) pe_int (fun _ _ => rfl))) (pe_op op_mulK (pv 5) (pe_ix ix_tup (pv 1) pe_int (fun _ _ => rfl))))) (pss_cons (ps_set (i := 8) nd rfl (Or.inl rfl) (pe_ifExp (pt_cmpR op_gt (pv 6) pe_int (nomark _)) (pv 2) (pv 3))) (pss_cons (ps_set (i := 9) nd rfl (Or.inl rfl) (pe_ifExp (pt_cmpR op_gt (pv 7) pe_int (nomark _)) (pv 2) (pv 3))) ht6))))), ?_⟩
  refine ⟨_, rfl, _, _, _, _, rfl, rfl, qf, rfl, _, rfl, _, _, _, _, rfl, rfl, qg, rfl, _, _, rfl, rfl, ?_⟩
  refine ⟨_, rfl, _, _, _, _, rfl, rfl, qf, rfl, _, rfl, _, _, _, _, rfl, rfl, qg, rfl, _, _, rfl, rfl, ?_⟩
  refine ⟨_, rfl, _, rfl, _, _, _, _, rfl, rfl, s0, rfl, _, _, rfl, rfl, mulS (small bS) (small bsp), _, rfl, _, rfl, _, _, _, _, rfl, rfl, s0, rfl, _, _, rfl, rfl, mulS (small bH) (small bsq), _, _, rfl, rfl, ?_⟩
  refine ⟨_, rfl, _, rfl, _, _, _, _, rfl, rfl, s1, rfl, _, _, rfl, rfl, mulS (small bS) (small bcp), _, rfl, _, rfl, _, _, _, _, rfl, rfl, s1, rfl, _, _, rfl, rfl, mulS (small bH) (small bcq), _, _, rfl, rfl, ?_⟩
  have go : ∀ (u1 u2 : St4) (w1 w2 : V), (if 0 < (c.a.m - c.b.m) * sp + (c.a.h - c.b.h) * sq then c.a else c.b) = u1 → (if 0 < (c.a.m - c.b.m) * c.p + (c.a.h - c.b.h) * c.q then c.a else c.b) = u2 → Dat K H (stD u1) w1 → Dat K H (stD u2) w2 →
      t6 { nx := fun _ H' => Q .non H', rt := Q } [some (.ref a0), some (.ref a1), some (.ref fa), some (.ref ga), some (.int (c.a.m - c.b.m)), some (.int (c.a.h - c.b.h)), some (.int ((c.a.m - c.b.m) * sp + (c.a.h - c.b.h) * sq)), some (.int ((c.a.m - c.b.m) * c.p + (c.a.h - c.b.h) * c.q)), some w1, some w2, none] H :=
    fun u1 u2 w1 w2 e1 e2 k1 k2 => hq6 _ _ _ _ u1 u2 w1 w2 bAS bAE (small bS) hS k1 k2 fun l us H' s' hl da n => k l us H' s' hl (by rw [gs_of e1 e2]; exact da) n
  refine ⟨_, rfl, _, _, rfl, rfl, _, rfl, ?_⟩
  refine ite2 (fun c1 => ?_) (fun c1 => ?_)
  · have e1 : (if 0 < (c.a.m - c.b.m) * sp + (c.a.h - c.b.h) * sq then c.a else c.b) = c.a := if_pos (of_decide_eq_true c1)
    refine ⟨_, rfl, ?_⟩
    refine ⟨_, rfl, _, _, rfl, rfl, _, rfl, ?_⟩
    refine ite2 (fun c2 => ⟨_, rfl, ?_⟩) (fun c2 => ⟨_, rfl, ?_⟩)
    · exact go _ _ _ _ e1 (if_pos (of_decide_eq_true c2)) df df
    · exact go _ _ _ _ e1 (if_neg fun z => c2 (decide_eq_true z)) df dg
  · have e1 : (if 0 < (c.a.m - c.b.m) * sp + (c.a.h - c.b.h) * sq then c.a else c.b) = c.b := if_neg fun z => c1 (decide_eq_true z)
    refine ⟨_, rfl, ?_⟩
    refine ⟨_, rfl, _, _, rfl, rfl, _, rfl, ?_⟩
    refine ite2 (fun c2 => ⟨_, rfl, ?_⟩) (fun c2 => ⟨_, rfl, ?_⟩)
    · exact go _ _ _ _ e1 (if_pos (of_decide_eq_true c2)) dg df
    · exact go _ _ _ _ e1 (if_neg fun z => c2 (decide_eq_true z)) dg dg
end
end Mine



set_option Elab.async false
set_option linter.all false
set_option maxRecDepth 100000
set_option maxHeartbeats 4000000

namespace Mine
open PySem L2
local macro_rules | `(tactic| walk_at "mul") => `(tactic| first | exact mulS (by assumption) (by assumption) | exact mulS (by first | assumption | exact sm_of (by omega) | exact sm_of (by decide) | exact sm_mod (by decide) (by decide)) (by first | assumption | exact sm_of (by omega) | exact sm_of (by decide) | exact sm_mod (by decide) (by decide)))
local macro_rules | `(tactic| walk_at "rd1") => `(tactic| first
  | refine ⟨_, rfl, ?_⟩
  | refine ⟨_, _, rfl, rfl, ?_⟩
  | (refine' ⟨_, _, _, _, rfl, rfl, ?sq, ?ia, ?k⟩; (case' sq => first | assumption | exact Scr.l (by assumption)); (case' ia => first | rfl | assumption))
  | refine ⟨rfl, ?_⟩
  | (refine ⟨?m, ?_⟩; (case' m => walk_at "mul"))
  | (refine ⟨?m, ?_⟩; (case' m => exact div_ok (by first | assumption | omega) (by assumption)))
  | (refine ⟨?m, ?_⟩; (case' m => show (0 : Int) < _; decide))
  | (refine ⟨?m, ?_⟩; (case' m => exact ⟨by decide, by decide⟩))
  | (refine ⟨?m, ?_⟩; (case' m => exact ⟨by decide, by decide, by decide⟩)))
local macro_rules | `(tactic| walk_at "rd") => `(tactic| repeat walk_at "rd1")

def spGr (K : PySem.W.Frag) : Sp := fun vs H Q _ => ∃ (x y : V) (A B : List St4), vs = [x, y] ∧ Dat K H (lnD A) x ∧ Ln.LineK A ∧ Dat K H (lnD B) y ∧ Ln.LineK B ∧ ∀ v H', Same H H' → Dat K H' (lnD (up A B)) v → Q v H'
def spLe (K : PySem.W.Frag) : Sp := fun vs H Q _ => ∃ (x y : V) (A B : List St4), vs = [x, y] ∧ Dat K H (lnD A) x ∧ Ln.LineK A ∧ Dat K H (lnD B) y ∧ Ln.LineK B ∧ (le A B).length ≤ 100 ∧ ∀ v H', Same H H' → Dat K H' (lnD (le A B)) v → Q v H'
section
variable {P : Program} {w : World} {K : PySem.W.Frag} {mg : Str → Option Value} {base : Heap}
theorem ok_gr (T : TopDef K mg "greater_line" s_greater_line) (TN : TopTup K mg "NOUGHT" [0, 1]) (D_side_by_side : Def P w K mg base 2 "side_by_side" ["one", "other"] (spSbs K)) (D_greater_stretches : Def P w K mg base 3 "greater_stretches" ["start", "end", "first", "second"] (spGst K))
    (D_joined : Def P w K mg base 1 "joined" ["stretches"] (spJoined K)) : Def P w K mg base 4 "greater_line" ["one", "other"] (spGr K) := by
  refine def_of T sc_greater_line (fun _ _ _ _ _ _ us hl => match us, hl with | [_, _], _ => rfl) (fun vs H Q E h => ?_) (fun f cdv A outer s H vs Q E hr h => ?_)
  · obtain ⟨x, y, A, B, rfl, _⟩ := h
    rfl
  obtain ⟨x, y, A, B, rfl, hx, la, hy, lb, k⟩ := h
  have nd := sc_greater_line.nd
  obtain ⟨aN, M_NOUGHT, qN⟩ := TN.ex
  have slen := Ln.sbs_len A B
  have fa := la.few
  have fb := lb.few
  obtain ⟨okp, _, _⟩ := Ln.sbs_way A B la.way lb.way
  refine ⟨_, (pss_cons (ps_set (i := 2) nd rfl (Or.inl rfl) (pe_lst pa_nil))
    (pss_cons (ps_set (i := 3) nd rfl (Or.inl rfl) (pe_glob (v := V.ref aN) rfl M_NOUGHT rfl))
    (pss_cons (ps_for PassesOwn.never rfl (pi_list (pe_def D_side_by_side (hr.mono (by decide)) rfl (pa_cons (pv 0) (pa_cons (pv 1) pa_nil)))) (pg_tup rfl (pgs_cons (pg_name (i := 4) nd rfl (Or.inl rfl)) (pgs_cons (pg_name (i := 5) nd rfl (Or.inl rfl)) (pgs_cons (pg_name (i := 6) nd rfl (Or.inl rfl)) pgs_nil)))) (pss_cons (ps_expr (pe_bm PySem.F.plainAttrs_list PySem.F.slot_list_extend PySem.F.type_list_extend mt_extend (pv 2) (pa_cons (pe_def D_greater_stretches (hr.mono (by decide)) rfl (pa_cons (pv 3) (pa_cons (pv 4) (pa_cons (pv 5) (pa_cons (pv 6) pa_nil))))) pa_nil)))
    (pss_one (ps_set (i := 3) nd rfl (Or.inl rfl) (pv 4)))))
    (pss_one (ps_ret (pe_def D_joined (hr.mono (by decide)) rfl (pa_cons (pv 2) pa_nil))))))), ?_⟩
  refine ⟨(by show 0 ≤ sizeLine; decide), fun st hst => ?_⟩
  have u0 := same_new hst (.lst [])
  refine ⟨_, rfl, _, rfl, x, y, A, B, rfl, hx.ts u0.ts, la, hy.ts u0.ts, lb, fun l us H1 s1 hl0 hl dus => ?_⟩
  have lu : us.length = (Ln.sbs A B).length := by rw [dus.len, List.length_map]
  have ne : l ≠ st := fun z => by subst z; rw [upd_same] at hl0; cases hl0
  refine ⟨l, rfl, ⟨us, SqL.of hl⟩, ?_⟩
  refine for_list (xs := us) (fun i σ H' => Same H H' ∧ H' l = some (.lst us) ∧ DatAll K H' ((Ln.sbs A B).map pcD) us ∧ ∃ (zs : List V) (G : List St4) (vS : V) (sp sq : Int) (o4 o5 o6 : Option V), σ = [some x, some y, some (.ref st), some vS, o4, o5, o6] ∧ H' st = some (.lst zs) ∧ DatAll K H' (G.map stD) zs ∧ Dat K H' (frD sp sq) vS ∧ 0 ≤ sp ∧ sp ≤ sq ∧ 0 < sq ∧ sq < 2 ^ 46 ∧ G.length ≤ 2 * i ∧ G ++ Ln.gr sp sq ((Ln.sbs A B).drop i) = Ln.gr 0 1 (Ln.sbs A B))
    ⟨u0.trans s1, hl, dus, [], [], .ref aN, 0, 1, _, _, _, rfl, s1 _ _ upd_same, rfl, fr_mk (p := 0) (q := 1) (qN _), by decide, by decide, by decide, by decide, by simp, by simp⟩ (fun i σ H' _ z => SqL.of z.2.1) (fun i v σ H' hv z => ?_) (fun σ H' z => ?_)
  · obtain ⟨sm, hl', dus', zs, G, vS, sp, sq, o4, o5, o6, rfl, hz, dz, dS, p0, pq, q0, qb, lG, eG⟩ := z
    have hi : i < us.length := (List.getElem?_eq_some_iff.mp hv).1
    obtain ⟨c, hc, dc⟩ := pc_at' dus' hv
    obtain ⟨ca, e, f', g, rfl, q1, d1, df, dg⟩ := pc_el dc
    have okc := okp c (List.mem_of_getElem? hc)
    obtain ⟨cp0, cpq, _, cq⟩ := okc.e
    refine ⟨ca, _, rfl, q1, rfl, _, _, rfl, _, _, rfl, _, _, rfl, rfl, ?_⟩
    refine ⟨_, rfl, .inl ⟨rfl, _, SqL.of hz⟩, _, rfl, _, rfl, _, rfl, _, rfl, vS, e, f', g, sp, sq, c, rfl, dS, d1, df, dg, okc, p0, pq, q0, qb, fun l2 us2 H2 s2 hl2 da2 n2 => ?_⟩
    have hz2 := s2 _ _ hz
    have lz : zs.length ≤ 900 := by rw [ln_len dz]; omega
    refine ⟨st, l2, zs, us2, rfl, rfl, hz2, hl2, Nat.le_of_lt (small1000 (by omega)), ?_⟩
    have t3 : Tst H2 (upd H2 st (.lst (zs ++ us2))) := ts_mut hz2
    have tt := s2.ts.trans t3
    refine ⟨_, rfl, ?_⟩
    refine ⟨same_mut (sm.trans s2) hst _, by rw [upd_ne ne]; exact s2 _ _ hl', dus'.ts tt, zs ++ us2, G ++ Ln.gs sp sq c, e, c.p, c.q, _, _, _, rfl, upd_same, ?_, d1.ts tt, by omega, cpq, by omega, by omega, ?_, ?_⟩
    · rw [List.map_append]
      exact (dz.ts tt).append (da2.ts t3)
    · have := Ln.gs_len sp sq c
      rw [List.length_append]
      omega
    · rw [← eG]
      obtain ⟨w1, w2⟩ := List.getElem?_eq_some_iff.mp hc
      rw [List.drop_eq_getElem_cons w1, w2, List.append_assoc]
      rfl
  · obtain ⟨sm, hl', dus', zs, G, vS, sp, sq, o4, o5, o6, rfl, hz, dz, dS, p0, pq, q0, qb, lG, eG⟩ := z
    rw [lu, List.drop_length] at eG
    have eG' : G = Ln.gr 0 1 (Ln.sbs A B) := by rw [← eG]; exact (List.append_nil G).symm
    refine ⟨_, rfl, .ref st, G, rfl, ⟨st, zs, rfl, SqL.of hz, dz⟩, by omega, fun v H2 s2 dv => ?_⟩
    rw [eG'] at dv
    exact k v H2 (sm.trans s2) dv
theorem ok_le (T : TopDef K mg "lesser_line" s_lesser_line) (D_turned : Def P w K mg base 1 "turned" ["line"] (spTurned K)) (D_greater_line : Def P w K mg base 4 "greater_line" ["one", "other"] (spGr K)) : Def P w K mg base 5 "lesser_line" ["one", "other"] (spLe K) := by
  refine def_of T sc_lesser_line (fun _ _ _ _ _ _ us hl => match us, hl with | [_, _], _ => rfl) (fun vs H Q E h => ?_) (fun f cdv A outer s H vs Q E hr h => ?_)
  · obtain ⟨x, y, A, B, rfl, _⟩ := h
    rfl
  obtain ⟨x, y, A, B, rfl, hx, la, hy, lb, few, k⟩ := h
  have nd := sc_lesser_line.nd
  have lA : Ln.LineK (A.map Ln.tnS) := ⟨Ln.turned_line la.b, by simpa using la.few⟩
  have lB : Ln.LineK (B.map Ln.tnS) := ⟨Ln.turned_line lb.b, by simpa using lb.few⟩
  refine ⟨_, (pss_one (ps_ret (pe_def D_turned (hr.mono (by decide)) rfl (pa_cons (pe_def D_greater_line (hr.mono (by decide)) rfl (pa_cons (pe_def D_turned (hr.mono (by decide)) rfl (pa_cons (pv 0) pa_nil)) (pa_cons (pe_def D_turned (hr.mono (by decide)) rfl (pa_cons (pv 1) pa_nil)) pa_nil))) pa_nil)))), ?_⟩
  refine ⟨_, rfl, x, A, rfl, hx, la.few, fun v1 H1 s1 d1 => ?_⟩
  refine ⟨_, rfl, y, B, rfl, hy.ts s1.ts, lb.few, fun v2 H2 s2 d2 => ?_⟩
  refine ⟨v1, v2, _, _, rfl, d1.ts s2.ts, lA, d2, lB, fun v3 H3 s3 d3 => ?_⟩
  have gl : (up (A.map Ln.tnS) (B.map Ln.tnS)).length ≤ 100 := by
    unfold le at few
    rw [List.length_map] at few
    exact few
  exact ⟨v3, _, rfl, d3, gl, fun v4 H4 s4 d4 => k v4 H4 (s1.trans (s2.trans (s3.trans s4))) d4⟩
end
end Mine



set_option Elab.async false
set_option linter.all false
set_option maxRecDepth 100000
set_option maxHeartbeats 4000000

namespace Mine
open PySem L2
local macro_rules | `(tactic| walk_at "mul") => `(tactic| first | exact mulS (by assumption) (by assumption) | exact mulS (by first | assumption | exact sm_of (by omega) | exact sm_of (by decide) | exact sm_mod (by decide) (by decide)) (by first | assumption | exact sm_of (by omega) | exact sm_of (by decide) | exact sm_mod (by decide) (by decide)))
local macro_rules | `(tactic| walk_at "rd1") => `(tactic| first
  | refine ⟨_, rfl, ?_⟩
  | refine ⟨_, _, rfl, rfl, ?_⟩
  | (refine' ⟨_, _, _, _, rfl, rfl, ?sq, ?ia, ?k⟩; (case' sq => first | assumption | exact Scr.l (by assumption)); (case' ia => first | rfl | assumption))
  | refine ⟨rfl, ?_⟩
  | (refine ⟨?m, ?_⟩; (case' m => walk_at "mul"))
  | (refine ⟨?m, ?_⟩; (case' m => exact div_ok (by first | assumption | omega) (by assumption)))
  | (refine ⟨?m, ?_⟩; (case' m => show (0 : Int) < _; decide))
  | (refine ⟨?m, ?_⟩; (case' m => exact ⟨by decide, by decide⟩))
  | (refine ⟨?m, ?_⟩; (case' m => exact ⟨by decide, by decide, by decide⟩)))
local macro_rules | `(tactic| walk_at "rd") => `(tactic| repeat walk_at "rd1")

/-- the height of the rule of s at p / q, in lowest terms -/
def hgD (s : St4) (p q : Int) : PyData := frD (Lo.lowT (s.m * p + s.h * q) q) (Lo.lowB (s.m * p + s.h * q) q)
def spTold (K : PySem.W.Frag) : Sp := fun vs H Q _ => ∃ (x y : V) (s : St4) (p q : Int), vs = [x, y] ∧ Dat K H (stD s) x ∧ Dat K H (frD p q) y ∧ 0 < q ∧ Sm p ∧ Sm q ∧ Sm s.m ∧ Sm s.h ∧ ∀ v H', Same H H' → Dat K H' (hgD s p q) v → Q v H'
section
variable {P : Program} {w : World} {K : PySem.W.Frag} {mg : Str → Option Value} {base : Heap}
theorem ok_told (T : TopDef K mg "told_by_stretch" s_told_by_stretch) (D_fraction : Def P w K mg base 2 "fraction" ["top", "bottom"] spLow) : Def P w K mg base 3 "told_by_stretch" ["stretch", "x"] (spTold K) := by
  refine def_of T sc_told_by_stretch (fun _ _ _ _ _ _ us hl => match us, hl with | [_, _], _ => rfl) (fun vs H Q E h => ?_) (fun f cdv A outer s H vs Q E hr h => ?_)
  · obtain ⟨x, y, s, p, q, rfl, _⟩ := h
    rfl
  obtain ⟨x, y, s, p, q, rfl, hx, hy, q0, b1, b2, b3, b4, k⟩ := h
  obtain ⟨a, e, rfl, sa, _⟩ := st_el hx
  obtain ⟨c, rfl, sc⟩ := fr_el hy
  have nd := sc_told_by_stretch.nd
  refine ⟨_, (pss_one (ps_ret (pe_def D_fraction (hr.mono (by decide)) rfl (pa_cons (pe_op op_add (pe_op op_mulK (pe_ix ix_tup (pv 0) pe_int (fun _ _ => rfl)) (pe_ix ix_tup (pv 1) pe_int (fun _ _ => rfl))) (pe_op op_mulK (pe_ix ix_tup (pv 0) pe_int (fun _ _ => rfl)) (pe_ix ix_tup (pv 1) pe_int (fun _ _ => rfl)))) (pa_cons (pe_ix ix_tup (pv 1) pe_int (fun _ _ => rfl)) pa_nil))))), ?_⟩
  walk_at "rd"
  exact ⟨_, q, rfl, by omega, b2, fun z H' sm e => k _ _ sm (fr_mk (SqT.of e))⟩
end
end Mine

namespace Mine
open PySem L2
local macro_rules | `(tactic| walk_at "mul") => `(tactic| first | exact mulS (by assumption) (by assumption) | exact mulS (by first | assumption | exact sm_of (by omega) | exact sm_of (by decide) | exact sm_mod (by decide) (by decide)) (by first | assumption | exact sm_of (by omega) | exact sm_of (by decide) | exact sm_mod (by decide) (by decide)))
local macro_rules | `(tactic| walk_at "rd1") => `(tactic| first
  | refine ⟨_, rfl, ?_⟩
  | refine ⟨_, _, rfl, rfl, ?_⟩
  | (refine' ⟨_, _, _, _, rfl, rfl, ?sq, ?ia, ?k⟩; (case' sq => first | assumption | exact Scr.l (by assumption)); (case' ia => first | rfl | assumption))
  | refine ⟨rfl, ?_⟩
  | (refine ⟨?m, ?_⟩; (case' m => walk_at "mul"))
  | (refine ⟨?m, ?_⟩; (case' m => exact div_ok (by first | assumption | omega) (by assumption)))
  | (refine ⟨?m, ?_⟩; (case' m => show (0 : Int) < _; decide))
  | (refine ⟨?m, ?_⟩; (case' m => exact ⟨by decide, by decide⟩))
  | (refine ⟨?m, ?_⟩; (case' m => exact ⟨by decide, by decide, by decide⟩)))
local macro_rules | `(tactic| walk_at "rd") => `(tactic| repeat walk_at "rd1")

/-- a bend of s, at p / q -/
def bdD (s : St4) (p q : Int) : PyData := .tuple [frD p q, hgD s p q]
def bdX (b : St4 × Int × Int) : PyData := bdD b.1 b.2.1 b.2.2
def bends (L : List St4) : List PyData := (L.take 1).map (fun s => bdD s 0 1) ++ L.map fun s => bdD s s.p s.q
theorem bends_eq (L : List St4) : bends L = (bdL L).map bdX := by
  unfold bends bdL
  rw [List.map_append, List.map_map, List.map_map]
  rfl
theorem bd_el {K : PySem.W.Frag} {H : Hp} {v : V} {s : St4} {p q : Int} (g : Dat K H (bdD s p q) v) : ∃ a e f, v = .ref a ∧ SqT K H a [e, f] ∧ Dat K H (hgD s p q) f := by
  obtain ⟨a, xs, rfl, g, x, r, rfl, hx, y, t, rfl, hy, ht⟩ := g
  cases (show t = [] from ht)
  exact ⟨a, x, y, rfl, g, hy⟩
theorem bd_at' {K : PySem.W.Frag} {H : Hp} {xs : List V} {bs : List (St4 × Int × Int)} (g : DatAll K H (bs.map bdX) xs) {i : Nat} {x : V} (h : xs[i]? = some x) : ∃ c, bs[i]? = some c ∧ Dat K H (bdD c.1 c.2.1 c.2.2) x := by
  obtain ⟨d, e1, e2⟩ := g.get' h
  rw [List.getElem?_map] at e1
  cases z : bs[i]? with
  | none => rw [z] at e1; cases e1
  | some s => rw [z] at e1; cases e1; exact ⟨s, rfl, e2⟩
theorem map_stepG {α β : Type} {f : α → β} {L : List α} {i : Nat} {s : α} (h : L[i]? = some s) : (L.take (i + 1)).map f = (L.take i).map f ++ [f s] := by
  rw [List.take_add_one, h, List.map_append]
  rfl
/-- each bend: a stretch of the line, at nought or at its own end -/
theorem bdL_mem {L : List St4} {b : St4 × Int × Int} (h : b ∈ bdL L) : b.1 ∈ L ∧ ((b.2.1 = 0 ∧ b.2.2 = 1) ∨ (b.2.1 = b.1.p ∧ b.2.2 = b.1.q)) := by
  unfold bdL at h
  rcases List.mem_append.mp h with z | z
  · obtain ⟨s, hs, rfl⟩ := List.mem_map.mp z
    exact ⟨List.mem_of_mem_take hs, .inl ⟨rfl, rfl⟩⟩
  · obtain ⟨s, hs, rfl⟩ := List.mem_map.mp z
    exact ⟨hs, .inr ⟨rfl, rfl⟩⟩
theorem bdL_len {L : List St4} : (bdL L).length ≤ 1 + L.length := by
  unfold bdL
  rw [List.length_append, List.length_map, List.length_map, List.length_take]
  omega
theorem low_in {t b : Int} (hb : 0 < b) : (!decide (Lo.lowT t b < 0 ∨ Lo.lowB t b < Lo.lowT t b)) = inB t b := by
  have e1 := Lo.lowT_eq t b
  have e2 := Lo.lowB_eq t b
  have s := Lo.sg_pos (t := t) hb
  have z1 : Lo.lowT t b < 0 ↔ t < 0 := by
    refine ⟨fun h => ?_, fun h => ?_⟩
    · have := Int.mul_neg_of_pos_of_neg s h
      omega
    · rcases int_or (Lo.lowT t b) 0 with z | z
      · exact z
      · have := Int.mul_nonneg (show 0 ≤ Lo.sg t b by omega) z
        omega
  have z2 : Lo.lowB t b < Lo.lowT t b ↔ b < t := by
    refine ⟨fun h => ?_, fun h => ?_⟩
    · have := Int.mul_lt_mul_of_pos_left h s
      omega
    · rcases int_or (Lo.lowB t b) (Lo.lowT t b) with z | z
      · exact z
      · have := Int.mul_le_mul_of_nonneg_left z (show 0 ≤ Lo.sg t b by omega)
        omega
  unfold inB
  by_cases c : 0 ≤ t ∧ t ≤ b
  · rw [decide_eq_true c, decide_eq_false (show ¬ (Lo.lowT t b < 0 ∨ Lo.lowB t b < Lo.lowT t b) by rw [z1, z2]; omega)]
    rfl
  · rw [decide_eq_false c, decide_eq_true (show (Lo.lowT t b < 0 ∨ Lo.lowB t b < Lo.lowT t b) by rw [z1, z2]; omega)]
    rfl
theorem any_not {α : Type} (f : α → Bool) : ∀ l : List α, (!((l.map fun x => !f x).any id)) = l.all f
  | [] => rfl
  | x :: r => by
    have := any_not f r
    rw [List.map_cons, List.any_cons, List.all_cons, ← this]
    cases f x <;> rfl
def spStraight (K : PySem.W.Frag) : Sp := fun vs H Q _ => ∃ h : Int, vs = [.int 0, .int h] ∧ ∀ v H', Same H H' → Dat K H' (lnD (St1 h)) v → Q v H'
def spCut (K : PySem.W.Frag) : Sp := fun vs H Q _ => ∃ (x : V) (A : List St4), vs = [x] ∧ Dat K H (lnD A) x ∧ Ln.LineK A ∧ Ln.LineK (up A (St1 0)) ∧ (cut A).length ≤ 100 ∧ ∀ v H', Same H H' → Dat K H' (lnD (cut A)) v → Q v H'
def spOutside (K : PySem.W.Frag) : Sp := fun vs H Q _ => ∃ (x : V) (p q : Int), vs = [x] ∧ Dat K H (frD p q) x ∧ Sm p ∧ Sm q ∧ Q (.bl (decide (p < 0 ∨ q < p))) H
def spBends (K : PySem.W.Frag) : Sp := fun vs H Q _ => ∃ (x : V) (L : List St4), vs = [x] ∧ Dat K H (lnD L) x ∧ Ln.LineK L ∧ ∀ (l : Addr) (us : List V) (H' : Hp), Same H H' → H l = none → H' l = some (.lst us) → DatAll K H' (bends L) us → Q (.ref l) H'
def spStays (K : PySem.W.Frag) : Sp := fun vs H Q _ => ∃ (x : V) (L : List St4), vs = [x] ∧ Dat K H (lnD L) x ∧ Ln.LineK L ∧ ∀ H', Same H H' → Q (.bl (wi L)) H'
section
variable {P : Program} {w : World} {K : PySem.W.Frag} {mg : Str → Option Value} {base : Heap}
theorem ok_straight (T : TopDef K mg "straight" s_straight) (TW : TopTup K mg "WHOLE" [1, 1]) : Def P w K mg base 1 "straight" ["slope", "height"] (spStraight K) := by
  refine def_of T sc_straight (fun _ _ _ _ _ _ us hl => match us, hl with | [_, _], _ => rfl) (fun vs H Q E h => ?_) (fun f cdv A outer s H vs Q E hr h => ?_)
  · obtain ⟨h, rfl, _⟩ := h
    rfl
  obtain ⟨h, rfl, k⟩ := h
  have nd := sc_straight.nd
  obtain ⟨aW, M_WHOLE, qW⟩ := TW.ex
  refine ⟨_, (pss_one (ps_ret (pe_tup (pa_cons (pe_tup (pa_cons (pe_glob (v := V.ref aW) rfl M_WHOLE rfl) (pa_cons (pv 0) (pa_cons (pv 1) pa_nil)))) pa_nil)))), ?_⟩
  refine ⟨_, rfl, _, rfl, (by show 3 ≤ sizeLine; decide), fun t ht => ⟨(by show 1 ≤ sizeLine; decide), fun u hu => ?_⟩⟩
  have u1 := same_new ht (.tup [.ref aW, .int 0, .int h])
  have u2 := same_new hu (.tup [.ref t])
  refine k _ _ (u1.trans u2) ⟨u, _, rfl, SqT.of upd_same, _, _, rfl, ?_, rfl⟩
  exact st_mk (s := ⟨1, 1, 0, h⟩) (SqT.of (u2 _ _ upd_same)) (fr_mk (p := 1) (q := 1) (qW _))
theorem ok_cut (T : TopDef K mg "cut_off" s_cut_off) (D_straight : Def P w K mg base 1 "straight" ["slope", "height"] (spStraight K)) (D_greater_line : Def P w K mg base 4 "greater_line" ["one", "other"] (spGr K)) (D_lesser_line : Def P w K mg base 5 "lesser_line" ["one", "other"] (spLe K)) : Def P w K mg base 6 "cut_off" ["line"] (spCut K) := by
  refine def_of T sc_cut_off (fun _ _ _ _ _ _ us hl => match us, hl with | [_], _ => rfl) (fun vs H Q E h => ?_) (fun f cdv A outer s H vs Q E hr h => ?_)
  · obtain ⟨x, A, rfl, _⟩ := h
    rfl
  obtain ⟨x, A, rfl, hx, la, lu, few, k⟩ := h
  have nd := sc_cut_off.nd
  have l0 : Ln.LineK (St1 0) := ⟨s0_line (by decide), by decide⟩
  have l1 : Ln.LineK (St1 1) := ⟨s1_line (by decide), by decide⟩
  refine ⟨_, (pss_one (ps_ret (pe_def D_lesser_line (hr.mono (by decide)) rfl (pa_cons (pe_def D_greater_line (hr.mono (by decide)) rfl (pa_cons (pv 0) (pa_cons (pe_def D_straight (hr.mono (by decide)) rfl (pa_cons pe_int (pa_cons pe_int pa_nil))) pa_nil))) (pa_cons (pe_def D_straight (hr.mono (by decide)) rfl (pa_cons pe_int (pa_cons pe_int pa_nil))) pa_nil))))), ?_⟩
  refine ⟨_, rfl, 0, rfl, fun v1 H1 s1 d1 => ?_⟩
  refine ⟨x, v1, A, St1 0, rfl, hx.ts s1.ts, la, d1, l0, fun v2 H2 s2 d2 => ?_⟩
  refine ⟨1, rfl, fun v3 H3 s3 d3 => ?_⟩
  exact ⟨v2, v3, up A (St1 0), St1 1, rfl, d2.ts s3.ts, lu, d3, l1, few, fun v4 H4 s4 d4 => k v4 H4 (s1.trans (s2.trans (s3.trans s4))) d4⟩
theorem ok_outside (T : TopDef K mg "is_outside" s_is_outside) (TN : TopTup K mg "NOUGHT" [0, 1]) (TW : TopTup K mg "WHOLE" [1, 1]) (D_less : Def P w K mg base 1 "less" ["one", "other"] (spLess K)) : Def P w K mg base 2 "is_outside" ["x"] (spOutside K) := by
  refine def_of T sc_is_outside (fun _ _ _ _ _ _ us hl => match us, hl with | [_], _ => rfl) (fun vs H Q E h => ?_) (fun f cdv A outer s H vs Q E hr h => ?_)
  · obtain ⟨x, p, q, rfl, _⟩ := h
    rfl
  obtain ⟨x, p, q, rfl, hx, b1, b2, k⟩ := h
  have nd := sc_is_outside.nd
  obtain ⟨aN, M_NOUGHT, qN⟩ := TN.ex
  obtain ⟨aW, M_WHOLE, qW⟩ := TW.ex
  refine ⟨_, (pss_one (ps_ret (pe_or (pe_def D_less (hr.mono (by decide)) rfl (pa_cons (pv 0) (pa_cons (pe_glob (v := V.ref aN) rfl M_NOUGHT rfl) pa_nil))) (pe_one (pe_def D_less (hr.mono (by decide)) rfl (pa_cons (pe_glob (v := V.ref aW) rfl M_WHOLE rfl) (pa_cons (pv 0) pa_nil))))))), ?_⟩
  have s0 : Sm 0 := sm_of (by decide)
  have s1 : Sm 1 := sm_of (by decide)
  refine ⟨_, rfl, _, _, p, q, 0, 1, rfl, hx, fr_mk (qN H), b1, b2, s0, s1, _, rfl, ?_⟩
  refine ite2 (fun c => ?_) (fun c => ?_)
  · have c' : p * 1 < 0 * q := of_decide_eq_true c
    rw [decide_eq_true (show p < 0 ∨ q < p from .inl (by omega))] at k
    exact k
  · have c' : ¬ p * 1 < 0 * q := fun z => c (decide_eq_true z)
    refine ⟨_, rfl, _, _, 1, 1, p, q, rfl, fr_mk (qW H), hx, s1, s1, b1, b2, ?_⟩
    have e : decide (1 * q < p * 1) = decide (p < 0 ∨ q < p) := by
      by_cases z : q < p
      · rw [decide_eq_true (show 1 * q < p * 1 by omega), decide_eq_true (show p < 0 ∨ q < p from .inr z)]
      · rw [decide_eq_false (show ¬ 1 * q < p * 1 by omega), decide_eq_false (show ¬ (p < 0 ∨ q < p) by omega)]
    rw [e]
    exact k
theorem ok_bends (T : TopDef K mg "bends" s_bends) (TN : TopTup K mg "NOUGHT" [0, 1]) (D_told_by_stretch : Def P w K mg base 3 "told_by_stretch" ["stretch", "x"] (spTold K)) : Def P w K mg base 4 "bends" ["line"] (spBends K) := by
  refine def_of T sc_bends (fun _ _ _ _ _ _ us hl => match us, hl with | [_], _ => rfl) (fun vs H Q E h => ?_) (fun f cdv A outer s H vs Q E hr h => ?_)
  · obtain ⟨x, L, rfl, _⟩ := h
    rfl
  obtain ⟨x, L, rfl, hx, ln, k⟩ := h
  obtain ⟨a, xs, rfl, sa, da⟩ := ln_el hx
  have nd := sc_bends.nd
  obtain ⟨aN, M_NOUGHT, qN⟩ := TN.ex
  refine ⟨_, (pss_cons (ps_set (i := 1) nd rfl (Or.inl rfl) (pe_lst (pa_cons (pe_tup (pa_cons (pe_glob (v := V.ref aN) rfl M_NOUGHT rfl) (pa_cons (pe_def D_told_by_stretch (hr.mono (by decide)) rfl (pa_cons (pe_ix ix_tup (pv 0) pe_int (fun _ _ => rfl)) (pa_cons (pe_glob (v := V.ref aN) rfl M_NOUGHT rfl) pa_nil))) pa_nil))) pa_nil)))
    (pss_cons (ps_for PassesOwn.never rfl (pi_tup (pv 0)) (pg_name (i := 2) nd rfl (Or.inl rfl)) (pss_one (ps_expr (pe_bm PySem.F.plainAttrs_list PySem.F.slot_list_append PySem.F.type_list_append mt_append (pv 1) (pa_cons (pe_tup (pa_cons (pe_ix ix_tup (pv 2) pe_int (fun _ _ => rfl)) (pa_cons (pe_def D_told_by_stretch (hr.mono (by decide)) rfl (pa_cons (pv 2) (pa_cons (pe_ix ix_tup (pv 2) pe_int (fun _ _ => rfl)) pa_nil))) pa_nil))) pa_nil)))))
    (pss_one (ps_ret (pv 1))))), ?_⟩
  have s0 : Sm 0 := sm_of (by decide)
  have s1 : Sm 1 := sm_of (by decide)
  have lpos := ln.pos
  have hs : L[0]? = some L[0] := List.getElem?_eq_getElem ln.pos
  obtain ⟨v, hv, dv⟩ := ln_at da hs
  obtain ⟨m1, m2, m3, m4, m5⟩ := stb_sm (ln.at hs)
  have at0 : atI xs (0 : Int) = some v := at_of (i := 0) (by decide) hv
  refine ⟨_, rfl, _, _, _, _, rfl, rfl, sa, at0, _, _, L[0], 0, 1, rfl, dv, fr_mk (qN H), by decide, s0, s1, m3, m4, fun v1 H1 e1 d1 => ?_⟩
  refine ⟨(by show 2 ≤ sizeLine; decide), fun t1 h1 => ?_⟩
  have u1 := same_new h1 (.tup [.ref aN, v1])
  refine ⟨(by show 1 ≤ sizeLine; decide), fun l hl => ?_⟩
  have u2 := same_new hl (.lst [.ref t1])
  have hlN : H l = none := (e1.trans u1).free hl
  have bd1 : Dat K (upd (upd H1 t1 (.tup [.ref aN, v1])) l (.lst [.ref t1])) (bdD L[0] 0 1) (.ref t1) :=
    ⟨t1, _, rfl, SqT.of (u2 _ _ upd_same), _, _, rfl, fr_mk (qN _), _, _, rfl, d1.ts (u1.trans u2).ts, rfl⟩
  have tk1 : L.take 1 = [L[0]] := by
    cases L with
    | nil => exact absurd ln.pos (by decide)
    | cons x r => rfl
  refine ⟨_, rfl, a, rfl, ⟨xs, sa.ts (e1.trans (u1.trans u2)).ts⟩, ?_⟩
  refine for_tup (xs := xs) (fun i σ H' => Same H H' ∧ ∃ us o, σ = [some (.ref a), some (.ref l), o] ∧ H' l = some (.lst us) ∧ us.length = i + 1 ∧ DatAll K H' ((L.take 1).map (fun s => bdD s 0 1) ++ (L.take i).map fun s => bdD s s.p s.q) us)
    ⟨e1.trans (u1.trans u2), [.ref t1], _, rfl, upd_same, rfl, by rw [tk1]; exact ⟨_, _, rfl, bd1, rfl⟩⟩ (fun i σ H' _ h => sa.ts h.1.ts) (fun i x σ H' hx' h => ?_) (fun σ H' h => ?_)
  · obtain ⟨sm, us, o, rfl, hl', hlen, dus⟩ := h
    obtain ⟨st, hst, dst⟩ := ln_at' (da.ts sm.ts) hx'
    obtain ⟨c1, e2, rfl, q1, d2⟩ := st_el dst
    obtain ⟨m1, m2, m3, m4, m5⟩ := stb_sm (ln.at hst)
    refine ⟨_, rfl, .inl ⟨rfl, _, SqL.of hl'⟩, _, rfl, _, _, _, _, rfl, rfl, q1, rfl, _, rfl, _, rfl, _, _, _, _, rfl, rfl, q1, rfl, _, _, st, st.p, st.q, rfl, dst, d2, m5, m1, m2, m3, m4, fun v2 H2 s2 d3 => ?_⟩
    refine ⟨(by show 2 ≤ sizeLine; decide), fun t2 h2 => ?_⟩
    have u3 := same_new h2 (.tup [e2, v2])
    have hl3 := (s2.trans u3) _ _ hl'
    have ib : i < 100 := by
      have h1 := (List.getElem?_eq_some_iff.mp hst).1
      have := ln.few
      omega
    refine ⟨l, us, _, rfl, rfl, hl3, small1000 (by omega), ?_⟩
    have t3 : Tst (upd H2 t2 (.tup [e2, v2])) (upd (upd H2 t2 (.tup [e2, v2])) l (.lst (us ++ [.ref t2]))) := ts_mut hl3
    refine ⟨same_mut (sm.trans (s2.trans u3)) hlN _, us ++ [.ref t2], _, rfl, upd_same, by simp [hlen], ?_⟩
    rw [List.take_add_one (i := i), hst, List.map_append, ← List.append_assoc]
    refine (dus.ts ((s2.trans u3).ts.trans t3)).snoc ?_
    exact ⟨t2, _, rfl, SqT.of (t3.t _ _ upd_same), _, _, rfl, d2.ts ((s2.trans u3).ts.trans t3), _, _, rfl, d3.ts (u3.ts.trans t3), rfl⟩
  · obtain ⟨sm, us, o, rfl, hl', hlen, dus⟩ := h
    refine ⟨_, rfl, ?_⟩
    rw [ln_len da, List.take_length] at dus
    exact k l us H' sm hlN hl' dus
theorem bd_sm {L : List St4} (ln : Ln.LineK L) {b : St4 × Int × Int} (h : b ∈ bdL L) : 0 < b.2.2 ∧ Sm (Lo.lowT (b.1.m * b.2.1 + b.1.h * b.2.2) b.2.2) ∧ Sm (Lo.lowB (b.1.m * b.2.1 + b.1.h * b.2.2) b.2.2) := by
  obtain ⟨hb, hc⟩ := bdL_mem h
  obtain ⟨o1, o2, _, o4, o5, o6⟩ := ln.ok _ hb
  have q0 : 0 < b.2.2 ∧ b.2.2.natAbs < 2 ^ 45 ∧ b.2.1.natAbs < 2 ^ 45 := by
    rcases hc with ⟨c1, c2⟩ | ⟨c1, c2⟩
    · rw [c1, c2]; decide
    · rw [c1, c2]; omega
  obtain ⟨q0, q1, q2⟩ := q0
  have y1 := Ln.prod_small (m := 45) (n := 45) o5 q2
  have y2 := Ln.prod_small (m := 45) (n := 45) o6 q1
  have y3 := Lo.lowT_le (t := b.1.m * b.2.1 + b.1.h * b.2.2) (b := b.2.2) (by omega)
  have y4 := Lo.lowB_le (t := b.1.m * b.2.1 + b.1.h * b.2.2) (b := b.2.2) (by omega)
  exact ⟨q0, sm_of (by omega), sm_of (by omega)⟩
theorem ok_stays (T : TopDef K mg "stays" s_stays) (Z_any : mg "any" = none) (D_bends : Def P w K mg base 4 "bends" ["line"] (spBends K)) (D_is_outside : Def P w K mg base 2 "is_outside" ["x"] (spOutside K)) : Def P w K mg base 5 "stays" ["line"] (spStays K) := by
  refine def_of T sc_stays (fun _ _ _ _ _ _ us hl => match us, hl with | [_], _ => rfl) (fun vs H Q E h => ?_) (fun f cdv A outer s H vs Q E hr h => ?_)
  · obtain ⟨x, L, rfl, _⟩ := h
    rfl
  obtain ⟨x, L, rfl, hx, ln, k⟩ := h
  have nd := sc_stays.nd
  have few := ln.few
  have bl := bdL_len (L := L)
  refine ⟨_, (pss_one (ps_ret (pe_not (pe_callB (call_any rfl) rfl Z_any (by decide +kernel) (pa_cons (pe_compF rfl (pi_list (pe_def D_bends (hr.mono (by decide)) rfl (pa_cons (pv 0) pa_nil))) rfl (by decide +kernel) (by decide +kernel) rfl (show ∀ p ∈ Scope.names _, p.2 = NameKind.free → List.lookup p.1 (defScope s_stays).names = some .cell ∨ List.lookup p.1 (defScope s_stays).names = some .free by decide +kernel) fa_nil (show (["bend"] : List Str).Nodup by decide +kernel) (fun _ _ _ _ => pif_nil) (fun _ _ _ _ => (pe_def D_is_outside (hr.mono (by decide)) rfl (pa_cons (pe_ix (ix_tupK (K := K) rfl) (pv 0) pe_int (fun _ _ => rfl)) pa_nil)))) pa_nil))))), ?_⟩
  refine ⟨_, rfl, x, L, rfl, hx, ln, fun l us H1 s1 hlN hl dus => ?_⟩
  rw [bends_eq] at dus
  have lu : us.length = (bdL L).length := by rw [dus.len, List.length_map]
  refine ⟨l, rfl, ⟨us, SqL.of hl⟩, fun D hD => ?_⟩
  have ne : l ≠ D := fun z => by rw [← z, hl] at hD; cases hD
  refine ⟨fun i m H2 => m = us.length - i ∧ i ≤ us.length ∧ Same H1 H2 ∧ H2 D = some (.lst ((((bdL L).take i).map fun b => !inB (b.1.at b.2.1 b.2.2) b.2.2).map V.bl)), ⟨_, rfl, Nat.zero_le _, same_new hD _, upd_same⟩, ?_⟩
  rintro i m H2 ⟨rfl, hi, sm, hlD⟩
  have sl2 : SqL K H2 l us := SqL.of (sm _ _ hl)
  by_cases hlt : i < us.length
  · refine .inr ⟨⟨us, _, sl2, List.getElem?_eq_getElem hlt⟩, fun v H3 y => ?_⟩
    obtain ⟨rfl, y⟩ := y
    obtain ⟨b, hb, db⟩ := bd_at' (dus.ts sm.ts) (y us sl2)
    obtain ⟨c, e, f', rfl, q1, d1⟩ := bd_el db
    obtain ⟨q0, y1, y2⟩ := bd_sm ln (List.mem_of_getElem? hb)
    refine tNoIf_go ?_
    refine ⟨_, rfl, _, _, _, _, rfl, rfl, q1, rfl, f', _, _, rfl, d1, y1, y2, ?_⟩
    have ib : ((((bdL L).take i).map fun b => !inB (b.1.at b.2.1 b.2.2) b.2.2).map V.bl).length ≤ 900 := by
      rw [List.length_map, List.length_map, List.length_take]
      omega
    refine ⟨_, hlD, small1000 (by omega), us.length - (i + 1), by omega, rfl, hlt, same_mut sm hD _, ?_⟩
    rw [upd_same, map_stepG hb, List.map_append]
    have e1 := low_in (t := b.1.m * b.2.1 + b.1.h * b.2.2) q0
    have e2 : (!inB (b.1.at b.2.1 b.2.2) b.2.2) = decide (Lo.lowT (b.1.m * b.2.1 + b.1.h * b.2.2) b.2.2 < 0 ∨ Lo.lowB (b.1.m * b.2.1 + b.1.h * b.2.2) b.2.2 < Lo.lowT (b.1.m * b.2.1 + b.1.h * b.2.2) b.2.2) := by
      show (!inB (b.1.m * b.2.1 + b.1.h * b.2.2) b.2.2) = _
      rw [← e1, Bool.not_not]
    rw [e2]
    rfl
  have ei : i = us.length := by omega
  subst ei
  rw [lu, List.take_length] at hlD
  refine .inl ⟨⟨us, sl2, Nat.le_refl _⟩, ?_⟩
  refine ⟨D, _, rfl, SqL.of hlD, _, rfl, ?_⟩
  rw [any_not (fun b : St4 × Int × Int => inB (b.1.at b.2.1 b.2.2) b.2.2), wi_bd ln.b]
  exact k _ (s1.trans sm)
end
end Mine



set_option Elab.async false
set_option linter.all false
set_option maxRecDepth 100000
set_option maxHeartbeats 4000000

namespace Mine
open PySem L2
local macro_rules | `(tactic| walk_at "mul") => `(tactic| first | exact mulS (by assumption) (by assumption) | exact mulS (by first | assumption | exact sm_of (by omega) | exact sm_of (by decide) | exact sm_mod (by decide) (by decide)) (by first | assumption | exact sm_of (by omega) | exact sm_of (by decide) | exact sm_mod (by decide) (by decide)))
local macro_rules | `(tactic| walk_at "rd1") => `(tactic| first
  | refine ⟨_, rfl, ?_⟩
  | refine ⟨_, _, rfl, rfl, ?_⟩
  | (refine' ⟨_, _, _, _, rfl, rfl, ?sq, ?ia, ?k⟩; (case' sq => first | assumption | exact Scr.l (by assumption)); (case' ia => first | rfl | assumption))
  | refine ⟨rfl, ?_⟩
  | (refine ⟨?m, ?_⟩; (case' m => walk_at "mul"))
  | (refine ⟨?m, ?_⟩; (case' m => exact div_ok (by first | assumption | omega) (by assumption)))
  | (refine ⟨?m, ?_⟩; (case' m => show (0 : Int) < _; decide))
  | (refine ⟨?m, ?_⟩; (case' m => exact ⟨by decide, by decide⟩))
  | (refine ⟨?m, ?_⟩; (case' m => exact ⟨by decide, by decide, by decide⟩)))
local macro_rules | `(tactic| walk_at "rd") => `(tactic| repeat walk_at "rd1")

theorem clamp {h q : Int} (hq : 0 < q) : (if (if h < q then h else q) > 0 then (if h < q then h else q) else 0) = min (max h 0) q := by
  by_cases c : h < q
  · rw [if_pos c]
    split <;> omega
  · rw [if_neg c]
    split <;> omega
/-- F is A cut off -/
structure Due (F A : List St4) : Prop where
  f : Ln.LineK F ∧ F.length ≤ 90
  a : Ln.LineK A ∧ A.length ≤ 90
  ht : ∀ p q, 0 < q → 0 ≤ p → p ≤ q → hAt F p q = min (max (hAt A p q) 0) q
def spAs (K : PySem.W.Frag) : Sp := fun vs H Q _ => ∃ (x y : V) (F A : List St4), vs = [x, y] ∧ Dat K H (lnD F) x ∧ Dat K H (lnD A) y ∧ Due F A ∧ ∀ H', Same H H' → Q (.bl true) H'
def spWithin (K : PySem.W.Frag) : Sp := fun vs H Q _ => ∃ (x : V) (L : List St4), vs = [x] ∧ Dat K H (lnD L) x ∧ Ln.LineK L ∧ ∀ H', Same H H' → Q (.bl (wi L)) H'
def spTruth : Sp := fun vs H Q _ => ∃ b : Bool, vs = [.bl b, .bl b] ∧ Q (.bl true) H
section
variable {P : Program} {w : World} {K : PySem.W.Frag} {mg : Str → Option Value} {base : Heap}
theorem ok_as (T : TopDef K mg "_law_as" s_l_as) (Z_min : mg "min" = none) (Z_max : mg "max" = none) (D__law_is_line : Def P w K mg base 3 "_law_is_line" ["_law_line"] (spIsLine K)) (D__law_spots : Def P w K mg base 3 "_law_spots" ["_law_lines"] (spSpots K)) (D__law_height : Def P w K mg base 1 "_law_height" ["_law_line", "_law_x"] (spHt K)) :
    Def P w K mg base 4 "_law_as" ["_law_found", "_law_line"] (spAs K) := by
  refine def_of T sc_l_as (fun _ _ _ _ _ _ us hl => match us, hl with | [_, _], _ => rfl) (fun vs H Q E h => ?_) (fun f cdv Ar outer s H vs Q E hr h => ?_)
  · obtain ⟨x, y, F, A, rfl, _⟩ := h
    rfl
  obtain ⟨x, y, F, A, rfl, hx, hy, du, k⟩ := h
  have nd := sc_l_as.nd
  refine ⟨_, (pss_cons (ps_if (pt_not (pt_val (pe_def D__law_is_line (hr.mono (by decide)) rfl (pa_cons (pv 0) pa_nil)))) (pss_one (ps_ret pe_bl)) pss_nil)
    (pss_cons (ps_for PassesOwn.never rfl (pi_list (pe_def D__law_spots (hr.mono (by decide)) rfl (pa_cons (pe_lst (pa_cons (pv 0) (pa_cons (pv 1) pa_nil))) pa_nil))) (pg_name (i := 2) nd rfl (Or.inl rfl)) (pss_one (ps_if (pt_cmpR op_ne (pe_ix ix_tup (pe_def D__law_height (hr.mono (by decide)) rfl (pa_cons (pv 0) (pa_cons (pv 2) pa_nil))) pe_int (fun _ _ => rfl)) (pe_callB (call_max2 rfl) rfl Z_max (by decide +kernel) (pa_cons pe_int (pa_cons (pe_callB (call_min2 rfl) rfl Z_min (by decide +kernel) (pa_cons (pe_ix ix_tup (pv 2) pe_int (fun _ _ => rfl)) (pa_cons (pe_ix ix_tup (pe_def D__law_height (hr.mono (by decide)) rfl (pa_cons (pv 1) (pa_cons (pv 2) pa_nil))) pe_int (fun _ _ => rfl)) pa_nil))) pa_nil))) (nomark _)) (pss_one (ps_ret pe_bl)) pss_nil)))
    (pss_one (ps_ret pe_bl)))), ?_⟩
  refine ⟨_, rfl, x, F, rfl, hx, du.f.1, fun H1 s1 => ?_⟩
  refine ⟨_, rfl, iteF ?_⟩
  refine ⟨_, rfl, _, rfl, (by show 2 ≤ sizeLine; decide), fun lc hlc => ?_⟩
  have u2 := same_new hlc (.lst [x, y])
  have m2 := s1.trans u2
  refine ⟨lc, [x, y], [F, A], rfl, SqL.of upd_same, ⟨x, _, rfl, hx.ts m2.ts, y, _, rfl, hy.ts m2.ts, rfl⟩, ?_, by simp, fun l' us' qs H2 s2 hl' dq okq => ?_⟩
  · intro L hL
    simp only [List.mem_cons, List.not_mem_nil, or_false] at hL
    rcases hL with e | e
    · rw [e]; exact du.f
    · rw [e]; exact du.a
  have m3 := m2.trans s2
  refine ⟨l', rfl, ⟨us', SqL.of hl'⟩, ?_⟩
  refine for_list (xs := us') (fun i σ H' => Same H2 H' ∧ ∃ (o2 : Option V), σ = [some x, some y, o2]) ⟨fun _ _ h => h, _, rfl⟩ (fun i σ H' _ h => SqL.of (h.1 _ _ hl')) (fun i v σ H' hv h => ?_) (fun σ H' h => ?_)
  · obtain ⟨sm, o2, rfl⟩ := h
    obtain ⟨c, hc, dc⟩ := fx_at' (dq.ts sm.ts) hv
    obtain ⟨c1, c2, c3, c4⟩ := okq c (List.mem_of_getElem? hc)
    have y1 : Sm c.1 := sm_of (by omega)
    have y2 : Sm c.2 := sm_of (by omega)
    have mm := m3.trans sm
    refine ⟨_, rfl, _, rfl, x, v, F, c.1, c.2, rfl, hx.ts mm.ts, du.f.1, dc, c3, c2, y1, y2, fun sf hsf v1 H3 s3 dv1 => ?_⟩
    obtain ⟨vf, rfl, qf⟩ := fr_el dv1
    obtain ⟨vx, rfl, qx⟩ := fr_el (dc.ts s3.ts)
    refine ⟨_, _, _, _, rfl, rfl, qf, rfl, ?_⟩
    refine ⟨_, rfl, _, _, _, _, rfl, rfl, qx, rfl, ?_⟩
    refine ⟨_, rfl, _, rfl, y, _, A, c.1, c.2, rfl, hy.ts (mm.trans s3).ts, du.a.1, dc.ts s3.ts, c3, c2, y1, y2, fun sa hsa v2 H4 s4 dv2 => ?_⟩
    obtain ⟨va, rfl, qa⟩ := fr_el dv2
    have eF : hAt F c.1 c.2 = sf.m * c.1 + sf.h * c.2 := hAt_of hsf
    have eA : hAt A c.1 c.2 = sa.m * c.1 + sa.h * c.2 := hAt_of hsa
    have eq := du.ht c.1 c.2 c3 c1 c2
    rw [eF, eA] at eq
    have eq2 := eq.trans (clamp (h := sa.m * c.1 + sa.h * c.2) c3).symm
    refine ⟨_, _, _, _, rfl, rfl, qa, rfl, _, _, rfl, _, _, rfl, rfl, _, rfl, iteNS (congrArg V.int eq2) ?_⟩
    exact ⟨sm.trans (s3.trans s4), _, rfl⟩
  · obtain ⟨sm, o2, rfl⟩ := h
    exact k H' (m3.trans sm)
theorem ends_ok {L : List St4} (ln : Ln.LineK L) {x : Int × Int} (h : x ∈ endsL L) : 0 ≤ x.1 ∧ x.1 ≤ x.2 ∧ 0 < x.2 ∧ Sm x.1 ∧ Sm x.2 := by
  rcases List.mem_cons.mp h with z | z
  · rw [z]
    exact ⟨by decide, by decide, by decide, sm_of (by decide), sm_of (by decide)⟩
  · obtain ⟨s, hs, rfl⟩ := List.mem_map.mp z
    obtain ⟨h1, h2, _, h4, _, _⟩ := ln.ok s hs
    exact ⟨by show 0 ≤ s.p; omega, h2, by show 0 < s.q; omega, sm_of (x := s.p) (by omega), sm_of (x := s.q) (by omega)⟩
theorem wi_no {L : List St4} {x : Int × Int} (h : x ∈ endsL L) (c : ¬ (0 ≤ hAt L x.1 x.2 ∧ hAt L x.1 x.2 ≤ x.2)) : wi L = false := by
  cases e : wi L with
  | false => rfl
  | true => exact absurd (wi_iff.mp e x h) c
theorem ok_within (T : TopDef K mg "_law_within" s_l_within) (D__law_height : Def P w K mg base 1 "_law_height" ["_law_line", "_law_x"] (spHt K)) : Def P w K mg base 2 "_law_within" ["_law_line"] (spWithin K) := by
  refine def_of T sc_l_within (fun _ _ _ _ _ _ us hl => match us, hl with | [_], _ => rfl) (fun vs H Q E h => ?_) (fun f cdv Ar outer s H vs Q E hr h => ?_)
  · obtain ⟨x, L, rfl, _⟩ := h
    rfl
  obtain ⟨x, L, rfl, hx, ln, k⟩ := h
  obtain ⟨a, xs, rfl, sa, da⟩ := ln_el hx
  have nd := sc_l_within.nd
  have lx := ln_len da
  have few := ln.few
  refine ⟨_, (pss_cons (ps_for PassesOwn.never rfl (pi_list (pe_op op_cat (pe_lst (pa_cons (pe_tup (pa_cons pe_int (pa_cons pe_int pa_nil))) pa_nil)) (pe_compF rfl (pi_tup (pv 0)) rfl (by decide +kernel) (by decide +kernel) rfl (show ∀ p ∈ Scope.names _, p.2 = NameKind.free → List.lookup p.1 (defScope s_l_within).names = some .cell ∨ List.lookup p.1 (defScope s_l_within).names = some .free by decide +kernel) fa_nil (show (["_law_one"] : List Str).Nodup by decide +kernel) (fun _ _ _ _ => pif_nil) (fun _ _ _ _ => (pe_ix (ix_tupK (K := K) rfl) (pv 0) pe_int (fun _ _ => rfl)))))) (pg_name (i := 1) nd rfl (Or.inl rfl)) (pss_one (ps_if (pt_not (pt_chain op_le op_le pe_int (pe_ix ix_tup (pe_def D__law_height (hr.mono (by decide)) rfl (pa_cons (pv 0) (pa_cons (pv 1) pa_nil))) pe_int (fun _ _ => rfl)) (pe_ix ix_tup (pv 1) pe_int (fun _ _ => rfl)))) (pss_one (ps_ret pe_bl)) pss_nil)))
    (pss_one (ps_ret pe_bl))), ?_⟩
  refine ⟨(by show 2 ≤ sizeLine; decide), fun t0 h0 => ⟨(by show 1 ≤ sizeLine; decide), fun e0 he => ?_⟩⟩
  have u0 := same_new h0 (.tup [.int 0, .int 1])
  have u1 := same_new he (.lst [.ref t0])
  have m1 := u0.trans u1
  refine ⟨_, rfl, a, rfl, ⟨xs, sa.ts m1.ts⟩, fun D hD => ?_⟩
  refine ⟨fun i m H2 => m = xs.length - i ∧ i ≤ xs.length ∧ Same (upd (upd H t0 (.tup [.int 0, .int 1])) e0 (.lst [.ref t0])) H2 ∧ ∃ zs, H2 D = some (.lst zs) ∧ DatAll K H2 (((L.take i).map fun s => (s.p, s.q)).map frX) zs, ⟨_, rfl, Nat.zero_le _, same_new hD _, [], upd_same, rfl⟩, ?_⟩
  rintro i m H2 ⟨rfl, hi, sm, zs, hlD, dz⟩
  have mm := m1.trans sm
  have sa2 := sa.ts mm.ts
  have lz : zs.length ≤ 900 := by rw [dz.len]; simp; omega
  by_cases hlt : i < xs.length
  · refine .inr ⟨⟨xs, _, sa2, List.getElem?_eq_getElem hlt⟩, fun v H3 y => ?_⟩
    obtain ⟨rfl, y⟩ := y
    obtain ⟨st, hst, dst⟩ := ln_at' (da.ts mm.ts) (y xs sa2)
    obtain ⟨c, e, rfl, q1, d1⟩ := st_el dst
    refine tNoIf_go ?_
    refine ⟨_, rfl, _, _, _, _, rfl, rfl, q1, rfl, ?_⟩
    have t2 : Tst H3 (upd H3 D (.lst (zs ++ [e]))) := ts_mut hlD
    refine ⟨zs, hlD, small1000 (by omega), xs.length - (i + 1), by omega, rfl, hlt, same_mut sm hD _, zs ++ [e], upd_same, ?_⟩
    rw [map_step hst, List.map_append]
    exact (dz.ts t2).snoc (d1.ts t2)
  have ei : i = xs.length := by omega
  subst ei
  rw [lx, List.take_length] at dz
  have se0 : H2 e0 = some (.lst [.ref t0]) := sm _ _ upd_same
  have st0 : H2 t0 = some (.tup [.int 0, .int 1]) := (u1.trans sm) _ _ upd_same
  refine .inl ⟨⟨xs, sa2, Nat.le_refl _⟩, ?_⟩
  refine ⟨e0, D, _, zs, rfl, rfl, se0, hlD, Nat.le_of_lt (small1000 (by rw [List.length_singleton]; omega)), fun p hp => ?_⟩
  have u3 := same_new hp (.lst ([.ref t0] ++ zs))
  have m3 := mm.trans u3
  have dE : DatAll K (upd H2 p (.lst ([.ref t0] ++ zs))) ((endsL L).map frX) (.ref t0 :: zs) := ⟨_, _, rfl, fr_mk (p := 0) (q := 1) (SqT.of (u3 _ _ st0)), dz.ts u3.ts⟩
  refine ⟨p, rfl, ⟨_, SqL.of upd_same⟩, ?_⟩
  refine for_list (xs := .ref t0 :: zs) (fun i σ H' => Same H H' ∧ H' p = some (.lst (.ref t0 :: zs)) ∧ DatAll K H' ((endsL L).map frX) (.ref t0 :: zs) ∧ (∃ (o1 : Option V), σ = [some (.ref a), o1]) ∧ ∀ j, j < i → ∀ x, (endsL L)[j]? = some x → 0 ≤ hAt L x.1 x.2 ∧ hAt L x.1 x.2 ≤ x.2) ⟨m3, upd_same, dE, ⟨_, rfl⟩, fun j hj => absurd hj (Nat.not_lt_zero _)⟩ (fun i σ H' _ h => SqL.of h.2.1) (fun i v σ H' hv h => ?_) (fun σ H' h => ?_)
  · obtain ⟨s4, hp4, dE4, ⟨o1, rfl⟩, ahead⟩ := h
    obtain ⟨c, hc, dc⟩ := fx_at' dE4 hv
    obtain ⟨c1, c2, c3, y1, y2⟩ := ends_ok ln (List.mem_of_getElem? hc)
    refine ⟨_, rfl, _, rfl, _, v, L, c.1, c.2, rfl, hx.ts s4.ts, ln, dc, c3, c2, y1, y2, fun sf hsf v1 H5 s5 dv1 => ?_⟩
    obtain ⟨vf, rfl, qf⟩ := fr_el dv1
    obtain ⟨vx, rfl, qx⟩ := fr_el (dc.ts s5.ts)
    have eF : hAt L c.1 c.2 = sf.m * c.1 + sf.h * c.2 := hAt_of hsf
    refine ⟨_, _, _, _, rfl, rfl, qf, rfl, _, _, rfl, rfl, _, rfl, ?_⟩
    refine ite2 (fun z => ?_) (fun z => ?_)
    · have z' : 0 ≤ sf.m * c.1 + sf.h * c.2 := of_decide_eq_true z
      refine ⟨_, rfl, _, _, _, _, rfl, rfl, qx, rfl, _, _, rfl, rfl, _, rfl, ?_⟩
      refine ite2 (fun z2 => ?_) (fun z2 => ?_)
      · have z2' : ¬ (sf.m * c.1 + sf.h * c.2 ≤ c.2) := fun y => by rw [decide_eq_true y] at z2; cases z2
        have e := wi_no (List.mem_of_getElem? hc) (by rw [eF]; omega)
        have kk := k H5 (s4.trans s5)
        rw [e] at kk
        exact kk
      · have z2' : sf.m * c.1 + sf.h * c.2 ≤ c.2 := by
          by_cases y : sf.m * c.1 + sf.h * c.2 ≤ c.2
          · exact y
          · rw [decide_eq_false y] at z2
            exact absurd rfl z2
        refine ⟨s4.trans s5, s5 _ _ hp4, dE4.ts s5.ts, ⟨_, rfl⟩, fun j hj x hx => ?_⟩
        rcases Nat.lt_or_ge j i with y | y
        · exact ahead j y x hx
        · have : j = i := by omega
          subst this
          rw [hc] at hx
          cases hx
          rw [eF]
          exact ⟨z', z2'⟩
    · have z' : ¬ (0 ≤ sf.m * c.1 + sf.h * c.2) := fun y => z (decide_eq_true y)
      refine ⟨_, rfl, iteT ?_⟩
      have e := wi_no (List.mem_of_getElem? hc) (by rw [eF]; omega)
      have kk := k H5 (s4.trans s5)
      rw [e] at kk
      exact kk
  · obtain ⟨s4, hp4, dE4, ⟨o1, rfl⟩, all⟩ := h
    have lE : (V.ref t0 :: zs).length = (endsL L).length := by rw [dE4.len, List.length_map]
    have e : wi L = true := wi_iff.mpr fun x hx => by
      obtain ⟨j, hj, ej⟩ := List.mem_iff_getElem.mp hx
      exact all j (by omega) x (by rw [List.getElem?_eq_getElem hj, ej])
    have kk := k H' s4
    rw [e] at kk
    exact kk
theorem ok_truth (T : TopDef K mg "_law_truth" s_l_truth) (Z_isinstance : mg "isinstance" = none) (Z_bool : mg "bool" = none) : Def P w K mg base 1 "_law_truth" ["_law_found", "_law_due"] spTruth := by
  refine def_of T sc_l_truth (fun _ _ _ _ _ _ us hl => match us, hl with | [_, _], _ => rfl) (fun vs H Q E h => ?_) (fun f cdv A outer s H vs Q E hr h => ?_)
  · obtain ⟨b, rfl, _⟩ := h
    rfl
  obtain ⟨b, rfl, q⟩ := h
  have nd := sc_l_truth.nd
  refine ⟨_, (pss_one (ps_ret (pe_and (pe_callB call_isi rfl Z_isinstance (by decide +kernel) (pa_cons (pv 0) (pa_cons (pe_bltn (v := V.ty "bool") rfl Z_bool (by decide +kernel) rfl) pa_nil))) (pe_one (pe_cmpR op_eq (pv 0) (pv 1) (nomark _)))))), ?_⟩
  refine ⟨_, rfl, _, _, _, _, true, rfl, (fun _ h => h), TyOf.bl _, kit_same, _, rfl, iteT ⟨_, rfl, _, rfl, rfl, ?_⟩⟩
  rw [decide_eq_true rfl]
  exact q
end
end Mine



set_option Elab.async false
set_option linter.all false
set_option maxRecDepth 100000
set_option maxHeartbeats 4000000

namespace Mine
open PySem L2
local macro_rules | `(tactic| walk_at "mul") => `(tactic| first | exact mulS (by assumption) (by assumption) | exact mulS (by first | assumption | exact sm_of (by omega) | exact sm_of (by decide) | exact sm_mod (by decide) (by decide)) (by first | assumption | exact sm_of (by omega) | exact sm_of (by decide) | exact sm_mod (by decide) (by decide)))
local macro_rules | `(tactic| walk_at "rd1") => `(tactic| first
  | refine ⟨_, rfl, ?_⟩
  | refine ⟨_, _, rfl, rfl, ?_⟩
  | (refine' ⟨_, _, _, _, rfl, rfl, ?sq, ?ia, ?k⟩; (case' sq => first | assumption | exact Scr.l (by assumption)); (case' ia => first | rfl | assumption))
  | refine ⟨rfl, ?_⟩
  | (refine ⟨?m, ?_⟩; (case' m => walk_at "mul"))
  | (refine ⟨?m, ?_⟩; (case' m => exact div_ok (by first | assumption | omega) (by assumption)))
  | (refine ⟨?m, ?_⟩; (case' m => show (0 : Int) < _; decide))
  | (refine ⟨?m, ?_⟩; (case' m => exact ⟨by decide, by decide⟩))
  | (refine ⟨?m, ?_⟩; (case' m => exact ⟨by decide, by decide, by decide⟩)))
local macro_rules | `(tactic| walk_at "rd") => `(tactic| repeat walk_at "rd1")

def spLaw (K : PySem.W.Frag) : Sp := fun vs H Q _ => ∃ (a : Addr) (ns : List Int), vs = [.ref a] ∧ Scr K H a ns ∧ ∀ H', Q (.bl true) H'
theorem by_small1 {a b p q e : Int} (p0 : 0 ≤ p) (pq : p ≤ q) (q0 : 0 < q) (ha : a.natAbs < 2 ^ 40) (hb : b.natAbs < 2 ^ 40) (e0 : 0 ≤ e) (e1 : e < 3) : (e - 1 - (a * p + b * q).fdiv q).natAbs < 2 ^ 42 := by
  have bound : ∀ {x y z : Int}, x.natAbs < 2 ^ 40 → 0 ≤ y → y ≤ z → x * y ≤ 2 ^ 40 * z ∧ -(2 ^ 40 * z) ≤ x * y := by
    intro x y z hx h0 h1
    have k1 : x * y ≤ 2 ^ 40 * y := Int.mul_le_mul_of_nonneg_right (by omega) h0
    have k2 : -(2 ^ 40) * y ≤ x * y := Int.mul_le_mul_of_nonneg_right (by omega) h0
    have k3 : (2 : Int) ^ 40 * y ≤ 2 ^ 40 * z := Int.mul_le_mul_of_nonneg_left h1 (by decide)
    rw [Int.neg_mul] at k2
    omega
  obtain ⟨u1, u2⟩ := bound (x := a) (y := p) (z := q) ha p0 pq
  obtain ⟨u3, u4⟩ := bound (x := b) (y := q) (z := q) hb (by omega) (Int.le_refl _)
  rw [Int.fdiv_eq_ediv_of_nonneg _ (by omega)]
  have g1 : (a * p + b * q) / q ≤ 2 ^ 41 := by
    refine Int.ediv_le_of_le_mul q0 ?_
    omega
  have g2 : -(2 ^ 41) ≤ (a * p + b * q) / q := by
    refine Int.le_ediv_of_mul_le q0 ?_
    omega
  omega
section
variable {P : Program} {w : World} {K : PySem.W.Frag} {mg : Str → Option Value} {base : Heap}
theorem ok_law {f : Addr} {fd : FuncData} (F : Fun K "law" "law" s_law f fd) (Z_tuple : mg "tuple" = none) (Z_len : mg "len" = none) (D__law_cell_at : Def P w K mg base 1 "_law_cell_at" ["_law_script", "_law_k"] (spCell K)) (D__law_built : Def P w K mg base 3 "_law_built" ["_law_script", "_law_first", "_law_last"] (spBuilt K))
    (D_cut_off : Def P w K mg base 6 "cut_off" ["line"] (spCut K)) (D_stays : Def P w K mg base 5 "stays" ["line"] (spStays K)) (D__law_height : Def P w K mg base 1 "_law_height" ["_law_line", "_law_x"] (spHt K))
    (D__law_as : Def P w K mg base 4 "_law_as" ["_law_found", "_law_line"] (spAs K)) (D__law_within : Def P w K mg base 2 "_law_within" ["_law_line"] (spWithin K)) (D__law_truth : Def P w K mg base 1 "_law_truth" ["_law_found", "_law_due"] spTruth) : FnOk P w K mg base CX0 7 f fd ["_law_script"] (spLaw K) := by
  refine F.ok sc_law (fun vs H Q E h => ?_) (fun cdv Ar outer s H vs Q E hr h => ?_)
  · obtain ⟨a, ns, rfl, _⟩ := h
    rfl
  obtain ⟨a, ns, rfl, S, q⟩ := h
  have nd := sc_law.nd
  have hu := hr.units
  have t3 : ∃ t, PSs (cxOf CX0 P w K mg base n_law "law" (defScope s_law) f cdv Ar outer s H E).nox ((defBody s_law).drop 3) t ∧
      ∀ (x : V) (A : List St4) (H' : Hp) (o2 o3 o4 : Option V), Dat K H' (lnD A) x → Ln.LineB 43 A → A.length ≤ 15 →
        t { nx := fun _ H' => Q .non H', rt := Q } [some (.ref a), some x, o2, o3, o4, none] H' := by
    refine ⟨_, (pss_cons (ps_set (i := 5) nd rfl (Or.inl rfl) (pe_def D_cut_off (hr.mono (by decide)) rfl (pa_cons (pv 1) pa_nil)))
    (pss_cons (ps_if (PW.pt (pw_or (pt_not (pt_val (pe_def D__law_as (hr.mono (by decide)) rfl (pa_cons (pv 5) (pa_cons (pv 1) pa_nil))))) (pw_or (pt_not (pt_val (pe_def D__law_truth (hr.mono (by decide)) rfl (pa_cons (pe_def D_stays (hr.mono (by decide)) rfl (pa_cons (pv 5) pa_nil)) (pa_cons pe_bl pa_nil))))) (pw_or1 (pt_cmpR (op_neD hu) (pe_def D_cut_off (hr.mono (by decide)) rfl (pa_cons (pv 5) pa_nil)) (pv 5) (nomark _)))))) (pss_one (ps_ret pe_bl)) pss_nil)
    (pss_one (ps_ret (pe_and (pe_def D__law_truth (hr.mono (by decide)) rfl (pa_cons (pe_def D_stays (hr.mono (by decide)) rfl (pa_cons (pv 1) pa_nil)) (pa_cons (pe_def D__law_within (hr.mono (by decide)) rfl (pa_cons (pv 1) pa_nil)) pa_nil))) (pe_one (pe_cmpR op_eq (pe_cmpR (op_eqD hu) (pv 5) (pv 1) (nomark _)) (pe_def D__law_within (hr.mono (by decide)) rfl (pa_cons (pv 1) pa_nil)) (nomark _)))))))), ?_⟩
    intro x A H' o2 o3 o4 dx bA fA
    have lA : Ln.LineK A := ⟨bA.mono (by decide), by omega⟩
    have gu := up_length (A := A) (B := St1 0)
    have gl := le_length (A := up A (St1 0)) (B := St1 1)
    have e0 : (St1 0).length = 1 := rfl
    have e1 : (St1 1).length = 1 := rfl
    have fF : (cut A).length ≤ 90 := by unfold cut; omega
    have bF : Ln.LineB 45 (cut A) := cut_line (by decide) bA
    have lF : Ln.LineK (cut A) := ⟨bF, by omega⟩
    have lU : Ln.LineK (up A (St1 0)) := ⟨(up0_line (by decide) bA).mono (by decide), by omega⟩
    have iF : Inn (cut A) := cut_inn (by decide) bA
    have cF : cut (cut A) = cut A := cut_own (by decide) bF iF
    have du : Due (cut A) A := ⟨⟨lF, fF⟩, ⟨lA, by omega⟩, fun p q hq h0 hpq => cut_at (by decide) bA hq h0 hpq⟩
    have wF : wi (cut A) = true := inn_wi bF iF
    refine ⟨_, rfl, x, A, rfl, dx, lA, lU, by omega, fun v1 H1 s1 d1 => ?_⟩
    refine ⟨_, rfl, _, rfl, v1, x, cut A, A, rfl, d1, dx.ts s1.ts, du, fun H2 s2 => ?_⟩
    refine ⟨_, rfl, iteF ?_⟩
    refine ⟨_, rfl, v1, cut A, rfl, d1.ts s2.ts, lF, fun H3 s3 => ?_⟩
    rw [wF]
    refine ⟨true, rfl, _, rfl, iteF ?_⟩
    have m3 := s2.trans s3
    refine ⟨_, rfl, v1, cut A, rfl, d1.ts m3.ts, lF, by rw [up0_own (by decide) bF iF]; exact lF, by rw [cF]; omega, fun v4 H4 s4 d4 => ?_⟩
    rw [cF] at d4
    have m4 := m3.trans s4
    refine ⟨_, rfl, _, _, .inl d4, .inl (d1.ts m4.ts), ln_shaped _, ln_shaped _, _, rfl, ?_⟩
    rw [eqv_shaped (ln_shaped _)]
    refine iteF ?_
    have m5 := s1.trans m4
    refine ⟨_, rfl, x, A, rfl, dx.ts m5.ts, lA, fun H5 s5 => ?_⟩
    refine ⟨_, rfl, x, A, rfl, dx.ts (m5.trans s5).ts, lA, fun H6 s6 => ?_⟩
    refine ⟨wi A, rfl, _, rfl, iteT ?_⟩
    have m6 := s5.trans s6
    refine ⟨_, rfl, _, rfl, _, _, .inl (d1.ts (m4.trans m6).ts), .inl (dx.ts (m5.trans m6).ts), ln_shaped _, ln_shaped _, ?_⟩
    refine ⟨_, rfl, x, A, rfl, dx.ts (m5.trans m6).ts, lA, fun H7 s7 => ?_⟩
    refine ⟨rfl, ?_⟩
    rw [ln_eqv, cut_wi (by decide) bA, decide_eq_true rfl]
    exact q _
  obtain ⟨t3, ht3, hq3⟩ := t3
  refine ⟨_, pss_cons (ps_set (i := 1) nd rfl (Or.inl rfl) (pe_callTy call_tuple_of rfl Z_tuple (by decide +kernel) (pa_cons (pe_def D__law_built (hr.mono (by decide)) rfl (pa_cons (pv 0) (pa_cons pe_int (pa_cons pe_int pa_nil)))) pa_nil))) (pss_cons (ps_set (i := 2) nd rfl (Or.inl rfl) (pe_def D__law_cell_at (hr.mono (by decide)) rfl (pa_cons (pv 0) (pa_cons pe_int pa_nil)))) (pss_cons (ps_if (pt_cmpR op_gt (pe_op op_mod (pv 2) pe_int) pe_int (nomark _)) (pss_cons (ps_set (i := 3) nd rfl (Or.inl rfl) (pe_ix ix_tup (pe_ix ix_tup (pv 1) (pe_op op_modN (pe_op op_fdiv (pv 2) pe_int) (pe_callB call_len rfl Z_len (by decide +kernel) (pa_cons (pv 1) pa_nil))) (fun _ _ => rfl)) pe_int (fun _ _ => rfl)))
    (pss_cons (ps_set (i := 4) nd rfl (Or.inr rfl) (pe_op op_sub (pe_op op_sub (pe_op op_mod (pe_op op_fdiv (pv 2) pe_int) pe_int) pe_int) (pe_op op_fdivK (pe_ix ix_tup (pe_def D__law_height (hr.mono (by decide)) rfl (pa_cons (pv 1) (pa_cons (pv 3) pa_nil))) pe_int (fun _ _ => rfl)) (pe_ix ix_tup (pv 3) pe_int (fun _ _ => rfl)))))
    (pss_one (ps_set (i := 1) nd rfl (Or.inl rfl) (pe_callTy call_tuple_of rfl Z_tuple (by decide +kernel) (pa_cons (pe_compTF (xs := ["_law_end", "_law_slope", "_law_height_here"]) rfl (pi_tup (pv 1)) rfl (by decide +kernel) (by decide +kernel) (show ∀ p ∈ Scope.names _, p.2 = NameKind.free → List.lookup p.1 (defScope s_law).names = some .cell ∨ List.lookup p.1 (defScope s_law).names = some .free by decide +kernel) (fa_cons (j := 4) rfl (Or.inl rfl) (by decide +kernel) (Or.inl rfl) fa_nil) (show (["_law_end", "_law_slope", "_law_height_here", "_law_by"] : List Str).Nodup by decide +kernel) (fun _ _ _ _ => pg_tupK (K := K) (n := 3) rfl rfl (pgs_cons (pg_name (i := 0) (show (["_law_end", "_law_slope", "_law_height_here", "_law_by"] : List Str).Nodup by decide +kernel) rfl (Or.inl rfl) (.inr rfl)) (pgs_cons (pg_name (i := 1) (show (["_law_end", "_law_slope", "_law_height_here", "_law_by"] : List Str).Nodup by decide +kernel) rfl (Or.inl rfl) (.inr rfl)) (pgs_cons (pg_name (i := 2) (show (["_law_end", "_law_slope", "_law_height_here", "_law_by"] : List Str).Nodup by decide +kernel) rfl (Or.inl rfl) (.inr rfl)) pgs_nil)))) (fun _ _ _ _ => (pe_tup (pa_cons (pv 0) (pa_cons (pv 1) (pa_cons (pe_op op_add (pv 2) (pv 3)) pa_nil)))))) pa_nil)))))) pss_nil) ht3)), ?_⟩
  refine ⟨_, rfl, a, ns, 1, 16, rfl, S, by decide, by decide, by decide, fun A b us H1 s1 hb hl du la len => ?_⟩
  refine ⟨b, us, rfl, .inl ⟨SqL.of hl, fun x1 hx1 => ?_⟩⟩
  have u1 := same_new hx1 (.tup us)
  have m1 := s1.trans u1
  have dx : Dat K (upd H1 x1 (.tup us)) (lnD A) (.ref x1) := ⟨x1, us, rfl, SqT.of upd_same, du.ts u1.ts⟩
  have lA : Ln.LineK A := la.k
  refine ⟨_, rfl, a, ns, 0, rfl, S.ts m1.ts, by decide, by decide, fun v v0 v1 => ?_⟩
  refine ⟨_, rfl, _, _, rfl, rfl, (show (0 : Int) < _ by decide), _, _, rfl, rfl, _, rfl, ?_⟩
  refine ite2 (fun c => ?_) (fun c => ?_)
  · obtain ⟨a1, xs, e1, sa, da⟩ := ln_el dx
    cases e1
    have lx := ln_len da
    have lp := lA.pos
    have z0 : (0 : Int) < (xs.length : Int) := by omega
    have e0 := Int.fmod_nonneg_of_pos (v / 3) z0
    have e1 := Int.fmod_lt_of_pos (v / 3) z0
    obtain ⟨i, ei⟩ : ∃ i : Nat, (v / 3).fmod (xs.length : Int) = (i : Int) := ⟨((v / 3).fmod (xs.length : Int)).toNat, by omega⟩
    have hs : A[i]? = some (A[i]'(by omega)) := List.getElem?_eq_getElem (by omega)
    obtain ⟨w0, hw, dw⟩ := ln_at da hs
    obtain ⟨c1, e', rfl, q1, d1⟩ := st_el dw
    obtain ⟨cx, rfl, qx⟩ := fr_el d1
    have ok := la.b.ok _ (List.mem_of_getElem? hs)
    obtain ⟨k1, k2, _, k4, _, _⟩ := ok
    have at1 : atI xs ((v / 3).fmod (xs.length : Int)) = some (.ref c1) := by rw [ei]; exact atI_nat hw
    have y1 : Sm A[i].p := sm_of (by omega)
    have y2 : Sm A[i].q := sm_of (by omega)
    refine ⟨_, rfl, _, rfl, _, _, rfl, rfl, ⟨by decide, by decide⟩, _, rfl, _, _, rfl, .inr ⟨_, sa, rfl⟩, _, _, rfl, rfl, (by omega), _, _, _, _, rfl, rfl, sa, at1, _, _, _, _, rfl, rfl, q1, rfl, ?_⟩
    refine ⟨_, rfl, _, _, rfl, rfl, ⟨by decide, by decide⟩, _, _, rfl, rfl, (show (0 : Int) < _ by decide), _, _, rfl, rfl, ?_⟩
    refine ⟨_, rfl, _, rfl, _, _, A, A[i].p, A[i].q, rfl, dx, lA, d1, by omega, k2, y1, y2, fun st1 hs1 v1 H2 s2 dv1 => ?_⟩
    obtain ⟨va, rfl, qa⟩ := fr_el dv1
    refine ⟨_, _, _, _, rfl, rfl, qa, rfl, _, rfl, _, _, _, _, rfl, rfl, qx.ts s2.ts, rfl, _, _, rfl, rfl, div_ok (by omega) y2, _, _, rfl, rfl, ?_⟩
    have o1 := la.b.ok _ (Ln.pk_mem hs1)
    have hn := by_small1 (e := v / 48 % 3) (show 0 ≤ A[i].p by omega) k2 (by omega) o1.2.2.2.2.1 o1.2.2.2.2.2 (by omega) (by omega)
    have sa2 := sa.ts s2.ts
    have da2 := da.ts s2.ts
    refine ⟨_, rfl, x1, rfl, ⟨xs, sa2⟩, fun D hD => ?_⟩
    refine ⟨fun j m H4 => m = xs.length - j ∧ j ≤ xs.length ∧ Same H2 H4 ∧ ∃ zs, H4 D = some (.lst zs) ∧ DatAll K H4 (((A.take j).map (Ln.rsS (v / 48 % 3 - 1 - (st1.m * A[i].p + st1.h * A[i].q).fdiv A[i].q))).map stD) zs, ⟨_, rfl, Nat.zero_le _, same_new hD _, [], upd_same, rfl⟩, ?_⟩
    rintro j m H4 ⟨rfl, hi, sm, zs, hlD, dz⟩
    have sa3 := sa2.ts sm.ts
    have lz : zs.length ≤ 1000 := by rw [dz.len]; simp; omega
    by_cases hlt : j < xs.length
    · refine .inr ⟨⟨xs, _, sa3, List.getElem?_eq_getElem hlt⟩, fun o ho v5 H5 y => ?_⟩
      obtain ⟨rfl, y⟩ := y
      obtain ⟨st, hst, dst⟩ := ln_at' (da2.ts sm.ts) (y xs sa3)
      obtain ⟨c, e, rfl, q1, d1⟩ := st_el dst
      obtain ⟨o1, o2, o3, rfl⟩ := len3 ho
      refine ⟨c, _, rfl, q1, rfl, _, _, rfl, _, _, rfl, _, _, rfl, rfl, [some e, some (.int st.m), some (.int st.h)], rfl, rfl, ?_⟩
      refine ⟨_, rfl, _, rfl, _, rfl, _, rfl, _, _, rfl, rfl, (by show 3 ≤ sizeLine; decide), fun t ht => ?_⟩
      have u1 := same_new ht (.tup [e, .int st.m, .int (st.h + (v / 48 % 3 - 1 - (st1.m * A[i].p + st1.h * A[i].q).fdiv A[i].q))])
      have hD1 := u1 _ _ hlD
      have t2 : Tst (upd H5 t (.tup [e, .int st.m, .int (st.h + (v / 48 % 3 - 1 - (st1.m * A[i].p + st1.h * A[i].q).fdiv A[i].q))])) (upd (upd H5 t (.tup [e, .int st.m, .int (st.h + (v / 48 % 3 - 1 - (st1.m * A[i].p + st1.h * A[i].q).fdiv A[i].q))])) D (.lst (zs ++ [.ref t]))) := ts_mut hD1
      have tt := u1.ts.trans t2
      refine ⟨zs, hD1, small1000 lz, xs.length - (j + 1), by omega, rfl, hlt, same_mut (sm.trans u1) hD _, zs ++ [.ref t], upd_same, ?_⟩
      rw [map_step hst, List.map_append]
      exact (dz.ts tt).snoc (st_mk (s := Ln.rsS (v / 48 % 3 - 1 - (st1.m * A[i].p + st1.h * A[i].q).fdiv A[i].q) st) (SqT.of (by rw [upd_ne (ne_lst ht hlD).symm]; exact upd_same)) (d1.ts tt))
    have ej : j = xs.length := by omega
    subst ej
    refine .inl ⟨⟨xs, sa3, Nat.le_refl _⟩, ?_⟩
    rw [lx, List.take_length] at dz
    refine ⟨D, zs, rfl, .inl ⟨SqL.of hlD, fun t ht => ?_⟩⟩
    have u2 := same_new ht (.tup zs)
    exact hq3 (.ref t) (A.map (Ln.rsS (v / 48 % 3 - 1 - (st1.m * A[i].p + st1.h * A[i].q).fdiv A[i].q))) _ _ _ _ ⟨t, zs, rfl, SqT.of upd_same, dz.ts u2.ts⟩ (Ln.raised_line hn (la.b.mono (by decide))) (by simp; omega)
  · exact hq3 (.ref x1) A _ _ _ _ dx (la.b.mono (by decide)) (by omega)
end
end Mine



set_option Elab.async false
set_option linter.all false
set_option maxRecDepth 100000
set_option maxHeartbeats 4000000
open PySem PySem.W PyProof.Rows
theorem Mine.classes_mk {K : Frag} {h : Heap} {mg : Str → Option Value} (X : K.In h) (G : h.Ns mainGlobals mg) (e21 : kitOne K (.type "int") (.type "bool") = some false) : kitOne K (.type "int") (.type "bool") = some false := e21
set_option maxRecDepth 100000 in
set_option maxHeartbeats 0 in
theorem PySem.Challenge.cw_leansay_k20_cut_off_and_stays_holds : PySem.Challenge.rw_leansay_k20_cut_off_and_stays.Holds := by
  w_on; o_law; k_head; (case hw => w_witness2)
  k_fill
  refine L2.walk_bits (l := PySem.Challenge.rw_leansay_k20_cut_off_and_stays) (n := 63) (k := 7) (x := "_law_script") (CX := L2.CX0) (sp := Mine.spLaw) rfl (by decide) rfl ⟨rfl, by decide, by decide⟩ (fun w h Y => PySem.W.kIn_of Y) ?F ?S ?C
  case F =>
    intro w mg fa h KX G hmg
    have T_common_factor : L2.TopDef (L2.KOf KX) mg "common_factor" Mine.s_common_factor := by
      dsimp only [L2.KOf]
      refine' L2.top_mk KX G ?a ?l ?c ?k; (case a => k_is); (case l => k_is); (case c => k_is); (case k => k_is)
    have T_fraction : L2.TopDef (L2.KOf KX) mg "fraction" Mine.s_fraction := by
      dsimp only [L2.KOf]
      refine' L2.top_mk KX G ?a ?l ?c ?k; (case a => k_is); (case l => k_is); (case c => k_is); (case k => k_is)
    have T_less : L2.TopDef (L2.KOf KX) mg "less" Mine.s_less := by
      dsimp only [L2.KOf]
      refine' L2.top_mk KX G ?a ?l ?c ?k; (case a => k_is); (case l => k_is); (case c => k_is); (case k => k_is)
    have T_is_outside : L2.TopDef (L2.KOf KX) mg "is_outside" Mine.s_is_outside := by
      dsimp only [L2.KOf]
      refine' L2.top_mk KX G ?a ?l ?c ?k; (case a => k_is); (case l => k_is); (case c => k_is); (case k => k_is)
    have T_told_by_stretch : L2.TopDef (L2.KOf KX) mg "told_by_stretch" Mine.s_told_by_stretch := by
      dsimp only [L2.KOf]
      refine' L2.top_mk KX G ?a ?l ?c ?k; (case a => k_is); (case l => k_is); (case c => k_is); (case k => k_is)
    have T_joined : L2.TopDef (L2.KOf KX) mg "joined" Mine.s_joined := by
      dsimp only [L2.KOf]
      refine' L2.top_mk KX G ?a ?l ?c ?k; (case a => k_is); (case l => k_is); (case c => k_is); (case k => k_is)
    have T_bends : L2.TopDef (L2.KOf KX) mg "bends" Mine.s_bends := by
      dsimp only [L2.KOf]
      refine' L2.top_mk KX G ?a ?l ?c ?k; (case a => k_is); (case l => k_is); (case c => k_is); (case k => k_is)
    have T_stays : L2.TopDef (L2.KOf KX) mg "stays" Mine.s_stays := by
      dsimp only [L2.KOf]
      refine' L2.top_mk KX G ?a ?l ?c ?k; (case a => k_is); (case l => k_is); (case c => k_is); (case k => k_is)
    have T_straight : L2.TopDef (L2.KOf KX) mg "straight" Mine.s_straight := by
      dsimp only [L2.KOf]
      refine' L2.top_mk KX G ?a ?l ?c ?k; (case a => k_is); (case l => k_is); (case c => k_is); (case k => k_is)
    have T_side_by_side : L2.TopDef (L2.KOf KX) mg "side_by_side" Mine.s_side_by_side := by
      dsimp only [L2.KOf]
      refine' L2.top_mk KX G ?a ?l ?c ?k; (case a => k_is); (case l => k_is); (case c => k_is); (case k => k_is)
    have T_turned : L2.TopDef (L2.KOf KX) mg "turned" Mine.s_turned := by
      dsimp only [L2.KOf]
      refine' L2.top_mk KX G ?a ?l ?c ?k; (case a => k_is); (case l => k_is); (case c => k_is); (case k => k_is)
    have T_greater_stretches : L2.TopDef (L2.KOf KX) mg "greater_stretches" Mine.s_greater_stretches := by
      dsimp only [L2.KOf]
      refine' L2.top_mk KX G ?a ?l ?c ?k; (case a => k_is); (case l => k_is); (case c => k_is); (case k => k_is)
    have T_greater_line : L2.TopDef (L2.KOf KX) mg "greater_line" Mine.s_greater_line := by
      dsimp only [L2.KOf]
      refine' L2.top_mk KX G ?a ?l ?c ?k; (case a => k_is); (case l => k_is); (case c => k_is); (case k => k_is)
    have T_lesser_line : L2.TopDef (L2.KOf KX) mg "lesser_line" Mine.s_lesser_line := by
      dsimp only [L2.KOf]
      refine' L2.top_mk KX G ?a ?l ?c ?k; (case a => k_is); (case l => k_is); (case c => k_is); (case k => k_is)
    have T_cut_off : L2.TopDef (L2.KOf KX) mg "cut_off" Mine.s_cut_off := by
      dsimp only [L2.KOf]
      refine' L2.top_mk KX G ?a ?l ?c ?k; (case a => k_is); (case l => k_is); (case c => k_is); (case k => k_is)
    have T_l_cell_at : L2.TopDef (L2.KOf KX) mg "_law_cell_at" Mine.s_l_cell_at := by
      dsimp only [L2.KOf]
      refine' L2.top_mk KX G ?a ?l ?c ?k; (case a => k_is); (case l => k_is); (case c => k_is); (case k => k_is)
    have T_l_divisor : L2.TopDef (L2.KOf KX) mg "_law_divisor" Mine.s_l_divisor := by
      dsimp only [L2.KOf]
      refine' L2.top_mk KX G ?a ?l ?c ?k; (case a => k_is); (case l => k_is); (case c => k_is); (case k => k_is)
    have T_l_lowest : L2.TopDef (L2.KOf KX) mg "_law_lowest" Mine.s_l_lowest := by
      dsimp only [L2.KOf]
      refine' L2.top_mk KX G ?a ?l ?c ?k; (case a => k_is); (case l => k_is); (case c => k_is); (case k => k_is)
    have T_l_built : L2.TopDef (L2.KOf KX) mg "_law_built" Mine.s_l_built := by
      dsimp only [L2.KOf]
      refine' L2.top_mk KX G ?a ?l ?c ?k; (case a => k_is); (case l => k_is); (case c => k_is); (case k => k_is)
    have T_l_whole : L2.TopDef (L2.KOf KX) mg "_law_whole" Mine.s_l_whole := by
      dsimp only [L2.KOf]
      refine' L2.top_mk KX G ?a ?l ?c ?k; (case a => k_is); (case l => k_is); (case c => k_is); (case k => k_is)
    have T_l_is_stretch : L2.TopDef (L2.KOf KX) mg "_law_is_stretch" Mine.s_l_is_stretch := by
      dsimp only [L2.KOf]
      refine' L2.top_mk KX G ?a ?l ?c ?k; (case a => k_is); (case l => k_is); (case c => k_is); (case k => k_is)
    have T_l_is_line : L2.TopDef (L2.KOf KX) mg "_law_is_line" Mine.s_l_is_line := by
      dsimp only [L2.KOf]
      refine' L2.top_mk KX G ?a ?l ?c ?k; (case a => k_is); (case l => k_is); (case c => k_is); (case k => k_is)
    have T_l_height : L2.TopDef (L2.KOf KX) mg "_law_height" Mine.s_l_height := by
      dsimp only [L2.KOf]
      refine' L2.top_mk KX G ?a ?l ?c ?k; (case a => k_is); (case l => k_is); (case c => k_is); (case k => k_is)
    have T_l_spots : L2.TopDef (L2.KOf KX) mg "_law_spots" Mine.s_l_spots := by
      dsimp only [L2.KOf]
      refine' L2.top_mk KX G ?a ?l ?c ?k; (case a => k_is); (case l => k_is); (case c => k_is); (case k => k_is)
    have T_l_rising : L2.TopDef (L2.KOf KX) mg "_law_rising" Mine.s_l_rising := by
      dsimp only [L2.KOf]
      refine' L2.top_mk KX G ?a ?l ?c ?k; (case a => k_is); (case l => k_is); (case c => k_is); (case k => k_is)
    have T_l_as : L2.TopDef (L2.KOf KX) mg "_law_as" Mine.s_l_as := by
      dsimp only [L2.KOf]
      refine' L2.top_mk KX G ?a ?l ?c ?k; (case a => k_is); (case l => k_is); (case c => k_is); (case k => k_is)
    have T_l_within : L2.TopDef (L2.KOf KX) mg "_law_within" Mine.s_l_within := by
      dsimp only [L2.KOf]
      refine' L2.top_mk KX G ?a ?l ?c ?k; (case a => k_is); (case l => k_is); (case c => k_is); (case k => k_is)
    have T_l_truth : L2.TopDef (L2.KOf KX) mg "_law_truth" Mine.s_l_truth := by
      dsimp only [L2.KOf]
      refine' L2.top_mk KX G ?a ?l ?c ?k; (case a => k_is); (case l => k_is); (case c => k_is); (case k => k_is)
    have T_law : L2.TopDef (L2.KOf KX) mg "law" Mine.s_law := by
      dsimp only [L2.KOf]
      refine' L2.top_mk KX G ?a ?l ?c ?k; (case a => k_is); (case l => k_is); (case c => k_is); (case k => k_is)
    have Z_len : mg "len" = none := by
      refine' PySem.W.mg_none_of KX G ?z; (case z => k_is)
    have Z_abs : mg "abs" = none := by
      refine' PySem.W.mg_none_of KX G ?z; (case z => k_is)
    have Z_min : mg "min" = none := by
      refine' PySem.W.mg_none_of KX G ?z; (case z => k_is)
    have Z_max : mg "max" = none := by
      refine' PySem.W.mg_none_of KX G ?z; (case z => k_is)
    have Z_range : mg "range" = none := by
      refine' PySem.W.mg_none_of KX G ?z; (case z => k_is)
    have Z_isinstance : mg "isinstance" = none := by
      refine' PySem.W.mg_none_of KX G ?z; (case z => k_is)
    have Z_bool : mg "bool" = none := by
      refine' PySem.W.mg_none_of KX G ?z; (case z => k_is)
    have Z_int : mg "int" = none := by
      refine' PySem.W.mg_none_of KX G ?z; (case z => k_is)
    have Z_tuple : mg "tuple" = none := by
      refine' PySem.W.mg_none_of KX G ?z; (case z => k_is)
    have Z_list : mg "list" = none := by
      refine' PySem.W.mg_none_of KX G ?z; (case z => k_is)
    have Z_all : mg "all" = none := by
      refine' PySem.W.mg_none_of KX G ?z; (case z => k_is)
    have Z_any : mg "any" = none := by
      refine' PySem.W.mg_none_of KX G ?z; (case z => k_is)
    have Z_enumerate : mg "enumerate" = none := by
      refine' PySem.W.mg_none_of KX G ?z; (case z => k_is)
    have Z_zip : mg "zip" = none := by
      refine' PySem.W.mg_none_of KX G ?z; (case z => k_is)
    have P_NOUGHT : L2.TopTup (L2.KOf KX) mg "NOUGHT" [0, 1] := by
      dsimp only [L2.KOf]
      refine' L2.toptup_mk (ns := [0, 1]) KX G ?e ?l ?z ?v; (case e => k_is); (case l => k_is); (case z => decide); (case v => exact (.cons ⟨_, rfl⟩ (.cons ⟨_, rfl⟩ .nil)))
    have P_WHOLE : L2.TopTup (L2.KOf KX) mg "WHOLE" [1, 1] := by
      dsimp only [L2.KOf]
      refine' L2.toptup_mk (ns := [1, 1]) KX G ?e ?l ?z ?v; (case e => k_is); (case l => k_is); (case z => decide); (case v => exact (.cons ⟨_, rfl⟩ (.cons ⟨_, rfl⟩ .nil)))
    have CC : kitOne (L2.KOf KX) (.type "int") (.type "bool") = some false := by
      dsimp only [L2.KOf]
      refine' Mine.classes_mk KX G ?e21
      (case e21 => first | k_is | kit_is)
    have Z := CC
    obtain ⟨f, fd, F, m⟩ := T_law.ex
    have e := hmg.symm.trans m
    cases e
    obtain ⟨oc, od, kV, doc, pm, an, cdv, ct, osl, hfd, lk, hcd⟩ := id F.ex
    subst hfd
    refine ⟨PySem.W.fnOf "law" "law" (L2.defArgs Mine.s_law) (L2.defBody Mine.s_law) (L2.defScope Mine.s_law) .none kV doc pm an cdv ct, fun s u => .of_eq rfl, fun base kb nb => ?_⟩
    have D_factor := Mine.ok_factor (P := PySem.Challenge.rw_leansay_k20_cut_off_and_stays.prog) (w := w) (base := base) T_common_factor Z_abs
    have D_fraction := Mine.ok_fraction T_fraction D_factor
    have D_less := Mine.ok_less (P := PySem.Challenge.rw_leansay_k20_cut_off_and_stays.prog) (w := w) (base := base) T_less
    have D_cell := Mine.ok_cell_at (P := PySem.Challenge.rw_leansay_k20_cut_off_and_stays.prog) (w := w) (base := base) T_l_cell_at Z_len
    have D_div := Mine.ok_divisor (P := PySem.Challenge.rw_leansay_k20_cut_off_and_stays.prog) (w := w) (base := base) T_l_divisor Z_abs
    have D_low := Mine.ok_lowest T_l_lowest D_div
    have D_built := Mine.ok_built T_l_built Z_len Z_min Z_range D_cell D_low
    have D_joined := Mine.ok_joined (P := PySem.Challenge.rw_leansay_k20_cut_off_and_stays.prog) (w := w) (base := base) T_joined Z_tuple
    have D_whole := Mine.ok_whole (P := PySem.Challenge.rw_leansay_k20_cut_off_and_stays.prog) (w := w) (base := base) T_l_whole Z_isinstance Z_int Z_bool Z
    have D_iss := Mine.ok_is_stretch T_l_is_stretch Z_isinstance Z_tuple Z_len D_whole D_div
    have D_isl := Mine.ok_is_line T_l_is_line Z_isinstance Z_tuple Z_len Z_all Z_enumerate D_iss
    have D_ht := Mine.ok_height (P := PySem.Challenge.rw_leansay_k20_cut_off_and_stays.prog) (w := w) (base := base) T_l_height
    have D_sbs := Mine.ok_side_by_side T_side_by_side Z_len D_less
    have D_turned := Mine.ok_turned (P := PySem.Challenge.rw_leansay_k20_cut_off_and_stays.prog) (w := w) (base := base) T_turned Z_tuple
    have D_rising := Mine.ok_rising (P := PySem.Challenge.rw_leansay_k20_cut_off_and_stays.prog) (w := w) (base := base) T_l_rising Z_len
    have D_spots := Mine.ok_spots T_l_spots Z_list Z_zip D_rising D_low
    have D_gst := Mine.ok_gst T_greater_stretches D_fraction
    have D_gr := Mine.ok_gr T_greater_line P_NOUGHT D_sbs D_gst D_joined
    have D_le := Mine.ok_le T_lesser_line D_turned D_gr
    have D_str := Mine.ok_straight (P := PySem.Challenge.rw_leansay_k20_cut_off_and_stays.prog) (w := w) (base := base) T_straight P_WHOLE
    have D_cut := Mine.ok_cut T_cut_off D_str D_gr D_le
    have D_told := Mine.ok_told T_told_by_stretch D_fraction
    have D_out := Mine.ok_outside T_is_outside P_NOUGHT P_WHOLE D_less
    have D_bends := Mine.ok_bends T_bends P_NOUGHT D_told
    have D_stays := Mine.ok_stays T_stays Z_any D_bends D_out
    have D_as := Mine.ok_as T_l_as Z_min Z_max D_isl D_spots D_ht
    have D_within := Mine.ok_within T_l_within D_ht
    have D_truth := Mine.ok_truth (P := PySem.Challenge.rw_leansay_k20_cut_off_and_stays.prog) (w := w) (base := base) T_l_truth Z_isinstance Z_bool
    exact Mine.ok_law F Z_tuple Z_len D_cell D_built D_cut D_stays D_ht D_as D_within D_truth
  case S => exact fun K H a ns hl hb hO hS => ⟨a, ns, rfl, Mine.scr_of hO hS hl hb, fun _ => rfl⟩
  case C => exact fun _ _ _ _ z => z


