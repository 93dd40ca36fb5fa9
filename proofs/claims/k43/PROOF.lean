import PyProof.Rows.All
import Wide.All
import OpenK.AllK
import Wide.FinOn
import Lean
import PyProof.EqAt
import PyProof.EqKinds
import PyProof.TupleCall
import KE.LcSums
import PyProof.Rows.EqDataRows
import PyProof.Draws
import PyProof.EnumMake
import PyProof.ZipIter
import PyProof.WalksMore
import KE.KLcPair
import PyProof.Rows.Range3
import PyProof.Rows.MinMaxN
import KE.KTab
import PyProof.Rows.SumAny
import PyProof.ExcClass2
import PyProof.ExcInit
import PyProof.StationsW
import PyProof.InstStoreFacts
import PySem.Challenge.RW_leansay_k43_rules_on_hulls
set_option Elab.async false
set_option linter.all false
set_option maxRecDepth 100000
/-! THE HAND LAYER, for ints, bools, texts, own classes, LISTS and tuples (index, slices, in, append, pop ..), calls, loops. Paste it whole ahead of your own text; what your proof does not reach may be deleted. -/
namespace L2
open PySem PySem.Spec PyProof.Rows

/-- a key: an int or a str -/
noncomputable abbrev Key := Sum Int Str
noncomputable def keyIs : Key → Value → Bool
  | .inl k, v => Value.isInt k v
  | .inr x, v => Value.isStrOf x v
noncomputable def keyH (w : World) : Key → Int
  | .inl k => hashInt k
  | .inr x => hashStr w x
theorem keyIs_shape : ∀ {k : Key} {v : Value}, keyIs k v = true → (∃ i t, k = Sum.inl i ∧ v = Value.int i t) ∨ (∃ x t, k = Sum.inr x ∧ v = Value.str x t)
  | .inl i, v, h => by
    obtain ⟨t, e⟩ := Value.isInt_shape (k := i) (v := v) h
    exact .inl ⟨i, t, rfl, e⟩
  | .inr x, v, h => by
    obtain ⟨t, e⟩ := Value.isStrOf_shape (x := x) (v := v) h
    exact .inr ⟨x, t, rfl, e⟩
theorem keyIs_int (i : Int) (t : Tok) : keyIs (.inl i) (.int i t) = true := by simp [keyIs, Value.isInt]
theorem keyIs_str (x : Str) (t : Tok) : keyIs (.inr x) (.str x t) = true := by simp [keyIs, Value.isStrOf]
theorem key_ll (a b : Int) : decide ((Sum.inl a : Key) = Sum.inl b) = (a == b) := by
  by_cases e : a = b
  · subst e; simp
  · have h : ¬ (Sum.inl a : Key) = Sum.inl b := fun q => e (Sum.inl.inj q)
    rw [decide_eq_false h]
    exact (beq_eq_false_iff_ne.mpr e).symm
theorem key_rr (a b : Str) : decide ((Sum.inr a : Key) = Sum.inr b) = decide (a = b) := by
  by_cases e : a = b
  · subst e; simp
  · have h : ¬ (Sum.inr a : Key) = Sum.inr b := fun q => e (Sum.inr.inj q)
    rw [decide_eq_false h, decide_eq_false e]
theorem key_lr (a : Int) (b : Str) : decide ((Sum.inl a : Key) = Sum.inr b) = false := decide_eq_false (fun q => nomatch q)
theorem key_rl (a : Str) (b : Int) : decide ((Sum.inr a : Key) = Sum.inl b) = false := decide_eq_false (fun q => nomatch q)

noncomputable def mixKind (prog : Program) (w : World) : PySem.KeyKind prog w Key where
  is := keyIs
  hash := keyH w
  inj := fun v a b ha hb => by
    rcases keyIs_shape ha with ⟨i, t, rfl, rfl⟩ | ⟨x, t, rfl, rfl⟩
    · rcases keyIs_shape hb with ⟨j, u, rfl, e⟩ | ⟨y, u, rfl, e⟩
      · injection e with e1 _; rw [e1]
      · exact nomatch e
    · rcases keyIs_shape hb with ⟨j, u, rfl, e⟩ | ⟨y, u, rfl, e⟩
      · exact nomatch e
      · injection e with e1 _; rw [e1]
  byValue := fun k v h => by
    rcases keyIs_shape h with ⟨i, t, rfl, rfl⟩ | ⟨x, t, rfl, rfl⟩ <;> rfl
  pyHash := fun hv h => by
    rcases keyIs_shape hv with ⟨i, t, rfl, rfl⟩ | ⟨x, t, rfl, rfl⟩
    · exact wpAny_pyHash_int h
    · exact wpAny_pyHash_str h
  eqBool := fun hu hv h => by
    rcases keyIs_shape hu with ⟨i, t, rfl, rfl⟩ | ⟨x, t, rfl, rfl⟩
    · rcases keyIs_shape hv with ⟨j, u, rfl, rfl⟩ | ⟨y, u, rfl, rfl⟩
      · rw [key_ll] at h; exact wpAny_eqBool_int h
      · rw [key_lr] at h; exact SeqAt.EqAt.int_str i t y u _ _ _ _ h
    · rcases keyIs_shape hv with ⟨j, u, rfl, rfl⟩ | ⟨y, u, rfl, rfl⟩
      · rw [key_rl] at h; exact SeqAt.EqAt.str_int x t j u _ _ _ _ h
      · rw [key_rr] at h; exact wpAny_eqBool_str h
  «strs» := fun k x t v h => by
    rcases keyIs_shape h with ⟨i, u, rfl, e⟩ | ⟨y, u, rfl, e⟩
    · exact nomatch e
    · injection e with e1 _
      subst e1
      cases v <;> rfl

theorem mixKind_int (prog : Program) (w : World) (i : Int) (t : Tok) : (mixKind prog w).is (.inl i) (.int i t) = true := keyIs_int i t
theorem mixKind_str (prog : Program) (w : World) (x : Str) (t : Tok) : (mixKind prog w).is (.inr x) (.str x t) = true := keyIs_str x t
end L2

namespace L2
open PySem PySem.Spec PyProof.Rows

/-- a value, without the heap -/
inductive V where
  | non | bl (b : Bool) | int (i : Int) | str (x : Str) | byt (b : Array UInt8) | flt (b : UInt64) | ref (a : Addr) | ty (n : String)
  deriving DecidableEq

noncomputable def RelV : V → Value → Prop
  | .non, u => u = Value.none
  | .bl b, u => u = Value.bool b
  | .int i, u => ∃ t, u = Value.int i t
  | .str x, u => ∃ t, u = Value.str x t
  | .byt b, u => ∃ t, u = Value.bytes b t
  | .flt b, u => ∃ t, u = Value.float b t
  | .ref a, u => u = Value.ref a
  | .ty n, u => u = Value.type n

noncomputable abbrev Vals : List V → List Value → Prop := Paired RelV
theorem Vals.length {xs : List V} {us : List Value} (r : Vals xs us) : xs.length = us.length := Paired.length r
theorem Vals.get : ∀ {xs : List V} {us : List Value} {i : Nat} {x : V}, Vals xs us → xs[i]? = some x → ∃ u, us[i]? = some u ∧ RelV x u
  | _, _, _, _, .nil, e => by simp at e
  | _, _, 0, _, .cons r _, e => by simp at e; subst e; exact ⟨_, rfl, r⟩
  | _, _, i + 1, x, .cons _ t, e => by
    obtain ⟨u, h1, h2⟩ := Vals.get (i := i) (x := x) t (by simpa using e)
    exact ⟨u, by simpa using h1, h2⟩
theorem Vals.set {x : V} {u : Value} (r : RelV x u) : ∀ {xs : List V} {us : List Value} (i : Nat), Vals xs us → Vals (xs.set i x) (us.set i u)
  | _, _, _, .nil => .nil
  | _, _, 0, .cons _ t => .cons r t
  | _, _, i + 1, .cons q t => .cons q (Vals.set r i t)
theorem Vals.append : ∀ {xs ys : List V} {us ws : List Value}, Vals xs us → Vals ys ws → Vals (xs ++ ys) (us ++ ws)
  | _, _, _, _, .nil, s => s
  | _, _, _, _, .cons r t, s => .cons r (Vals.append t s)
theorem Vals.take : ∀ {xs : List V} {us : List Value} (n : Nat), Vals xs us → Vals (xs.take n) (us.take n)
  | _, _, 0, _ => .nil
  | _, _, _ + 1, .nil => .nil
  | _, _, n + 1, .cons r t => .cons r (Vals.take n t)
theorem Vals.drop : ∀ {xs : List V} {us : List Value} (n : Nat), Vals xs us → Vals (xs.drop n) (us.drop n)
  | _, _, 0, r => r
  | _, _, _ + 1, .nil => .nil
  | _, _, n + 1, .cons _ t => Vals.drop n t

noncomputable def RelO : Option V → Option Value → Prop
  | some v, some u => RelV v u
  | none, none => True
  | _, _ => False
noncomputable def KV {κ : Type} : List (κ × V) → List (κ × Value) → Prop := Paired fun (p : κ × V) (q : κ × Value) => p.1 = q.1 ∧ RelV p.2 q.2

/-- a key of a dict (00_mix): an int or a text -/
noncomputable def kV : Key → V
  | .inl i => .int i
  | .inr x => .str x

/-- what stands at a tracked address -/
inductive HO where
  /-- a list -/
  | lst (xs : List V)
  /-- a tuple (never changes) -/
  | tup (xs : List V)
  /-- a dict whose keys are ints and texts; one whose keys are tuples of ints and texts (the empty one is both) -/
  | dK (kvs : List (Key × V)) | dT (kvs : List (List Key × V))
  /-- a set of ints: its members, its size -/
  | set (S : Int → Bool) (n : Nat)
  /-- an instance of the class at C, its dict at dx, its attributes -/
  | ins (C dx : Addr) (fs : List (Str × V))
  /-- the dict of the instance at x -/
  | own (x : Addr)
  /-- the dict of an exception -/
  | xd (fs : List (Str × V))
  /-- a bound method, f of x -/
  | met (f x : Addr)
  /-- a range object lo, lo + 1, .. below hi -/
  | rng (lo hi : Int)
  /-- a thing that is known to the object (the script; a dict while a loop walks it): read, never written while it is so -/
  | frz (o : Obj) (u : HO)
  /-- a code object's table -/
  | tbl (ps : Array Value)
  /-- any other thing, by what is true of its one object (a def of one's own: SetO a S n := HO.ext fun h => ..) -/
  | ext (φ : Heap → Prop)

noncomputable abbrev Hp := Addr → Option HO
noncomputable def upd (H : Hp) (a : Addr) (o : HO) : Hp := fun b => if b = a then some o else H b
theorem upd_same {H : Hp} {a : Addr} {o : HO} : upd H a o a = some o := by unfold upd; rw [if_pos rfl]
theorem upd_ne {H : Hp} {a b : Addr} {o : HO} (h : b ≠ a) : upd H a o b = H b := by unfold upd; rw [if_neg h]
theorem upd_upd {H : Hp} {a : Addr} {o u : HO} : upd (upd H a o) a u = upd H a u := by
  funext b; unfold upd; split <;> rfl
/-- two objects of different content stand apart -/
theorem ne_of {H : Hp} {a b : Addr} {o u : HO} (h : H a = some o) (h' : H b = some u) (d : o ≠ u) : a ≠ b := by
  intro e; subst e; rw [h] at h'; exact d (Option.some.inj h')
theorem ne_of_none {H : Hp} {a b : Addr} {o : HO} (h : H a = some o) (h' : H b = none) : a ≠ b := by
  intro e; subst e; rw [h] at h'; cases h'

section
variable (P : Program) (w : World)
noncomputable def ObjOk (H : Hp) (h : Heap) (a : Addr) : HO → Prop
  | .lst xs => xs.length ≤ sizeLine ∧ ∃ (its : List Value) (n : Nat), Vals xs its ∧ h.get? a = some { cls := .type "list", data := .seq its.toArray n }
  | .tup xs => xs.length ≤ sizeLine ∧ ∃ its : List Value, Vals xs its ∧ IsTup h a its.toArray
  | .dK kvs => kvs.length ≤ sizeLine ∧ (a == sysModules) = false ∧ ∃ vs, KV kvs vs ∧ h.DictOf (mixKind P w) a vs
  | .dT kvs => kvs.length ≤ sizeLine ∧ (a == sysModules) = false ∧ ∃ xs : List (List Key × Addr × Value),
      Paired (fun (p : List Key × V) (q : List Key × Addr × Value) => p.1 = q.1 ∧ H q.2.1 = some (.tup (p.1.map kV)) ∧ RelV p.2 q.2.2) kvs xs ∧
      ∃ o es ep, h.get? a = some o ∧ o.ExactDict ∧ o.data = .dict es ep ∧ es.toList = xs.map (entryOfKey (tupleKind (mixKind P w))) ∧ (xs.map (·.1)).Nodup
  | .set S n => h.SetOf (intKind P w) a S n
  | .ins C dx fs => H dx = some (.own a) ∧ fs.length ≤ 1000 ∧ dx ≠ a ∧ h.get? a = some (PySem.W.instObj C dx) ∧
      ∃ mA, h.Ns1 dx mA ∧ (∀ f, RelO (fs.lookup f) (mA f)) ∧ PySem.Within mA (fs.map (·.1))
  | .own _ => ∃ o, h.get? a = some o
  | .xd fs => ∃ mA, h.Ns1 a mA ∧ ∀ f, RelO (fs.lookup f) (mA f)
  | .rng lo hi => ∃ t u v, h.get? a = some { cls := .type "range", data := .fields #[.int lo t, .int hi u, .int 1 v] }
  | .frz o u => h.get? a = some o ∧ ObjOk H h a u
  | .tbl ps => h.get? a = some { cls := .none, data := .fields ps }
  | .met f x => h.get? a = some (PySem.W.methodObj (.ref f) (.ref x))
  | .ext φ => φ h ∧ (∃ o, h.get? a = some o) ∧ ∀ h1 h2 : Heap, φ h1 → (∀ o, h1.get? a = some o → h2.get? a = some o) → φ h2
/-- the abstract heap is held -/
noncomputable def HOk (H : Hp) (h : Heap) : Prop := ∀ a o, H a = some o → ObjOk P w H h a o
end

section
variable {P : Program} {w : World} {H H' : Hp} {h h' : Heap} {a : Addr} {o : HO}
theorem ObjOk.lt (x : ObjOk P w H h a o) : a < h.objs.size := by
  cases o with
  | lst xs => obtain ⟨_, _, _, _, e⟩ := x; exact Heap.lt_size e
  | tup xs => obtain ⟨_, _, _, p⟩ := x; exact p.lt
  | dK kvs => obtain ⟨_, _, _, _, o, _, _, e, _⟩ := x; exact Heap.lt_size e
  | dT kvs => obtain ⟨_, _, _, _, o, _, _, e, _⟩ := x; exact Heap.lt_size e
  | set S n => obtain ⟨o, _, _, _, e, _⟩ := x; exact Heap.lt_size e
  | ins C dx fs => obtain ⟨_, _, _, e, _⟩ := x; exact Heap.lt_size e
  | own y => obtain ⟨_, e⟩ := x; exact Heap.lt_size e
  | xd fs => obtain ⟨_, ⟨_, _, _, e, _⟩, _⟩ := x; exact Heap.lt_size e
  | rng lo hi => obtain ⟨_, _, _, e⟩ := x; exact Heap.lt_size e
  | frz ob u => obtain ⟨e, _⟩ := x; exact Heap.lt_size e
  | tbl ps => exact Heap.lt_size (show h.get? a = some _ from x)
  | met f y => exact Heap.lt_size (show h.get? a = some _ from x)
  | ext φ => obtain ⟨_, ⟨_, e⟩, _⟩ := x; exact Heap.lt_size e
theorem Paired.mapP {α β : Type} {F G : α → β → Prop} : ∀ {l₁ : List α} {l₂ : List β}, Paired F l₁ l₂ → (∀ a b, F a b → G a b) → Paired G l₁ l₂
  | _, _, .nil, _ => .nil
  | _, _, .cons r t, f => .cons (f _ _ r) (Paired.mapP t f)
/-- what an object's description leans on: its own object, its own dict, the tuples -/
theorem ObjOk.stay (x : ObjOk P w H h a o) (k : ∀ b u, (b = a ∨ H b = some (.own a)) → h.get? b = some u → h'.get? b = some u)
    (ho : ∀ b, H b = some (.own a) → H' b = some (.own a)) (ht : ∀ b xs, H b = some (.tup xs) → H' b = some (.tup xs)) : ObjOk P w H' h' a o := by
  induction o with
  | lst xs => obtain ⟨z, its, n, r, e⟩ := x; exact ⟨z, its, n, r, k _ _ (.inl rfl) e⟩
  | tup xs => obtain ⟨z, its, r, ob, e, c⟩ := x; exact ⟨z, its, r, ob, k _ _ (.inl rfl) e, c⟩
  | dK kvs => obtain ⟨z, y, vs, r, ob, es, ep, e, c⟩ := x; exact ⟨z, y, vs, r, ob, es, ep, k _ _ (.inl rfl) e, c⟩
  | dT kvs =>
    obtain ⟨z, y, xs, r, ob, es, ep, e, c⟩ := x
    exact ⟨z, y, xs, Paired.mapP r fun p q z => ⟨z.1, ht _ _ z.2.1, z.2.2⟩, ob, es, ep, k _ _ (.inl rfl) e, c⟩
  | set S n => obtain ⟨ob, es, ep, t, e, c⟩ := x; exact ⟨ob, es, ep, t, k _ _ (.inl rfl) e, c⟩
  | ins C dx fs =>
    obtain ⟨d, z, ne, e, mA, ⟨od, es, ep, e2, c⟩, r⟩ := x
    exact ⟨ho _ d, z, ne, k _ _ (.inl rfl) e, mA, ⟨od, es, ep, k _ _ (.inr d) e2, c⟩, r⟩
  | own y => obtain ⟨ob, e⟩ := x; exact ⟨ob, k _ _ (.inl rfl) e⟩
  | xd fs => obtain ⟨mA, ⟨od, es, ep, e, c⟩, r⟩ := x; exact ⟨mA, ⟨od, es, ep, k _ _ (.inl rfl) e, c⟩, r⟩
  | rng lo hi => obtain ⟨t, u, v, e⟩ := x; exact ⟨t, u, v, k _ _ (.inl rfl) e⟩
  | frz ob u ih => obtain ⟨e, q⟩ := x; exact ⟨k _ _ (.inl rfl) e, ih q⟩
  | tbl ps =>
    have e : h.get? a = some { cls := .none, data := .fields ps } := x
    show h'.get? a = some { cls := .none, data := .fields ps }
    exact k a _ (.inl rfl) e
  | met f y =>
    have e : h.get? a = some (PySem.W.methodObj (.ref f) (.ref y)) := x
    show h'.get? a = some (PySem.W.methodObj (.ref f) (.ref y))
    exact k a _ (.inl rfl) e
  | ext φ => obtain ⟨p, ⟨o, e⟩, st⟩ := x; exact ⟨st _ _ p fun o q => k _ _ (.inl rfl) q, ⟨o, k _ _ (.inl rfl) e⟩, st⟩
theorem HOk.lt (x : HOk P w H h) (e : H a = some o) : a < h.objs.size := (x a o e).lt
theorem HOk.fresh (x : HOk P w H h) (e : h.objs.size ≤ a) : H a = none := by
  cases q : H a with
  | none => rfl
  | some u => exact absurd (Nat.lt_of_lt_of_le (x.lt q) e) (Nat.lt_irrefl _)
/-- every object of the heap is kept -/
theorem HOk.kept (x : HOk P w H h) (k : ∀ b u, h.get? b = some u → h'.get? b = some u) : HOk P w H h' := fun a o e =>
  (x a o e).stay (fun b u _ q => k b u q) (fun _ q => q) fun _ _ q => q
/-- a new object is laid and tracked -/
theorem HOk.laid (x : HOk P w H h) (k : ∀ b u, h.get? b = some u → h'.get? b = some u) (hp : h.objs.size ≤ a) (new : ObjOk P w (upd H a o) h' a o) : HOk P w (upd H a o) h' := fun b u e => by
  have hn := x.fresh hp
  by_cases hb : b = a
  · subst hb; rw [upd_same] at e; cases e; exact new
  · rw [upd_ne hb] at e
    exact (x b u e).stay (fun c v _ q => k c v q) (fun c q => by rw [upd_ne (ne_of_none q hn)]; exact q) fun c xs q => by rw [upd_ne (ne_of_none q hn)]; exact q
end

/-- what may be read as u: it is u, or a known u -/
noncomputable def Rd (H : Hp) (a : Addr) (u : HO) : Prop := H a = some u ∨ ∃ o, H a = some (.frz o u)
theorem Rd.ok {P : Program} {w : World} {H : Hp} {h : Heap} {a : Addr} {u : HO} (r : Rd H a u) (x : HOk P w H h) : ObjOk P w H h a u := by
  rcases r with r | ⟨o, r⟩
  · exact x a u r
  · obtain ⟨_, q⟩ := x a _ r
    exact q
/-- what may be written -/
noncomputable def Mut : Option HO → Prop
  | some (.lst _) => True
  | some (.dK _) => True
  | some (.dT _) => True
  | some (.set _ _) => True
  | some (.ins _ _ _) => True
  | some (.ext _) => True
  | _ => False
section
variable {P : Program} {w : World} {H : Hp} {h h' : Heap} {x e : Addr} {o' : HO}
/-- the object at e is changed: x itself, or the dict of the instance x -/
theorem HOk.write (ok : HOk P w H h) (mu : Mut (H x)) (he : e = x ∨ H e = some (.own x)) (k : ∀ b u, b ≠ e → h.get? b = some u → h'.get? b = some u) (heo : ∃ u, h'.get? e = some u)
    (new : ObjOk P w (upd H x o') h' x o') : HOk P w (upd H x o') h' := fun b u q => by
  have nown : ∀ c y, H c = some (.own y) → c ≠ x := fun c y r z => by subst z; rw [r] at mu; exact mu
  have ntup : ∀ c xs, H c = some (.tup xs) → c ≠ x := fun c xs r z => by subst z; rw [r] at mu; exact mu
  by_cases hb : b = x
  · subst hb; rw [upd_same] at q; cases q; exact new
  · rw [upd_ne hb] at q
    by_cases hbe : b = e
    · have q' : H b = some (.own x) := by
        rcases he with z | z
        · exact absurd (hbe.trans z) hb
        · rw [hbe]; exact z
      rw [q] at q'; cases q'
      obtain ⟨v, hv⟩ := heo
      exact ⟨v, by rw [hbe]; exact hv⟩
    · refine (ok b u q).stay (fun c v hc r => k c v ?_ r) (fun c r => by rw [upd_ne (nown c b r)]; exact r) fun c xs r => by rw [upd_ne (ntup c xs r)]; exact r
      rcases hc with rfl | hc
      · exact hbe
      · rintro rfl
        rcases he with z | z
        · exact nown c b hc z
        · rw [hc] at z; cases z; exact hb rfl
end

/-! ### kept unless tracked; of the frames at fs (the callers') the slots may change (an exception that passes writes there); of the records at ex (iterators) nothing is said -/
structure Un (fs ex : List Addr) (H H' : Hp) (h h' : Heap) : Prop where
  keep : ∀ b o, h.get? b = some o → H b = none → b ∉ fs → b ∉ ex → h'.get? b = some o
  slot : ∀ b o, h.get? b = some o → H b = none → b ∈ fs → b ∉ ex → ∃ sl, h'.get? b = some { o with slots := sl }
  free : ∀ b o, h.get? b = some o → H b = none → b ∉ ex → H' b = none
  there : ∀ b o, h.get? b = some o → b ∉ ex → ∃ o', h'.get? b = some o'
  tups : ∀ b xs, H b = some (.tup xs) → H' b = some (.tup xs)
  frzs : ∀ b o u, H b = some (.frz o u) → H' b = some (.frz o u)
  tbls : ∀ b ps, H b = some (.tbl ps) → ∃ more, H' b = some (.tbl (ps ++ more))
section
variable {fs fs' ex ex' : List Addr} {H H1 H2 : Hp} {h h1 h2 h' : Heap} {a x e : Addr} {o : HO}
theorem Un.any (u : Un fs ex H H1 h h1) {b : Addr} {ob : Obj} (q : h.get? b = some ob) (n : H b = none) (hx : b ∉ ex) : ∃ sl, h1.get? b = some { ob with slots := sl } := by
  by_cases hb : b ∈ fs
  · exact u.slot b ob q n hb hx
  · exact ⟨ob.slots, u.keep b ob q n hb hx⟩
theorem Un.kept (k : ∀ b u, h.get? b = some u → h'.get? b = some u) : Un fs ex H H h h' :=
  ⟨fun b ob q _ _ _ => k b ob q, fun b ob q _ _ _ => ⟨ob.slots, k b ob q⟩, fun _ _ _ n _ => n, fun b ob q _ => ⟨ob, k b ob q⟩, fun _ _ q => q, fun _ _ _ q => q, fun _ ps q => ⟨#[], by rw [q]; simp⟩⟩
theorem Un.refl : Un fs ex H H h h := Un.kept fun _ _ q => q
theorem Un.laid (k : ∀ b u, h.get? b = some u → h'.get? b = some u) (hp : h.objs.size ≤ a) (hn : H a = none) : Un fs ex H (upd H a o) h h' where
  keep := fun b u q _ _ _ => k b u q
  slot := fun b u q _ _ _ => ⟨u.slots, k b u q⟩
  free := fun b u q n _ => by rw [upd_ne (Nat.ne_of_lt (Nat.lt_of_lt_of_le (Heap.lt_size q) hp))]; exact n
  there := fun b u q _ => ⟨u, k b u q⟩
  tups := fun b xs q => by rw [upd_ne (ne_of_none q hn)]; exact q
  frzs := fun b u xs q => by rw [upd_ne (ne_of_none q hn)]; exact q
  tbls := fun b ps q => ⟨#[], by rw [upd_ne (ne_of_none q hn), q]; simp⟩
theorem Un.write (mu : Mut (H x)) (he : e = x ∨ H e = some (.own x)) (k : ∀ b u, b ≠ e → h.get? b = some u → h'.get? b = some u) (heo : ∃ u, h'.get? e = some u) : Un fs ex H (upd H x o) h h' := by
  have hx : ∀ b, H b = none → b ≠ x := fun b n z => by subst z; rw [n] at mu; exact mu
  have hb : ∀ b, H b = none → b ≠ e := fun b n z => by
    subst z
    rcases he with r | r
    · exact hx b n r
    · rw [n] at r; cases r
  have hm : ∀ b u, H b = some u → ¬ Mut (some u) → b ≠ x := fun b u q nm z => by subst z; rw [q] at mu; exact nm mu
  refine ⟨fun b u q n _ _ => k b u (hb b n) q, fun b u q n _ _ => ⟨u.slots, k b u (hb b n) q⟩, fun b u q n _ => by rw [upd_ne (hx b n)]; exact n, fun b u q _ => ?_,
    fun b xs q => by rw [upd_ne (hm b _ q fun z => z)]; exact q, fun b u xs q => by rw [upd_ne (hm b _ q fun z => z)]; exact q, fun b ps q => ⟨#[], by rw [upd_ne (hm b _ q fun z => z), q]; simp⟩⟩
  by_cases hbe : b = e
  · subst hbe; exact heo
  · exact ⟨u, k b u hbe q⟩
end

/-! ### the heap without what is tracked -/
noncomputable def trk (h : Heap) (H : Hp) : List Addr := (List.range h.objs.size).filter fun a => (H a).isSome
noncomputable def hidT (h : Heap) (H : Hp) : Heap := PySem.W.hideAll h (trk h H)
theorem hidT_size (h : Heap) (H : Hp) : (hidT h H).objs.size = h.objs.size := PySem.W.hideAll_size _ _
theorem hidT_get {h : Heap} {H : Hp} {b : Addr} {o : Obj} (e : h.get? b = some o) (n : H b = none) : (hidT h H).get? b = some o :=
  PySem.W.hideAll_get _ e fun hm => by
    have q : (H b).isSome = true := (List.mem_filter.mp hm).2
    rw [n] at q; simp at q
theorem of_hidT {h : Heap} {H : Hp} {b : Addr} {o : Obj} (e : (hidT h H).get? b = some o) : h.get? b = some o ∧ H b = none := by
  have e' : h.get? b = some o := PySem.W.of_hideAll (trk h H) e
  refine ⟨e', ?_⟩
  cases q : H b with
  | none => rfl
  | some x =>
    have hm : b ∈ trk h H := List.mem_filter.mpr ⟨List.mem_range.mpr (Heap.lt_size e'), by simp [q]⟩
    have z : (hidT h H).get? b = none := PySem.W.hideAll_none (trk h H) hm
    rw [z] at e; cases e

/-! ### OpenK's ledger, filled with every new object but one -/
end L2

namespace L2
open PySem PySem.Spec PyProof.Rows

/-- the module's facts, over the base: the heap at the law's entry without what is tracked there -/
structure Mod (K : PySem.W.Frag) (mg : Str → Option Value) (base : Heap) : Prop where
  kin : K.In base
  glob : base.Ns mainGlobals mg
  blt : ∃ mb, base.Ns builtinsNs mb ∧ ∀ x : Str, x ≠ "__name__" → mb x = bootBuiltins x
  nolimit : base.NoLimit

/-- the context: a def's body (or a comprehension's block) running. base: fixed through the whole law; s₀, H₀: the entry; outer: the frames whose slots others may change (a def's callers); stack: all frames that run;
   ex: iterators that were made ahead of the entry and are walked here (a comprehension's); fn: the names whose cells were made at the entry (a def: all; a comprehension's block: its own); calm: not within an except suite; pn: pins that every state bears; xe: what is wanted of an exception that leaves the code -/
structure Cx where
  prog : Program
  w : World
  K : PySem.W.Frag
  mg : Str → Option Value
  base : Heap
  A : Around
  N : List Str
  s₀ : Shared
  H₀ : Hp
  env : Env
  outer : List Env
  stack : List Env
  ex : List Addr
  fn : Str → Bool
  calm : Bool
  pn : List (Addr × Obj)
  xe : Value → Shared → Prop
/-- the callers' frames -/
noncomputable def frs (l : List Env) : List Addr := l.filterMap (·.frame)
noncomputable abbrev Cx.fs (X : Cx) : List Addr := frs X.outer

noncomputable def Vis (sc : Scope) (x : Str) : Prop := sc.names.lookup x = some .local ∨ sc.names.lookup x = some .cell ∨ sc.names.lookup x = some .free
noncomputable def Loc (sc : Scope) (x : Str) : Prop := sc.names.lookup x = some .local ∨ sc.names.lookup x = some .cell
noncomputable def Look (env : Env) (h : Heap) (m : Str → Option Value) (x : Str) (u : Value) : Prop :=
  (env.kindOf x = some .local ∧ m x = some u) ∨ ((env.kindOf x = some .cell ∨ env.kindOf x = some .free) ∧ ∃ c, env.cells.lookup x = some c ∧ h.IsCell c (some u))

structure Cx.Ok (X : Cx) : Prop where
  mod : Mod X.K X.mg X.base
  kind : X.env.scope.kind = .function
  glob : X.env.globals = mainGlobals
  blt : X.env.builtins = builtinsNs
  above : X.s₀.heap.objs.size ≤ X.env.locals
  inj : ∀ x y c, X.env.cells.lookup x = some c → X.env.cells.lookup y = some c → x = y
  has : ∀ x, (X.env.kindOf x = some .cell ∨ X.env.kindOf x = some .free) → ∃ c, X.env.cells.lookup x = some c
  cab : ∀ x c, X.fn x = true → X.env.cells.lookup x = some c → X.s₀.heap.objs.size ≤ c
  hd : X.calm = true → X.A.handled = none
  frames : X.A.frames = some X.stack
  stk : X.stack = X.outer ∨ (X.stack = X.env :: X.outer ∧ X.env.frame = some X.env.locals)
  exf : ∀ b ∈ X.ex, b ≠ X.env.locals ∧ ∀ x c, X.env.cells.lookup x = some c → c ≠ b
  bs : ∀ b o, X.base.get? b = some o → X.s₀.heap.get? b = some o ∧ X.H₀ b = none
  bsz : X.base.objs.size ≤ X.s₀.heap.objs.size
  noex : ∀ b o, X.base.get? b = some o → b ∉ X.ex
  exfs : ∀ b ∈ X.ex, b ∉ X.fs
  funs : X.s₀.heap.FunFrames X.base X.outer
  frf : ∀ b ∈ X.fs, X.H₀ b = none

structure Inv (X : Cx) (pins : List (Addr × Obj)) (σ : List (Option V)) (H : Hp) (s : Shared) : Prop where
  ok : X.Ok
  os : s.os = X.s₀.os
  bare : AllBare s.gens
  base : Un X.fs X.ex X.H₀ H X.s₀.heap s.heap
  loc : ∃ m, s.heap.Ns X.env.locals m ∧ ∀ (i : Nat) (x : Str) (v : V), X.N[i]? = some x → σ[i]? = some (some v) → Vis X.env.scope x → ∃ u, RelV v u ∧ Look X.env s.heap m x u
  cell : ∀ x c, X.env.cells.lookup x = some c → ∃ v, s.heap.IsCell c v
  free : H X.env.locals = none
  freeC : ∀ x c, X.env.cells.lookup x = some c → H c = none
  pin : ∀ p ∈ X.pn ++ pins, s.heap.get? p.1 = some p.2 ∧ H p.1 = none ∧ p.1 ≠ X.env.locals ∧ p.1 ∉ X.fs ∧ ∀ v, p.2.data ≠ .cell v
  hok : HOk X.prog X.w H s.heap
  len : σ.length = X.N.length

section
variable {X : Cx} {pins : List (Addr × Obj)} {σ : List (Option V)} {H H' : Hp} {s : Shared} {h' : Heap}

theorem Cx.Ok.nofr (ok : X.Ok) {b : Addr} {o : Obj} (e : X.base.get? b = some o) : b ∉ X.fs := fun hb => by
  have := (ok.funs.mem hb).1
  rw [e] at this; cases this
theorem Inv.bs (I : Inv X pins σ H s) : ∀ b o, X.base.get? b = some o → s.heap.get? b = some o ∧ H b = none := fun b o e =>
  ⟨I.base.keep b o (I.ok.bs b o e).1 (I.ok.bs b o e).2 (I.ok.nofr e) (I.ok.noex b o e), I.base.free b o (I.ok.bs b o e).1 (I.ok.bs b o e).2 (I.ok.noex b o e)⟩
theorem Inv.bk (I : Inv X pins σ H s) : ∀ b o, X.base.get? b = some o → s.heap.get? b = some o := fun b o e => (I.bs b o e).1
theorem Inv.mod (I : Inv X pins σ H s) : Mod X.K X.mg X.base := I.ok.mod
theorem Inv.kIn (I : Inv X pins σ H s) : X.K.In s.heap := I.ok.mod.kin.keeps I.bk
theorem Inv.lt (I : Inv X pins σ H s) : X.env.locals < s.heap.objs.size := let ⟨_, hn, _⟩ := I.loc; hn.lt
theorem Inv.sz (I : Inv X pins σ H s) : X.s₀.heap.objs.size ≤ s.heap.objs.size := Nat.le_trans I.ok.above (Nat.le_of_lt I.lt)
theorem Inv.nofs (I : Inv X pins σ H s) {a : Addr} (h : s.heap.objs.size ≤ a) : a ∉ X.fs := fun hb => by
  obtain ⟨_, o, ho, _⟩ := I.ok.funs.mem hb
  exact absurd (Nat.lt_of_lt_of_le (Heap.lt_size ho) (Nat.le_trans I.sz h)) (Nat.lt_irrefl _)
theorem Inv.cne (I : Inv X pins σ H s) : ∀ x c, X.env.cells.lookup x = some c → c ≠ X.env.locals := fun x c e z => by
  obtain ⟨v, o, ho, hd⟩ := I.cell x c e
  obtain ⟨m, ⟨o', es, ep, ho', hd', _⟩, _⟩ := I.loc
  rw [z, ho'] at ho; cases ho; rw [hd'] at hd; cases hd
theorem Inv.funs (I : Inv X pins σ H s) : s.heap.FunFrames X.base X.outer := by
  have all : ∀ (l : List Env), (∀ b ∈ frs l, b ∈ X.fs) → X.s₀.heap.FunFrames X.base l → s.heap.FunFrames X.base l := by
    intro l
    induction l with
    | nil => intro _ _; trivial
    | cons env r ih =>
      intro hs hl
      obtain ⟨hk, ⟨L, o, hf, hn, ho, hd⟩, hr⟩ := hl
      have hL : L ∈ X.fs := hs L (by unfold frs; rw [List.filterMap_cons, hf]; exact List.mem_cons_self)
      obtain ⟨sl, e⟩ := I.base.slot L o ho (I.ok.frf L hL) hL fun z => I.ok.exfs L z hL
      exact ⟨hk, ⟨L, _, hf, hn, e, hd⟩, ih (fun b hb => hs b (by unfold frs; rw [List.filterMap_cons, hf]; exact List.mem_cons_of_mem _ hb)) hr⟩
  exact all X.outer (fun _ hb => hb) I.ok.funs

/-- the frames that run, for a call -/
theorem Inv.stack (I : Inv X pins σ H s) : s.heap.FunFrames X.base X.stack := by
  rcases I.ok.stk with e | ⟨e, hf⟩
  · rw [e]; exact I.funs
  · rw [e]
    obtain ⟨m, hn, _⟩ := I.loc
    refine .cons (by rw [I.ok.kind]; decide) hf hn ?_ I.funs
    exact Heap.get?_none_of_le (Nat.le_trans I.ok.bsz I.ok.above)
theorem Inv.stkSub (I : Inv X pins σ H s) : ∀ b ∈ frs X.stack, b ∈ X.env.locals :: X.fs := fun b hb => by
  rcases I.ok.stk with e | ⟨e, hf⟩
  · rw [e] at hb; exact List.mem_cons_of_mem _ hb
  · rw [e] at hb
    unfold frs at hb
    rw [List.filterMap_cons, hf] at hb
    exact hb
theorem Inv.stkFree (I : Inv X pins σ H s) : ∀ b ∈ frs X.stack, H b = none := fun b hb => by
  rcases List.mem_cons.mp (I.stkSub b hb) with e | hb
  · rw [e]; exact I.free
  · obtain ⟨_, o, ho, _⟩ := I.ok.funs.mem hb
    exact I.base.free b o ho (I.ok.frf b hb) fun z => I.ok.exfs b z hb

/-- THE STEP: the untracked objects but the frame and the records at ch are kept (the callers' frames up to slots), the frame's map is kept, the new abstract heap is held -/
theorem Inv.step {g' : Array GenState} {t' : Nat} {d' : Drawn} {ch : List Addr} (I : Inv X pins σ H s)
    (hch : ∀ b ∈ ch, (b ∈ X.ex ∨ X.s₀.heap.objs.size ≤ b) ∧ b ≠ X.env.locals ∧ (∀ x c, X.env.cells.lookup x = some c → c ≠ b) ∧ ∀ p ∈ X.pn ++ pins, p.1 ≠ b)
    (keep : ∀ b o, b ≠ X.env.locals → b ∉ X.fs → b ∉ ch → s.heap.get? b = some o → H b = none → h'.get? b = some o)
    (slot : ∀ b o, b ≠ X.env.locals → b ∈ X.fs → b ∉ ch → s.heap.get? b = some o → H b = none → ∃ sl, h'.get? b = some { o with slots := sl }) (free : ∀ b o, b ∉ ch → s.heap.get? b = some o → H b = none → H' b = none)
    (there : ∀ b o, b ∉ ch → s.heap.get? b = some o → ∃ o', h'.get? b = some o')
    (tups : ∀ b xs, H b = some (.tup xs) → H' b = some (.tup xs)) (frzs : ∀ b o u, H b = some (.frz o u) → H' b = some (.frz o u)) (tbls : ∀ b ps, H b = some (.tbl ps) → ∃ more, H' b = some (.tbl (ps ++ more)))
    (ns : ∀ m, s.heap.Ns X.env.locals m → h'.Ns X.env.locals m) (hok : HOk X.prog X.w H' h') (hg : AllBare g') :
    Inv X pins σ H' { s with heap := h', gens := g', drawn := d', toks := t' } := by
  have neL : ∀ b o, X.s₀.heap.get? b = some o → b ≠ X.env.locals := fun b o e => Nat.ne_of_lt (Nat.lt_of_lt_of_le (Heap.lt_size e) I.ok.above)
  have neC : ∀ b o, X.s₀.heap.get? b = some o → b ∉ X.ex → b ∉ ch := fun b o e hx hb => by
    rcases (hch b hb).1 with z | z
    · exact hx z
    · exact absurd (Nat.lt_of_lt_of_le (Heap.lt_size e) z) (Nat.lt_irrefl _)
  have cellK : ∀ x c, X.env.cells.lookup x = some c → ∀ v, s.heap.IsCell c v → h'.IsCell c v := fun x c e v ⟨o, ho, hd⟩ => by
    have nch : c ∉ ch := fun z => (hch c z).2.2.1 x c e rfl
    by_cases hc : c ∈ X.fs
    · obtain ⟨sl, q⟩ := slot c o (I.cne x c e) hc nch ho (I.freeC x c e)
      exact ⟨_, q, hd⟩
    · exact ⟨o, keep c o (I.cne x c e) hc nch ho (I.freeC x c e), hd⟩
  refine ⟨I.ok, I.os, hg, ⟨fun b o e n hb hx => ?_, fun b o e n hb hx => ?_, fun b o e n hx => ?_, fun b o e hx => ?_, fun b xs e => tups b xs (I.base.tups b xs e), fun b o xs e => frzs b o xs (I.base.frzs b o xs e), fun b ps e => ?_⟩, ?_, fun x c e => ?_, ?_, fun x c e => ?_, fun p hp => ?_, hok, I.len⟩
  · exact keep b o (neL b o e) hb (neC b o e hx) (I.base.keep b o e n hb hx) (I.base.free b o e n hx)
  · obtain ⟨sl, e1⟩ := I.base.slot b o e n hb hx
    obtain ⟨sl', e2⟩ := slot b _ (neL b o e) hb (neC b o e hx) e1 (I.base.free b o e n hx)
    exact ⟨sl', e2⟩
  · obtain ⟨o', e1⟩ := I.base.there b o e hx
    exact free b o' (neC b o e hx) e1 (I.base.free b o e n hx)
  · obtain ⟨o', e1⟩ := I.base.there b o e hx
    exact there b o' (neC b o e hx) e1
  · obtain ⟨m1, e1⟩ := I.base.tbls b ps e
    obtain ⟨m2, e2⟩ := tbls b _ e1
    exact ⟨m1 ++ m2, by rw [e2, Array.append_assoc]⟩
  · obtain ⟨m, hn, hl⟩ := I.loc
    refine ⟨m, ns m hn, fun i x v e1 e2 e3 => ?_⟩
    obtain ⟨u, r, l⟩ := hl i x v e1 e2 e3
    refine ⟨u, r, ?_⟩
    rcases l with l | ⟨k, c, e, z⟩
    · exact .inl l
    · exact .inr ⟨k, c, e, cellK x c e _ z⟩
  · obtain ⟨v, z⟩ := I.cell x c e
    exact ⟨v, cellK x c e v z⟩
  · obtain ⟨m, ⟨o, _, _, ho, _⟩, _⟩ := I.loc
    exact free _ o (fun z => (hch _ z).2.1 rfl) ho I.free
  · obtain ⟨v, o, ho, hd⟩ := I.cell x c e
    exact free c o (fun z => (hch c z).2.2.1 x c e rfl) ho (I.freeC x c e)
  · obtain ⟨e, n, ne, nf, d⟩ := I.pin p hp
    have nch : p.1 ∉ ch := fun z => (hch p.1 z).2.2.2 p hp rfl
    exact ⟨keep p.1 p.2 ne nf nch e n, free p.1 p.2 nch e n, ne, nf, d⟩
/-- .. where the frame's own object is kept too -/
theorem Inv.un {t' : Nat} (I : Inv X pins σ H s) (u : Un X.fs [] H H' s.heap h') (hok : HOk X.prog X.w H' h') : Inv X pins σ H' { s with heap := h', toks := t' } := by
  obtain ⟨m, ⟨o, es, ep, ho, r⟩, _⟩ := id I.loc
  obtain ⟨sl, hL⟩ := u.any ho I.free (by simp)
  exact I.step (g' := s.gens) (d' := s.drawn) (ch := []) (fun _ z => nomatch z) (fun b o _ hb _ e n => u.keep b o e n hb (by simp)) (fun b o _ hb _ e n => u.slot b o e n hb (by simp)) (fun b o _ e n => u.free b o e n (by simp)) (fun b o _ e => u.there b o e (by simp)) u.tups u.frzs u.tbls (fun m' hm => by
    obtain ⟨o', es', ep', ho', r'⟩ := hm
    rw [ho] at ho'; cases ho'
    exact ⟨_, es', ep', hL, r'⟩) hok I.bare
/-- behind a call (or a comprehension's block): the slots of this frame may have changed too, the records at ch may have turned -/
theorem Inv.call {g' : Array GenState} {t' : Nat} {d' : Drawn} {ch : List Addr} (I : Inv X pins σ H s) (u : Un (frs X.stack) ch H H' s.heap h') (hok : HOk X.prog X.w H' h') (hg : AllBare g')
    (hch : ∀ b ∈ ch, (b ∈ X.ex ∨ X.s₀.heap.objs.size ≤ b) ∧ b ≠ X.env.locals ∧ (∀ x c, X.env.cells.lookup x = some c → c ≠ b) ∧ ∀ p ∈ X.pn ++ pins, p.1 ≠ b) :
    Inv X pins σ H' { s with heap := h', gens := g', drawn := d', toks := t' } := by
  obtain ⟨m, ⟨o, es, ep, ho, r⟩, _⟩ := id I.loc
  obtain ⟨sl, hL⟩ := u.any ho I.free fun z => (hch _ z).2.1 rfl
  exact I.step (ch := ch) hch (fun b o hL hb hc e n => u.keep b o e n (fun z => (List.mem_cons.mp (I.stkSub b z)).elim hL hb) hc) (fun b o _ _ hc e n => u.any e n hc) (fun b o hc e n => u.free b o e n hc) (fun b o hc e => u.there b o e hc) u.tups u.frzs u.tbls (fun m' hm => by
    obtain ⟨o', es', ep', ho', r'⟩ := hm
    rw [ho] at ho'; cases ho'
    exact ⟨_, es', ep', hL, r'⟩) hok hg
/-- an untracked record of ours (an iterator) has turned -/
theorem Inv.turned {t' : Nat} {it : Addr} (I : Inv X pins σ H s) (k : ∀ b o, b ≠ it → s.heap.get? b = some o → h'.get? b = some o) (hn : H it = none) (hL : it ≠ X.env.locals)
    (h1 : it ∈ X.ex ∨ X.s₀.heap.objs.size ≤ it) (h2 : ∀ x c, X.env.cells.lookup x = some c → c ≠ it) (h3 : ∀ p ∈ X.pn ++ pins, p.1 ≠ it) : Inv X pins σ H { s with heap := h', toks := t' } := by
  have nit : ∀ b u, H b = some u → b ≠ it := fun b u e z => by rw [z, hn] at e; cases e
  refine I.step (g' := s.gens) (d' := s.drawn) (ch := [it]) (fun b hb => ?_) (fun b o _ _ hc e _ => k b o (fun z => hc (by simp [z])) e) (fun b o _ _ hc e _ => ⟨o.slots, k b o (fun z => hc (by simp [z])) e⟩) (fun _ _ _ _ n => n)
    (fun b o hc e => ⟨o, k b o (fun z => hc (by simp [z])) e⟩) (fun _ _ e => e) (fun _ _ _ e => e) (fun b ps e => ⟨#[], by rw [e]; simp⟩) (fun m hm => ?_) (fun b u e => ?_) I.bare
  · have e : b = it := by simpa using hb
    subst e
    exact ⟨h1, hL, h2, h3⟩
  · obtain ⟨o, es, ep, ho, r⟩ := hm
    exact ⟨o, es, ep, k _ o (Ne.symm hL) ho, r⟩
  · refine (I.hok b u e).stay (fun c v hc q => k c v ?_ q) (fun _ q => q) fun _ _ q => q
    rcases hc with z | z
    · rw [z]; exact nit b u e
    · exact nit c _ z
theorem Inv.tok (I : Inv X pins σ H s) (t : Nat) : Inv X pins σ H { s with toks := t } := I.un (h' := s.heap) (t' := t) Un.refl I.hok
/-- all objects kept -/
theorem Inv.kept {t' : Nat} (I : Inv X pins σ H s) (k : ∀ b u, s.heap.get? b = some u → h'.get? b = some u) : Inv X pins σ H { s with heap := h', toks := t' } := I.un (Un.kept k) (I.hok.kept k)
/-- a new object laid and tracked -/
theorem Inv.laid {a : Addr} {o : HO} {t' : Nat} (I : Inv X pins σ H s) (k : ∀ b u, s.heap.get? b = some u → h'.get? b = some u) (hp : s.heap.objs.size ≤ a) (new : ObjOk X.prog X.w (upd H a o) h' a o) :
    Inv X pins σ (upd H a o) { s with heap := h', toks := t' } := I.un (Un.laid k hp (I.hok.fresh hp)) (I.hok.laid k hp new)
/-- an object written -/
theorem Inv.write {x e : Addr} {o : HO} {t' : Nat} (I : Inv X pins σ H s) (mu : Mut (H x)) (he : e = x ∨ H e = some (.own x)) (k : ∀ b u, b ≠ e → s.heap.get? b = some u → h'.get? b = some u) (heo : ∃ u, h'.get? e = some u)
    (new : ObjOk X.prog X.w (upd H x o) h' x o) : Inv X pins σ (upd H x o) { s with heap := h', toks := t' } := I.un (Un.write mu he k heo) (I.hok.write mu he k heo new)
theorem Inv.pins_of {pins' : List (Addr × Obj)} (I : Inv X pins σ H s) (h : ∀ p ∈ pins', s.heap.get? p.1 = some p.2 ∧ H p.1 = none ∧ p.1 ≠ X.env.locals ∧ p.1 ∉ X.fs ∧ ∀ v, p.2.data ≠ .cell v) : Inv X pins' σ H s :=
  ⟨I.ok, I.os, I.bare, I.base, I.loc, I.cell, I.free, I.freeC, fun p hp => (List.mem_append.mp hp).elim (fun z => I.pin p (List.mem_append_left _ z)) (h p), I.hok, I.len⟩

theorem nodup_ix {N : List Str} (hN : N.Nodup) {i j : Nat} {x : Str} (a : N[i]? = some x) (b : N[j]? = some x) : i = j := by
  obtain ⟨h1, e1⟩ := List.getElem?_eq_some_iff.mp a
  obtain ⟨h2, e2⟩ := List.getElem?_eq_some_iff.mp b
  exact (List.getElem_inj hN).mp (e1.trans e2.symm)

/-- a name is stored; what changed -/
theorem store_ok2 {M : Model} {A : Around} {E : Value → Shared → Prop} {i : Nat} {x : Str} {v : V} {u : Value} {Q : Unit → Shared → Prop} (I : Inv X pins σ H s) (hN : X.N.Nodup) (hi : X.N[i]? = some x) (hx : Loc X.env.scope x) (r : RelV v u)
    (h : ∀ s', Inv X pins (σ.set i (some v)) H s' → (∃ a, Heap.SameBut a s.heap s'.heap ∧ (a = X.env.locals ∨ X.env.cells.lookup x = some a)) → Q () s') (hf : X.fn x = true ∨ X.env.scope.names.lookup x = some .local := by first | exact .inl rfl | exact .inr rfl | assumption) : wpAny M A (storeName X.env x u) Q E s := by
  obtain ⟨m, hn, hl⟩ := id I.loc
  have hcls : (X.env.scope.kind == .class || (X.env.scope.kind == .module && X.env.locals != X.env.globals)) = false := by rw [I.ok.kind]; rfl
  have hiσ : i < σ.length := by rw [I.len]; exact (List.getElem?_eq_some_iff.mp hi).1
  have cne := I.cne
  have tracked : ∀ {a : Addr} {h' : Heap}, (∃ o, s.heap.get? a = some o ∧ H a = none) → Heap.SameBut a s.heap h' → HOk X.prog X.w H h' := fun {a h'} ha hs b ob e => by
    obtain ⟨_, _, hfree⟩ := ha
    refine (I.hok b ob e).stay (fun c w' hc q => (hs.2 c ?_).trans q) (fun _ q => q) fun _ _ q => q
    rintro rfl
    rcases hc with rfl | hc
    · rw [hfree] at e; cases e
    · rw [hfree] at hc; cases hc
  rcases hx with hk | hk
  · refine wpAny_storeName_local hk hn (fun h' hn' hs => ?_) hcls
    obtain ⟨oL, _, _, hoL, _⟩ := id hn
    refine h _ ⟨I.ok, I.os, I.bare, ⟨fun b o e n hb hx => ?_, fun b o e n hb hx => ?_, I.base.free, fun b o e hx => ?_, I.base.tups, I.base.frzs, I.base.tbls⟩, ⟨_, hn', fun j y v' e1 e2 e3 => ?_⟩, fun y c e => ?_, I.free, I.freeC, fun p hp => ?_, tracked ⟨oL, hoL, I.free⟩ hs, by simpa using I.len⟩ ⟨_, hs, .inl rfl⟩
    · exact (hs.2 b (Nat.ne_of_lt (Nat.lt_of_lt_of_le (Heap.lt_size e) I.ok.above))).trans (I.base.keep b o e n hb hx)
    · obtain ⟨sl, e1⟩ := I.base.slot b o e n hb hx
      exact ⟨sl, (hs.2 b (Nat.ne_of_lt (Nat.lt_of_lt_of_le (Heap.lt_size e) I.ok.above))).trans e1⟩
    · obtain ⟨o', e1⟩ := I.base.there b o e hx
      exact ⟨o', (hs.2 b (Nat.ne_of_lt (Nat.lt_of_lt_of_le (Heap.lt_size e) I.ok.above))).trans e1⟩
    · by_cases hj : j = i
      · subst hj
        rw [hi] at e1; cases e1
        rw [List.getElem?_set_self hiσ] at e2
        cases e2
        exact ⟨u, r, .inl ⟨hk, by simp⟩⟩
      · rw [List.getElem?_set_ne (Ne.symm hj)] at e2
        obtain ⟨u', r', q⟩ := hl j y v' e1 e2 e3
        refine ⟨u', r', ?_⟩
        rcases q with ⟨k, e⟩ | ⟨k, c, e, z⟩
        · refine .inl ⟨k, ?_⟩
          have : y ≠ x := fun e => hj (nodup_ix hN e1 (e ▸ hi))
          simp [this, e]
        · exact .inr ⟨k, c, e, z.sameBut hs (cne y c e)⟩
    · obtain ⟨w', z⟩ := I.cell y c e
      exact ⟨w', z.sameBut hs (cne y c e)⟩
    · obtain ⟨e, n, ne, nf, d⟩ := I.pin p hp
      exact ⟨(hs.2 p.1 ne).trans e, n, ne, nf, d⟩
  · have hfn : X.fn x = true := by
      rcases hf with z | z
      · exact z
      · rw [z] at hk; cases hk
    obtain ⟨c, hc⟩ := I.ok.has x (.inl hk)
    obtain ⟨w', z⟩ := I.cell x c hc
    refine wpAny_storeName_cell I.ok.kind hk hc z (fun h' hc' hs => ?_)
    obtain ⟨oc, hoc, hocd⟩ := id z
    refine h { s with heap := h' } ⟨I.ok, I.os, I.bare, ⟨fun b o e n hb hx => ?_, fun b o e n hb hx => ?_, I.base.free, fun b o e hx => ?_, I.base.tups, I.base.frzs, I.base.tbls⟩, ⟨m, hn.sameBut hs (Ne.symm (cne x c hc)), fun j y v' e1 e2 e3 => ?_⟩, fun y c' e => ?_, I.free, I.freeC, fun p hp => ?_, tracked ⟨oc, hoc, I.freeC x c hc⟩ hs, by simpa using I.len⟩ ⟨c, hs, .inr hc⟩
    · exact (hs.2 b (Nat.ne_of_lt (Nat.lt_of_lt_of_le (Heap.lt_size e) (I.ok.cab x c hfn hc)))).trans (I.base.keep b o e n hb hx)
    · obtain ⟨sl, e1⟩ := I.base.slot b o e n hb hx
      exact ⟨sl, (hs.2 b (Nat.ne_of_lt (Nat.lt_of_lt_of_le (Heap.lt_size e) (I.ok.cab x c hfn hc)))).trans e1⟩
    · obtain ⟨o', e1⟩ := I.base.there b o e hx
      exact ⟨o', (hs.2 b (Nat.ne_of_lt (Nat.lt_of_lt_of_le (Heap.lt_size e) (I.ok.cab x c hfn hc)))).trans e1⟩
    · by_cases hj : j = i
      · subst hj
        rw [hi] at e1; cases e1
        rw [List.getElem?_set_self hiσ] at e2
        cases e2
        exact ⟨u, r, .inr ⟨.inl hk, c, hc, hc'⟩⟩
      · rw [List.getElem?_set_ne (Ne.symm hj)] at e2
        obtain ⟨u', r', q⟩ := hl j y v' e1 e2 e3
        refine ⟨u', r', ?_⟩
        rcases q with q | ⟨k, c', e, z'⟩
        · exact .inl q
        · refine .inr ⟨k, c', e, z'.sameBut hs ?_⟩
          rintro rfl
          exact hj (nodup_ix hN e1 (I.ok.inj _ _ _ e hc ▸ hi))
    · by_cases hcc : c' = c
      · subst hcc; exact ⟨_, hc'⟩
      · obtain ⟨w2, z2⟩ := I.cell y c' e
        exact ⟨w2, z2.sameBut hs hcc⟩
    · obtain ⟨e, n, ne, nf, d⟩ := I.pin p hp
      refine ⟨(hs.2 p.1 ?_).trans e, n, ne, nf, d⟩
      intro q
      rw [q, hoc] at e
      have q' : oc = p.2 := Option.some.inj e
      exact d w' (by rw [← q']; exact hocd)
theorem store_ok {M : Model} {A : Around} {E : Value → Shared → Prop} {i : Nat} {x : Str} {v : V} {u : Value} {Q : Unit → Shared → Prop} (I : Inv X pins σ H s) (hN : X.N.Nodup) (hi : X.N[i]? = some x) (hx : Loc X.env.scope x) (r : RelV v u)
    (h : ∀ s', Inv X pins (σ.set i (some v)) H s' → Q () s') (hf : X.fn x = true ∨ X.env.scope.names.lookup x = some .local := by first | exact .inl rfl | exact .inr rfl | assumption) : wpAny M A (storeName X.env x u) Q E s :=
  store_ok2 I hN hi hx r (fun s' I' _ => h s' I') hf
/-- behind a call or a block, the state as it is -/
theorem Inv.call' {s' : Shared} {ch : List Addr} (I : Inv X pins σ H s) (ho : s'.os = s.os) (u : Un (frs X.stack) ch H H' s.heap s'.heap) (hok : HOk X.prog X.w H' s'.heap) (hg : AllBare s'.gens)
    (hch : ∀ b ∈ ch, (b ∈ X.ex ∨ X.s₀.heap.objs.size ≤ b) ∧ b ≠ X.env.locals ∧ (∀ x c, X.env.cells.lookup x = some c → c ≠ b) ∧ ∀ p ∈ X.pn ++ pins, p.1 ≠ b) : Inv X pins σ H' s' := by
  obtain ⟨h', g', d', t', o'⟩ := s'
  have e : o' = s.os := ho
  subst e
  exact I.call (g' := g') (t' := t') (d' := d') u hok hg hch
end

/-! ### the judgements -/
/-- an exception: its class, its own dict's address (where it has one), the abstract heap behind it -/
noncomputable abbrev XK := Value → Option Addr → Hp → Prop
noncomputable abbrev St := List (Option V)
noncomputable abbrev VK := V → Hp → Prop
/-- an expression's reading; a test's; an argument list's -/
noncomputable abbrev TE := St → Hp → VK → Prop
noncomputable abbrev TT := St → Hp → (Bool → Hp → Prop) → Prop
noncomputable abbrev TA := St → Hp → (List V → Hp → Prop) → Prop
/-- what is wanted behind a statement -/
structure Ends where
  nx : St → Hp → Prop
  rt : VK
  bk : St → Hp → Prop := fun _ _ => False
  ct : St → Hp → Prop := fun _ _ => False
noncomputable abbrev TS := Ends → St → Hp → Prop

noncomputable def EP (X : Cx) (pins : List (Addr × Obj)) (σ : St) (Q : VK) (u : Value) (s' : Shared) : Prop := ∃ v H', Inv X pins σ H' s' ∧ RelV v u ∧ Q v H'
noncomputable def TP (X : Cx) (pins : List (Addr × Obj)) (σ : St) (Q : Bool → Hp → Prop) (b : Bool) (s' : Shared) : Prop := ∃ H', Inv X pins σ H' s' ∧ Q b H'
noncomputable def AP (X : Cx) (pins : List (Addr × Obj)) (σ : St) (Q : List V → Hp → Prop) (us : List Value) (s' : Shared) : Prop := ∃ vs H', Inv X pins σ H' s' ∧ Vals vs us ∧ Q vs H'
noncomputable def SP (X : Cx) (pins : List (Addr × Obj)) (D : Ends) (f : Flow) (s' : Shared) : Prop :=
  match f with
  | .next => ∃ σ' H', Inv X pins σ' H' s' ∧ D.nx σ' H'
  | .brk => ∃ σ' H', Inv X pins σ' H' s' ∧ D.bk σ' H'
  | .cont => ∃ σ' H', Inv X pins σ' H' s' ∧ D.ct σ' H'
  | .ret u => ∃ v σ' H', Inv X pins σ' H' s' ∧ RelV v u ∧ D.rt v H'

noncomputable def PE (X : Cx) (e : Expr) (t : TE) : Prop :=
  ∀ (pins : List (Addr × Obj)) (s : Shared) (σ : St) (H : Hp) (Q : VK), Inv X pins σ H s → t σ H Q → wpAny (model X.prog X.w) X.A (eval e X.env) (EP X pins σ Q) X.xe s
noncomputable def PT (X : Cx) (e : Expr) (t : TT) : Prop :=
  ∀ (pins : List (Addr × Obj)) (s : Shared) (σ : St) (H : Hp) (Q : Bool → Hp → Prop), Inv X pins σ H s → t σ H Q → wpAny (model X.prog X.w) X.A (isTrue e X.env (eval e X.env)) (TP X pins σ Q) X.xe s
/-- a test whatever its 'whole' is (and, or) -/
noncomputable def PW (X : Cx) (e : Expr) (t : TT) : Prop :=
  ∀ (whole : Sem Value) (pins : List (Addr × Obj)) (s : Shared) (σ : St) (H : Hp) (Q : Bool → Hp → Prop), Inv X pins σ H s → t σ H Q → wpAny (model X.prog X.w) X.A (isTrue e X.env whole) (TP X pins σ Q) X.xe s
theorem PW.pt {X : Cx} {e : Expr} {t : TT} (h : PW X e t) : PT X e t := h _
/-- an argument list (no star), from the left -/
noncomputable def PA (X : Cx) (es : List Expr) (t : TA) : Prop :=
  ∀ (pos : Pos) (pins : List (Addr × Obj)) (s : Shared) (σ : St) (H : Hp) (Q : List V → Hp → Prop), Inv X pins σ H s → t σ H Q → wpAny (model X.prog X.w) X.A (spliced (backTo pos (starEach es X.env))) (AP X pins σ Q) X.xe s
noncomputable def PS (X : Cx) (st : Stmt) (t : TS) : Prop :=
  ∀ (pins : List (Addr × Obj)) (s : Shared) (σ : St) (H : Hp) (D : Ends), Inv X pins σ H s → t D σ H → wpAny (model X.prog X.w) X.A (exec st X.env) (SP X pins D) X.xe s
noncomputable def PSs (X : Cx) (st : List Stmt) (t : TS) : Prop :=
  ∀ (pins : List (Addr × Obj)) (s : Shared) (σ : St) (H : Hp) (D : Ends), Inv X pins σ H s → t D σ H → wpAny (model X.prog X.w) X.A (execs st X.env) (SP X pins D) X.xe s
/-- weaken the end -/
theorem thn {α : Type} {t : Sem α} {Q Q' : α → Shared → Prop} {M : Model} {A : Around} {E : Value → Shared → Prop} {s : Shared} (h : wpAny M A t Q E s) (hQ : ∀ a s, Q a s → Q' a s) : wpAny M A t Q' E s := wpAny_mono h hQ fun _ _ x => x
end L2

namespace L2
open PySem PySem.Spec PyProof.Rows
section
variable {X : Cx}


/-! ### names and constants -/
inductive XVar (i : Nat) (σ : St) (H : Hp) (Q : VK) : Prop where
  | mk (v : V) (h : σ[i]? = some (some v)) (q : Q v H) : XVar i σ H Q
noncomputable def tVar (i : Nat) : TE := fun σ H Q => XVar i σ H Q
inductive XBl (x : V) (P : Bool → Prop) : Prop where
  | mk (c : Bool) (e : x = .bl c) (q : P c) : XBl x P
noncomputable def tC (v : V) : TE := fun _ H Q => Q v H
theorem pe_var {i : Nat} {x : Str} {pos : Pos} (hN : X.N[i]? = some x) (hv : Vis X.env.scope x) (hd : (x == ("__debug__" : Str)) = false := by decide) (hcd : (x == ("__classdict__" : Str)) = false := by decide) : PE X (.Name x pos) (tVar i) := by
  intro pins s σ H Q I h
  obtain ⟨v, e, h⟩ := h
  obtain ⟨m, hn, hl⟩ := I.loc
  obtain ⟨u, r, l⟩ := hl i x v hN e hv
  have fin : EP X pins σ Q u s := ⟨v, H, I, r, h⟩
  rcases l with ⟨hk, hm⟩ | ⟨hk, c, hc, hcell⟩
  · exact wpAny_Name (wpAny_loadName_local I.ok.kind hk hn hm fin) hd
  · rcases hk with hk | hk
    · exact wpAny_Name (wpAny_loadName_cell I.ok.kind hk hc hcell fin) hd
    · exact wpAny_Name (wpAny_loadName_free I.ok.kind hk hc hcell fin hcd) hd
theorem pe_int {i j pos} : PE X (.Constant (.int i) j pos) (tC (.int i)) := fun _ _ _ H _ I h => wpAny_Constant_int ⟨.int i, H, I.tok _, ⟨_, rfl⟩, h⟩
theorem pe_bl {b j pos} : PE X (.Constant (.bool b) j pos) (tC (.bl b)) := fun _ _ _ H _ I h => Constant_bool ⟨.bl b, H, I, rfl, h⟩
theorem pe_non {j pos} : PE X (.Constant .none j pos) (tC .non) := fun _ _ _ H _ I h => Constant_none ⟨.non, H, I, rfl, h⟩
theorem pe_str {x j pos} : PE X (.Constant (.str x) j pos) (tC (.str x)) := fun _ _ _ H _ I h => Calls.Constant_str ⟨.str x, H, I.tok _, ⟨_, rfl⟩, h⟩

/-- a global name of the def -/
noncomputable def Gl (X : Cx) (x : Str) : Prop := X.env.kindOf x = some .globalImplicit
theorem ld_glob {E : Value → Shared → Prop} {pins : List (Addr × Obj)} {s : Shared} {σ : St} {H : Hp} {x : Str} {u : Value} {pos : Pos} {Q : Value → Shared → Prop} (I : Inv X pins σ H s) (hg : Gl X x) (hm : X.mg x = some u) (h : Q u s)
    (hd : (x == ("__debug__" : Str)) = false := by decide) : wpAny (model X.prog X.w) X.A (eval (.Name x pos) X.env) Q E s :=
  Calls.Name_function_global I.ok.kind hg (Calls.loadGlobal_global (by rw [I.ok.glob]; exact I.mod.glob.keeps I.bk) hm h) hd
theorem ld_blt {E : Value → Shared → Prop} {pins : List (Addr × Obj)} {s : Shared} {σ : St} {H : Hp} {x : Str} {u : Value} {pos : Pos} {Q : Value → Shared → Prop} (I : Inv X pins σ H s) (hg : Gl X x) (hm : X.mg x = none) (hv : bootBuiltins x = some u) (h : Q u s)
    (hn : x ≠ "__name__" := by decide) (hd : (x == ("__debug__" : Str)) = false := by decide) : wpAny (model X.prog X.w) X.A (eval (.Name x pos) X.env) Q E s := by
  obtain ⟨mb, h1, h2⟩ := I.mod.blt
  exact Calls.Name_function_global I.ok.kind hg (Calls.loadGlobal_builtin (by rw [I.ok.glob]; exact I.mod.glob.keeps I.bk) hm (by rw [I.ok.blt]; exact h1.keeps I.bk) ((h2 x hn).trans hv) h) hd
/-- a module's constant, a class, a function, as a value -/
theorem pe_glob {x : Str} {v : V} {u : Value} {pos : Pos} (hg : Gl X x) (hm : X.mg x = some u) (r : RelV v u) (hd : (x == ("__debug__" : Str)) = false := by decide) : PE X (.Name x pos) (tC v) :=
  fun _ _ _ H _ I h => ld_glob I hg hm ⟨v, H, I, r, h⟩ hd
theorem pe_bltn {x : Str} {v : V} {u : Value} {pos : Pos} (hg : Gl X x) (hm : X.mg x = none) (hv : bootBuiltins x = some u) (r : RelV v u) (hn : x ≠ "__name__" := by decide) (hd : (x == ("__debug__" : Str)) = false := by decide) : PE X (.Name x pos) (tC v) :=
  fun _ _ _ H _ I h => ld_blt I hg hm hv ⟨v, H, I, r, h⟩ hn hd

/-! ### arithmetic -/
variable {a b : Expr} {ta tb : TE} {pos : Pos}

/-! ### comparisons -/
/-- a comparison as a value, as a test -/
noncomputable def tB (t : TE) : TT := fun σ H Q => t σ H fun x H1 => XBl x fun c => Q c H1
/-- an expression whose value is a bool, as a test -/
theorem pt_val {e : Expr} {t : TE} (h : PE X e t) (he : ∀ whole, isTrue e X.env whole = (do let v ← whole; standAt e.pos; holding [v] (truthy v)) := by intro _; rfl) : PT X e (tB t) := by
  intro pins s σ H Q I hw
  refine isTrue_plain (thn (h pins s σ H _ I hw) fun v s1 zz => ?_) (he _)
  obtain ⟨x, H1, I1, r1, q1⟩ := zz
  obtain ⟨d, rfl, q⟩ := q1
  cases r1
  exact wpAny_truthy_bool ⟨H1, I1, q⟩

/-! ### and, or, not -/
variable {tA tB' : TT} {rest : List Expr}
noncomputable def tOr (t u : TT) : TT := fun σ H Q => t σ H fun c H1 => if c = true then Q true H1 else u σ H1 Q
noncomputable def tNot (t : TT) : TT := fun σ H Q => t σ H fun c H1 => Q (!c) H1
theorem pw_or1 (ha : PT X a tA) : PW X (.BoolOp .Or [a] pos) tA := by
  intro wh pins s σ H Q I h
  refine isTrue_or (thn (ha pins s σ H Q I h) fun c s1 e => ?_)
  cases c with
  | false => exact isTrue_or_nil e
  | true => exact e
theorem pw_or (ha : PT X a tA) (hb : PW X (.BoolOp .Or (b :: rest) pos) tB') : PW X (.BoolOp .Or (a :: b :: rest) pos) (tOr tA tB') := by
  intro wh pins s σ H Q I h
  refine isTrue_or (thn (ha pins s σ H _ I h) fun c s1 zz => ?_)
  obtain ⟨H1, I1, q1⟩ := zz
  cases c with
  | true => exact ⟨H1, I1, q1⟩
  | false => exact hb wh pins s1 σ H1 Q I1 q1
theorem pt_not (ha : PT X a tA) : PT X (.UnaryOp .Not a pos) (tNot tA) := by
  intro pins s σ H Q I h
  exact isTrue_not (ha pins s σ H (fun c H1 => Q (!c) H1) I h)
/-- .. as values (bools) -/
noncomputable def tAndV (ta tb : TE) : TE := fun σ H Q => ta σ H fun x H1 => XBl x fun c => if c = true then tb σ H1 Q else Q (.bl false) H1
noncomputable def tNotV (ta : TE) : TE := fun σ H Q => ta σ H fun x H1 => XBl x fun c => Q (.bl (!c)) H1
theorem pe_one {op} {t : TE} (h : PE X a t) : PE X (.BoolOp op [a] pos) t := fun pins s σ H Q I hw => BoolOp_one (h pins s σ H Q I hw)
theorem pe_and (ha : PE X a ta) (hb : PE X (.BoolOp .And (b :: rest) pos) tb) : PE X (.BoolOp .And (a :: b :: rest) pos) (tAndV ta tb) := by
  intro pins s σ H Q I h
  refine BoolOp_and (thn (ha pins s σ H _ I h) fun v s1 zz => ?_)
  obtain ⟨x, H1, I1, r1, q1⟩ := zz
  obtain ⟨c, rfl, q1⟩ := q1
  cases r1
  refine wpAny_truthy_bool ?_
  cases c with
  | true => exact hb pins s1 σ H1 Q I1 q1
  | false => exact ⟨.bl false, H1, I1, rfl, q1⟩
theorem pe_not (ha : PE X a ta) : PE X (.UnaryOp .Not a pos) (tNotV ta) := by
  intro pins s σ H Q I h
  refine UnaryOp_ (thn (ha pins s σ H _ I h) fun v s1 zz => ?_)
  obtain ⟨x, H1, I1, r1, q1⟩ := zz
  obtain ⟨c, rfl, q1⟩ := q1
  cases r1
  exact not_of (wpAny_truthy_bool ⟨.bl (!c), H1, I1, rfl, q1⟩)
/-- a if t else b -/
noncomputable def tIf (t : TT) (ta tb : TE) : TE := fun σ H Q => t σ H fun c H1 => if c = true then ta σ H1 Q else tb σ H1 Q
theorem pe_ifExp {c : Expr} (hc : PT X c tA) (ha : PE X a ta) (hb : PE X b tb) : PE X (.IfExp c a b pos) (tIf tA ta tb) := by
  intro pins s σ H Q I h
  refine wpAny_IfExp (thn (hc pins s σ H _ I h) fun d s1 zz => ?_)
  obtain ⟨H1, I1, q1⟩ := zz
  cases d with
  | true => exact ha pins s1 σ H1 Q I1 q1
  | false => exact hb pins s1 σ H1 Q I1 q1
end
end L2

namespace L2
open PySem PySem.Spec PyProof.Rows

/-! ### a list, a tuple that is read: tracked, frozen, or an object of the module -/
noncomputable def SqL (K : PySem.W.Frag) (H : Hp) (a : Addr) (xs : List V) : Prop :=
  Rd H a (.lst xs) ∨
    ∃ (o : Obj) (its : Array Value) (n : Nat), K.lookup a = some o ∧ o.cls = .type "list" ∧ o.dict = none ∧ o.data = .seq its n ∧ its.size ≤ sizeLine ∧ Vals xs its.toList
noncomputable def SqT (K : PySem.W.Frag) (H : Hp) (a : Addr) (xs : List V) : Prop :=
  Rd H a (.tup xs) ∨
    ∃ (o : Obj) (its : Array Value) (n : Nat), K.lookup a = some o ∧ o.cls = .type "tuple" ∧ o.data = .seq its n ∧ its.size ≤ sizeLine ∧ Vals xs its.toList
noncomputable def absV : Value → Option V
  | .none => some .non
  | .bool b => some (.bl b)
  | .int i _ => some (.int i)
  | .str x _ => some (.str x)
  | .bytes b _ => some (.byt b)
  | .float b _ => some (.flt b)
  | .ref a => some (.ref a)
  | .type n => some (.ty n)
  | _ => none
theorem RelV.abs {x : V} {u : Value} (r : RelV x u) : absV u = some x := by
  cases x with
  | non => cases r; rfl
  | bl _ => cases r; rfl
  | int _ => obtain ⟨t, rfl⟩ := r; rfl
  | str _ => obtain ⟨t, rfl⟩ := r; rfl
  | byt _ => obtain ⟨t, rfl⟩ := r; rfl
  | flt _ => obtain ⟨t, rfl⟩ := r; rfl
  | ref _ => cases r; rfl
  | ty _ => cases r; rfl
theorem RelV.inj {x y : V} {u : Value} (r : RelV x u) (q : RelV y u) : x = y := Option.some.inj (r.abs.symm.trans q.abs)
theorem Vals.inj : ∀ {xs ys : List V} {us : List Value}, Vals xs us → Vals ys us → xs = ys
  | _, _, _, .nil, .nil => rfl
  | _, _, _, .cons r t, .cons r' t' => by rw [r.inj r', Vals.inj t t']
section
variable {X : Cx} {pins : List (Addr × Obj)} {σ : St} {H : Hp} {s : Shared} {a : Addr} {xs ys : List V}
theorem SqL.of {K : PySem.W.Frag} (h : H a = some (.lst xs)) : SqL K H a xs := .inl (.inl h)
theorem SqT.of {K : PySem.W.Frag} (h : H a = some (.tup xs)) : SqT K H a xs := .inl (.inl h)
theorem Inv.list (I : Inv X pins σ H s) (h : SqL X.K H a xs) : ∃ its : List Value, Vals xs its ∧ PlainL s.heap a its.toArray ∧ xs.length ≤ sizeLine := by
  rcases h with h | ⟨o, its, n, hk, hc, hd, hs, hz, r⟩
  · obtain ⟨z, its, n, r, e⟩ := h.ok I.hok
    exact ⟨its, r, ⟨_, n, e, rfl, rfl, rfl⟩, z⟩
  · refine ⟨its.toList, r, ⟨o, n, I.kIn a o hk, hc, hd, by simpa using hs⟩, ?_⟩
    have e := r.length
    simp only [Array.length_toList] at e
    omega
theorem Inv.tuple (I : Inv X pins σ H s) (h : SqT X.K H a xs) : ∃ its : List Value, Vals xs its ∧ IsTup s.heap a its.toArray ∧ xs.length ≤ sizeLine := by
  rcases h with h | ⟨o, its, n, hk, hc, hs, hz, r⟩
  · obtain ⟨z, its, r, p⟩ := h.ok I.hok
    exact ⟨its, r, p, z⟩
  · refine ⟨its.toList, r, ⟨o, I.kIn a o hk, hc, n, by simpa using hs⟩, ?_⟩
    have e := r.length
    simp only [Array.length_toList] at e
    omega
theorem Inv.list_inj (I : Inv X pins σ H s) (h : SqL X.K H a xs) (h' : SqL X.K H a ys) : xs = ys := by
  obtain ⟨its, r, ⟨o, n, e, _, _, d⟩, _⟩ := I.list h
  obtain ⟨its', r', ⟨o', n', e', _, _, d'⟩, _⟩ := I.list h'
  rw [e] at e'; cases e'
  rw [d] at d'
  injection d' with d1 _
  have : its = its' := by simpa using congrArg Array.toList d1
  subst this
  exact r.inj r'
theorem Inv.tuple_inj (I : Inv X pins σ H s) (h : SqT X.K H a xs) (h' : SqT X.K H a ys) : xs = ys := by
  obtain ⟨its, r, ⟨o, e, _, n, d⟩, _⟩ := I.tuple h
  obtain ⟨its', r', ⟨o', e', _, n', d'⟩, _⟩ := I.tuple h'
  rw [e] at e'; cases e'
  rw [d] at d'
  injection d' with d1 _
  have : its = its' := by simpa using congrArg Array.toList d1
  subst this
  exact r.inj r'
end

/-! ### another wish about exceptions -/
noncomputable abbrev Cx.wish (X : Cx) (E : Value → Shared → Prop) : Cx := { X with xe := E }
/-- no exception leaves -/
noncomputable abbrev Cx.nox (X : Cx) : Cx := X.wish fun _ _ => False
theorem Cx.Ok.wish {X : Cx} (ok : X.Ok) (E : Value → Shared → Prop) : (X.wish E).Ok :=
  ⟨ok.mod, ok.kind, ok.glob, ok.blt, ok.above, ok.inj, ok.has, ok.cab, ok.hd, ok.frames, ok.stk, ok.exf, ok.bs, ok.bsz, ok.noex, ok.exfs, ok.funs, ok.frf⟩
theorem Cx.Ok.unwish {X : Cx} {E : Value → Shared → Prop} (ok : (X.wish E).Ok) : X.Ok :=
  ⟨ok.mod, ok.kind, ok.glob, ok.blt, ok.above, ok.inj, ok.has, ok.cab, ok.hd, ok.frames, ok.stk, ok.exf, ok.bs, ok.bsz, ok.noex, ok.exfs, ok.funs, ok.frf⟩
section
variable {X : Cx} {pins : List (Addr × Obj)} {σ : St} {H : Hp} {s : Shared} {E : Value → Shared → Prop}
theorem Inv.wish (I : Inv X pins σ H s) (E : Value → Shared → Prop) : Inv (X.wish E) pins σ H s := ⟨I.ok.wish E, I.os, I.bare, I.base, I.loc, I.cell, I.free, I.freeC, I.pin, I.hok, I.len⟩
theorem Inv.unwish (I : Inv (X.wish E) pins σ H s) : Inv X pins σ H s := ⟨I.ok.unwish, I.os, I.bare, I.base, I.loc, I.cell, I.free, I.freeC, I.pin, I.hok, I.len⟩
theorem SP.unwish {D : Ends} {f : Flow} {s' : Shared} (h : SP (X.wish E) pins D f s') : SP X pins D f s' := by
  cases f with
  | next => obtain ⟨σ', H', I, q⟩ := h; exact ⟨σ', H', I.unwish, q⟩
  | brk => obtain ⟨σ', H', I, q⟩ := h; exact ⟨σ', H', I.unwish, q⟩
  | cont => obtain ⟨σ', H', I, q⟩ := h; exact ⟨σ', H', I.unwish, q⟩
  | ret u => obtain ⟨v, σ', H', I, r, q⟩ := h; exact ⟨v, σ', H', I.unwish, r, q⟩
theorem PSs.nox {st : List Stmt} {t : TS} (h : PSs X.nox st t) : PSs X st t := fun pins s σ H D I hw =>
  wpAny_mono (h pins s σ H D (I.wish _) hw) (fun _ _ q => q.unwish) fun _ _ z => False.elim z
end

/-! ### blocks and small statements -/
section
variable {X : Cx} {st : Stmt} {rest : List Stmt} {t u : TS} {e : Expr} {te : TE} {pos : Pos}
noncomputable def tNext : TS := fun D σ H => D.nx σ H
noncomputable def tSeq (t u : TS) : TS := fun D σ H => t { D with nx := u D } σ H
theorem pss_nil : PSs X [] tNext := fun _ _ σ H _ I h => wpAny_execs_nil ⟨σ, H, I, h⟩
theorem pss_cons (h1 : PS X st t) (h2 : PSs X rest u) : PSs X (st :: rest) (tSeq t u) := by
  intro pins s σ H D I h
  refine wpAny_execs_cons (thn (h1 pins s σ H { D with nx := u D } I h) fun f s1 q => ?_)
  cases f with
  | next =>
    obtain ⟨σ', H', I', q⟩ := q
    exact h2 pins s1 σ' H' D I' q
  | ret v => exact q
  | brk => exact q
  | cont => exact q
theorem pss_one (h1 : PS X st t) : PSs X [st] t := by
  intro pins s σ H D I h
  refine wpAny_execs_cons (thn (h1 pins s σ H D I h) fun f s1 q => ?_)
  cases f with
  | next => exact wpAny_execs_nil q
  | ret v => exact q
  | brk => exact q
  | cont => exact q
/-- in a def's body nothing is shown -/
theorem Inv.quiet {pins : List (Addr × Obj)} {σ : St} {H : Hp} {s : Shared} (I : Inv X pins σ H s) : interactive X.env = false := by simp [interactive, I.ok.kind]
/-- an expression whose value is dropped -/
noncomputable def tDrop (te : TE) : TS := fun D σ H => te σ H fun _ H1 => D.nx σ H1
theorem ps_expr (he : PE X e te) (hs : swapsWith e none pos.line X.env = pure false := by rfl) : PS X (.Expr e pos) (tDrop te) := by
  intro pins s σ H D I h
  refine wpAny_Expr_any (thn (he pins s σ H _ I h) fun v s1 zz => ?_) I.quiet hs
  obtain ⟨x, H1, I1, r1, q1⟩ := zz
  exact ⟨σ, H1, I1, q1⟩
noncomputable def tRet (te : TE) : TS := fun D σ H => te σ H D.rt
theorem ps_ret (he : PE X e te) : PS X (.Return (some e) pos) (tRet te) := by
  intro pins s σ H D I h
  refine wpAny_Return_some (thn (he pins s σ H _ I h) fun v s1 zz => ?_)
  obtain ⟨x, H1, I1, r1, q1⟩ := zz
  exact ⟨x, σ, H1, I1, r1, q1⟩
noncomputable def tIfS (c : TT) (t u : TS) : TS := fun D σ H => c σ H fun b H1 => if b = true then t D σ H1 else u D σ H1
theorem ps_if {c : Expr} {a b : List Stmt} {tc : TT} (hc : PT X c tc) (ha : PSs X a t) (hb : PSs X b u) : PS X (.If c a b pos) (tIfS tc t u) := by
  intro pins s σ H D I h
  refine wpAny_If (thn (hc pins s σ H _ I h) fun d s1 zz => ?_)
  obtain ⟨H1, I1, q1⟩ := zz
  cases d with
  | true => exact ha pins s1 σ H1 D I1 q1
  | false => exact hb pins s1 σ H1 D I1 q1
end

/-! ### targets -/
noncomputable abbrev TG := V → St → Hp → (St → Hp → Prop) → Prop
noncomputable abbrev TGs := List V → St → Hp → (St → Hp → Prop) → Prop
noncomputable def PG (X : Cx) (target : Expr) (t : TG) : Prop :=
  ∀ (pins : List (Addr × Obj)) (s : Shared) (σ : St) (H : Hp) (v : V) (u : Value) (Q : St → Hp → Prop), Inv X pins σ H s → RelV v u → t v σ H Q →
    wpAny (model X.prog X.w) X.A (assign target X.env u) (fun _ s' => ∃ σ' H', Inv X pins σ' H' s' ∧ Q σ' H') X.xe s
/-- several targets, one after another -/
noncomputable def PGs (X : Cx) (ts : List Expr) (t : TGs) : Prop :=
  ∀ (pins : List (Addr × Obj)) (s : Shared) (σ : St) (H : Hp) (vs : List V) (us : List Value) (Q : St → Hp → Prop), Inv X pins σ H s → Vals vs us → t vs σ H Q →
    wpAny (model X.prog X.w) X.A (assignInOrder ((assignEach ts X.env).map (·.2)) us) (fun _ s' => ∃ σ' H', Inv X pins σ' H' s' ∧ Q σ' H') X.xe s
/-- o[i] = v, by values -/
noncomputable abbrev TSet := V → V → V → Hp → (Hp → Prop) → Prop
noncomputable def PSet (X : Cx) (t : TSet) : Prop :=
  ∀ (pins : List (Addr × Obj)) (s : Shared) (σ : St) (H : Hp) (o i v : V) (ov iv u : Value) (Q : Hp → Prop), Inv X pins σ H s → RelV o ov → RelV i iv → RelV v u → t o i v H Q →
    wpAny (model X.prog X.w) X.A (setItem ov iv u) (fun _ s' => ∃ H', Inv X pins σ H' s' ∧ Q H') X.xe s
section
variable {X : Cx} {pos : Pos}
noncomputable def gName (i : Nat) : TG := fun v σ H Q => Q (σ.set i (some v)) H
theorem pg_name {i : Nat} {x : Str} (hN : X.N.Nodup) (hi : X.N[i]? = some x) (hx : Loc X.env.scope x) (hf : X.fn x = true ∨ X.env.scope.names.lookup x = some .local := by first | exact .inl rfl | exact .inr rfl | assumption) : PG X (.Name x pos) (gName i) := by
  intro pins s σ H v u Q I r h
  exact wpAny_assign_Name (store_ok I hN hi hx r (fun s' I' => ⟨_, H, I', h⟩) hf)
noncomputable def gNil : TGs := fun vs σ H Q => vs = [] ∧ Q σ H
noncomputable def gCons (t : TG) (u : TGs) : TGs := fun vs σ H Q => ∃ v r, vs = v :: r ∧ t v σ H fun σ' H' => u r σ' H' Q
theorem pgs_nil : PGs X [] gNil := by
  intro pins s σ H vs us Q I r h
  obtain ⟨e, h⟩ := h
  subst e
  cases r
  exact assignInOrder_nil ⟨σ, H, I, h⟩
theorem pgs_cons {e : Expr} {es : List Expr} {t : TG} {u : TGs} (h1 : PG X e t) (h2 : PGs X es u)
    (hs : (assignEach (e :: es) X.env).map (·.2) = assign e X.env :: (assignEach es X.env).map (·.2) := by rfl) : PGs X (e :: es) (gCons t u) := by
  intro pins s σ H vs us Q I r h
  obtain ⟨v, vr, e1, h⟩ := h
  subst e1
  cases r with
  | cons r rr =>
    rw [hs]
    refine assignInOrder_cons (thn (h1 pins s σ H _ _ _ I r h) fun _ s1 zz => ?_)
    obtain ⟨σ1, H1, I1, q1⟩ := zz
    exact h2 pins s1 σ1 H1 _ _ Q I1 rr q1
/-- (a, b, ..) = a tuple of that length -/
noncomputable def gTup (K : PySem.W.Frag) (n : Nat) (t : TGs) : TG := fun v σ H Q => ∃ a xs, v = .ref a ∧ SqT K H a xs ∧ xs.length = n ∧ t xs σ H Q
theorem pg_tup {es : List Expr} {k : Nat} {t : TGs} {n : Nat} (hc : X.calm = true) (h : PGs X es t)
    (hn : (assignEach es X.env).length = n := by rfl) (hst : (assignEach es X.env).findIdx? (·.1) = none := by rfl) : PG X (.Tuple es k pos) (gTup X.K n t) := by
  intro pins s σ H v u Q I r hw
  obtain ⟨a, xs, e1, hq, hl, hw⟩ := hw
  subst e1
  cases r
  obtain ⟨its, rv, ht, hz⟩ := I.tuple hq
  refine assign_Tuple_tuple (I.ok.hd hc) ht (by simp [hn, ← hl, rv.length]) hst fun h' hx => ?_
  have I1 : Inv X pins σ H { s with heap := h' } := I.kept (t' := s.toks) fun b o e => hx b o (Nat.ne_of_lt (Heap.lt_size e)) e
  exact h pins _ σ H xs _ Q I1 (by simpa using rv) hw
/-- o[i] = .. -/
noncomputable def gSub (to ti : TE) (t : TSet) : TG := fun v σ H Q => to σ H fun o H1 => ti σ H1 fun i H2 => t o i v H2 fun H3 => Q σ H3
theorem pg_sub {o i : Expr} {to ti : TE} {t : TSet} (ho : PE X o to) (hi : PE X i ti) (hs : PSet X t)
    (ha : ∀ v, assign (.Subscript o i pos) X.env v = (do
      let ov ← holding [v] (eval o X.env)
      let iv ← holding [v, ov] (eval i X.env)
      standAt pos
      holding [v, ov, iv] (setItem ov iv v)
      release [v, ov, iv] []) := by intro _; rfl) : PG X (.Subscript o i pos) (gSub to ti t) := by
  intro pins s σ H v u Q I r h
  rw [ha]
  refine wpAny_bind (wpAny_holding (thn (ho pins s σ H _ I h) fun ov s1 zz => ?_))
  obtain ⟨x, H1, I1, r1, q1⟩ := zz
  refine wpAny_bind (wpAny_holding (thn (hi pins s1 σ H1 _ I1 q1) fun iv s2 zz => ?_))
  obtain ⟨y, H2, I2, r2, q2⟩ := zz
  refine wpAny_bind (wpAny_standAt (wpAny_bind (wpAny_holding (thn (hs pins s2 σ H2 x y v ov iv u _ I2 r1 r2 r q2) fun _ s3 zz => ?_))))
  obtain ⟨H3, I3, q3⟩ := zz
  exact wpAny_release ⟨σ, H3, I3, q3⟩
/-- target = value -/
noncomputable def tAsg (te : TE) (g : TG) : TS := fun D σ H => te σ H fun x H1 => g x σ H1 D.nx
theorem ps_asg {tg e : Expr} {te : TE} {g : TG} (he : PE X e te) (hg : PG X tg g) (hs : swapsWithSole [tg] e pos.line X.env = pure false := by rfl) (hw : swappedStores [tg] e X.env = pure none := by rfl)
    (h1 : (assignEach [tg] X.env).map (·.2) = [assign tg X.env] := by rfl) : PS X (.Assign [tg] e pos) (tAsg te g) := by
  intro pins s σ H D I h
  refine wpAny_Assign_stores (thn (he pins s σ H _ I h) fun v s1 zz => ?_) hs hw
  obtain ⟨x, H1, I1, r1, q1⟩ := zz
  rw [h1]
  exact thn (hg pins s1 σ H1 x v _ I1 r1 q1) fun _ s2 q => q
/-- name = value -/
theorem ps_set {i : Nat} {x : Str} {e : Expr} {te : TE} {pos' : Pos} (hN : X.N.Nodup) (hi : X.N[i]? = some x) (hx : Loc X.env.scope x) (he : PE X e te) (hs : swapsWith e (some (.Name x pos')) pos.line X.env = pure false := by rfl) (hf : X.fn x = true ∨ X.env.scope.names.lookup x = some .local := by first | exact .inl rfl | exact .inr rfl | assumption) :
    PS X (.Assign [.Name x pos'] e pos) (tAsg te (gName i)) := by
  intro pins s σ H D I h
  refine wpAny_Assign_Name (thn (he pins s σ H _ I h) fun v s1 zz => ?_) hs
  obtain ⟨y, H1, I1, r1, q1⟩ := zz
  exact store_ok I1 hN hi hx r1 (fun s2 I2 => ⟨_, H1, I2, q1⟩) hf
end

/-! ### while -/
section
variable {X : Cx} {pos : Pos}
/-- the invariant W with its measure -/
noncomputable def tWhile (c : TT) (tb : TS) : TS := fun D σ H => ∃ W : Nat → St → Hp → Prop, (∃ m, W m σ H) ∧ ∀ m σ H, W m σ H →
  c σ H fun b H1 => if b = true then ∃ N : St → Hp → Prop, (∀ σ' H', N σ' H' → ∃ m', m' < m ∧ W m' σ' H') ∧ tb { D with nx := N, ct := N, bk := D.nx } σ H1 else D.nx σ H1
theorem ps_while {c : Expr} {body : List Stmt} {tc : TT} {tb : TS} (hp : PassesOwn (model X.prog X.w) X.A X.env X.xe) (hc : PT X c tc) (hb : PSs X body tb) : PS X (.While c body [] pos) (tWhile tc tb) := by
  intro pins s σ H D I h
  obtain ⟨W, ⟨m0, w0⟩, turn⟩ := h
  refine wpAny_While (codeAny_whileLoop (fun n s' => ∃ σ' H', Inv X pins σ' H' s' ∧ W n σ' H') ?_ m0 ⟨σ, H, I, w0⟩)
  rintro n s1 ⟨σ1, H1, I1, w1⟩
  refine wpAny_passesOwn hp (thn (hc pins s1 σ1 H1 _ I1 (turn n σ1 H1 w1)) fun b s2 zz => ?_)
  obtain ⟨H2, I2, q2⟩ := zz
  cases b with
  | true =>
    obtain ⟨N, hN, q2⟩ := q2
    rw [if_pos rfl]
    refine wpAny_passesOwn hp (thn (hb pins s2 σ1 H2 _ I2 q2) fun f s3 q3 => ?_)
    cases f with
    | next =>
      obtain ⟨σ3, H3, I3, n3⟩ := q3
      obtain ⟨m', hm, w3⟩ := hN σ3 H3 n3
      exact ⟨m', hm, σ3, H3, I3, w3⟩
    | cont =>
      obtain ⟨σ3, H3, I3, n3⟩ := q3
      obtain ⟨m', hm, w3⟩ := hN σ3 H3 n3
      exact ⟨m', hm, σ3, H3, I3, w3⟩
    | brk => exact q3
    | ret v => exact q3
  | false =>
    rw [if_neg Bool.false_ne_true]
    exact wpAny_execs_nil ⟨σ1, H2, I2, q2⟩
end

/-! ### what a loop or a comprehension walks -/
/-- at turn i: it yields x (the heap may grow), or it stops -/
structure It where
  go : Nat → Hp → Prop
  yld : Nat → Hp → V → Hp → Prop
  stop : Nat → Hp → Prop
/-- the iterator's own objects may turn: they are not the frame's, not pinned, younger than the entry (or a comprehension's own) -/
noncomputable def FpOk (X : Cx) (pins : List (Addr × Obj)) (H : Hp) (b : Addr) : Prop :=
  H b = none ∧ b ≠ X.env.locals ∧ b ∉ X.fs ∧ (b ∈ X.ex ∨ X.s₀.heap.objs.size ≤ b) ∧ (∀ x c, X.env.cells.lookup x = some c → c ≠ b) ∧ ∀ p ∈ X.pn ++ pins, p.1 ≠ b
theorem Inv.fpOk {X : Cx} {pins : List (Addr × Obj)} {σ : St} {H H' : Hp} {s : Shared} {b : Addr} (I : Inv X pins σ H s) (hb : s.heap.objs.size ≤ b) (hn : H' b = none) : FpOk X pins H' b := by
  refine ⟨hn, Nat.ne_of_gt (Nat.lt_of_lt_of_le I.lt hb), I.nofs hb, .inr (Nat.le_trans I.sz hb), fun x c e z => ?_, fun p hp z => ?_⟩
  · obtain ⟨v, q⟩ := I.cell x c e
    exact absurd (Nat.lt_of_lt_of_le q.lt (by rw [z]; exact hb)) (Nat.lt_irrefl _)
  · exact absurd (Nat.lt_of_lt_of_le (Heap.lt_size (I.pin p hp).1) (by rw [z]; exact hb)) (Nat.lt_irrefl _)
structure Turn (P : Program) (w : World) (K : PySem.W.Frag) (tg : Expr) (J : It) (fp : List Addr) (it : Addr) (tn : Nat → Heap → Prop) : Prop where
  mem : it ∈ fp
  obj : ∀ i h, tn i h → ∀ b ∈ fp, ∃ o, h.get? b = some o ∧ ∀ v, o.data ≠ .cell v
  keep : ∀ i h h', tn i h → (∀ b ∈ fp, ∀ o, h.get? b = some o → h'.get? b = some o) → tn i h'
  item : ∀ (X : Cx), X.prog = P → X.w = w → X.K = K → X.calm = true → ∀ (i : Nat) (pins : List (Addr × Obj)) (s : Shared) (σ : St) (H : Hp) (E : Value → Shared → Prop), Inv X pins σ H s → (∀ b ∈ fp, FpOk X pins H b) → tn i s.heap → J.go i H →
    wpAny (model P w) X.A (pyNext (.ref it)) (fun r s1 => ∃ u, r = some u ∧
      wpAny (model P w) X.A (letOwnedTupleGo tg (.ref it) u) (fun _ s2 => ∃ x H', Inv X pins σ H' s2 ∧ RelV x u ∧ J.yld i H x H' ∧ tn (i + 1) s2.heap ∧ ∀ b ∈ fp, H' b = none) E s1) E s
  done : ∀ (X : Cx), X.prog = P → X.w = w → X.K = K → X.calm = true → ∀ (i : Nat) (pins : List (Addr × Obj)) (s : Shared) (σ : St) (H : Hp) (E : Value → Shared → Prop), Inv X pins σ H s → (∀ b ∈ fp, FpOk X pins H b) → tn i s.heap → J.stop i H →
    wpAny (model P w) X.A (pyNext (.ref it)) (fun r s1 => r = none ∧ Inv X pins σ H s1) E s
  self : ∀ (A : Around) (i : Nat) (s : Shared) (Q : Value → Shared → Prop) (E : Value → Shared → Prop), tn i s.heap → Q (.ref it) s → wpAny (model P w) A (pyIter (.ref it)) Q E s
noncomputable abbrev TI := St → Hp → (It → Hp → Prop) → Prop
/-- an iterator has come -/
noncomputable def PIE (X : Cx) (pins : List (Addr × Obj)) (σ : St) (tg : Expr) (R : It → Hp → Prop) (itv : Value) (s2 : Shared) : Prop :=
  ∃ (it : Addr) (fp : List Addr) (tn : Nat → Heap → Prop) (J : It) (H' : Hp), itv = .ref it ∧ Inv X pins σ H' s2 ∧ Turn X.prog X.w X.K tg J fp it tn ∧ tn 0 s2.heap ∧ (∀ b ∈ fp, FpOk X pins H' b) ∧ R J H'
noncomputable def PI (X : Cx) (tg iter : Expr) (wi : TI) : Prop :=
  ∀ (pins : List (Addr × Obj)) (s : Shared) (σ : St) (H : Hp) (R : It → Hp → Prop), Inv X pins σ H s → wi σ H R →
    wpAny (model X.prog X.w) X.A (eval iter X.env) (fun v s1 => wpAny (model X.prog X.w) X.A (pyIter v) (PIE X pins σ tg R) X.xe s1) X.xe s

/-- the step ahead of the store is nothing for an iterator that keeps no tuple -/
theorem go_of {M : Model} {A : Around} {E : Value → Shared → Prop} {s : Shared} {tg : Expr} {it : Addr} {u : Value} {o : Obj} {n : String} {vs : Array Value} {Q : Unit → Shared → Prop} (ho : s.heap.get? it = some o) (hc : o.cls = .type n) (hd : o.data = .fields vs)
    (hn : ["enumerate", "zip", "dict_itemiterator", "dict_reverseitemiterator", "odict_iterator", "itertools.zip_longest", "itertools.pairwise"].contains n = false) (hQ : Q () s) : wpAny M A (letOwnedTupleGo tg (.ref it) u) Q E s := by
  unfold letOwnedTupleGo
  cases tg <;> first
    | exact wpAny_pure hQ
    | (cases u <;> first
        | exact wpAny_pure hQ
        | (refine wpAny_bind (wpAny_load ho ?_)
           rw [hc, hd]
           show wpAny M A (if (["enumerate", "zip", "dict_itemiterator", "dict_reverseitemiterator", "odict_iterator", "itertools.zip_longest", "itertools.pairwise"].contains n && vs[0]? == some (rawInt _)) = true then _ else _) Q E s
           rw [if_neg (by intro h; rw [hn, Bool.false_and] at h; cases h)]
           exact wpAny_pure hQ))

/-- the list at a, as it stands at each turn (a loop may append to it) -/
noncomputable def Itl (K : PySem.W.Frag) (a : Addr) : It :=
  ⟨fun i H => ∃ xs x, SqL K H a xs ∧ xs[i]? = some x, fun i H x H' => H' = H ∧ ∀ xs, SqL K H a xs → xs[i]? = some x, fun i H => ∃ xs, SqL K H a xs ∧ xs.length ≤ i⟩
noncomputable def Itt (K : PySem.W.Frag) (a : Addr) : It :=
  ⟨fun i H => ∃ xs x, SqT K H a xs ∧ xs[i]? = some x, fun i H x H' => H' = H ∧ ∀ xs, SqT K H a xs → xs[i]? = some x, fun i H => ∃ xs, SqT K H a xs ∧ xs.length ≤ i⟩
/-- lo, lo + 1, .. (n of them) -/
noncomputable def Itr (lo : Int) (n : Nat) : It := ⟨fun i _ => i < n, fun i H x H' => H' = H ∧ x = .int (lo + i), fun i _ => n ≤ i⟩
theorem turn_list {P : Program} {w : World} {K : PySem.W.Frag} {tg : Expr} (a it : Addr) : Turn P w K tg (Itl K a) [it] it (fun i h => h.IsListIter it a i) where
  mem := by simp
  obj := fun i h st b hb => by
    have e : b = it := by simpa using hb
    subst e
    obtain ⟨o, e, c, d⟩ := st
    exact ⟨o, e, fun v z => by rw [d] at z; cases z⟩
  keep := fun i h h' st k => st.at fun o e => k it (by simp) o e
  item := by
    intro X hP hw hK hc i pins s σ H E I hf st hg
    subst hP hw hK
    obtain ⟨xs, x, hq, hx⟩ := hg
    obtain ⟨its, rv, p, hz⟩ := I.list hq
    obtain ⟨u, hu, ru⟩ := rv.get hx
    obtain ⟨f0, f1, f2, f3, f4, f5⟩ := hf it (by simp)
    refine wpAny_pyNext_list_item st p.isList (x := u) (by simpa using hu) fun h' st' sb => ?_
    have I1 : Inv X pins σ H { s with heap := h' } := I.turned (t' := s.toks) (fun b o hb e => (sb.2 b hb).trans e) f0 f1 f3 f4 f5
    obtain ⟨o, e, c, d⟩ := id st'
    exact ⟨u, rfl, go_of (s := { s with heap := h' }) e c d (by decide) ⟨x, H, I1, ru, ⟨rfl, fun ys hy => by rw [I.list_inj hy hq]; exact hx⟩, st', fun b hb => (hf b hb).1⟩⟩
  done := by
    intro X hP hw hK hc i pins s σ H E I hf st hg
    subst hP hw hK
    obtain ⟨xs, hq, hx⟩ := hg
    obtain ⟨its, rv, p, hz⟩ := I.list hq
    obtain ⟨f0, f1, f2, f3, f4, f5⟩ := hf it (by simp)
    have hl := rv.length
    exact wpAny_pyNext_list_end (I.ok.hd hc) st p.isList (by simp; omega) fun h' eb => ⟨rfl, I.turned (t' := s.toks) (fun b o hb e => eb b o hb e) f0 f1 f3 f4 f5⟩
  self := fun _ _ _ _ _ st h => wpAny_pyIter_listiter st h
theorem turn_tuple {P : Program} {w : World} {K : PySem.W.Frag} {tg : Expr} (a it : Addr) : Turn P w K tg (Itt K a) [it] it (fun i h => h.IsTupleIter it a i) where
  mem := by simp
  obj := fun i h st b hb => by
    have e : b = it := by simpa using hb
    subst e
    obtain ⟨o, e, c, d⟩ := st
    exact ⟨o, e, fun v z => by rw [d] at z; cases z⟩
  keep := fun i h h' st k => st.at fun o e => k it (by simp) o e
  item := by
    intro X hP hw hK hc i pins s σ H E I hf st hg
    subst hP hw hK
    obtain ⟨xs, x, hq, hx⟩ := hg
    obtain ⟨its, rv, p, hz⟩ := I.tuple hq
    obtain ⟨u, hu, ru⟩ := rv.get hx
    obtain ⟨f0, f1, f2, f3, f4, f5⟩ := hf it (by simp)
    refine wpAny_pyNext_tuple_item st (show s.heap.IsTuple a its.toArray from p) (x := u) (by simpa using hu) fun h' st' sb => ?_
    have I1 : Inv X pins σ H { s with heap := h' } := I.turned (t' := s.toks) (fun b o hb e => (sb.2 b hb).trans e) f0 f1 f3 f4 f5
    obtain ⟨o, e, c, d⟩ := id st'
    exact ⟨u, rfl, go_of (s := { s with heap := h' }) e c d (by decide) ⟨x, H, I1, ru, ⟨rfl, fun ys hy => by rw [I.tuple_inj hy hq]; exact hx⟩, st', fun b hb => (hf b hb).1⟩⟩
  done := by
    intro X hP hw hK hc i pins s σ H E I hf st hg
    subst hP hw hK
    obtain ⟨xs, hq, hx⟩ := hg
    obtain ⟨its, rv, p, hz⟩ := I.tuple hq
    obtain ⟨f0, f1, f2, f3, f4, f5⟩ := hf it (by simp)
    have hl := rv.length
    exact wpAny_pyNext_tuple_end (I.ok.hd hc) st (show s.heap.IsTuple a its.toArray from p) (by simp; omega) fun h' eb => ⟨rfl, I.turned (t' := s.toks) (fun b o hb e => eb b o hb e) f0 f1 f3 f4 f5⟩
  self := fun _ _ _ _ _ st h => wpAny_pyIter_tupleiter st h
theorem turn_range {P : Program} {w : World} {K : PySem.W.Frag} {tg : Expr} (it : Addr) (lo : Int) (n : Nat) : Turn P w K tg (Itr lo n) [it] it (fun i h => IsRangeIter h it (lo + (i : Nat) * 1) ((n : Int) - (i : Nat)) 1) where
  mem := by simp
  obj := fun i h st b hb => by
    have e : b = it := by simpa using hb
    subst e
    exact ⟨_, st, fun v z => by
      have z' : Data.fields _ = Data.cell v := z
      cases z'⟩
  keep := fun i h h' st k => k it (by simp) _ st
  item := by
    intro X hP hw hK hc i pins s σ H E I hf st hg
    subst hP hw hK
    obtain ⟨f0, f1, f2, f3, f4, f5⟩ := hf it (by simp)
    have W := Walks.range (prog := X.prog) (w := X.w) (I.ok.hd hc) it lo 1 n
    refine W.item i s _ _ hg st fun v h' tk hv st' kk => ?_
    obtain ⟨t, rfl⟩ := hv
    have I1 : Inv X pins σ H { s with heap := h', toks := tk } := I.turned (fun b o hb e => kk b o (by simpa using hb) e) f0 f1 f3 f4 f5
    refine ⟨_, rfl, go_of (s := { s with heap := h', toks := tk }) (n := "range_iterator") st' rfl rfl (by decide) ⟨.int (lo + i), H, I1, ⟨t, ?_⟩, ⟨rfl, rfl⟩, st', fun b hb => (hf b hb).1⟩⟩
    rw [Int.mul_one]
  done := by
    intro X hP hw hK hc i pins s σ H E I hf st hg
    subst hP hw hK
    obtain ⟨f0, f1, f2, f3, f4, f5⟩ := hf it (by simp)
    exact wpAny_pyNext_range_end (I.ok.hd hc) st (by have : n ≤ i := hg; omega) fun h' eb => ⟨rfl, I.turned (t' := s.toks) (fun b o hb e => eb b o hb e) f0 f1 f3 f4 f5⟩
  self := fun _ _ _ _ _ st h => wpAny_pyIter_rangeiter st h
end L2

namespace L2
open PySem PySem.Spec PyProof.Rows
section
variable {X : Cx} {tg : Expr}
noncomputable def iList (K : PySem.W.Frag) (tl : TE) : TI := fun σ H R => tl σ H fun x H1 => ∃ a, x = .ref a ∧ (∃ xs, SqL K H1 a xs) ∧ R (Itl K a) H1
noncomputable def iTup (K : PySem.W.Frag) (tl : TE) : TI := fun σ H R => tl σ H fun x H1 => ∃ a, x = .ref a ∧ (∃ xs, SqT K H1 a xs) ∧ R (Itt K a) H1
theorem pi_list {l : Expr} {tl : TE} (hl : PE X l tl) : PI X tg l (iList X.K tl) := by
  intro pins s σ H R I h
  refine thn (hl pins s σ H _ I h) fun v s1 zz => ?_
  obtain ⟨x, H1, I1, r1, q1⟩ := zz
  obtain ⟨a, e, ⟨xs, hq⟩, q⟩ := q1
  subst e
  cases r1
  obtain ⟨its, rv, p, hz⟩ := I1.list hq
  refine wpAny_pyIter_list p.isList ?_
  refine ⟨s1.heap.objs.size, [s1.heap.objs.size], _, _, H1, rfl, I1.kept (t' := s1.toks) fun b o e => Heap.get?_push_of_some _ e, turn_list a _, ⟨_, Heap.get?_push_size _ rfl, rfl, rfl⟩, fun b hb => ?_, q⟩
  have e : b = s1.heap.objs.size := by simpa using hb
  subst e
  exact I1.fpOk (Nat.le_refl _) (I1.hok.fresh (Nat.le_refl _))
theorem pi_tup {l : Expr} {tl : TE} (hl : PE X l tl) : PI X tg l (iTup X.K tl) := by
  intro pins s σ H R I h
  refine thn (hl pins s σ H _ I h) fun v s1 zz => ?_
  obtain ⟨x, H1, I1, r1, q1⟩ := zz
  obtain ⟨a, e, ⟨xs, hq⟩, q⟩ := q1
  subst e
  cases r1
  obtain ⟨its, rv, p, hz⟩ := I1.tuple hq
  refine wpAny_pyIter_tuple (show s1.heap.IsTuple a its.toArray from p) ?_
  refine ⟨s1.heap.objs.size, [s1.heap.objs.size], _, _, H1, rfl, I1.kept (t' := s1.toks) fun b o e => Heap.get?_push_of_some _ e, turn_tuple a _, ⟨_, Heap.get?_push_size _ rfl, rfl, rfl⟩, fun b hb => ?_, q⟩
  have e : b = s1.heap.objs.size := by simpa using hb
  subst e
  exact I1.fpOk (Nat.le_refl _) (I1.hok.fresh (Nat.le_refl _))
/-- a range object just made, walked -/
theorem range_it {pins : List (Addr × Obj)} {σ : St} {H : Hp} {s : Shared} {R : It → Hp → Prop} {E : Value → Shared → Prop} {lo hi : Int} {t u v : Tok} {tk : Nat} (I : Inv X pins σ H s) (h1 : -(2 ^ 62) ≤ lo) (h2 : lo < 2 ^ 62) (h3 : -(2 ^ 62) ≤ hi) (h4 : hi < 2 ^ 62)
    (q : R (Itr lo (hi - lo).toNat) H) : wpAny (model X.prog X.w) X.A (pyIter (.ref s.heap.objs.size)) (PIE X pins σ tg R) E { s with heap := s.heap.push { cls := .type "range", data := .fields #[.int lo t, .int hi u, .int 1 v] }, toks := tk } := by
  refine wpAny_pyIter_range (IsRange.new ..) (small_one h1 h2 h3 h4) ?_
  have I1 : Inv X pins σ H { s with heap := s.heap.push { cls := .type "range", data := .fields #[.int lo t, .int hi u, .int 1 v] }, toks := tk } := I.kept fun b o e => Heap.get?_push_of_some _ e
  refine ⟨(s.heap.push { cls := .type "range", data := .fields #[.int lo t, .int hi u, .int 1 v] }).objs.size, [(s.heap.push { cls := .type "range", data := .fields #[.int lo t, .int hi u, .int 1 v] }).objs.size], _, _, H, rfl,
    I1.kept (t' := tk) fun b o e => Heap.get?_push_of_some _ e, turn_range _ lo (hi - lo).toNat, ?_, fun b hb => ?_, q⟩
  · have e1 : lo + ((0 : Nat) : Int) * 1 = lo := by simp
    have e2 : (((hi - lo).toNat : Nat) : Int) - ((0 : Nat) : Int) = Builtin.Range.rangeSize lo hi 1 := by rw [rangeSize_one]; split <;> omega
    show IsRangeIter _ _ (lo + ((0 : Nat) : Int) * 1) ((((hi - lo).toNat : Nat) : Int) - ((0 : Nat) : Int)) 1
    rw [e1, e2]
    exact Heap.get?_push_size _ rfl
  · have e : b = (s.heap.push { cls := .type "range", data := .fields #[.int lo t, .int hi u, .int 1 v] }).objs.size := by simpa using hb
    subst e
    exact I1.fpOk (Nat.le_refl _) (I1.hok.fresh (Nat.le_refl _))
noncomputable def iRng1 (ta : TA) : TI := fun σ H R => ta σ H fun vs H1 => ∃ j : Int, vs = [.int j] ∧ -(2 ^ 62) ≤ j ∧ j < 2 ^ 62 ∧ R (Itr 0 j.toNat) H1
theorem pi_range1 {a : Expr} {ta : TA} {p pos : Pos} (hg : Gl X "range") (hm : X.mg "range" = none) (ha : PA X [a] ta) (hs : starEach [a] X.env = [(false, eval a X.env)] := by rfl) : PI X tg (.Call (.Name "range" p) [a] [] pos) (iRng1 ta) := by
  intro pins s σ H R I h
  refine Call_ (ld_blt I hg hm boot_range (PyProof.Rows.callWith_type1 (thn (ha pos pins s σ H _ I h) fun us s1 zz => ?_) hs rfl))
  obtain ⟨vs, H1, I1, r1, q1⟩ := zz
  obtain ⟨j, e, q1, q2, q⟩ := q1
  subst e
  cases r1 with
  | cons r rr =>
    cases rr
    obtain ⟨t, rfl⟩ := r
    exact call_range_1 (range_it I1 (by omega) (by omega) q1 q2 (by simpa using q))

/-! ### for -/
/-- W: the invariant by the turn and a measure; N: what the body is to reach -/
noncomputable def tFor (wi : TI) (g : TG) (tb : TS) : TS := fun D σ H => wi σ H fun J H1 => ∃ W : Nat → Nat → St → Hp → Prop, (∃ m, W 0 m σ H1) ∧ ∀ i m σ H, W i m σ H →
  (J.stop i H ∧ D.nx σ H) ∨ (J.go i H ∧ ∃ N : St → Hp → Prop, (∀ σ' H', N σ' H' → ∃ m', m' < m ∧ W (i + 1) m' σ' H') ∧ ∀ x H', J.yld i H x H' → g x σ H' fun σ2 H2 => tb { D with nx := N, ct := N, bk := D.nx } σ2 H2)
/-- the records at fp as they stand -/
noncomputable def pinsAt (fp : List Addr) (h : Heap) : List (Addr × Obj) := fp.filterMap fun b => (h.get? b).map fun o => (b, o)
theorem mem_pinsAt {fp : List Addr} {h : Heap} {b : Addr} {o : Obj} (hb : b ∈ fp) (e : h.get? b = some o) : (b, o) ∈ pinsAt fp h := List.mem_filterMap.mpr ⟨b, hb, by rw [e]; rfl⟩
theorem of_pinsAt {fp : List Addr} {h : Heap} {p : Addr × Obj} (hp : p ∈ pinsAt fp h) : p.1 ∈ fp ∧ h.get? p.1 = some p.2 := by
  obtain ⟨b, hb, e⟩ := List.mem_filterMap.mp hp
  cases q : h.get? b with
  | none => rw [q] at e; cases e
  | some o =>
    rw [q] at e
    have e' : (b, o) = p := Option.some.inj e
    subst e'
    exact ⟨hb, q⟩
theorem Inv.pinned {pins : List (Addr × Obj)} {σ : St} {H : Hp} {s : Shared} {fp : List Addr} (I : Inv X pins σ H s) (hf : ∀ b ∈ fp, FpOk X pins H b) (ho : ∀ b ∈ fp, ∃ o, s.heap.get? b = some o ∧ ∀ v, o.data ≠ .cell v) : Inv X (pins ++ pinsAt fp s.heap) σ H s :=
  I.pins_of fun p hp => (List.mem_append.mp hp).elim (fun z => I.pin p (List.mem_append_right _ z)) fun z => by
    obtain ⟨hb, e⟩ := of_pinsAt z
    obtain ⟨f0, f1, f2, _⟩ := hf p.1 hb
    obtain ⟨o, e', d⟩ := ho p.1 hb
    rw [e] at e'; cases e'
    exact ⟨e, f0, f1, f2, d⟩
theorem Inv.unpinned {pins pl : List (Addr × Obj)} {σ : St} {H : Hp} {s : Shared} (I : Inv X (pins ++ pl) σ H s) : Inv X pins σ H s := I.pins_of fun p hp => I.pin p (List.mem_append_right _ (List.mem_append_left _ hp))
theorem ps_for {iter : Expr} {body : List Stmt} {wi : TI} {g : TG} {tb : TS} {pos : Pos} (hp : PassesOwn (model X.prog X.w) X.A X.env X.xe) (hc : X.calm = true) (hi : PI X tg iter wi) (hg : PG X tg g) (hb : PSs X body tb)
    (hs : ∀ x, foldedSetIterable iter X.env x = pure x := by intro _; rfl) : PS X (.For tg iter body [] pos) (tFor wi g tb) := by
  intro pins s σ H D I h
  refine wpAny_For (thn (hi pins s σ H _ I h) fun v s1 h1 => thn h1 fun itv s2 h2 => ?_) hs
  obtain ⟨it, fp, tn, J, H2, e, I2, T, st2, f2, W, ⟨m0, w0⟩, turn⟩ := h2
  subst e
  -- what stays true of the iterator's objects through the loop
  have stat : ∀ {H' : Hp}, (∀ b ∈ fp, H' b = none) → ∀ b ∈ fp, FpOk X pins H' b := fun hn b hb => ⟨hn b hb, (f2 b hb).2⟩
  refine codeAny_forLoop_any (fun n s' => ∃ i σ' H', Inv X pins σ' H' s' ∧ tn i s'.heap ∧ (∀ b ∈ fp, H' b = none) ∧ W i n σ' H') ?_ m0 ⟨0, σ, H2, I2, st2, fun b hb => (f2 b hb).1, w0⟩
  rintro n s3 ⟨i, σ3, H3, I3, st3, fr3, w3⟩
  rcases turn i n σ3 H3 w3 with ⟨stop, qn⟩ | ⟨go, N, hN, step⟩
  · refine wpAny_passesOwn hp (thn (T.done X rfl rfl rfl hc i pins s3 σ3 H3 X.xe I3 (stat fr3) st3 stop) fun r s4 zz => ?_)
    obtain ⟨hr, I4⟩ := zz
    subst hr
    exact wpAny_execs_nil ⟨σ3, H3, I4, qn⟩
  · refine wpAny_passesOwn hp (thn (T.item X rfl rfl rfl hc i pins s3 σ3 H3 X.xe I3 (stat fr3) st3 go) fun r s4 zz => ?_)
    obtain ⟨u, hr, h4⟩ := zz
    subst hr
    refine wpAny_passesOwn hp (thn h4 fun _ s5 zz => ?_)
    obtain ⟨x, H5, I5, r5, y5, st5, fr5⟩ := zz
    have I5' := I5.pinned (stat fr5) (T.obj _ _ st5)
    refine wpAny_passesOwn hp (thn (hg _ s5 σ3 H5 x u _ I5' r5 (step x H5 y5)) fun _ s6 zz => ?_)
    obtain ⟨σ6, H6, I6, q6⟩ := zz
    refine wpAny_passesOwn hp (thn (hb _ s6 σ6 H6 _ I6 q6) fun f s7 q7 => ?_)
    have again : ∀ {σ7 : St} {H7 : Hp}, Inv X (pins ++ pinsAt fp s5.heap) σ7 H7 s7 → N σ7 H7 → ∃ m, m < n ∧ ∃ i σ' H', Inv X pins σ' H' s7 ∧ tn i s7.heap ∧ (∀ b ∈ fp, H' b = none) ∧ W i m σ' H' := fun {σ7 H7} I7 n7 => by
      obtain ⟨m', hm, w7⟩ := hN σ7 H7 n7
      refine ⟨m', hm, i + 1, σ7, H7, I7.unpinned, T.keep _ _ _ st5 fun b hb o e => (I7.pin (b, o) (List.mem_append_right _ (List.mem_append_right _ (mem_pinsAt hb e)))).1, fun b hb => ?_, w7⟩
      obtain ⟨o, e, d⟩ := T.obj _ _ st5 b hb
      exact (I7.pin (b, o) (List.mem_append_right _ (List.mem_append_right _ (mem_pinsAt hb e)))).2.1
    cases f with
    | next => obtain ⟨σ7, H7, I7, n7⟩ := q7; exact again I7 n7
    | cont => obtain ⟨σ7, H7, I7, n7⟩ := q7; exact again I7 n7
    | brk => obtain ⟨σ7, H7, I7, q7⟩ := q7; exact ⟨σ7, H7, I7.unpinned, q7⟩
    | ret v => obtain ⟨x7, σ7, H7, I7, r7, q7⟩ := q7; exact ⟨x7, σ7, H7, I7.unpinned, r7, q7⟩
end

/-! ### the forms one uses -/
/-- over a list that the body leaves as it is -/
theorem for_list {K : PySem.W.Frag} {a : Addr} {xs : List V} {g : TG} {tb : TS} {D : Ends} {σ : St} {H : Hp} (Pv : Nat → St → Hp → Prop) (h0 : Pv 0 σ H) (hl : ∀ i σ H, i ≤ xs.length → Pv i σ H → SqL K H a xs)
    (hs : ∀ i x σ H, xs[i]? = some x → Pv i σ H → g x σ H fun σ2 H2 => tb { D with nx := Pv (i + 1), ct := Pv (i + 1), bk := D.nx } σ2 H2) (hd : ∀ σ H, Pv xs.length σ H → D.nx σ H) :
    ∃ W : Nat → Nat → St → Hp → Prop, (∃ m, W 0 m σ H) ∧ ∀ i m σ H, W i m σ H →
      ((Itl K a).stop i H ∧ D.nx σ H) ∨ ((Itl K a).go i H ∧ ∃ N : St → Hp → Prop, (∀ σ' H', N σ' H' → ∃ m', m' < m ∧ W (i + 1) m' σ' H') ∧ ∀ x H', (Itl K a).yld i H x H' → g x σ H' fun σ2 H2 => tb { D with nx := N, ct := N, bk := D.nx } σ2 H2) := by
  refine ⟨fun i m σ H => m = xs.length - i ∧ i ≤ xs.length ∧ Pv i σ H, ⟨xs.length, by simp, Nat.zero_le _, h0⟩, ?_⟩
  rintro i m σ H ⟨rfl, hi, p⟩
  have q := hl i σ H hi p
  by_cases hlt : i < xs.length
  · refine .inr ⟨⟨xs, xs[i], q, by simp [hlt]⟩, Pv (i + 1), fun σ' H' p' => ⟨xs.length - (i + 1), by omega, rfl, hlt, p'⟩, fun x H' y => ?_⟩
    obtain ⟨e, y⟩ := y
    subst e
    exact hs i x σ _ (y xs q) p
  · have e : i = xs.length := by omega
    subst e
    exact .inl ⟨⟨xs, q, Nat.le_refl _⟩, hd σ H p⟩
theorem for_range {lo : Int} {n : Nat} {g : TG} {tb : TS} {D : Ends} {σ : St} {H : Hp} (Pv : Nat → St → Hp → Prop) (h0 : Pv 0 σ H)
    (hs : ∀ i σ H, i < n → Pv i σ H → g (.int (lo + i)) σ H fun σ2 H2 => tb { D with nx := Pv (i + 1), ct := Pv (i + 1), bk := D.nx } σ2 H2) (hd : ∀ σ H, Pv n σ H → D.nx σ H) :
    ∃ W : Nat → Nat → St → Hp → Prop, (∃ m, W 0 m σ H) ∧ ∀ i m σ H, W i m σ H →
      ((Itr lo n).stop i H ∧ D.nx σ H) ∨ ((Itr lo n).go i H ∧ ∃ N : St → Hp → Prop, (∀ σ' H', N σ' H' → ∃ m', m' < m ∧ W (i + 1) m' σ' H') ∧ ∀ x H', (Itr lo n).yld i H x H' → g x σ H' fun σ2 H2 => tb { D with nx := N, ct := N, bk := D.nx } σ2 H2) := by
  refine ⟨fun i m σ H => m = n - i ∧ i ≤ n ∧ Pv i σ H, ⟨n, by simp, Nat.zero_le _, h0⟩, ?_⟩
  rintro i m σ H ⟨rfl, hi, p⟩
  by_cases hlt : i < n
  · refine .inr ⟨hlt, Pv (i + 1), fun σ' H' p' => ⟨n - (i + 1), by omega, rfl, hlt, p'⟩, fun x H' y => ?_⟩
    obtain ⟨e, y⟩ := y
    subst e y
    exact hs i σ _ hlt p
  · have e : i = n := by omega
    subst e
    exact .inl ⟨Nat.le_refl _, hd σ H p⟩
end L2

namespace L2
open PySem PySem.Spec PyProof.Rows

noncomputable abbrev R2 := V → V → Hp → VK → Prop
/-- a two-place operation on values: f is binaryOp op, inplaceOp op or compareOp op -/
noncomputable def OpR (X : Cx) (f : Value → Value → Sem Value) (r : R2) : Prop :=
  ∀ (pins : List (Addr × Obj)) (s : Shared) (σ : St) (H : Hp) (x y : V) (v u : Value) (Q : VK), Inv X pins σ H s → RelV x v → RelV y u → r x y H Q →
    wpAny (model X.prog X.w) X.A (f v u) (EP X pins σ Q) X.xe s
/-- a one-place operation -/
noncomputable def UnR (X : Cx) (f : Value → Sem Value) (r : V → Hp → VK → Prop) : Prop :=
  ∀ (pins : List (Addr × Obj)) (s : Shared) (σ : St) (H : Hp) (x : V) (v : Value) (Q : VK), Inv X pins σ H s → RelV x v → r x H Q →
    wpAny (model X.prog X.w) X.A (f v) (EP X pins σ Q) X.xe s
/-- a call of a value that is known (a builtin, a type) with values -/
noncomputable def CallR (X : Cx) (f : Value) (r : List V → Hp → VK → Prop) : Prop :=
  ∀ (pins : List (Addr × Obj)) (s : Shared) (σ : St) (H : Hp) (xs : List V) (us : List Value) (Q : VK), Inv X pins σ H s → Vals xs us → r xs H Q →
    wpAny (model X.prog X.w) X.A (call f us) (EP X pins σ Q) X.xe s
/-- a value's truth -/
noncomputable def TruR (X : Cx) (r : V → Hp → (Bool → Hp → Prop) → Prop) : Prop :=
  ∀ (pins : List (Addr × Obj)) (s : Shared) (σ : St) (H : Hp) (x : V) (v : Value) (Q : Bool → Hp → Prop), Inv X pins σ H s → RelV x v → r x H Q →
    wpAny (model X.prog X.w) X.A (truthy v) (TP X pins σ Q) X.xe s

noncomputable def tOp (r : R2) (ta tb : TE) : TE := fun σ H Q => ta σ H fun x H1 => tb σ H1 fun y H2 => r x y H2 Q
noncomputable def tUn (r : V → Hp → VK → Prop) (ta : TE) : TE := fun σ H Q => ta σ H fun x H1 => r x H1 Q
/-- ints in, under C, and a value out -/
inductive XrI (C : Int → Int → Prop) (g : Int → Int → V) (x y : V) (H : Hp) (Q : VK) : Prop where
  | mk (i j : Int) (e : x = .int i) (f : y = .int j) (c : C i j) (q : Q (g i j) H) : XrI C g x y H Q
noncomputable def rI (C : Int → Int → Prop) (g : Int → Int → V) : R2 := fun x y H Q => XrI C g x y H Q
inductive XrI0 (g : Int → Int → V) (x y : V) (H : Hp) (Q : VK) : Prop where
  | mk (i j : Int) (e : x = .int i) (f : y = .int j) (q : Q (g i j) H) : XrI0 g x y H Q
noncomputable def rI0 (g : Int → Int → V) : R2 := fun x y H Q => XrI0 g x y H Q
noncomputable def rU (g : Int → V) : V → Hp → VK → Prop := fun x H Q => ∃ i, x = .int i ∧ Q (g i) H

section
variable {X : Cx} {a b c : Expr} {ta tb tc : TE} {pos : Pos}

theorem binT (ha : PE X a ta) (hb : PE X b tb) {pins : List (Addr × Obj)} {s : Shared} {σ : St} {H : Hp} {R : V → V → Hp → Prop} (I : Inv X pins σ H s)
    (h : ta σ H fun x H1 => tb σ H1 fun y H2 => R x y H2) {Q : Value → Shared → Prop} {f : Value → Value → Sem Value}
    (hf : ∀ v u s2 x y H2, Inv X pins σ H2 s2 → RelV x v → RelV y u → R x y H2 → wpAny (model X.prog X.w) X.A (f v u) Q X.xe s2) :
    wpAny (model X.prog X.w) X.A (eval a X.env) (fun v s₁ => wpAny (model X.prog X.w) X.A (eval b X.env) (fun u s₂ => wpAny (model X.prog X.w) X.A (f v u) Q X.xe s₂) X.xe s₁) X.xe s := by
  refine thn (ha pins s σ H _ I h) fun v s1 zz => ?_
  obtain ⟨x, H1, I1, r1, q1⟩ := zz
  refine thn (hb pins s1 σ H1 _ I1 q1) fun u s2 zz => ?_
  obtain ⟨y, H2, I2, r2, q2⟩ := zz
  exact hf v u s2 x y H2 I2 r1 r2 q2

theorem pe_op {op : Operator} {r : R2} (ho : OpR X (binaryOp op) r) (ha : PE X a ta) (hb : PE X b tb) : PE X (.BinOp a op b pos) (tOp r ta tb) := by
  intro pins s σ H Q I h
  exact wpAny_BinOp (binT ha hb I h fun v u s2 x y H2 I2 rx ry q => ho pins s2 σ H2 x y v u Q I2 rx ry q)
theorem pe_un {op : UnaryOp} {r : V → Hp → VK → Prop} (ho : UnR X (unaryOp op) r) (ha : PE X a ta) : PE X (.UnaryOp op a pos) (tUn r ta) := by
  intro pins s σ H Q I h
  refine UnaryOp_ (thn (ha pins s σ H _ I h) fun v s1 zz => ?_)
  obtain ⟨x, H1, I1, r1, q1⟩ := zz
  exact ho pins s1 σ H1 x v Q I1 r1 q1

/-! ### ints -/
theorem opI {f : Value → Value → Sem Value} {C : Int → Int → Prop} {g : Int → Int → Int}
    (rule : ∀ (i j : Int) (t u : Tok) (s : Shared) (Q : Value → Shared → Prop) (E : Value → Shared → Prop), C i j → Q (.int (g i j) s.toks) { s with toks := s.toks + 1 } → wpAny (model X.prog X.w) X.A (f (.int i t) (.int j u)) Q E s) :
    OpR X f (rI C fun i j => .int (g i j)) := by
  intro pins s σ H x y v u Q I rx ry h
  obtain ⟨i, j, rfl, rfl, hc, q⟩ := h
  obtain ⟨t, rfl⟩ := rx
  obtain ⟨t', rfl⟩ := ry
  exact rule i j t t' s _ _ hc ⟨.int (g i j), H, I.tok _, ⟨_, rfl⟩, q⟩
theorem opI0 {f : Value → Value → Sem Value} {g : Int → Int → Int}
    (rule : ∀ (i j : Int) (t u : Tok) (s : Shared) (Q : Value → Shared → Prop) (E : Value → Shared → Prop), Q (.int (g i j) s.toks) { s with toks := s.toks + 1 } → wpAny (model X.prog X.w) X.A (f (.int i t) (.int j u)) Q E s) :
    OpR X f (rI0 fun i j => .int (g i j)) := by
  intro pins s σ H x y v u Q I rx ry h
  obtain ⟨i, j, rfl, rfl, q⟩ := h
  obtain ⟨t, rfl⟩ := rx
  obtain ⟨t', rfl⟩ := ry
  exact rule i j t t' s _ _ ⟨.int (g i j), H, I.tok _, ⟨_, rfl⟩, q⟩
theorem opB0 {f : Value → Value → Sem Value} {g : Int → Int → Bool}
    (rule : ∀ (i j : Int) (t u : Tok) (s : Shared) (Q : Value → Shared → Prop) (E : Value → Shared → Prop), Q (.bool (g i j)) s → wpAny (model X.prog X.w) X.A (f (.int i t) (.int j u)) Q E s) :
    OpR X f (rI0 fun i j => .bl (g i j)) := by
  intro pins s σ H x y v u Q I rx ry h
  obtain ⟨i, j, rfl, rfl, q⟩ := h
  obtain ⟨t, rfl⟩ := rx
  obtain ⟨t', rfl⟩ := ry
  exact rule i j t t' s _ _ ⟨.bl (g i j), H, I, rfl, q⟩

noncomputable def CDiv (i j : Int) : Prop := 0 < j ∧ j < 1073741824
noncomputable def CPow (i j : Int) : Prop := 0 ≤ j ∧ j ≤ 1000000 ∧ i.natAbs < 2 ^ 64

theorem op_add : OpR X (binaryOp .Add) (rI0 fun i j => .int (i + j)) := opI0 fun _ _ _ _ _ _ _ q => add_int q
theorem op_sub : OpR X (binaryOp .Sub) (rI0 fun i j => .int (i - j)) := opI0 fun _ _ _ _ _ _ _ q => sub_int q
/-- // by a positive divisor -/
theorem op_fdiv : OpR X (binaryOp .FloorDiv) (rI CDiv fun i j => .int (i / j)) := opI fun i j _ _ _ _ _ hc q => by
  have h1 : (0 : Int) < j := hc.1
  have h2 : j < 1073741824 := hc.2
  exact floordiv_int (by omega) (by rw [Int.fdiv_eq_ediv_of_nonneg i (by omega)]; exact q) (.inl (PyProof.noPylong_small (by omega)))
/-- % by a positive divisor of any size -/
theorem op_mod : OpR X (binaryOp .Mod) (rI (fun _ j => 0 < j) fun i j => .int (i % j)) := opI fun i j _ _ _ _ _ hc q => by
  have h1 : (0 : Int) < j := hc
  exact mod_int' (by omega) (by rw [Int.fmod_eq_emod_of_nonneg i (by omega)]; exact q)
theorem op_modN : OpR X (binaryOp .Mod) (rI (fun _ j => j ≠ 0) fun i j => .int (i.fmod j)) := opI fun _ _ _ _ _ _ _ hc q => mod_int' hc q
theorem op_pow : OpR X (binaryOp .Pow) (rI CPow fun i j => .int (i ^ j.toNat)) := opI fun _ _ _ _ _ _ _ hc q => pow_int_small hc.1 hc.2.1 hc.2.2 q


theorem unI {f : Value → Sem Value} {g : Int → Int}
    (rule : ∀ (i : Int) (t : Tok) (s : Shared) (Q : Value → Shared → Prop) (E : Value → Shared → Prop), Q (.int (g i) s.toks) { s with toks := s.toks + 1 } → wpAny (model X.prog X.w) X.A (f (.int i t)) Q E s) :
    UnR X f (rU fun i => .int (g i)) := by
  intro pins s σ H x v Q I rx h
  obtain ⟨i, rfl, q⟩ := h
  obtain ⟨t, rfl⟩ := rx
  exact rule i t s _ _ ⟨.int (g i), H, I.tok _, ⟨_, rfl⟩, q⟩
theorem un_neg : UnR X (unaryOp .USub) (rU fun i => .int (-i)) := unI fun _ _ _ _ _ q => neg_int q

/-! ### bools among ints: n += (a < b) -/
end

/-! ### comparisons -/
/-- the scalars that == tells apart as data does -/
noncomputable def scal : V → V → Bool
  | .non, .non => true | .non, .int _ => true | .int _, .non => true | .non, .bl _ => true | .bl _, .non => true | .non, .str _ => true | .str _, .non => true
  | .int _, .int _ => true | .bl _, .bl _ => true | .str _, .str _ => true | .byt _, .byt _ => true
  | .int _, .str _ => true | .str _, .int _ => true | .bl _, .str _ => true | .str _, .bl _ => true
  | _, _ => false
noncomputable def rEq : R2 := fun x y H Q => scal x y = true ∧ Q (.bl (decide (x = y))) H
noncomputable def rNe : R2 := fun x y H Q => scal x y = true ∧ Q (.bl (!decide (x = y))) H

theorem dec_int {i j : Int} : decide (V.int i = V.int j) = (i == j) := by
  rw [Bool.eq_iff_iff]
  simp
theorem dec_bl {i j : Bool} : decide (V.bl i = V.bl j) = (i == j) := by
  rw [Bool.eq_iff_iff]
  simp
theorem dec_str {i j : Str} : decide (V.str i = V.str j) = (i == j) := by
  rw [Bool.eq_iff_iff]
  simp
theorem dec_byt {i j : Array UInt8} : decide (V.byt i = V.byt j) = (i.toList == j.toList) := by
  rw [Bool.eq_iff_iff]
  cases i
  cases j
  simp

section
variable {X : Cx} {a b c : Expr} {ta tb tc : TE} {pos : Pos}
theorem fin_bl {pins : List (Addr × Obj)} {σ : St} {H : Hp} {s : Shared} {Q : VK} {k k' : Bool} (I : Inv X pins σ H s) (q : Q (.bl k) H) (e : k = k') : EP X pins σ Q (.bool k') s := by
  subst e
  exact ⟨.bl k, H, I, rfl, q⟩
theorem op_eq : OpR X (compareOp .Eq) rEq := by
  intro pins s σ H x y v u Q I rx ry h
  obtain ⟨hs, q⟩ := h
  cases x with
  | non =>
    cases rx
    cases y with
    | non => cases ry; exact PySem.EqNone.eq_none_none (fin_bl I q (by simp))
    | bl j => cases ry; exact PySem.EqNone.eq_none_bool (fin_bl I q (by simp))
    | int j => obtain ⟨t', rfl⟩ := ry; exact PySem.EqNone.eq_none_int (fin_bl I q (by simp))
    | str j => obtain ⟨t', rfl⟩ := ry; exact PySem.EqNone.eq_none_str (fin_bl I q (by simp))
    | _ => exact absurd (show false = true from hs) Bool.false_ne_true
  | bl i =>
    cases rx
    cases y with
    | non => cases ry; exact PySem.EqNone.eq_bool_none (fin_bl I q (by simp))
    | bl j => cases ry; exact eq_bool (fin_bl I q dec_bl)
    | str j => obtain ⟨t', rfl⟩ := ry; exact PySem.EqMixed.eq_bool_str (fin_bl I q (by simp))
    | _ => exact absurd (show false = true from hs) Bool.false_ne_true
  | int i =>
    obtain ⟨t, rfl⟩ := rx
    cases y with
    | non => cases ry; exact PySem.EqNone.eq_int_none (fin_bl I q (by simp))
    | int j => obtain ⟨t', rfl⟩ := ry; exact eq_int (fin_bl I q dec_int)
    | str j => obtain ⟨t', rfl⟩ := ry; exact PySem.EqMixed.eq_int_str (fin_bl I q (by simp))
    | _ => exact absurd (show false = true from hs) Bool.false_ne_true
  | str i =>
    obtain ⟨t, rfl⟩ := rx
    cases y with
    | non => cases ry; exact PySem.EqNone.eq_str_none (fin_bl I q (by simp))
    | bl j => cases ry; exact PySem.EqMixed.eq_str_bool (fin_bl I q (by simp))
    | int j => obtain ⟨t', rfl⟩ := ry; exact PySem.EqMixed.eq_str_int (fin_bl I q (by simp))
    | str j => obtain ⟨t', rfl⟩ := ry; exact eq_str (fin_bl I q dec_str)
    | _ => exact absurd (show false = true from hs) Bool.false_ne_true
  | byt i =>
    obtain ⟨t, rfl⟩ := rx
    cases y with
    | byt j => obtain ⟨t', rfl⟩ := ry; exact PySem.W.eq_bytes (fin_bl I q dec_byt)
    | _ => exact absurd (show false = true from hs) Bool.false_ne_true
  | _ => cases y <;> exact absurd (show false = true from hs) Bool.false_ne_true
theorem op_ne : OpR X (compareOp .NotEq) rNe := by
  intro pins s σ H x y v u Q I rx ry h
  obtain ⟨hs, q⟩ := h
  cases x with
  | non =>
    cases rx
    cases y with
    | non => cases ry; exact PySem.EqNone.ne_none_none (fin_bl I q (by simp))
    | bl j => cases ry; exact PySem.EqNone.ne_none_bool (fin_bl I q (by simp))
    | int j => obtain ⟨t', rfl⟩ := ry; exact PySem.EqNone.ne_none_int (fin_bl I q (by simp))
    | str j => obtain ⟨t', rfl⟩ := ry; exact PySem.EqNone.ne_none_str (fin_bl I q (by simp))
    | _ => exact absurd (show false = true from hs) Bool.false_ne_true
  | bl i =>
    cases rx
    cases y with
    | non => cases ry; exact PySem.EqNone.ne_bool_none (fin_bl I q (by simp))
    | bl j => cases ry; exact ne_bool (fin_bl I q (congrArg not dec_bl))
    | str j => obtain ⟨t', rfl⟩ := ry; exact PySem.EqMixed.ne_bool_str (fin_bl I q (by simp))
    | _ => exact absurd (show false = true from hs) Bool.false_ne_true
  | int i =>
    obtain ⟨t, rfl⟩ := rx
    cases y with
    | non => cases ry; exact PySem.EqNone.ne_int_none (fin_bl I q (by simp))
    | int j => obtain ⟨t', rfl⟩ := ry; exact ne_int (fin_bl I q (congrArg not dec_int))
    | str j => obtain ⟨t', rfl⟩ := ry; exact PySem.EqMixed.ne_int_str (fin_bl I q (by simp))
    | _ => exact absurd (show false = true from hs) Bool.false_ne_true
  | str i =>
    obtain ⟨t, rfl⟩ := rx
    cases y with
    | non => cases ry; exact PySem.EqNone.ne_str_none (fin_bl I q (by simp))
    | bl j => cases ry; exact PySem.EqMixed.ne_str_bool (fin_bl I q (by simp))
    | int j => obtain ⟨t', rfl⟩ := ry; exact PySem.EqMixed.ne_str_int (fin_bl I q (by simp))
    | str j => obtain ⟨t', rfl⟩ := ry; exact ne_str (fin_bl I q (congrArg not dec_str))
    | _ => exact absurd (show false = true from hs) Bool.false_ne_true
  | byt i =>
    obtain ⟨t, rfl⟩ := rx
    cases y with
    | byt j => obtain ⟨t', rfl⟩ := ry; exact PySem.W.ne_bytes (fin_bl I q (congrArg not dec_byt))
    | _ => exact absurd (show false = true from hs) Bool.false_ne_true
  | _ => cases y <;> exact absurd (show false = true from hs) Bool.false_ne_true

theorem op_lt : OpR X (compareOp .Lt) (rI0 fun i j => .bl (decide (i < j))) := opB0 fun _ _ _ _ _ _ _ q => lt_int q
theorem op_le : OpR X (compareOp .LtE) (rI0 fun i j => .bl (decide (i ≤ j))) := opB0 fun _ _ _ _ _ _ _ q => le_int q
theorem op_gt : OpR X (compareOp .Gt) (rI0 fun i j => .bl (decide (j < i))) := opB0 fun _ _ _ _ _ _ _ q => gt_int q
theorem op_ge : OpR X (compareOp .GtE) (rI0 fun i j => .bl (decide (j ≤ i))) := opB0 fun _ _ _ _ _ _ _ q => ge_int q

/-- is None, is not None: the right side a value none -/
theorem op_isN : OpR X (compareOp .Is) (fun x y H Q => y = .non ∧ Q (.bl (decide (x = .non))) H) := by
  intro pins s σ H x y v u Q I rx ry h
  obtain ⟨rfl, q⟩ := h
  cases ry
  refine is_none_gen (fin_bl I q ?_)
  cases x <;> first
    | (cases rx; rfl)
    | (obtain ⟨t, rfl⟩ := rx; rfl)
theorem op_notN : OpR X (compareOp .IsNot) (fun x y H Q => y = .non ∧ Q (.bl (!decide (x = .non))) H) := by
  intro pins s σ H x y v u Q I rx ry h
  obtain ⟨rfl, q⟩ := h
  cases ry
  refine isnot_none_gen (fin_bl I q ?_)
  cases x <;> first
    | (cases rx; rfl)
    | (obtain ⟨t, rfl⟩ := rx; rfl)



theorem nomark (b : Expr) {op : CmpOp} (h : op ≠ .In := by decide) (h2 : op ≠ .NotIn := by decide) : behindInMarks op b = false := by
  have e1 : (op == CmpOp.In) = false := by cases op <;> first | rfl | exact absurd rfl h
  have e2 : (op == CmpOp.NotIn) = false := by cases op <;> first | rfl | exact absurd rfl h2
  cases b <;> simp [behindInMarks, e1, e2]
/-- a comparison as a value; hm: nomark b, or (for in, not in) by with_unfolding_all rfl -/
theorem pe_cmpR {op : CmpOp} {r : R2} (ho : OpR X (compareOp op) r) (ha : PE X a ta) (hb : PE X b tb) (hm : behindInMarks op b = false) : PE X (.Compare a [op] [b] pos) (tOp r ta tb) := by
  intro pins s σ H Q I h
  exact wpAny_Compare1 (binT ha hb I h fun v u s2 x y H2 I2 rx ry q => ho pins s2 σ H2 x y v u Q I2 rx ry q) hm
/-- a reading of a value as a test -/
noncomputable def tTest (t : TE) : TT := fun σ H Q => t σ H fun x H' => XBl x fun k => Q k H'
theorem pt_cmpR {op : CmpOp} {r : R2} (ho : OpR X (compareOp op) r) (ha : PE X a ta) (hb : PE X b tb) (hm : behindInMarks op b = false) : PT X (.Compare a [op] [b] pos) (tTest (tOp r ta tb)) := by
  intro pins s σ H Q I h
  refine wpAny_isTrue_Compare1 (thn (ha pins s σ H _ I h) fun v s1 ⟨x, H1, I1, r1, q1⟩ => thn (hb pins s1 σ H1 _ I1 q1) fun u s2 ⟨y, H2, I2, r2, q2⟩ =>
    thn (ho pins s2 σ H2 x y v u _ I2 r1 r2 q2) fun c s3 ⟨z, H3, I3, r3, k, e, q3⟩ => ?_) hm
  subst e
  cases r3
  exact wpAny_truthy_bool ⟨H3, I3, q3⟩
/-- a op1 b op2 c -/
noncomputable def tChain (r r' : R2) (ta tb tc : TE) : TE := fun σ H Q => ta σ H fun x H1 => tb σ H1 fun y H2 => r x y H2 fun z H3 => ∃ k, z = .bl k ∧
  (if k = true then tc σ H3 fun w' H4 => r' y w' H4 Q else Q (.bl false) H3)
theorem pe_chain {op op' : CmpOp} {r r' : R2} (ho : OpR X (compareOp op) r) (ho' : OpR X (compareOp op') r') (ha : PE X a ta) (hb : PE X b tb) (hc : PE X c tc)
    (hm : lastMarks [op, op'] [b, c] = false := by with_unfolding_all rfl) : PE X (.Compare a [op, op'] [b, c] pos) (tChain r r' ta tb tc) := by
  intro pins s σ H Q I h
  refine Compare_chain (thn (ha pins s σ H _ I h) fun v s1 ⟨x, H1, I1, r1, q1⟩ => chain_link (thn (hb pins s1 σ H1 _ I1 q1) fun u s2 ⟨y, H2, I2, r2, q2⟩ =>
    thn (ho pins s2 σ H2 x y v u _ I2 r1 r2 q2) fun d s3 ⟨z, H3, I3, r3, k, e, q3⟩ => ?_)) hm
  subst e
  cases r3
  refine wpAny_truthy_bool ?_
  cases k with
  | false => exact ite_ff ⟨.bl false, H3, I3, rfl, q3⟩
  | true => exact ite_tt (chain_last (thn (hc pins s3 σ H3 _ I3 q3) fun w' s4 ⟨z', H4, I4, r4, q4⟩ => ho' pins s4 σ H4 y z' u w' Q I4 r2 r4 q4))
theorem pt_chain {op op' : CmpOp} {r r' : R2} (ho : OpR X (compareOp op) r) (ho' : OpR X (compareOp op') r') (ha : PE X a ta) (hb : PE X b tb) (hc : PE X c tc)
    (hm : lastMarks [op, op'] [b, c] = false := by with_unfolding_all rfl) : PT X (.Compare a [op, op'] [b, c] pos) (tTest (tChain r r' ta tb tc)) := by
  intro pins s σ H Q I h
  refine isTrue_chain (thn (ha pins s σ H _ I h) fun v s1 ⟨x, H1, I1, r1, q1⟩ => test_link (thn (hb pins s1 σ H1 _ I1 q1) fun u s2 ⟨y, H2, I2, r2, q2⟩ =>
    thn (ho pins s2 σ H2 x y v u _ I2 r1 r2 q2) fun d s3 ⟨z, H3, I3, r3, k, e, q3⟩ => ?_)) hm
  subst e
  cases r3
  refine wpAny_truthy_bool ?_
  cases k with
  | false =>
    obtain ⟨k', e', q'⟩ := q3
    cases e'
    exact ite_ff ⟨H3, I3, q'⟩
  | true =>
    refine ite_tt (test_last (thn (hc pins s3 σ H3 _ I3 q3) fun w' s4 zz => ?_))
    obtain ⟨z', H4, I4, r4, q4⟩ := zz
    refine thn (ho' pins s4 σ H4 y z' u w' _ I4 r2 r4 q4) fun d' s5 zz => ?_
    obtain ⟨z2, H5, I5, r5, k2, e2, q5⟩ := zz
    subst e2
    cases r5
    exact wpAny_truthy_bool ⟨H5, I5, q5⟩

/-! ### truth -/
/-- a value's truth by the abstract heap -/
noncomputable def TruV (K : PySem.W.Frag) (x : V) (H : Hp) (k : Bool) : Prop :=
  match x with
  | .non => k = false
  | .bl b => k = b
  | .int i => k = (i != 0)
  | .str y => y.length ≤ sizeLine ∧ k = ((y.length : Int) != 0)
  | .byt y => y.size ≤ sizeLine ∧ k = ((y.size : Int) != 0)
  | .ref p => (∃ xs, SqL K H p xs ∧ k = !xs.isEmpty) ∨ (∃ xs, SqT K H p xs ∧ k = !xs.isEmpty) ∨ ∃ kvs, H p = some (.dK kvs) ∧ k = !kvs.isEmpty
  | _ => False
theorem isEmpty_kv {κ : Type} {kvs : List (κ × V)} {vs : List (κ × Value)} (r : KV kvs vs) : (!vs.isEmpty) = !kvs.isEmpty := by
  cases r <;> rfl
theorem isEmpty_of {xs : List V} {its : List Value} (r : Vals xs its) : (!its.toArray.isEmpty) = !xs.isEmpty := by
  cases r <;> simp
theorem line63 : (sizeLine : Nat) < 2 ^ 63 := by rw [sizeLine_eq]; decide
theorem tru_ok : TruR X (fun x H Q => ∃ k, TruV X.K x H k ∧ Q k H) := by
  intro pins s σ H x v Q I rx h
  obtain ⟨k, e, q⟩ := h
  have hl := line63
  have hs : sizeLine = 16777216 := sizeLine_eq
  cases x with
  | non =>
    cases rx
    have e' : k = false := e
    subst e'
    exact truthy_none ⟨H, I, q⟩
  | bl b =>
    cases rx
    have e' : k = b := e
    subst e'
    exact wpAny_truthy_bool ⟨H, I, q⟩
  | int i =>
    obtain ⟨t, rfl⟩ := rx
    have e' : k = (i != 0) := e
    subst e'
    exact PySem.P.truthy_int ⟨H, I, q⟩
  | str y =>
    obtain ⟨t, rfl⟩ := rx
    obtain ⟨hy, e'⟩ : y.length ≤ sizeLine ∧ k = ((y.length : Int) != 0) := e
    subst e'
    exact PySem.P.truthy_str (by omega) ⟨H, I.tok _, q⟩
  | byt y =>
    obtain ⟨t, rfl⟩ := rx
    obtain ⟨hy, e'⟩ : y.size ≤ sizeLine ∧ k = ((y.size : Int) != 0) := e
    subst e'
    exact PySem.W.truthy_bytes (by omega) ⟨H, I.tok _, q⟩
  | ref p =>
    cases rx
    have e' : (∃ xs, SqL X.K H p xs ∧ k = !xs.isEmpty) ∨ (∃ xs, SqT X.K H p xs ∧ k = !xs.isEmpty) ∨ ∃ kvs, H p = some (.dK kvs) ∧ k = !kvs.isEmpty := e
    rcases e' with ⟨xs, hx, e'⟩ | ⟨xs, hx, e'⟩ | ⟨kvs, hx, e'⟩
    · subst e'
      obtain ⟨its, r, pl, hz⟩ := I.list hx
      have hlen := r.length
      exact wpAny_truthy_list pl.isList (by simp only [List.size_toArray]; omega) ⟨H, I.tok _, by rw [isEmpty_of r]; exact q⟩
    · subst e'
      obtain ⟨its, r, pl, hz⟩ := I.tuple hx
      have hlen := r.length
      exact truthy_tuple pl (by simp only [List.size_toArray]; omega) ⟨H, I.tok _, by rw [isEmpty_of r]; exact q⟩
    · subst e'
      obtain ⟨hz, hS, vs, r, m⟩ : kvs.length ≤ sizeLine ∧ (p == sysModules) = false ∧ ∃ vs, KV kvs vs ∧ s.heap.DictOf (mixKind X.prog X.w) p vs := I.hok p _ hx
      have hlen : kvs.length = vs.length := Paired.length r
      exact wpAny_truthy_dict hS m (by omega) ⟨H, I.tok _, by rw [isEmpty_kv r]; exact q⟩
  | _ => exact (show False from e).elim

/-! ### strs and bytes -/


/-! ### scalar builtins, by CallR -/
theorem vals1 {x : V} {us : List Value} (r : Vals [x] us) : ∃ u, us = [u] ∧ RelV x u := by
  cases r with
  | cons r1 r2 => cases r2; exact ⟨_, rfl, r1⟩
theorem vals2 {x y : V} {us : List Value} (r : Vals [x, y] us) : ∃ u w', us = [u, w'] ∧ RelV x u ∧ RelV y w' := by
  cases r with
  | cons r1 r2 =>
    cases r2 with
    | cons r3 r4 => cases r4; exact ⟨_, _, rfl, r1, r3⟩
theorem call_abs : CallR X (.builtin "abs") (fun xs H Q => ∃ i, xs = [.int i] ∧ Q (.int (if i < 0 then -i else i)) H) := by
  intro pins s σ H xs us Q I r h
  obtain ⟨i, rfl, q⟩ := h
  obtain ⟨u, rfl, t, rfl⟩ := vals1 r
  exact call_abs_int fun u tk => ⟨.int (if i < 0 then -i else i), H, I.tok _, ⟨_, rfl⟩, q⟩
theorem call_max2 (hc : X.calm = true) : CallR X (.builtin "max") (fun xs H Q => ∃ i j, xs = [.int i, .int j] ∧ Q (.int (if j > i then j else i)) H) := by
  intro pins s σ H xs us Q I r h
  obtain ⟨i, j, rfl, q⟩ := h
  obtain ⟨u, w', rfl, ⟨t, rfl⟩, ⟨t', rfl⟩⟩ := vals2 r
  refine max_two_ints (I.ok.hd hc) fun h' tk k => ⟨_, H, I.kept k, ?_, q⟩
  by_cases hj : j > i
  · rw [if_pos hj, if_pos hj]; exact ⟨_, rfl⟩
  · rw [if_neg hj, if_neg hj]; exact ⟨_, rfl⟩
theorem call_min2 (hc : X.calm = true) : CallR X (.builtin "min") (fun xs H Q => ∃ i j, xs = [.int i, .int j] ∧ Q (.int (if j < i then j else i)) H) := by
  intro pins s σ H xs us Q I r h
  obtain ⟨i, j, rfl, q⟩ := h
  obtain ⟨u, w', rfl, ⟨t, rfl⟩, ⟨t', rfl⟩⟩ := vals2 r
  refine min_two_ints (I.ok.hd hc) fun h' tk k => ⟨_, H, I.kept k, ?_, q⟩
  by_cases hj : j < i
  · rw [if_pos hj, if_pos hj]; exact ⟨_, rfl⟩
  · rw [if_neg hj, if_neg hj]; exact ⟨_, rfl⟩
theorem call_int1 : CallR X (.type "int") (fun xs H Q => (∃ i, xs = [.int i] ∧ Q (.int i) H) ∨ ∃ k, xs = [.bl k] ∧ Q (.int (if k then 1 else 0)) H) := by
  intro pins s σ H xs us Q I r h
  rcases h with ⟨i, rfl, q⟩ | ⟨k, rfl, q⟩
  · obtain ⟨u, rfl, t, rfl⟩ := vals1 r
    exact call_int_int ⟨.int i, H, I, ⟨_, rfl⟩, q⟩
  · obtain ⟨u, rfl, r1⟩ := vals1 r
    cases r1
    exact call_int_bool ⟨.int (if k then 1 else 0), H, I.tok _, ⟨_, rfl⟩, q⟩
/-- len of a str, a bytes, a list, a tuple -/
noncomputable def LenV (K : PySem.W.Frag) (x : V) (H : Hp) (n : Nat) : Prop :=
  match x with
  | .str y => y.length ≤ sizeLine ∧ n = y.length
  | .byt y => y.size ≤ sizeLine ∧ n = y.size
  | .ref p => (∃ xs, SqL K H p xs ∧ n = xs.length) ∨ ∃ xs, SqT K H p xs ∧ n = xs.length
  | _ => False
theorem call_len : CallR X (.builtin "len") (fun xs H Q => ∃ x n, xs = [x] ∧ LenV X.K x H n ∧ Q (.int n) H) := by
  intro pins s σ H xs us Q I r h
  obtain ⟨x, n, rfl, e, q⟩ := h
  obtain ⟨u, rfl, rx⟩ := vals1 r
  have hl := line63
  have hs : sizeLine = 16777216 := sizeLine_eq
  cases x with
  | str y =>
    obtain ⟨t, rfl⟩ := rx
    obtain ⟨hy, e'⟩ : y.length ≤ sizeLine ∧ n = y.length := e
    subst e'
    exact len_str (by omega) ⟨.int _, H, I.tok _, ⟨_, rfl⟩, q⟩
  | byt y =>
    obtain ⟨t, rfl⟩ := rx
    obtain ⟨hy, e'⟩ : y.size ≤ sizeLine ∧ n = y.size := e
    subst e'
    exact PySem.W.len_bytes (by omega) ⟨.int _, H, I.tok _, ⟨_, rfl⟩, q⟩
  | ref p =>
    cases rx
    have e' : (∃ xs, SqL X.K H p xs ∧ n = xs.length) ∨ ∃ xs, SqT X.K H p xs ∧ n = xs.length := e
    rcases e' with ⟨xs, hx, e'⟩ | ⟨xs, hx, e'⟩
    · subst e'
      obtain ⟨its, r', pl, hz⟩ := I.list hx
      have hlen := r'.length
      exact Calls.call_len_list pl.isList (by simp only [List.size_toArray]; omega) ⟨.int xs.length, H, I.tok _, ⟨_, by simp only [List.size_toArray]; rw [hlen]⟩, q⟩
    · subst e'
      obtain ⟨its, r', pl, hz⟩ := I.tuple hx
      have hlen := r'.length
      exact len_tuple pl (by simp only [List.size_toArray]; omega) ⟨.int xs.length, H, I.tok _, ⟨_, by simp only [List.size_toArray]; rw [hlen]⟩, q⟩
  | _ => exact (show False from e).elim
end
end L2

namespace L2
open PySem PySem.Spec PyProof.Rows

/-! ### an instance, its attributes a map -/
structure ObjM (h : Heap) (x dx C : Addr) (mA : Str → Option Value) : Prop where
  obj : h.get? x = some (PySem.W.instObj C dx)
  ns : h.Ns1 dx mA
  ne : dx ≠ x

theorem lookIn_ns {h : Heap} {dx : Addr} {mA : Str → Option Value} (n : h.Ns1 dx mA) : ∃ od, h.get? dx = some od ∧ ∀ name, PySem.W.lookIn name od = some (mA name) := by
  obtain ⟨o, es, ep, ho, hd, hk, _, hm⟩ := n
  refine ⟨o, ho, fun name => ?_⟩
  have e := hm name
  unfold nsFind findBy at e
  rw [← Array.find?_toList] at e
  unfold PySem.W.lookIn
  rw [hd]
  dsimp only
  split
  · rename_i y q
    rw [q] at e
    exact congrArg some e
  · rename_i q
    rw [q] at e
    have a : es.toList.any (·.refKey) = false := by
      rw [List.any_eq_false]
      intro y hy
      obtain ⟨z, t, hkey⟩ := hk y (Array.mem_toList_iff.mp hy)
      simp [DictEntry.refKey, hkey]
    have a' : ¬ es.toList.any (·.refKey) = true := by rw [a]; exact Bool.false_ne_true
    rw [if_neg a']
    exact congrArg some e

theorem ObjM.look {h : Heap} {x dx C : Addr} {mA : Str → Option Value} (I : ObjM h x dx C mA) : ∃ od, PySem.W.InstAt h x (PySem.W.instObj C dx) C (some od) ∧ ∀ name, PySem.W.lookIn name od = some (mA name) :=
  let ⟨od, ho, hl⟩ := lookIn_ns I.ns
  ⟨od, ⟨I.obj, rfl, rfl, ho⟩, hl⟩

section
variable {prog : Program} {w : World} {A : Around} {E : Value → Shared → Prop} {s : Shared} {K : PySem.W.Frag} {x dx C f : Addr} {mA : Str → Option Value} {name : Str} {v : Value}





end

/-! ### the attributes as a list of pairs -/
noncomputable def putF (f : Str) (v : V) : List (Str × V) → List (Str × V)
  | [] => [(f, v)]
  | (g, x) :: r => if g = f then (g, v) :: r else (g, x) :: putF f v r
theorem lookup_putF (f g : Str) (v : V) : ∀ fs : List (Str × V), (putF f v fs).lookup g = if g = f then some v else fs.lookup g
  | [] => by
    show List.lookup g [(f, v)] = _
    by_cases h : g = f
    · have hb : (g == f) = true := beq_iff_eq.mpr h
      simp only [List.lookup, hb, if_pos h]
    · have hb : (g == f) = false := beq_eq_false_iff_ne.mpr h
      simp only [List.lookup, hb, if_neg h]
  | (k, x) :: r => by
    have ih := lookup_putF f g v r
    rw [show putF f v ((k, x) :: r) = (if k = f then (k, v) :: r else (k, x) :: putF f v r) from rfl]
    by_cases hk : k = f
    · rw [if_pos hk]
      by_cases h : g = k
      · have hb : (g == k) = true := beq_iff_eq.mpr h
        simp only [List.lookup, hb, if_pos (h.trans hk)]
      · have hb : (g == k) = false := beq_eq_false_iff_ne.mpr h
        simp only [List.lookup, hb, if_neg (fun e : g = f => h (e.trans hk.symm))]
    · rw [if_neg hk]
      by_cases h : g = k
      · have hb : (g == k) = true := beq_iff_eq.mpr h
        simp only [List.lookup, hb, if_neg (fun e : g = f => hk (h.symm.trans e))]
      · have hb : (g == k) = false := beq_eq_false_iff_ne.mpr h
        simp only [List.lookup, hb]
        exact ih
theorem keys_putF (f : Str) (v : V) : ∀ fs : List (Str × V), f ∈ (putF f v fs).map (·.1) ∧ ∀ g, g ∈ fs.map (·.1) → g ∈ (putF f v fs).map (·.1)
  | [] => ⟨by simp [putF], fun g h => by simp at h⟩
  | (k, x) :: r => by
    obtain ⟨i1, i2⟩ := keys_putF f v r
    rw [show putF f v ((k, x) :: r) = (if k = f then (k, v) :: r else (k, x) :: putF f v r) from rfl]
    by_cases hk : k = f
    · rw [if_pos hk]
      subst hk
      exact ⟨by simp, fun g h => by simpa using h⟩
    · rw [if_neg hk]
      refine ⟨?_, fun g h => ?_⟩
      · rw [List.map_cons]
        exact List.mem_cons_of_mem _ i1
      · rw [List.map_cons] at h ⊢
        rcases List.mem_cons.mp h with e | e
        · exact List.mem_cons.mpr (.inl e)
        · exact List.mem_cons_of_mem _ (i2 g e)
theorem length_putF (f : Str) (v : V) : ∀ fs : List (Str × V), (putF f v fs).length ≤ fs.length + 1
  | [] => by simp [putF]
  | (k, x) :: r => by
    have ih := length_putF f v r
    rw [show putF f v ((k, x) :: r) = (if k = f then (k, v) :: r else (k, x) :: putF f v r) from rfl]
    by_cases hk : k = f
    · rw [if_pos hk, List.length_cons, List.length_cons]; omega
    · rw [if_neg hk, List.length_cons, List.length_cons]; omega

theorem RelO.some_of {v : V} {o : Option Value} (r : RelO (some v) o) : ∃ u, o = some u ∧ RelV v u := by
  cases o with
  | none => exact (show False from r).elim
  | some u => exact ⟨u, rfl, r⟩
theorem handed_of {v : V} {u : Value} (r : RelV v u) : PySem.W.handedIn u = true := by
  cases v with
  | non => cases (show u = Value.none from r); rfl
  | bl b => cases (show u = Value.bool b from r); rfl
  | int i => obtain ⟨t, e⟩ := (show ∃ t, u = Value.int i t from r); cases e; rfl
  | str x => obtain ⟨t, e⟩ := (show ∃ t, u = Value.str x t from r); cases e; rfl
  | byt b => obtain ⟨t, e⟩ := (show ∃ t, u = Value.bytes b t from r); cases e; rfl
  | flt b => obtain ⟨t, e⟩ := (show ∃ t, u = Value.float b t from r); cases e; rfl
  | ref a => cases (show u = Value.ref a from r); rfl
  | ty n => cases (show u = Value.type n from r); rfl

section
variable {P : Program} {w : World} {H H' : Hp} {h h' : Heap} {a C dx : Addr} {fs fs' : List (Str × V)}
theorem ins_get (hok : HOk P w H h) (e : H a = some (.ins C dx fs)) : ∃ mA, ObjM h a dx C mA ∧ (∀ f, RelO (fs.lookup f) (mA f)) ∧ PySem.Within mA (fs.map (·.1)) ∧ fs.length ≤ 1000 ∧ H dx = some (.own a) := by
  obtain ⟨d, z, ne, ob, mA, n, r, q⟩ := (show ObjOk P w H h a (.ins C dx fs) from hok a _ e)
  exact ⟨mA, ⟨ob, n, ne⟩, r, q, z, d⟩
end

/-! ### what of the text a class must have -/
structure Cls (K : PySem.W.Frag) (C : Addr) : Prop where
  pg : PySem.W.plainGet K C Str.empty = true
  hd : PySem.W.hasDictIn K C = true
  po : PySem.W.plainOver K C = true
  sa : PySem.W.findIn K (.ref C) "__setattr__" = some (some (.builtin "object.__setattr__"))
theorem Cls.get {K : PySem.W.Frag} {C : Addr} (c : Cls K C) (f : Str) : PySem.W.plainGet K C f = true := c.pg
/-- no class of it has the name -/
noncomputable def NoAttr (K : PySem.W.Frag) (C : Addr) (f : Str) : Prop := PySem.W.findIn K (.ref C) f = some none

section
variable {X : Cx} {pins : List (Addr × Obj)} {σ : St} {H : Hp} {s : Shared} {a C dx : Addr} {fs : List (Str × V)} {f : Str} {v : V} {A : Around} {E : Value → Shared → Prop}






/-- e.f where nothing but the object is asked: through attributeBase (super) and the last hold -/
theorem attr_of {prog : Program} {w : World} {env : Env} {e : Expr} {f : Str} {pos : Pos} {s : Shared} {Q : Value → Shared → Prop} (hb : attributeBase e f env (eval e env) = eval e env)
    (h : wpAny (model prog w) A (eval e env) (fun o s₁ => wpAny (model prog w) A (getAttr o f true) Q E s₁) E s) : wpAny (model prog w) A (eval (.Attribute e f pos) env) Q E s :=
  Attribute_any_ h (by rw [arm_eval_Attribute, hb])
end

/-! ### readings and rules -/

section
variable {X : Cx} {o e value : Expr} {f : Str} {pos pos' tpos : Pos} {ta tv : TE}

end

/-! ### isinstance -/
section
variable {X : Cx} {pins : List (Addr × Obj)} {σ : St} {H : Hp} {s : Shared} {A : Around} {E : Value → Shared → Prop} {Q : Value → Shared → Prop} {c : Value} {b : Bool}
/-- the type of a value, as the fragment's deciders take it; for an instance its class -/
inductive TyOf (K : PySem.W.Frag) (H : Hp) : V → Value → Prop where
  | non : TyOf K H .non (.type "NoneType")
  | bl (x : Bool) : TyOf K H (.bl x) (.type "bool")
  | int (i : Int) : TyOf K H (.int i) (.type "int")
  | str (x : Str) : TyOf K H (.str x) (.type "str")
  | flt (x : UInt64) : TyOf K H (.flt x) (.type "float")
  | lst {a : Addr} {xs : List V} (e : H a = some (.lst xs)) : TyOf K H (.ref a) (.type "list")
  | frz {a : Addr} {o : Obj} {xs : List V} (e : H a = some (.frz o (.lst xs))) : TyOf K H (.ref a) (.type "list")
  | tup {a : Addr} {xs : List V} (e : H a = some (.tup xs)) : TyOf K H (.ref a) (.type "tuple")
  | dK {a : Addr} {kvs : List (Key × V)} (e : H a = some (.dK kvs)) : TyOf K H (.ref a) (.type "dict")
  | dT {a : Addr} {kvs : List (List Key × V)} (e : H a = some (.dT kvs)) : TyOf K H (.ref a) (.type "dict")
  | ins {a C dx : Addr} {fs : List (Str × V)} (e : H a = some (.ins C dx fs)) (cl : Cls K C) (ha : PySem.W.findIn K (.ref C) "__class__" = some (some (.builtin "object.__class__")))
      (hn : PySem.W.specialIn K (.builtin "object.__class__") "__get__" = some (some (.builtin "getset_descriptor.__get__"))) (htk : PySem.W.takesIn K (.builtin "object.__class__") = some true)
      (hm : PySem.W.mroIn K C (.type "object") = some true) : TyOf K H (.ref a) (.ref C)
/-- isinstance(x, c) for one class c, a built-in or an own one: kitOne's answer -/
theorem isinst_ok {x : V} {u t : Value} (I : Inv X pins σ H s) (rx : RelV x u) (ty : TyOf X.K H x t) (e : PySem.W.kitOne X.K t c = some b) (h : ∀ tk, Q (.bool b) { s with toks := tk }) :
    wpAny (model X.prog X.w) A (call (.builtin "isinstance") [u, c]) Q E s := by
  cases ty with
  | non => cases (show u = Value.none from rx); exact PySem.W.kia_one PySem.W.kitx_none I.kIn True.intro e (fun z => nomatch z) h
  | bl y => cases (show u = Value.bool y from rx); exact PySem.W.kia_one PySem.W.kitx_bool I.kIn True.intro e (fun z => nomatch z) h
  | int i => obtain ⟨t, q⟩ := (show ∃ t, u = Value.int i t from rx); cases q; exact PySem.W.kia_one PySem.W.kitx_int I.kIn True.intro e (fun z => nomatch z) h
  | str y => obtain ⟨t, q⟩ := (show ∃ t, u = Value.str y t from rx); cases q; exact PySem.W.kia_one PySem.W.kitx_str I.kIn True.intro e (fun z => nomatch z) h
  | flt y => obtain ⟨t, q⟩ := (show ∃ t, u = Value.float y t from rx); cases q; exact PySem.W.kia_one PySem.W.kitx_float I.kIn True.intro e (fun z => nomatch z) h
  | @lst a xs ea =>
    cases (show u = Value.ref a from rx)
    obtain ⟨_, _, n, _, h1⟩ := (show ObjOk X.prog X.w H s.heap a (.lst xs) from I.hok a _ ea)
    exact PySem.W.kia_one PySem.W.kitx_list I.kIn ⟨_, h1, rfl⟩ e (fun z => nomatch z) h
  | @frz a ob xs ea =>
    cases (show u = Value.ref a from rx)
    obtain ⟨_, _, _, n, _, h1⟩ := (show ObjOk X.prog X.w H s.heap a (.frz ob (.lst xs)) from I.hok a _ ea)
    exact PySem.W.kia_one PySem.W.kitx_list I.kIn ⟨_, h1, rfl⟩ e (fun z => nomatch z) h
  | @tup a xs ea =>
    cases (show u = Value.ref a from rx)
    obtain ⟨_, _, _, p⟩ := (show ObjOk X.prog X.w H s.heap a (.tup xs) from I.hok a _ ea)
    obtain ⟨o, h1, h2, _⟩ := p
    exact PySem.W.kia_one PySem.W.kitx_tuple I.kIn ⟨o, h1, h2⟩ e (fun z => nomatch z) h
  | @dK a kvs ea =>
    cases (show u = Value.ref a from rx)
    obtain ⟨_, _, vs, _, p⟩ := (show ObjOk X.prog X.w H s.heap a (.dK kvs) from I.hok a _ ea)
    obtain ⟨o, es, ep, h1, h2, _⟩ := p
    exact PySem.W.kia_one PySem.W.kitx_dict I.kIn ⟨o, h1, h2.1⟩ e (fun z => nomatch z) h
  | @dT a kvs ea =>
    cases (show u = Value.ref a from rx)
    obtain ⟨_, _, xs, _, o, es, ep, h1, h2, _⟩ := (show ObjOk X.prog X.w H s.heap a (.dT kvs) from I.hok a _ ea)
    exact PySem.W.kia_one PySem.W.kitx_dict I.kIn ⟨o, h1, h2.1⟩ e (fun z => nomatch z) h
  | @ins a C dx fs ea cl ha hn htk hm =>
    cases (show u = Value.ref a from rx)
    obtain ⟨mA, O, _⟩ := ins_get I.hok ea
    obtain ⟨od, J, _⟩ := O.look
    exact PySem.W.kia_one (PySem.W.kitx_own (cl.get _) cl.hd ha hn htk hm) I.kIn J e (fun z => nomatch z) h
end
end L2

namespace L2
open PySem PySem.Spec PyProof.Rows

/-! ### room -/
structure Room (k : Nat) (A : Around) : Prop where
  hd : A.handled = none
  dp : A.depth + 3 * k + 5 < recursionLimit
  un : A.units + 16 * k + 200 < cLine
theorem Room.mono {j k : Nat} {A : Around} (r : Room k A) (h : j ≤ k) : Room j A := ⟨r.hd, by have := r.dp; omega, by have := r.un; omega⟩
theorem Room.deeper {k : Nat} {A : Around} (r : Room (k + 1) A) (env : Env) : Room k (A.deeper env) :=
  ⟨r.hd, by have := r.dp; show A.depth + 1 + 3 * k + 5 < _; omega, by have := r.un; show A.units + 3 + 16 * k + 200 < _; omega⟩
theorem make_depth {A : Around} {C : Addr} {us : List Value} {kw : List (Str × Value)} : (A.under (.builtin "type.__call__" ⟨.ref C :: us, kw⟩)).depth = A.depth + 1 := by
  first | rfl | simp [Around.under, Code.weight, Code.isCreation, Code.isGuard, Code.isCaller, Code.frames, Code.isFrame, guardIds]
theorem make_units {A : Around} {C : Addr} {us : List Value} {kw : List (Str × Value)} : (A.under (.builtin "type.__call__" ⟨.ref C :: us, kw⟩)).units = A.units + 1 := by
  first | rfl | simp [Around.under, Code.cUnits, Code.frames, Code.isFrame]
theorem Room.make {k : Nat} {A : Around} (r : Room (k + 1) A) (C : Addr) (us : List Value) (kw : List (Str × Value)) : Room k (A.under (.builtin "type.__call__" ⟨.ref C :: us, kw⟩)) :=
  ⟨r.hd, by have := r.dp; rw [make_depth]; omega, by have := r.un; rw [make_units]; omega⟩
theorem Room.depth {k : Nat} {A : Around} (r : Room k A) : A.depth < recursionLimit := by have := r.dp; omega
theorem Room.units {k : Nat} {A : Around} (r : Room k A) : A.units + 64 < cLine := by have := r.un; omega

/-! ### argument lists and displays -/
noncomputable def tNil : TA := fun _ H Q => Q [] H
noncomputable def tCons (ta : TE) (tr : TA) : TA := fun σ H Q => ta σ H fun x H1 => tr σ H1 fun xs H2 => Q (x :: xs) H2
section
variable {X : Cx} {e : Expr} {es : List Expr} {te : TE} {t : TA} {pos : Pos}
theorem pa_nil : PA X [] tNil := fun _ _ _ _ H Q I h => Calls.spliced_nil ⟨[], H, I, .nil, h⟩
theorem pa_cons (ha : PE X e te) (hr : PA X es t) (hs : starEach (e :: es) X.env = (false, eval e X.env) :: starEach es X.env := by rfl) : PA X (e :: es) (tCons te t) := by
  intro pos pins s σ H Q I h
  rw [hs]
  show wpAny _ _ (spliced ((false, eval e X.env) :: backTo pos (starEach es X.env))) _ _ s
  refine Calls.spliced_cons (thn (ha pins s σ H _ I h) fun u s1 zz => ?_)
  obtain ⟨x, H1, I1, r1, q1⟩ := zz
  refine thn (hr pos pins s1 σ H1 _ I1 q1) fun us s2 zz => ?_
  obtain ⟨xs, H2, I2, r2, q2⟩ := zz
  exact ⟨x :: xs, H2, I2, .cons r1 r2, q2⟩

/-- a tuple, a list of written items -/
noncomputable def tTup (t : TA) : TE := fun σ H Q => t σ H fun xs H1 => xs.length ≤ sizeLine ∧ ∀ p, H1 p = none → Q (.ref p) (upd H1 p (.tup xs))
noncomputable def tLst (t : TA) : TE := fun σ H Q => t σ H fun xs H1 => xs.length ≤ sizeLine ∧ ∀ p, H1 p = none → Q (.ref p) (upd H1 p (.lst xs))
theorem pe_tup {x1} (h : PA X es t) : PE X (.Tuple es x1 pos) (tTup t) := by
  intro pins s σ H Q I hq
  refine wpAny_Tuple_spliced (thn (h pos pins s σ H _ I hq) fun us s1 zz => ?_)
  obtain ⟨xs, H1, I1, r, z, q⟩ := zz
  refine ⟨by rw [← r.length]; exact z, ?_⟩
  have hf : H1 s1.heap.objs.size = none := I1.hok.fresh (Nat.le_refl _)
  refine ⟨.ref s1.heap.objs.size, upd H1 s1.heap.objs.size (.tup xs), I1.laid (t' := s1.toks) (fun b u e => Heap.get?_push_of_some _ e) (Nat.le_refl _) ?_, rfl, q _ hf⟩
  exact ⟨z, us, r, ⟨_, Heap.get?_push_size _ rfl, rfl, _, rfl⟩⟩
theorem pe_lst (h : PA X es t) : PE X (.List es pos) (tLst t) := by
  intro pins s σ H Q I hq
  refine wpAny_List_spliced (thn (h pos pins s σ H _ I hq) fun us s1 zz => ?_)
  obtain ⟨xs, H1, I1, r, z, q⟩ := zz
  refine ⟨by rw [← r.length]; exact z, ?_⟩
  have hf : H1 s1.heap.objs.size = none := I1.hok.fresh (Nat.le_refl _)
  refine ⟨.ref s1.heap.objs.size, upd H1 s1.heap.objs.size (.lst xs), I1.laid (t' := s1.toks) (fun b u e => Heap.get?_push_of_some _ e) (Nat.le_refl _) ?_, rfl, q _ hf⟩
  exact ⟨z, us, 0, r, Heap.get?_push_size _ rfl⟩
end

/-! ### what a def promises -/
/-- a def's promise: the bound arguments in the parameters' order, the heap, the wanted end, the wanted exception -/
noncomputable abbrev Sp := List V → Hp → VK → XK → Prop
/-- how an exception lies behind a call (file 08 gives it): the callers' frames, abstract heap and state ahead of the call, the wish, the exception, the state -/
noncomputable abbrev CXT := List Env → Hp → Shared → XK → Value → Shared → Prop

/-- the state at a call -/
structure Env0 (P : Program) (w : World) (K : PySem.W.Frag) (mg : Str → Option Value) (base : Heap) (A : Around) (outer : List Env) (s : Shared) (H : Hp) : Prop where
  frames : A.frames = some outer
  mod : Mod K mg base
  bs : ∀ b o, base.get? b = some o → s.heap.get? b = some o ∧ H b = none
  bsz : base.objs.size ≤ s.heap.objs.size
  funs : s.heap.FunFrames base outer
  frf : ∀ b ∈ frs outer, H b = none
  hok : HOk P w H s.heap
  bare : AllBare s.gens
/-- a call's end -/
noncomputable def CE (outer : List Env) (P : Program) (w : World) (H : Hp) (s : Shared) (Q : VK) (u : Value) (s' : Shared) : Prop :=
  ∃ v H', s'.os = s.os ∧ AllBare s'.gens ∧ Un (frs outer) [] H H' s.heap s'.heap ∧ HOk P w H' s'.heap ∧ RelV v u ∧ Q v H'
noncomputable def CR (CX : CXT) (outer : List Env) (P : Program) (w : World) (H : Hp) (s : Shared) (Q : VK) (E : XK) (r : Result) (s' : Shared) : Prop :=
  match r with
  | .ok (.ret u) => CE outer P w H s Q u s'
  | .ok _ => False
  | .error e => CX outer H s E e s'
structure FnOk (P : Program) (w : World) (K : PySem.W.Frag) (mg : Str → Option Value) (base : Heap) (CX : CXT) (k : Nat) (f : Addr) (fd : FuncData) (ps : List Str) (sp : Sp) : Prop where
  len : ∀ vs H Q E, sp vs H Q E → vs.length = ps.length
  run : ∀ (A : Around) (outer : List Env) (s : Shared) (H : Hp) (args : Args) (us : List Value) (vs : List V) (Q : VK) (E : XK), Room k A → Env0 P w K mg base A outer s H → BindsTo s fd args (ps.zip us) → Vals vs us → sp vs H Q E →
    codeAny (model P w) A (.call (.ref f) args) (CR CX outer P w H s Q E) s

theorem Env0.make {P : Program} {w : World} {K : PySem.W.Frag} {mg : Str → Option Value} {base : Heap} {A : Around} {outer : List Env} {s : Shared} {H : Hp} (e : Env0 P w K mg base A outer s H) (C : Addr) (us : List Value) (kw : List (Str × Value)) :
    Env0 P w K mg base (A.under (.builtin "type.__call__" ⟨.ref C :: us, kw⟩)) outer s H := ⟨by first | exact e.frames | (simpa [Around.under, Code.envs, Code.isFrame, pushEnvs] using e.frames), e.mod, e.bs, e.bsz, e.funs, e.frf, e.hok, e.bare⟩

section
variable {X : Cx} {pins : List (Addr × Obj)} {σ : St} {H : Hp} {s s' : Shared}
/-- from a body: what a callee wants -/
theorem Inv.env0 (I : Inv X pins σ H s) : Env0 X.prog X.w X.K X.mg X.base X.A X.stack s H :=
  ⟨I.ok.frames, I.ok.mod, I.bs, Nat.le_trans I.ok.bsz I.sz, I.stack, I.stkFree, I.hok, I.bare⟩
/-- behind a call -/
theorem Inv.after {Q : VK} {u : Value} (I : Inv X pins σ H s) (h : CE X.stack X.prog X.w H s Q u s') : EP X pins σ Q u s' := by
  obtain ⟨v, H', os, bare, un, hok, r, q⟩ := h
  obtain ⟨hh, g, d, t, os'⟩ := s'
  obtain rfl : os' = s.os := os
  exact ⟨v, H', I.call (h' := hh) (g' := g) (d' := d) (t' := t) (ch := []) un hok bare (fun b z => absurd z (by simp)), r, q⟩
end

/-! ### calls -/
/-- f(..): the written arguments, then the defaults dvs; E: what is wanted of an exception -/
noncomputable def tCall (sp : Sp) (dvs : List V) (E : XK) (t : TA) : TE := fun σ H Q => t σ H fun vs H1 => sp (vs ++ dvs) H1 Q E

/-- how the parameters are bound: us the positional arguments, kw the keywords' values by name, ds the defaults that fill up -/
noncomputable def Binds (K : PySem.W.Frag) (fd : FuncData) (ps : List Str) (ds : List Value) : Prop :=
  ∀ (s : Shared) (us : List Value), K.In s.heap → (us ++ ds).length = ps.length → BindsTo s fd ⟨us, []⟩ (ps.zip (us ++ ds))
/-- every parameter is given -/
theorem Binds.all {K : PySem.W.Frag} {fd : FuncData} {ps : List Str} (h : ∀ us : List Value, us.length = ps.length → bindArgs fd ⟨us, []⟩ = pure (ps.zip us)) : Binds K fd ps [] := fun s us _ hl => by
  rw [List.append_nil] at hl ⊢
  exact .of_eq (h us hl)

/-- an exception of a callee reaches what this body wants of exceptions -/
noncomputable def Passes (CX : CXT) (X : Cx) (E : XK) : Prop := ∀ (pins : List (Addr × Obj)) (σ : St) (H : Hp) (s : Shared) (e : Value) (s' : Shared), Inv X pins σ H s → CX X.stack H s E e s' → X.xe e s'

section
variable {X : Cx} {CX : CXT} {k : Nat} {f C : Addr} {fd : FuncData} {ps : List Str} {sp : Sp} {dvs : List V} {ds : List Value} {E : XK} {x m : Str} {p pos apos : Pos} {e o : Expr} {es : List Expr} {ta : TE} {t : TA}

/-- the callee runs -/
theorem run_fn {pins : List (Addr × Obj)} {σ : St} {H : Hp} {s : Shared} {Q : VK} {us : List Value} {vs : List V} (F : FnOk X.prog X.w X.K X.mg X.base CX k f fd ps sp) (hr : Room k X.A) (hb : Binds X.K fd ps ds) (hd : Vals dvs ds) (hx : Passes CX X E)
    (I : Inv X pins σ H s) (r : Vals vs us) (h : sp (vs ++ dvs) H Q E) : wpAny (model X.prog X.w) X.A (call (.ref f) us) (EP X pins σ Q) X.xe s := by
  have r2 : Vals (vs ++ dvs) (us ++ ds) := r.append hd
  have hl : (us ++ ds).length = ps.length := by rw [← r2.length]; exact F.len _ _ _ _ h
  refine wpAny_call (codeAny_mono (F.run X.A X.stack s H ⟨us, []⟩ (us ++ ds) (vs ++ dvs) Q E hr I.env0 (hb s us I.kIn hl) r2 h) fun r s' hq => ?_)
  cases r with
  | error e => exact hx pins σ H s e s' I hq
  | ok fl =>
    cases fl with
    | ret u => exact I.after hq
    | next => exact False.elim hq
    | brk => exact False.elim hq
    | cont => exact False.elim hq

theorem pe_call (F : FnOk X.prog X.w X.K X.mg X.base CX k f fd ps sp) (hr : Room k X.A) (hg : Gl X x) (hm : X.mg x = some (.ref f)) (hk : PySem.W.keepIn X.K (.ref f) = true) (hb : Binds X.K fd ps ds) (hd : Vals dvs ds) (hx : Passes CX X E)
    (ha : PA X (e :: es) t) (hdb : (x == ("__debug__" : Str)) = false := by decide) (he : starEach (e :: es) X.env = (false, eval e X.env) :: starEach es X.env := by rfl) (hpl : (backTo pos (starEach es X.env)).any (·.1) = false := by rfl) :
    PE X (.Call (.Name x p) (e :: es) [] pos) (tCall sp dvs E t) := by
  intro pins s σ H Q I h
  refine wpAny_Call_Name_kw (ld_glob I hg hm ?_ hdb)
  refine PySem.W.callWith_K (h₀ := X.base) I.ok.mod.kin hk (thn (ha pos pins s σ H _ I h) fun us s1 zz => ?_) he hpl
  obtain ⟨vs, H1, I1, r, q⟩ := zz
  refine ⟨I1.kIn, ?_⟩
  exact run_fn F hr hb hd hx I1 r q
theorem pe_call0 (F : FnOk X.prog X.w X.K X.mg X.base CX k f fd ps sp) (hr : Room k X.A) (hg : Gl X x) (hm : X.mg x = some (.ref f)) (hk : PySem.W.keepIn X.K (.ref f) = true) (hb : Binds X.K fd ps ds) (hd : Vals dvs ds) (hx : Passes CX X E)
    (hdb : (x == ("__debug__" : Str)) = false := by decide) : PE X (.Call (.Name x p) [] [] pos) (tCall sp dvs E tNil) := by
  intro pins s σ H Q I h
  refine wpAny_Call_Name_kw (ld_glob I hg hm ?_ hdb)
  exact PySem.W.callWith_K0 I.kIn hk (run_fn (us := []) F hr hb hd hx I .nil h)



end

/-! ### keywords -/
section
variable {X : Cx} {CX : CXT} {k : Nat} {f C : Addr} {fd : FuncData} {ps ks : List Str} {sp : Sp} {E : XK} {x m : Str} {p pos apos kpos : Pos} {e o : Expr} {es : List Expr} {kws : List Keyword} {te ta : TE} {t tk : TA} {nm : Option Str}

variable {g : List Value → List Value → List Value} {gV : List V → List V → List V}
end

/-! ### a def's body keeps its promise -/
/-- names: the parameters first -/
structure FnScope (N P : List Str) (sc : Scope) : Prop where
  kind : sc.kind = .function
  co : sc.isCoroutine = false
  gen : sc.isGenerator = false
  nd : N.Nodup
  pre : N.take P.length = P
  par : ∀ x ∈ P, sc.names.lookup x = some .local ∨ sc.names.lookup x = some .cell
  nofree : ∀ y ∈ sc.names, y.2 ≠ .free

theorem bindL_out {kindOf : Str → Option NameKind} {x : Str} : ∀ {binds : List (Str × Value)} {m : Str → Option Value}, (∀ v, (x, v) ∉ binds) → bindL kindOf binds m x = m x
  | [], _, _ => rfl
  | (n, v) :: r, m, h => by
    unfold bindL
    rw [bindL_out fun w hw => h w (List.mem_cons_of_mem _ hw)]
    split
    · have : x ≠ n := by rintro rfl; exact h v List.mem_cons_self
      simp [this]
    · rfl
theorem bindC_out {kindOf : Str → Option NameKind} {x : Str} : ∀ {binds : List (Str × Value)} {m : Str → Option Value}, (∀ v, (x, v) ∉ binds) → bindC kindOf binds m x = m x
  | [], _, _ => rfl
  | (n, v) :: r, m, h => by
    unfold bindC
    rw [bindC_out fun w hw => h w (List.mem_cons_of_mem _ hw)]
    split
    · rfl
    · have : x ≠ n := by rintro rfl; exact h v List.mem_cons_self
      simp [this]
theorem bindL_get {kindOf : Str → Option NameKind} {x : Str} {v : Value} : ∀ {P : List Str} {vs : List Value} {i : Nat} {m : Str → Option Value}, P.Nodup → P[i]? = some x → vs[i]? = some v → kindOf x = some .local →
    bindL kindOf (P.zip vs) m x = some v
  | [], _, _, _, _, h, _, _ => by simp at h
  | _ :: _, [], _, _, _, _, h, _ => by simp at h
  | p :: P, w :: vs, 0, m, nd, h1, h2, hk => by
    simp at h1 h2; subst h1; subst h2
    show bindL kindOf ((p, w) :: P.zip vs) m p = _
    unfold bindL
    rw [bindL_out fun v hv => (List.nodup_cons.mp nd).1 (List.of_mem_zip hv).1, if_pos hk]
    simp
  | p :: P, w :: vs, i + 1, m, nd, h1, h2, hk => by
    show bindL kindOf ((p, w) :: P.zip vs) m x = _
    unfold bindL
    exact bindL_get (i := i) (List.nodup_cons.mp nd).2 (by simpa using h1) (by simpa using h2) hk
theorem bindC_get {kindOf : Str → Option NameKind} {x : Str} {v : Value} : ∀ {P : List Str} {vs : List Value} {i : Nat} {m : Str → Option Value}, P.Nodup → P[i]? = some x → vs[i]? = some v → kindOf x ≠ some .local →
    bindC kindOf (P.zip vs) m x = some v
  | [], _, _, _, _, h, _, _ => by simp at h
  | _ :: _, [], _, _, _, _, h, _ => by simp at h
  | p :: P, w :: vs, 0, m, nd, h1, h2, hk => by
    simp at h1 h2; subst h1; subst h2
    show bindC kindOf ((p, w) :: P.zip vs) m p = _
    unfold bindC
    rw [bindC_out fun v hv => (List.nodup_cons.mp nd).1 (List.of_mem_zip hv).1, if_neg hk]
    simp
  | p :: P, w :: vs, i + 1, m, nd, h1, h2, hk => by
    show bindC kindOf ((p, w) :: P.zip vs) m x = _
    unfold bindC
    exact bindC_get (i := i) (List.nodup_cons.mp nd).2 (by simpa using h1) (by simpa using h2) hk

/-- the names' values at the entry -/
noncomputable def start (N : List Str) (vs : List V) : St := vs.map some ++ List.replicate (N.length - vs.length) none

/-- the context of a def's body, at its entry; an exception leaves the frame, then lies as CX says -/
noncomputable def cxOf (CX : CXT) (P : Program) (w : World) (K : PySem.W.Frag) (mg : Str → Option Value) (base : Heap) (N : List Str) (qual : Str) (scope : Scope) (f : Addr) (cd : Value) (A : Around) (outer : List Env) (s : Shared) (H : Hp) (E : XK) : Cx where
  prog := P
  w := w
  K := K
  mg := mg
  base := base
  A := A.deeper (envOfC qual scope s.heap.objs.size f cd)
  N := N
  s₀ := s
  H₀ := H
  env := envOfC qual scope s.heap.objs.size f cd
  outer := outer
  stack := envOfC qual scope s.heap.objs.size f cd :: outer
  ex := []
  calm := true
  fn := fun _ => true
  pn := []
  xe := fun e s' => wpAny (model P w) (A.deeper (envOfC qual scope s.heap.objs.size f cd)) (leaving (envOfC qual scope s.heap.objs.size f cd) e) (fun _ s'' => CX outer H s E e s'') (fun e' s'' => CX outer H s E e' s'') s'

theorem cell_has {sc : Scope} {n : Nat} {x : Str} (h : sc.names.lookup x = some .cell) : ∃ c, (cellsFrom n sc.names []).lookup x = some c := by
  have q := PySem.W.cellsFrom_some sc.names n [] (.inl h)
  exact Option.isSome_iff_exists.mp q

theorem inv_start {CX : CXT} {P : Program} {w : World} {K : PySem.W.Frag} {mg : Str → Option Value} {base : Heap} {N ps : List Str} {qual : Str} {scope : Scope} {f : Addr} {cd : Value} {A : Around} {outer : List Env} {s s1 : Shared} {H : Hp} {E : XK} {us : List Value} {vs : List V}
    (S : FnScope N ps scope) (hd : A.handled = none) (e0 : Env0 P w K mg base A outer s H) (hl : vs.length = ps.length) (r : Vals vs us)
    (x : InCallC s s.heap.objs.size (bindL (envOfC qual scope s.heap.objs.size f cd).kindOf (ps.zip us) fun _ => none) (cellsFrom (s.heap.objs.size + 1) scope.names []) (bindC (envOfC qual scope s.heap.objs.size f cd).kindOf (ps.zip us) fun _ => none) s1) :
    Inv (cxOf CX P w K mg base N qual scope f cd A outer s H E) [] (start N vs) H s1 := by
  have hpl : ps.length ≤ N.length := by have := congrArg List.length S.pre; rw [List.length_take] at this; omega
  obtain ⟨h1, tk, rfl, hk⟩ := x.done
  have noA : ∀ b : Addr, b ∉ (cxOf CX P w K mg base N qual scope f cd A outer s H E).ex := fun b z => absurd (show b ∈ ([] : List Addr) from z) (by simp)
  refine ⟨⟨e0.mod, S.kind, rfl, rfl, Nat.le_refl _, fun y z c h1 h2 => ?_, fun y hy => ?_, fun y c _ h => ?_, fun _ => hd, Around.frames_deeper e0.frames, .inr ⟨rfl, rfl⟩, fun b z => absurd z (noA b), e0.bs, e0.bsz, fun b _ _ => noA b, fun b z => absurd z (noA b), e0.funs, e0.frf⟩,
    rfl, e0.bare, Un.kept hk, ⟨_, x.toInCall.ns, fun i y v h1 h2 h3 => ?_⟩, fun y c h => ⟨_, x.cell y c h⟩, e0.hok.fresh (Nat.le_refl _), fun y c h => ?_, fun p hp => absurd (show p ∈ ([] : List (Addr × Obj)) from hp) (by simp), e0.hok.kept hk, ?_⟩
  · exact name_of_addr x.apart (PySem.mem_of_lookup h1) (PySem.mem_of_lookup h2)
  · have hy : scope.names.lookup y = some .cell ∨ scope.names.lookup y = some .free := hy
    rcases hy with hy | hy
    · exact cell_has hy
    · exact absurd rfl (S.nofree _ (PySem.mem_of_lookup hy))
  · exact Nat.le_of_lt (x.above y c (PySem.mem_of_lookup h))
  · have hi : i < vs.length := by
      unfold start at h2
      by_cases hi : i < vs.length
      · exact hi
      · rw [List.getElem?_append_right (by simpa using hi)] at h2
        rw [List.getElem?_replicate] at h2
        split at h2 <;> cases h2
    have ha : vs[i]? = some v := by
      unfold start at h2
      rw [List.getElem?_append_left (by simpa using hi), List.getElem?_map] at h2
      cases e : vs[i]? with
      | none => rw [e] at h2; cases h2
      | some a => rw [e] at h2; cases h2; rfl
    obtain ⟨u, hu, rv⟩ := r.get ha
    have hp : ps[i]? = some y := by
      rw [← S.pre, List.getElem?_take_of_lt (by omega)]; exact h1
    have ndP : ps.Nodup := by rw [← S.pre]; exact S.nd.sublist (List.take_sublist _ _)
    refine ⟨u, rv, ?_⟩
    rcases S.par y (List.mem_of_getElem? hp) with k | k
    · exact .inl ⟨k, bindL_get ndP hp hu k⟩
    · obtain ⟨c, e⟩ := cell_has (n := s.heap.objs.size + 1) k
      refine .inr ⟨.inl k, c, e, ?_⟩
      have q := x.cell y c e
      rw [bindC_get ndP hp hu (by show scope.names.lookup y ≠ _; rw [k]; decide)] at q
      exact q
  · exact e0.hok.fresh (Nat.le_of_lt (x.above y c (PySem.mem_of_lookup h)))
  · unfold start
    show _ = N.length
    rw [List.length_append, List.length_map, List.length_replicate]
    omega

/-- THE RULE: a def (or a method) of the text, by its body. The body's reading t is chosen for each entry; it is run at the parameters' values -/
theorem fn_of {CX : CXT} {P : Program} {w : World} {K : PySem.W.Frag} {mg : Str → Option Value} {base : Heap} {k : Nat} {f : Addr} {name qual : Str} {params : Arguments} {body : List Stmt} {scope : Scope} {dV kV doc pm cdv ct oc : Value} {an od : Option Addr}
    {osl : Array (Option Value)} {N ps : List Str} {sp : Sp} (lk : K.lookup f = some ⟨oc, od, .func (PySem.W.fnOf name qual params body scope dV kV doc pm an cdv ct), osl⟩) (hcd : PySem.W.codeIn K cdv qual = true) (S : FnScope N ps scope)
    (len : ∀ vs H Q E, sp vs H Q E → vs.length = ps.length)
    (hbody : ∀ (A : Around) (outer : List Env) (s : Shared) (H : Hp) (vs : List V) (Q : VK) (E : XK), Room k (A.deeper (envOfC qual scope s.heap.objs.size f cdv)) → sp vs H Q E →
      ∃ t, PSs (cxOf CX P w K mg base N qual scope f cdv A outer s H E) body t ∧ t { nx := fun _ H' => Q .non H', rt := Q } (start N vs) H) :
    FnOk P w K mg base CX (k + 1) f (PySem.W.fnOf name qual params body scope dV kV doc pm an cdv ct) ps sp := by
  refine ⟨len, fun A outer s H args us vs Q E hr e0 hb r hsp => ?_⟩
  have hl := len _ _ _ _ hsp
  have KX : K.In s.heap := e0.mod.kin.keeps fun b o e => (e0.bs b o e).1
  have lim : s.heap.NoLimit := e0.mod.nolimit.keeps fun b o e => (e0.bs b o e).1
  have hkind : ∀ y ∈ ps.zip us, scope.names.lookup y.1 = some .local ∨ (scope.names.lookup y.1 = some .cell ∧ ((cellsFrom (s.heap.objs.size + 1) scope.names []).lookup y.1).isSome = true) := fun ⟨n, v⟩ hy => by
    rcases S.par n (List.of_mem_zip hy).1 with q | q
    · exact .inl q
    · exact .inr ⟨q, PySem.W.cellsFrom_some _ _ _ (.inl q)⟩
  refine codeAny_call_function hr.depth (KX _ _ lk) rfl S.co S.gen rfl (PySem.W.codeRec_of KX hcd) (hb _ _ _ _ ?_)
  refine wpAny_newFunctionEnv_cells S.kind hkind fun env he s1 x => ?_
  subst he
  refine ⟨lim.keeps x.toInCall.keep, codeAny_func ?_⟩
  obtain ⟨t, ht, hq⟩ := hbody A outer s H vs Q E (hr.deeper _) hsp
  have I : Inv (cxOf CX P w K mg base N qual scope f cdv A outer s H E) [] (start N vs) H s1 := inv_start S hr.hd e0 hl r x
  refine wpAny_mono (ht [] s1 (start N vs) H _ I hq) (fun fl s' hs => ?_) fun e s' hs => hs
  have fin : ∀ {σ' : St} {H' : Hp} {v : V} {u : Value}, Inv (cxOf CX P w K mg base N qual scope f cdv A outer s H E) [] σ' H' s' → RelV v u → Q v H' → CE outer P w H s Q u s' :=
    fun {σ' H' v u} J rv q => ⟨v, H', J.os, J.bare, J.base, J.hok, rv, q⟩
  cases fl with
  | ret u =>
    obtain ⟨v, σ', H', J, rv, q⟩ := hs
    exact fin J rv q
  | next =>
    obtain ⟨σ', H', J, q⟩ := hs
    exact fin (v := V.non) (u := Value.none) J rfl q
  | brk =>
    obtain ⟨_, _, _, q⟩ := hs
    exact False.elim q
  | cont =>
    obtain ⟨_, _, _, q⟩ := hs
    exact False.elim q
end L2

namespace L2
open PySem PySem.Spec PyProof.Rows
section
variable {X : Cx} {x : Str} {p pos : Pos} {e : Expr} {es : List Expr} {t : TA} {id T : String} {r : List V → Hp → VK → Prop}

noncomputable def tCB (r : List V → Hp → VK → Prop) (t : TA) : TE := fun σ H Q => t σ H fun vs H1 => r vs H1 Q
/-- f(e, ..), f a built-in function -/
theorem pe_callB (hc : CallR X (.builtin id) r) (hg : Gl X x) (hm : X.mg x = none) (hv : bootBuiltins x = some (.builtin id)) (ha : PA X (e :: es) t) (hn : x ≠ "__name__" := by decide) (hdb : (x == ("__debug__" : Str)) = false := by decide)
    (he : starEach (e :: es) X.env = (false, eval e X.env) :: starEach es X.env := by rfl) (hpl : (backTo pos (starEach es X.env)).any (·.1) = false := by rfl) : PE X (.Call (.Name x p) (e :: es) [] pos) (tCB r t) := by
  intro pins s σ H Q I h
  refine wpAny_Call_Name_kw (ld_blt I hg hm hv ?_ hn hdb)
  refine PyProof.Rows.callWith_builtin1 (thn (ha pos pins s σ H _ I h) fun us s1 zz => ?_) he hpl
  obtain ⟨vs, H1, I1, r1, q1⟩ := zz
  exact hc pins s1 σ H1 vs us Q I1 r1 q1
/-- T(e, ..), T a built-in type -/
theorem pe_callTy (hc : CallR X (.type T) r) (hg : Gl X x) (hm : X.mg x = none) (hv : bootBuiltins x = some (.type T)) (ha : PA X (e :: es) t) (hn : x ≠ "__name__" := by decide) (hdb : (x == ("__debug__" : Str)) = false := by decide)
    (he : starEach (e :: es) X.env = (false, eval e X.env) :: starEach es X.env := by rfl) (hpl : (backTo pos (starEach es X.env)).any (·.1) = false := by rfl) : PE X (.Call (.Name x p) (e :: es) [] pos) (tCB r t) := by
  intro pins s σ H Q I h
  refine wpAny_Call_Name_kw (ld_blt I hg hm hv ?_ hn hdb)
  refine PyProof.Rows.callWith_type1 (thn (ha pos pins s σ H _ I h) fun us s1 zz => ?_) he hpl
  obtain ⟨vs, H1, I1, r1, q1⟩ := zz
  exact hc pins s1 σ H1 vs us Q I1 r1 q1
end
end L2

namespace HT
open PySem PyProof.Rows



section
open PySem.SeqAt
open PySem.AutoSeq1 (wpAny_loadPart')
open PySem.MeetsSeq PySem.MeetsSeq2 PySem.MeetsSeq3

end

section
variable {prog : Program} {w : World} {A : Around} {E : Value → Shared → Prop} {s : Shared}



/-! ### t[a:b], not the whole -/
/-- a slice's bound as a place among n (d where it is left out) -/
noncomputable def sIx (n d : Nat) : Option Int → Nat
  | none => d
  | some v => if v < 0 then (v + (n : Int)).toNat else min v.toNat n
theorem sIx_le (n d : Nat) (hd : d ≤ n) (o : Option Int) : sIx n d o ≤ n := by
  cases o with
  | none => exact hd
  | some v =>
    show (if v < 0 then (v + (n : Int)).toNat else min v.toNat n) ≤ n
    by_cases hv : v < 0
    · rw [if_pos hv]; omega
    · rw [if_neg hv]; exact Nat.min_le_right _ _
theorem clip_eq (v : Int) (n d : Nat) : (if v < 0 then max (v + (n : Int)) 0 else min v (n : Int)) = ((sIx n d (some v) : Nat) : Int) := by
  show (if v < 0 then max (v + (n : Int)) 0 else min v (n : Int)) = (((if v < 0 then (v + (n : Int)).toNat else min v.toNat n) : Nat) : Int)
  by_cases hv : v < 0
  · simp only [if_pos hv]; omega
  · simp only [if_neg hv]; omega
theorem adjust_gen (lo hi : Option Int) (n : Nat) : Builtin.Slice.sliceAdjust lo hi 1 (n : Int) = (((sIx n 0 lo : Nat) : Int), ((sIx n n hi : Nat) : Int)) := by
  have h1 : ¬ ((1 : Int) < 0) := by omega
  unfold Builtin.Slice.sliceAdjust
  simp only [h1, if_false]
  refine Prod.ext ?_ ?_
  · cases lo with
    | none => rfl
    | some v => exact clip_eq v n 0
  · cases hi with
    | none => rfl
    | some v => exact clip_eq v n n
theorem places_gen (i j : Nat) : Builtin.Slice.slicePlaces (i : Int) (j : Int) 1 = j - i := by
  unfold Builtin.Slice.slicePlaces
  have h1 : (1 : Int) > 0 := by omega
  simp only [h1, if_true, Int.ediv_one]
  split <;> omega
theorem slicePart_ {v : Value} {o : Option Int} {Q : Option Int → Shared → Prop} (p : IsPart v o) (h : Q o s) : wpAny (model prog w) A (Builtin.Slice.slicePartIndex v) Q E s := by
  cases p with
  | none => exact slicePart_none h
  | int i t => exact slicePart_int h
theorem sliceApplied_gen {sl : Addr} {vl vu : Value} {lo hi : Option Int} {n : Nat} {Q : Int × Int × Nat → Shared → Prop} (hs : s.heap.IsSliceOf sl vl vu .none) (pl : IsPart vl lo) (pu : IsPart vu hi)
    (h : Q (((sIx n 0 lo : Nat) : Int), 1, sIx n n hi - sIx n 0 lo) s) : wpAny (model prog w) A (Builtin.Slice.sliceApplied (.ref sl) (pure (n : Int))) Q E s := by
  obtain ⟨os, hos, hcs, hds⟩ := id hs
  unfold Builtin.Slice.sliceApplied Builtin.Slice.sliceFields
  refine wpAny_bind (wpAny_bind (wpAny_field hos hds (x := vl) rfl (wpAny_bind (wpAny_field hos hds (x := vu) rfl (wpAny_bind (wpAny_field hos hds (x := .none) rfl (wpAny_pure ?_)))))))
  refine wpAny_bind (slicePart_none ?_)
  show wpAny _ _ (if ((1 : Int) == 0) = true then _ else _) _ _ s
  rw [if_neg (by decide)]
  refine wpAny_bind (slicePart_ pl (wpAny_bind (slicePart_ pu (wpAny_bind (wpAny_pure ?_)))))
  show wpAny _ _ (match Builtin.Slice.sliceAdjust lo hi 1 (n : Int) with | (lo, hi) => pure (lo, (1 : Int), Builtin.Slice.slicePlaces lo hi 1)) _ _ s
  rw [adjust_gen lo hi n]
  show wpAny _ _ (pure (((sIx n 0 lo : Nat) : Int), (1 : Int), Builtin.Slice.slicePlaces ((sIx n 0 lo : Nat) : Int) ((sIx n n hi : Nat) : Int) 1)) _ _ s
  rw [places_gen]
  exact wpAny_pure h
theorem pick_gen (xs : Array Value) (i k : Nat) : ((List.range k).filterMap fun (m : Nat) => xs[((i : Int) + (m : Int) * 1).toNat]?).toArray = ((xs.toList.drop i).take k).toArray := by
  have e : (fun (m : Nat) => xs[((i : Int) + (m : Int) * 1).toNat]?) = fun m => xs[i + m]? := by
    funext m
    have : ((i : Int) + (m : Int) * 1).toNat = i + m := by omega
    rw [this]
  rw [e]
  have := pick_run xs i k
  rw [List.filterMap_map] at this
  have e2 : ((fun x => xs[x]?) ∘ fun x => i + x) = fun m => xs[i + m]? := rfl
  rw [e2] at this
  rw [this]

theorem getItem_tuple_cut {t sl : Addr} {items : Array Value} {vl vu : Value} {lo hi : Option Int} {Q : Value → Shared → Prop} (ht : IsTup s.heap t items) (hs : s.heap.IsSliceOf sl vl vu .none) (pl : IsPart vl lo) (pu : IsPart vu hi)
    (hw : ¬ (sIx items.size 0 lo = 0 ∧ sIx items.size items.size hi = items.size))
    (h : Q (.ref s.heap.objs.size) { s with heap := s.heap.push { cls := .type "tuple", data := .seq ((items.toList.drop (sIx items.size 0 lo)).take (sIx items.size items.size hi - sIx items.size 0 lo)).toArray } })
    (hsz : items.size ≤ sizeLine) : wpAny (model prog w) A (getItem (.ref t) (.ref sl)) Q E s := by
  have htake : sizeOk (.seq ((items.toList.drop (sIx items.size 0 lo)).take (sIx items.size items.size hi - sIx items.size 0 lo)).toArray) := by
    show ((items.toList.drop (sIx items.size 0 lo)).take (sIx items.size items.size hi - sIx items.size 0 lo)).toArray.size ≤ sizeLine
    rw [List.size_toArray, List.length_take, List.length_drop, Array.length_toList]
    omega
  have hj : sIx items.size items.size hi ≤ items.size := sIx_le _ _ (Nat.le_refl _) hi
  obtain ⟨os, hos, hcs, hds⟩ := id hs
  have hTs : s.TypeIs (.ref sl) "slice" := ⟨os, hos, hcs⟩
  unfold getItem
  try with_reducible refine wpAny_holding ?_
  first | refine wpAny_bind (wpAny_pure ?_) | skip
  refine wpAny_bind (wpAny_sequenceKey ht.typeIs (by decide) ?_)
  refine wpAny_bind (wpAny_callSpecial?_slot (name := Str.ofString "__getitem__") ht.typeIs PyProof.Rows.slot_tuple_getitem
    (wpAny_call_entry PyProof.Rows.slot_tuple_getitem ht.typeIs entry_tuple_getitem ?_ (args_tuple_getitem _ _)))
  show wpAny _ _ (Builtin.Tuple.tupleItemsOf (.ref t) >>= _) _ _ s
  refine wpAny_bind (tupleItemsOf_ ht ?_)
  refine wpAny_bind (wpAny_typeOf hTs ?_)
  rw [if_pos (by decide)]
  refine wpAny_bind (sliceApplied_gen hs pl pu ?_)
  have hno : ¬ ((((sIx items.size 0 lo : Nat) : Int) == 0 && (1 : Int) == 1 && (sIx items.size items.size hi - sIx items.size 0 lo) == items.size) = true) := by
    intro q
    rw [Bool.and_eq_true, Bool.and_eq_true] at q
    have q1 : ((sIx items.size 0 lo : Nat) : Int) = 0 := eq_of_beq q.1.1
    have q2 : sIx items.size items.size hi - sIx items.size 0 lo = items.size := eq_of_beq q.2
    exact hw ⟨by omega, by omega⟩
  show wpAny _ _ (if (((sIx items.size 0 lo : Nat) : Int) == 0 && (1 : Int) == 1 && (sIx items.size items.size hi - sIx items.size 0 lo) == items.size) = true then _ else _) _ _ s
  rw [if_neg hno, pick_gen]
  first
    | exact wpAny_bind (m := Builtin.Tuple.tupleExact _) (wpAny_newObj_type (wpAny_pure ⟨_, rfl, wpAny_pure h⟩) htake)
    | exact wpAny_bind (m := Builtin.Tuple.tupleExact _) (wpAny_newObj_type (wpAny_bind (wpAny_pure (wpAny_pure ⟨_, rfl, wpAny_pure h⟩))) htake)
    | exact wpAny_bind (wpAny_bind (m := Builtin.Tuple.tupleExact _) (wpAny_newObj_type (wpAny_pure (wpAny_pure ⟨_, rfl, wpAny_pure h⟩)) htake))
    | exact wpAny_bind (wpAny_bind (m := Builtin.Tuple.tupleExact _) (wpAny_newObj_type (wpAny_pure ⟨_, rfl, wpAny_pure h⟩) htake))
end
end HT

namespace L2
open PySem PySem.Spec PyProof.Rows

/-! ### the parts of a slice -/
noncomputable abbrev TO := St → Hp → (Option Int → Hp → Prop) → Prop
/-- a slice's part (left out, or an int) -/
noncomputable def PO (X : Cx) (e : Option Expr) (t : TO) : Prop :=
  ∀ (pins : List (Addr × Obj)) (s : Shared) (σ : St) (H : Hp) (Q : Option Int → Hp → Prop), Inv X pins σ H s → t σ H Q →
    wpAny (model X.prog X.w) X.A (evalPart e X.env) (fun u s' => ∃ o H', Inv X pins σ H' s' ∧ IsPart u o ∧ Q o H') X.xe s
noncomputable def tNoPart : TO := fun _ H Q => Q none H
noncomputable def tPart (t : TE) : TO := fun σ H Q => t σ H fun x H1 => ∃ i, x = .int i ∧ Q (some i) H1

theorem intsAre_of {ns : List Int} : ∀ {us : List Value}, Vals (ns.map V.int) us → IntsAre us ns := by
  induction ns with
  | nil => intro us r; rw [List.map_nil] at r; cases r; exact .nil
  | cons n ns ih =>
    intro us r
    rw [List.map_cons] at r
    cases r with
    | cons r1 r2 =>
      obtain ⟨t, e⟩ := r1
      subst e
      exact .cons n t (ih r2)

section
variable {X : Cx} {e : Expr} {te : TE} {lo hi : Option Expr} {tl th : TO} {pos p2 : Pos}

theorem po_none : PO X none tNoPart := by
  intro pins s σ H Q I h
  rw [evalPart_none]
  exact wpAny_pure ⟨none, H, I, .none, h⟩
theorem po_some (h : PE X e te) : PO X (some e) (tPart te) := by
  intro pins s σ H Q I hw
  rw [evalPart_some]
  refine thn (h pins s σ H _ I hw) fun u s1 zz => ?_
  obtain ⟨x, H1, I1, r1, q1⟩ := zz
  obtain ⟨i, rfl, q⟩ := q1
  obtain ⟨t, rfl⟩ := r1
  exact ⟨some i, H1, I1, .int i t, q⟩

/-- what a slice of a value is, by values: the slice object stands at sl -/
noncomputable def SlR (X : Cx) (r : V → Option Int → Option Int → Hp → VK → Prop) : Prop :=
  ∀ (pins : List (Addr × Obj)) (s : Shared) (σ : St) (H : Hp) (x : V) (v vl vu : Value) (lo hi : Option Int) (sl : Addr) (Q : VK), Inv X pins σ H s → RelV x v → s.heap.IsSliceOf sl vl vu .none → IsPart vl lo → IsPart vu hi → r x lo hi H Q →
    ∃ T id, typeLookup (.type T) "__getitem__" = pure (some (.builtin id)) ∧ s.TypeIs v T ∧ wpAny (model X.prog X.w) X.A (getItem v (.ref sl)) (EP X pins σ Q) X.xe s
noncomputable def tSl (r : V → Option Int → Option Int → Hp → VK → Prop) (te : TE) (tl th : TO) : TE := fun σ H Q => te σ H fun x H1 => tl σ H1 fun l H2 => th σ H2 fun u H3 => r x l u H3 Q
/-- a[lo:hi], any a -/
theorem pe_slice {r : V → Option Int → Option Int → Hp → VK → Prop} (hr : SlR X r) (he : PE X e te) (hl : PO X lo tl) (hu : PO X hi th) : PE X (.Subscript e (.Slice lo hi none p2) pos) (tSl r te tl th) := by
  intro pins s σ H Q I h
  refine Subscript_ (thn (he pins s σ H _ I h) fun v s1 zz => ?_)
  obtain ⟨x, H1, I1, r1, q1⟩ := zz
  refine wpAny_Slice (thn (hl pins s1 σ H1 _ I1 q1) fun vl s2 zz => ?_)
  obtain ⟨l, H2, I2, pl, q2⟩ := zz
  refine thn (hu pins s2 σ H2 _ I2 q2) fun vu s3 zz => ?_
  obtain ⟨u, H3, I3, pu, q3⟩ := zz
  rw [evalPart_none]
  refine wpAny_pure ?_
  have I4 : Inv X pins σ H3 { s3 with heap := s3.heap.push { cls := .type "slice", data := .fields #[vl, vu, .none] } } := I3.kept (t' := s3.toks) fun b ob q => Heap.get?_push_of_some _ q
  obtain ⟨T, id, hT, ht, hg⟩ := hr pins { s3 with heap := s3.heap.push { cls := .type "slice", data := .fields #[vl, vu, .none] } } σ H3 x v vl vu l u s3.heap.objs.size Q I4 r1 (Heap.IsSliceOf.new ..) pl pu q3
  show wpAny (model X.prog X.w) X.A (subscriptTail e (.Slice lo hi none p2) v (.ref s3.heap.objs.size)) (EP X pins σ Q) X.xe { s3 with heap := s3.heap.push { cls := .type "slice", data := .fields #[vl, vu, .none] } }
  exact tail_any (ops := [.ref s3.heap.objs.size, v]) ht hT hg (by with_unfolding_all rfl)

/-- the items of xs[lo:hi] -/
noncomputable def cutV (xs : List V) (lo hi : Option Int) : List V := (xs.drop (HT.sIx xs.length 0 lo)).take (HT.sIx xs.length xs.length hi - HT.sIx xs.length 0 lo)
theorem cutV_length (xs : List V) (lo hi : Option Int) : (cutV xs lo hi).length ≤ xs.length := by
  unfold cutV
  rw [List.length_take, List.length_drop]
  omega
/-- t[lo:hi], not the whole of it (the whole would be t itself) -/
noncomputable def rSlT (K : PySem.W.Frag) : V → Option Int → Option Int → Hp → VK → Prop := fun x lo hi H Q => ∃ a xs, x = .ref a ∧ SqT K H a xs ∧
  ¬ (HT.sIx xs.length 0 lo = 0 ∧ HT.sIx xs.length xs.length hi = xs.length) ∧ ∀ p, H p = none → Q (.ref p) (upd H p (.tup (cutV xs lo hi)))
theorem sl_tup : SlR X (rSlT X.K) := by
  intro pins s σ H x v vl vu lo hi sl Q I rx hs pl pu h
  obtain ⟨a, xs, rfl, hx, hw, q⟩ := h
  cases rx
  obtain ⟨its, r, ht, hz⟩ := I.tuple hx
  have hlen : its.toArray.size = xs.length := by rw [List.size_toArray]; exact r.length.symm
  refine ⟨"tuple", _, PyProof.Rows.slot_tuple_getitem.lookup, ht.typeIs, ?_⟩
  refine HT.getItem_tuple_cut ht hs pl pu (by rw [hlen]; exact hw) ?_ (by rw [hlen]; exact hz)
  rw [hlen]
  refine ⟨.ref s.heap.objs.size, _, I.laid (t' := s.toks) (o := .tup (cutV xs lo hi)) (fun b ob q => Heap.get?_push_of_some _ q) (Nat.le_refl _) ?_, rfl, q _ (I.hok.fresh (Nat.le_refl _))⟩
  exact ⟨Nat.le_trans (cutV_length xs lo hi) hz, _, (r.drop (HT.sIx xs.length 0 lo)).take (HT.sIx xs.length xs.length hi - HT.sIx xs.length 0 lo), IsTup.new _ _⟩

/-! ### t < u, t + u -/
end
end L2

namespace L2
open PySem PySem.Spec PyProof.Rows

/-! ### places -/
/-- the place that an index of any sign means -/
noncomputable def ixN (n : Nat) (i : Int) : Option Nat := if 0 ≤ i then (if i < n then some i.toNat else none) else if -(n : Int) ≤ i then some (i + n).toNat else none
noncomputable def atI {α : Type} (xs : List α) (i : Int) : Option α := (ixN xs.length i).bind fun j => xs[j]?
theorem ixN_seq {n : Nat} {i : Int} {j : Nat} (h : ixN n i = some j) : seqIndex? i n = some j ∧ j < n ∧ -(n : Int) ≤ i ∧ i < n := by
  unfold ixN at h
  by_cases h0 : 0 ≤ i
  · rw [if_pos h0] at h
    by_cases h1 : i < n
    · rw [if_pos h1] at h
      have e : i.toNat = j := Option.some.inj h
      exact ⟨by rw [seqIndex_of h0 h1, e], by omega, by omega, h1⟩
    · rw [if_neg h1] at h; cases h
  · rw [if_neg h0] at h
    by_cases h1 : -(n : Int) ≤ i
    · rw [if_pos h1] at h
      have e : (i + n).toNat = j := Option.some.inj h
      exact ⟨by rw [seqIndex_neg (by omega) h1, e], by omega, h1, by omega⟩
    · rw [if_neg h1] at h; cases h
theorem atI_get {α : Type} {xs : List α} {i : Int} {v : α} (h : atI xs i = some v) : ∃ j, seqIndex? i xs.length = some j ∧ xs[j]? = some v ∧ j < xs.length ∧ -(xs.length : Int) ≤ i ∧ i < xs.length := by
  unfold atI at h
  cases e : ixN xs.length i with
  | none => rw [e] at h; cases h
  | some j =>
    rw [e] at h
    obtain ⟨h1, h2, h3, h4⟩ := ixN_seq e
    exact ⟨j, h1, h, h2, h3, h4⟩
theorem atI_nat {α : Type} {xs : List α} {j : Nat} {v : α} (h : xs[j]? = some v) : atI xs (j : Int) = some v := by
  have hj : j < xs.length := (List.getElem?_eq_some_iff.mp h).1
  have e : ixN xs.length (j : Int) = some j := by
    unfold ixN
    rw [if_pos (by omega), if_pos (by omega)]; simp
  unfold atI; rw [e]; exact h

/-! ### what may be subscripted -/
/-- what stands as an index of a plain subscript -/
noncomputable def PlainIx (b : Expr) : Prop := ∀ o i, subscripted b false o i = operate [o, i] (getItem o i)
/-- a subscript by values -/
noncomputable def IxR (X : Cx) (r : R2) : Prop :=
  ∀ (value slice : Expr) (pins : List (Addr × Obj)) (s : Shared) (σ : St) (H : Hp) (x y : V) (v u : Value) (Q : VK), Inv X pins σ H s → RelV x v → RelV y u → r x y H Q →
    subscripted slice false v u = operate [v, u] (getItem v u) → wpAny (model X.prog X.w) X.A (subscriptTail value slice v u) (EP X pins σ Q) X.xe s
/-- a call of a builtin's method by values: the receiver, the arguments -/
noncomputable def MtR (X : Cx) (id : String) (r : V → List V → Hp → VK → Prop) : Prop :=
  ∀ (pins : List (Addr × Obj)) (s : Shared) (σ : St) (H : Hp) (x : V) (xs : List V) (v : Value) (us : List Value) (Q : VK), Inv X pins σ H s → RelV x v → Vals xs us → r x xs H Q →
    wpAny (model X.prog X.w) X.A (call (.builtin id) (v :: us)) (EP X pins σ Q) X.xe s
section
variable {X : Cx} {a b : Expr} {ta tb : TE} {pos : Pos}
/-- a[b] -/
theorem pe_ix {r : R2} (hr : IxR X r) (ha : PE X a ta) (hb : PE X b tb) (hs : PlainIx b) : PE X (.Subscript a b pos) (tOp r ta tb) := by
  intro pins s σ H Q I h
  exact Subscript_ (binT ha hb I h fun v u s2 x y H2 I2 rx ry q => hr a b pins s2 σ H2 x y v u Q I2 rx ry q (hs _ _))

inductive XIxL (K : PySem.W.Frag) (x y : V) (H : Hp) (Q : VK) : Prop where
  | mk (p : Addr) (xs : List V) (i : Int) (v : V) (e : x = .ref p) (f : y = .int i) (s : SqL K H p xs) (a : atI xs i = some v) (q : Q v H) : XIxL K x y H Q
inductive XIxT (K : PySem.W.Frag) (x y : V) (H : Hp) (Q : VK) : Prop where
  | mk (p : Addr) (xs : List V) (i : Int) (v : V) (e : x = .ref p) (f : y = .int i) (s : SqT K H p xs) (a : atI xs i = some v) (q : Q v H) : XIxT K x y H Q
noncomputable def rIxL (K : PySem.W.Frag) : R2 := fun x y H Q => XIxL K x y H Q
noncomputable def rIxT (K : PySem.W.Frag) : R2 := fun x y H Q => XIxT K x y H Q
theorem ix_list : IxR X (rIxL X.K) := by
  intro value slice pins s σ H x y v u Q I rx ry h hs
  obtain ⟨p, xs, i, z, rfl, rfl, hq, he, q⟩ := h
  cases rx
  obtain ⟨t, rfl⟩ := ry
  obtain ⟨its, r, pl, hz⟩ := I.list hq
  obtain ⟨j, h1, h2, h3, h4, h5⟩ := atI_get he
  obtain ⟨w, ew, rw'⟩ := r.get h2
  have hl := r.length
  have hn := line63
  have fin : EP X pins σ Q w s := ⟨z, H, I, rw', q⟩
  by_cases h0 : 0 ≤ i
  · have hj : i.toNat = j := by
      rw [seqIndex_of h0 h5] at h1
      exact Option.some.inj h1
    exact item_listR pl.isList h0 (by omega) (by rw [hj]; simpa using ew) fin hs
  · have hj : (i + (its.toArray.size : Int)).toNat = j := by
      rw [seqIndex_neg (by omega) h4] at h1
      rw [List.size_toArray, ← hl]
      exact Option.some.inj h1
    exact subscriptTail_builtinR (x := w) pl.isList.typeIs slot_list_getitem.lookup
      (wpAny_getItem_list_neg (Q := fun r s' => r = w ∧ EP X pins σ Q r s') pl.isList (by omega) (by rw [List.size_toArray] <;> omega) (by omega) (by rw [hj]; simpa using ew) ⟨rfl, fin⟩) hs
theorem ix_tup : IxR X (rIxT X.K) := by
  intro value slice pins s σ H x y v u Q I rx ry h hs
  obtain ⟨p, xs, i, z, rfl, rfl, hq, he, q⟩ := h
  cases rx
  obtain ⟨t, rfl⟩ := ry
  obtain ⟨its, r, pl, hz⟩ := I.tuple hq
  obtain ⟨j, h1, h2, h3, h4, h5⟩ := atI_get he
  obtain ⟨w, ew, rw'⟩ := r.get h2
  have hl := r.length
  have hn := line63
  have fin : EP X pins σ Q w s := ⟨z, H, I, rw', q⟩
  exact subscriptTail_builtinR (x := w) pl.typeIs slot_tuple_getitem.lookup
    (getItem_tuple (j := j) (Q := fun r s' => r = w ∧ EP X pins σ Q r s') pl (by omega) (by omega) (by rw [List.size_toArray, ← hl]; exact h1) (by simpa using ew) ⟨rfl, fin⟩) hs

/-! ### xs[i] = v, any sign -/
/-- the list's object behind a store -/
theorem mapSeq_set (its : List Value) (n j : Nat) (u : Value) : Obj.mapSeq (·.setIfInBounds j u) { cls := .type "list", data := .seq its.toArray n } = { cls := .type "list", data := .seq (its.set j u).toArray n } := by
  simp [Obj.mapSeq]
theorem Inv.lst {pins : List (Addr × Obj)} {σ : St} {H : Hp} {s : Shared} {p : Addr} {xs : List V} (I : Inv X pins σ H s) (h : H p = some (.lst xs)) :
    ∃ (its : List Value) (n : Nat), Vals xs its ∧ s.heap.get? p = some { cls := .type "list", data := .seq its.toArray n } ∧ xs.length ≤ sizeLine := by
  obtain ⟨z, its, n, r, e⟩ := I.hok p _ h
  exact ⟨its, n, r, e, z⟩
/-- the list at p is written by an update of its object -/
theorem Inv.lstUpd {pins : List (Addr × Obj)} {σ : St} {H : Hp} {s : Shared} {p : Addr} {xs ys : List V} {its its' : List Value} {n n' : Nat} {f : Obj → Obj} (I : Inv X pins σ H s) (h : H p = some (.lst xs))
    (ho : s.heap.get? p = some { cls := .type "list", data := .seq its.toArray n }) (hf : f { cls := .type "list", data := .seq its.toArray n } = { cls := .type "list", data := .seq its'.toArray n' }) (r : Vals ys its') (hz : ys.length ≤ sizeLine) (t : Nat) :
    Inv X pins σ (upd H p (.lst ys)) { s with heap := s.heap.update p f, toks := t } := by
  have e : (s.heap.update p f).get? p = some { cls := .type "list", data := .seq its'.toArray n' } := by
    rw [Heap.get?_update_self f ho (by rw [hf] <;> rfl), hf]
  refine I.write (x := p) (e := p) (by rw [h]; trivial) (.inl rfl) (fun b u hb q => (Heap.get?_update_other _ _ (Ne.symm hb)).trans q) ⟨_, e⟩ ?_
  exact ⟨hz, its', n', r, e⟩
noncomputable def rSetL : V → V → V → Hp → (Hp → Prop) → Prop := fun o i v H Q => ∃ p xs k j, o = .ref p ∧ i = .int k ∧ H p = some (.lst xs) ∧ ixN xs.length k = some j ∧ Q (upd H p (.lst (xs.set j v)))
theorem set_list : PSet X rSetL := by
  intro pins s σ H o i v ov iv u Q I ro ri rv h
  obtain ⟨p, xs, k, j, rfl, rfl, hp, hj, q⟩ := h
  cases ro
  obtain ⟨t, rfl⟩ := ri
  obtain ⟨its, n, r, ho, hz⟩ := I.lst hp
  obtain ⟨h1, h2, h3, h4⟩ := ixN_seq hj
  have hl := r.length
  have hn := line63
  have I' : Inv X pins σ (upd H p (.lst (xs.set j v))) { s with heap := s.heap.update p (Obj.mapSeq (·.setIfInBounds j u)) } :=
    I.lstUpd hp ho (mapSeq_set its n j u) (r.set rv j) (by rw [List.length_set]; exact hz) s.toks
  by_cases h0 : 0 ≤ k
  · have hk : k.toNat = j := by
      rw [seqIndex_of h0 h4] at h1
      exact Option.some.inj h1
    exact PySem.W.ki_setAt ho h0 (by omega) (by rw [List.size_toArray, ← hl]; exact h4) (by rw [hk]; exact ⟨_, I', q⟩)
  · have hk : (k + (its.toArray.size : Int)).toNat = j := by
      rw [seqIndex_neg (by omega) h3] at h1
      rw [List.size_toArray, ← hl]
      exact Option.some.inj h1
    exact PySem.W.ki_setBack ho (by omega) (by rw [List.size_toArray, ← hl]; exact h3) (by omega) (by rw [hk]; exact ⟨_, I', q⟩)

/-! ### slices -/
theorem slice_bounds (lo hi : Option Int) (n : Nat) : (sliceBounds lo hi none n).1 = ((HT.sIx n 0 lo : Nat) : Int) ∧ (sliceBounds lo hi none n).2.1 = ((HT.sIx n n hi : Nat) : Int) ∧ (sliceBounds lo hi none n).2.2 = 1 := by
  refine ⟨?_, ?_, rfl⟩
  · cases lo with
    | none => simp [sliceBounds, HT.sIx]
    | some i =>
      simp only [sliceBounds, HT.sIx, Option.getD_none, show (1 : Int) > 0 by decide, if_true]
      by_cases h : i < 0
      · simp only [h, if_true] <;> omega
      · simp only [h, if_false] <;> omega
  · cases hi with
    | none => simp [sliceBounds, HT.sIx]
    | some i =>
      simp only [sliceBounds, HT.sIx, Option.getD_none, show (1 : Int) > 0 by decide, if_true]
      by_cases h : i < 0
      · simp only [h, if_true] <;> omega
      · simp only [h, if_false] <;> omega
theorem slicePick_cut (its : List Value) (lo hi : Option Int) : slicePick its.toArray lo hi none = ((its.drop (HT.sIx its.length 0 lo)).take (HT.sIx its.length its.length hi - HT.sIx its.length 0 lo)).toArray := by
  obtain ⟨h1, h2, h3⟩ := slice_bounds lo hi its.toArray.size
  unfold slicePick
  rw [h1, h2, h3]
  simp only [sliceRange_one, pick_run, List.size_toArray] <;> rfl
/-- xs[lo:hi] of a list: a new list -/
noncomputable def rSlL (K : PySem.W.Frag) : V → Option Int → Option Int → Hp → VK → Prop := fun x lo hi H Q => ∃ a xs, x = .ref a ∧ SqL K H a xs ∧ ∀ p, H p = none → Q (.ref p) (upd H p (.lst (cutV xs lo hi)))
theorem sl_list : SlR X (rSlL X.K) := by
  intro pins s σ H x v vl vu lo hi sl Q I rx hs pl pu h
  obtain ⟨a, xs, rfl, hx, q⟩ := h
  cases rx
  obtain ⟨its, r, ht, hz⟩ := I.list hx
  have hlen := r.length
  refine ⟨"list", _, slot_list_getitem.lookup, ht.isList.typeIs, ?_⟩
  refine wpAny_getItem_list_slice ht.isList hs pl pu .none (by simp) ?_ (by rw [List.size_toArray] <;> omega)
  rw [slicePick_cut, ← hlen]
  refine ⟨.ref s.heap.objs.size, _, I.laid (t' := s.toks) (o := .lst (cutV xs lo hi)) (fun b ob q => Heap.get?_push_of_some _ q) (Nat.le_refl _) ?_, rfl, q _ (I.hok.fresh (Nat.le_refl _))⟩
  exact ⟨Nat.le_trans (cutV_length xs lo hi) hz, _, 0, (r.drop (HT.sIx xs.length 0 lo)).take (HT.sIx xs.length xs.length hi - HT.sIx xs.length 0 lo), Heap.get?_push_size _ rfl⟩

/-! ### in, not in: flat items -/
noncomputable def flatV : V → Bool
  | .non => true
  | .bl _ => true
  | .int _ => true
  | .str _ => true
  | _ => false
/-- == of flat values -/
noncomputable def eqV : V → V → Bool
  | .non, .non => true
  | .bl a, .bl b => a == b
  | .bl a, .int b => (if a then 1 else 0) == b
  | .int a, .bl b => a == (if b then 1 else 0)
  | .int a, .int b => a == b
  | .str a, .str b => a == b
  | _, _ => false
theorem eqAt_V {A : Around} {s : Shared} {y x : V} {u v : Value} (ry : RelV y u) (rx : RelV x v) (fy : flatV y = true) (fx : flatV x = true) : SeqAt.EqAt A s u v (eqV y x) := by
  cases y with
  | non =>
    cases ry
    cases x with
    | non => cases rx; exact SeqAt.EqAt.same _
    | bl b => cases rx; exact SeqAt.EqAt.none_bool b
    | int b => obtain ⟨t, rfl⟩ := rx; exact SeqAt.EqAt.none_int b t
    | str b => obtain ⟨t, rfl⟩ := rx; exact SeqAt.EqAt.none_str b t
    | _ => exact absurd (show false = true from fx) Bool.false_ne_true
  | bl a =>
    cases ry
    cases x with
    | non => cases rx; exact SeqAt.EqAt.bool_none a
    | bl b => cases rx; exact SeqAt.EqAt.bool_bool a b
    | int b => obtain ⟨t, rfl⟩ := rx; exact SeqAt.EqAt.bool_int a b t
    | str b => obtain ⟨t, rfl⟩ := rx; exact SeqAt.EqAt.bool_str a b t
    | _ => exact absurd (show false = true from fx) Bool.false_ne_true
  | int a =>
    obtain ⟨t', rfl⟩ := ry
    cases x with
    | non => cases rx; exact SeqAt.EqAt.int_none a t'
    | bl b => cases rx; exact SeqAt.EqAt.int_bool a t' b
    | int b => obtain ⟨t, rfl⟩ := rx; exact SeqAt.EqAt.int_int a t' b t
    | str b => obtain ⟨t, rfl⟩ := rx; exact SeqAt.EqAt.int_str a t' b t
    | _ => exact absurd (show false = true from fx) Bool.false_ne_true
  | str a =>
    obtain ⟨t', rfl⟩ := ry
    cases x with
    | non => cases rx; exact SeqAt.EqAt.str_none a t'
    | bl b => cases rx; exact SeqAt.EqAt.str_bool a t' b
    | int b => obtain ⟨t, rfl⟩ := rx; exact SeqAt.EqAt.str_int a t' b t
    | str b => obtain ⟨t, rfl⟩ := rx; exact SeqAt.EqAt.str_str a t' b t
    | _ => exact absurd (show false = true from fx) Bool.false_ne_true
  | _ => exact absurd (show false = true from fy) Bool.false_ne_true
/-- the items' answers, read off the values (a value's own answer does not lean on its token) -/
noncomputable def eqU (x : V) (u : Value) : Bool := match u with
  | .none => eqV .non x
  | .bool b => eqV (.bl b) x
  | .int i _ => eqV (.int i) x
  | .str z _ => eqV (.str z) x
  | _ => false
theorem eqU_of {x y : V} {u : Value} (r : RelV y u) (f : flatV y = true) : eqU x u = eqV y x := by
  cases y with
  | non => cases r; rfl
  | bl b => cases r; rfl
  | int i => obtain ⟨t, rfl⟩ := r; rfl
  | str z => obtain ⟨t, rfl⟩ := r; rfl
  | _ => exact absurd (show false = true from f) Bool.false_ne_true
theorem any_eqU {x : V} : ∀ {xs : List V} {us : List Value}, Vals xs us → xs.all flatV = true → us.any (eqU x) = xs.any fun y => eqV y x
  | _, _, .nil, _ => rfl
  | y :: xs, u :: us, .cons r t, f => by
    rw [List.all_cons, Bool.and_eq_true] at f
    rw [List.any_cons, List.any_cons, eqU_of r f.1, any_eqU t f.2]
theorem mem_eqAt {A : Around} {s : Shared} {x : V} {v : Value} (rx : RelV x v) (fx : flatV x = true) : ∀ {xs : List V} {us : List Value}, Vals xs us → xs.all flatV = true → ∀ u ∈ us, SeqAt.EqAt A s u v (eqU x u)
  | _, _, .nil, _ => fun u hu => by cases hu
  | y :: xs, u :: us, .cons r t, f => fun u' hu => by
    rw [List.all_cons, Bool.and_eq_true] at f
    rcases List.mem_cons.mp hu with rfl | hu
    · rw [eqU_of r f.1]; exact eqAt_V r rx f.1 fx
    · exact mem_eqAt rx fx t f.2 u' hu
noncomputable def inV (x : V) (xs : List V) : Bool := xs.any fun y => eqV y x
/-- x in a list or tuple of flat items -/
noncomputable def rIn (K : PySem.W.Frag) (neg : Bool) : R2 := fun x y H Q => ∃ p xs, y = .ref p ∧ (SqL K H p xs ∨ SqT K H p xs) ∧ flatV x = true ∧ xs.all flatV = true ∧ Q (.bl (if neg then !inV x xs else inV x xs)) H
theorem op_in_seq : OpR X (compareOp .In) (rIn X.K false) := by
  intro pins s σ H x y v u Q I rx ry h
  obtain ⟨p, xs, rfl, hq, fx, fs, q⟩ := h
  cases ry
  rcases hq with hq | hq
  · obtain ⟨its, r, pl, hz⟩ := I.list hq
    refine SeqAt.in_listAt (eqU x) pl.isList (fun w hw => mem_eqAt rx fx r fs w (by simpa using hw)) ⟨.bl _, H, I, rfl, ?_⟩
    rw [show its.toArray.any (eqU x) = its.any (eqU x) by simp, any_eqU r fs]
    exact q
  · obtain ⟨its, r, pl, hz⟩ := I.tuple hq
    refine SeqAt.in_tupleAt (eqU x) pl (fun w hw => mem_eqAt rx fx r fs w (by simpa using hw)) ⟨.bl _, H, I, rfl, ?_⟩
    rw [show its.toArray.any (eqU x) = its.any (eqU x) by simp, any_eqU r fs]
    exact q

/-! ### len, list(x), tuple(x) of any list or tuple that is read -/
theorem call_list_of : CallR X (.type "list") (fun xs H Q => ∃ p ys, xs = [.ref p] ∧ (SqL X.K H p ys ∨ SqT X.K H p ys) ∧ ∀ l, H l = none → Q (.ref l) (upd H l (.lst ys))) := by
  intro pins s σ H xs us Q I r h
  obtain ⟨p, ys, rfl, hq, q⟩ := h
  obtain ⟨u, rfl, rx⟩ := vals1 r
  cases rx
  have fin : ∀ (its : List Value), Vals ys its → ys.length ≤ sizeLine → ∀ (h' : Heap) (c' : Nat), (∀ b o', s.heap.get? b = some o' → h'.get? b = some o') →
      h'.get? s.heap.objs.size = some { cls := .type "list", dict := none, data := .seq its.toArray c', slots := #[] } → EP X pins σ Q (.ref s.heap.objs.size) { s with heap := h' } := fun its r' hz h' c' kp e =>
    ⟨.ref s.heap.objs.size, _, I.laid (t' := s.toks) kp (Nat.le_refl _) (show ObjOk X.prog X.w _ h' _ (.lst ys) from ⟨hz, its, c', r', e⟩), rfl, q _ (I.hok.fresh (Nat.le_refl _))⟩
  rcases hq with hq | hq
  · obtain ⟨its, r', pl, hz⟩ := I.list hq
    have hlen := r'.length
    obtain ⟨o, ho, hc, n, hd⟩ := pl.isList
    exact call_list_seq p (.inl rfl) ho hc hd (fun h' c' kp e => fin its r' hz h' c' kp e) (by simp only [List.size_toArray] <;> omega)
  · obtain ⟨its, r', pl, hz⟩ := I.tuple hq
    have hlen := r'.length
    obtain ⟨o, ho, hc, n, hd⟩ := pl
    exact call_list_seq p (.inr rfl) ho hc hd (fun h' c' kp e => fin its r' hz h' c' kp e) (by simp only [List.size_toArray] <;> omega)
theorem call_tuple_of : CallR X (.type "tuple") (fun xs H Q => ∃ p ys, xs = [.ref p] ∧ ((SqL X.K H p ys ∧ ∀ l, H l = none → Q (.ref l) (upd H l (.tup ys))) ∨ (SqT X.K H p ys ∧ Q (.ref p) H))) := by
  intro pins s σ H xs us Q I r h
  obtain ⟨p, ys, rfl, h⟩ := h
  obtain ⟨u, rfl, rx⟩ := vals1 r
  cases rx
  rcases h with ⟨hq, q⟩ | ⟨hq, q⟩
  · obtain ⟨its, r', pl, hz⟩ := I.list hq
    have hlen := r'.length
    refine call_tuple_list pl.isList (fun h' kp => ?_) (by simp only [List.size_toArray] <;> omega)
    have I1 : Inv X pins σ H { s with heap := h' } := I.kept (t' := s.toks) kp
    have I2 : Inv X pins σ (upd H h'.objs.size (.tup ys)) { s with heap := h'.push { cls := .type "tuple", data := .seq its.toArray } } :=
      I1.laid (t' := s.toks) (fun b o e => Heap.get?_push_of_some _ e) (Nat.le_refl _) (show ObjOk X.prog X.w _ _ _ (.tup ys) from ⟨hz, its, r', IsTup.new _ _⟩)
    exact ⟨.ref h'.objs.size, _, I2, rfl, q _ (I1.hok.fresh (Nat.le_refl _))⟩
  · obtain ⟨its, r', pl, hz⟩ := I.tuple hq
    exact call_tuple_same pl ⟨.ref p, H, I, rfl, q⟩

/-! ### the call of a builtin's method: o.m(..) -/
/-- the value is of that builtin type -/
noncomputable def tyV (K : PySem.W.Frag) (T : String) (x : V) (H : Hp) : Prop := match x with
  | .str _ => T = "str"
  | .int _ => T = "int"
  | .ref p => (T = "list" ∧ ∃ xs, SqL K H p xs) ∨ (T = "tuple" ∧ ∃ o, K.lookup p = some o ∧ o.cls = .type "tuple" ∧ o.dict = none) ∨
      (T = "dict" ∧ ((∃ kvs, H p = some (.dK kvs)) ∨ ∃ kvs, H p = some (.dT kvs))) ∨ (T = "set" ∧ ∃ S n, H p = some (.set S n))
  | _ => False
theorem tyV_is {pins : List (Addr × Obj)} {σ : St} {H : Hp} {s : Shared} {T : String} {x : V} {v : Value} (I : Inv X pins σ H s) (r : RelV x v) (ty : tyV X.K T x H) :
    s.TypeIs v T ∧ ∀ a, v = .ref a → ∃ ob, s.heap.get? a = some ob ∧ ob.dict = none := by
  cases x with
  | str z =>
    obtain ⟨t, rfl⟩ := r
    cases (show T = "str" from ty)
    exact ⟨typeIs_str s z t, fun _ e => nomatch e⟩
  | int i =>
    obtain ⟨t, rfl⟩ := r
    cases (show T = "int" from ty)
    exact ⟨typeIs_int s i t, fun _ e => nomatch e⟩
  | ref p =>
    cases r
    rcases ty with ⟨rfl, xs, hq⟩ | ⟨rfl, o, hk, hc, hd⟩ | ⟨rfl, hk⟩ | ⟨rfl, S, n, hk⟩
    · obtain ⟨its, _, pl, _⟩ := I.list hq
      refine ⟨pl.isList.typeIs, fun a e => ?_⟩
      cases e
      obtain ⟨o, n, e, c, hd, _⟩ := pl
      exact ⟨o, e, hd⟩
    · refine ⟨⟨o, I.kIn p o hk, hc⟩, fun a e => ?_⟩
      cases e
      exact ⟨o, I.kIn _ o hk, hd⟩
    · have z : ∃ o, s.heap.get? p = some o ∧ o.ExactDict := by
        rcases hk with ⟨kvs, hk⟩ | ⟨kvs, hk⟩
        · obtain ⟨_, _, _, _, o, _, _, e, ex, _⟩ := I.hok p _ hk
          exact ⟨o, e, ex⟩
        · obtain ⟨_, _, _, _, o, _, _, e, ex, _⟩ := I.hok p _ hk
          exact ⟨o, e, ex⟩
      obtain ⟨o, e, ex⟩ := z
      refine ⟨⟨o, e, ex.1⟩, fun a e2 => ?_⟩
      cases e2
      exact ⟨o, e, ex.2.1⟩
    · obtain ⟨o, _, _, _, e, ex, _⟩ := I.hok p _ hk
      refine ⟨⟨o, e, ex.1⟩, fun a e2 => ?_⟩
      cases e2
      exact ⟨o, e, ex.2.1⟩
  | _ => exact False.elim ty
noncomputable def tBM (K : PySem.W.Frag) (T : String) (r : V → List V → Hp → VK → Prop) (to : TE) (t : TA) : TE := fun σ H Q => to σ H fun x H1 => tyV K T x H1 ∧ t σ H1 fun xs H2 => r x xs H2 Q
variable {o e : Expr} {es : List Expr} {to : TE} {t : TA} {name : Str} {apos cpos : Pos} {T id : String} {r : V → List V → Hp → VK → Prop}
theorem pe_bm (pa : PlainAttrs T) (slot : Slot T name id) (hty : typeOf (.builtin id) = pure (.type "method_descriptor")) (hm : MtR X id r) (ho : PE X o to) (ha : PA X (e :: es) t)
    (hbase : attributeBase o name X.env (eval o X.env) = eval o X.env := by rfl)
    (hfew : ((backTo cpos (starEach (e :: es) X.env)).all (fun x => !x.1) && (backToKw cpos (keywordEach [] X.env)).all (fun x => x.1.isSome)
      && decide ((e :: es).length + ([] : List Keyword).length + (if ([] : List Keyword).isEmpty then 0 else 1) < 30)) = true := by rfl)
    (hline : (apos.endLine == cpos.line) = true := by rfl) (hs : starEach (e :: es) X.env = (false, eval e X.env) :: starEach es X.env := by rfl) (hplain : (backTo cpos (starEach es X.env)).any (·.1) = false := by rfl) :
    PE X (.Call (.Attribute o name apos) (e :: es) [] cpos) (tBM X.K T r to t) := by
  intro pins s σ H Q I h
  refine wpAny_Call_method_late hbase hfew hline rfl (thn (ho pins s σ H _ I h) fun v s1 zz => ?_)
  obtain ⟨x, H1, I1, r1, ty, q1⟩ := zz
  obtain ⟨h1, h2⟩ := tyV_is I1 r1 ty
  refine ⟨T, id, pa, slot, hty, h1, h2, ?_⟩
  have hA := ha cpos pins s1 σ H1 _ I1 q1
  rw [hs] at hA ⊢
  refine Calls.callWith_builtin (by show (false || (backTo cpos (starEach es X.env)).any (·.1)) = false; rw [hplain] <;> rfl) (Calls.evalArgs_plain ?_)
  refine thn hA fun us s2 zz => ?_
  obtain ⟨vs, H2, I2, r2, q2⟩ := zz
  exact hm pins s2 σ H2 x vs v us Q I2 r1 r2 q2
/- xs.append(e), list.index on a module's tuple .. are MtR facts of 06m -/
end
end L2

namespace L2
open PySem PySem.Spec PyProof.Rows

noncomputable def MtM (X : Cx) (id : String) (r : V → List V → Hp → VK → Prop) : Prop :=
  ∀ (pins : List (Addr × Obj)) (s : Shared) (σ : St) (H : Hp) (x : V) (xs : List V) (v : Value) (us : List Value) (Q : VK), Inv X pins σ H s → RelV x v → Vals xs us → r x xs H Q →
    wpAny (model X.prog X.w) X.A (call (.builtin id) (v :: us)) (EP X pins σ Q) X.xe s

/-! ### lists of values -/
theorem Vals.one : ∀ {x : V} {us : List Value}, Vals [x] us → ∃ u, us = [u] ∧ RelV x u
  | _, _, .cons r .nil => ⟨_, rfl, r⟩

section
variable {X : Cx} {pins : List (Addr × Obj)} {σ : St} {H : Hp} {s : Shared} {l b : Addr} {xs ys zs : List V}

/-! ### the two steps: a tracked list is rewritten, a new list is laid -/
theorem Inv.lset {its its' : List Value} {n : Nat} {f : Array Value → Array Value} {t' : Nat} (I : Inv X pins σ H s) (hH : H l = some (.lst xs))
    (e : s.heap.get? l = some { cls := .type "list", data := .seq its.toArray n }) (hf : f its.toArray = its'.toArray) (hv : Vals ys its') (hz : ys.length ≤ sizeLine) :
    Inv X pins σ (upd H l (.lst ys)) { s with heap := s.heap.update l (Obj.mapSeq f), toks := t' } := by
  have q := PySem.IsL.update e f
  rw [hf] at q
  refine I.write (x := l) (e := l) (by rw [hH]; exact trivial) (.inl rfl) (fun b' u hb hu => (Heap.get?_update_other s.heap (Obj.mapSeq f) (Ne.symm hb)).trans hu) ⟨_, q⟩ ?_
  exact ⟨hz, its', _, hv, q⟩
theorem Inv.lnew {its : List Value} {t' : Nat} (I : Inv X pins σ H s) (hv : Vals ys its) (hz : ys.length ≤ sizeLine) :
    Inv X pins σ (upd H s.heap.objs.size (.lst ys)) { s with heap := s.heap.push { cls := .type "list", data := .seq its.toArray }, toks := t' } :=
  I.laid (fun _ _ q => Heap.get?_push_of_some _ q) (Nat.le_refl _) ⟨hz, its, 0, hv, Heap.get?_push_size _ rfl⟩
theorem Inv.fresh (I : Inv X pins σ H s) : H s.heap.objs.size = none := I.hok.fresh (Nat.le_refl _)
theorem Inv.lstM (I : Inv X pins σ H s) (hH : H l = some (.lst xs)) : xs.length ≤ sizeLine ∧ ∃ (its : List Value) (n : Nat), Vals xs its ∧ xs.length = its.length ∧ s.heap.get? l = some { cls := .type "list", data := .seq its.toArray n } := by
  obtain ⟨z, its, n, r, e⟩ := I.hok l _ hH
  exact ⟨z, its, n, r, r.length, e⟩

theorem notLongL {n : Nat} (h : n ≤ sizeLine) : Builtin.List.listTooLong n = false := by
  unfold Builtin.List.listTooLong
  exact decide_eq_false (by omega)
end

section
variable {X : Cx}

/-! ### methods -/
inductive XAppend (x : V) (vs : List V) (H : Hp) (Q : VK) : Prop where
  | mk (l : Addr) (xs : List V) (y : V) (e : x = .ref l) (f : vs = [y]) (h : H l = some (.lst xs)) (n : xs.length < sizeLine) (q : Q .non (upd H l (.lst (xs ++ [y])))) : XAppend x vs H Q
noncomputable def rAppend : V → List V → Hp → VK → Prop := fun x vs H Q => XAppend x vs H Q
theorem mt_append : MtM X "list.append" rAppend := by
  intro pins s σ H x vs v us Q I rx rv h
  obtain ⟨l, xs, y, rfl, rfl, hH, hz, q⟩ := h
  cases rx
  obtain ⟨u, rfl, ru⟩ := rv.one
  obtain ⟨z, its, n, r, hl, e⟩ := I.lstM hH
  refine call_meets F.slot_list_append ⟨_, e, rfl⟩ F.entry_list_append (F.args_list_append_2 _ _) (PySem.list_append l its.toArray n u (by rw [List.size_toArray]; omega)) ⟨e, ?_⟩
  refine ⟨.non, _, I.lset (its' := its ++ [u]) hH e (by simp) (r.append (.cons ru .nil)) ?_, rfl, q⟩
  rw [List.length_append, List.length_singleton]
  omega

noncomputable def rExtend : V → List V → Hp → VK → Prop := fun x vs H Q => ∃ l b xs zs, x = .ref l ∧ vs = [.ref b] ∧ H l = some (.lst xs) ∧ H b = some (.lst zs) ∧ xs.length + zs.length ≤ sizeLine ∧ Q .non (upd H l (.lst (xs ++ zs)))
theorem mt_extend : MtM X "list.extend" rExtend := by
  intro pins s σ H x vs v us Q I rx rv h
  obtain ⟨l, b, xs, zs, rfl, rfl, hH, hB, hz, q⟩ := h
  cases rx
  obtain ⟨u, rfl, ru⟩ := rv.one
  cases ru
  obtain ⟨z, its, n, r, hl, e⟩ := I.lstM hH
  obtain ⟨z2, its2, n2, r2, hl2, e2⟩ := I.lstM hB
  have hsz : its.toArray.size + its2.toArray.size ≤ sizeLine := by rw [List.size_toArray, List.size_toArray]; omega
  have hlong : ¬ (!its.toArray.isEmpty && Builtin.List.listTooLong (its.toArray.size + its2.toArray.size)) = true := by
    rw [notLongL hsz, Bool.and_false]
    exact Bool.false_ne_true
  refine call_meets F.slot_list_extend ⟨_, e, rfl⟩ F.entry_list_extend (F.args_list_extend_2 _ _)
    (AutoSeq1.list_extend_list_list_0 l its.toArray n b its2.toArray n2 hlong (by rw [List.size_toArray]; omega) (by omega)) ⟨e, e2, ?_⟩
  refine ⟨.non, _, I.lset (its' := its ++ its2) hH e (by simp) (r.append r2) ?_, rfl, q⟩
  rw [List.length_append]
  omega





/-! ### list + list, list += list, list * int -/
noncomputable def rCat : R2 := fun x y H Q => ∃ l b xs zs, x = .ref l ∧ y = .ref b ∧ H l = some (.lst xs) ∧ H b = some (.lst zs) ∧ xs.length + zs.length ≤ sizeLine ∧ ∀ p, H p = none → Q (.ref p) (upd H p (.lst (xs ++ zs)))
theorem op_cat : OpR X (binaryOp .Add) rCat := by
  intro pins s σ H x y v u Q I rx ry h
  obtain ⟨l, b, xs, zs, rfl, rfl, hH, hB, hz, q⟩ := h
  cases rx
  cases ry
  obtain ⟨z, its, n, r, hl, e⟩ := I.lstM hH
  obtain ⟨z2, its2, n2, r2, hl2, e2⟩ := I.lstM hB
  refine PySem.P.add_list e e2 ?_ (by rw [List.size_toArray, List.size_toArray]; omega)
  have ea : its.toArray ++ its2.toArray = (its ++ its2).toArray := by simp
  rw [ea]
  exact ⟨.ref _, _, I.lnew (t' := s.toks) (r.append r2) (by rw [List.length_append]; omega), rfl, q _ I.fresh⟩

/-! ### del xs[i] -/
end

/-! ### xs[a:b] = ys -/
section
variable {prog : Program} {w : World} {A : Around} {E : Value → Shared → Prop} {s : Shared}
set_option maxRecDepth 100000 in
end

section
variable {X : Cx}
end
end L2

namespace Att
open PySem PySem.W PySem.Calls PyProof.Rows

/-! ### the script -/
theorem ints_of_wellAll {P : Params} {h : Heap} : ∀ (ns : List Int) (vs : List Value), WellAll P h vs (ns.map WData.int) → IntsAre vs ns := by
  intro ns
  induction ns with
  | nil =>
    intro vs w
    rw [List.map_nil] at w
    cases w
    exact .nil
  | cons n ns ih =>
    intro vs w
    rw [List.map_cons] at w
    cases w with
    | cons a b =>
      cases a
      exact .cons _ _ (ih _ b)

theorem script_of {l : OpenLaw} {n : Nat} (hn : l.most = some n) {P : Params} {h : Heap} {args : List WData} {vals : List Value}
    (hpre : l.row.toRowW.claim.pre args = true) (hwl : WellAll P h vals args) :
    ∃ a vs ns, vals = [Value.ref a] ∧ args = [WData.list (ns.map WData.int)] ∧ h.get? a = some { cls := .type "list", data := .seq vs.toArray } ∧ IntsAre vs ns ∧ ns.length ≤ n := by
  have hsh : WShape.hasAll [] args [.list .int] = true := (pre_splitW hpre).1
  have hc : l.pre.holds [] { args := args } = true := (pre_splitW hpre).2
  obtain ⟨d, r, rfl, h1, h2⟩ := hasAllW_cons hsh
  obtain rfl := hasAllW_nil h2
  obtain ⟨xs, rfl, h3⟩ := hasW_list h1
  obtain ⟨ns, rfl⟩ := items_int h3
  have hlen : ns.length ≤ n := by
    unfold OpenLaw.pre at hc
    have h4 : (WTm.not (.lt (.lit (.int (n : Int))) (.len (.arg 0)))).holds [] { args := [.list (ns.map .int)] } = true := by
      have h4 := (holds_andW hc).1
      rw [hn] at h4
      exact h4
    have h5 := condW_of h4 (w_not (w_lt w_lit (w_len_list (w_arg rfl))))
    rw [List.length_map] at h5
    refine Nat.le_of_not_lt fun q => ?_
    have q' : (n : Int) < ((ns.length : Nat) : Int) := by omega
    first
      | (rw [decide_eq_true q'] at h5; exact absurd h5 (by decide))
      | (simp at h5; omega)
  cases hwl with
  | cons w1 w2 =>
    cases w2
    cases w1 with
    | list ho hall => exact ⟨_, _, ns, rfl, rfl, ho, ints_of_wellAll ns _ hall, hlen⟩

theorem post_true (l : OpenLaw) (args : List WData) : l.row.toRowW.claim.post args (.bool true) args = true :=
  postW_of (r := l.row.toRowW) (X := (true == true))
    (show WShape.has [] (.bool true) .bool = true by first | rfl | decide | simp [WShape.has, WShape.arms, WShape.armsAll])
    (show (WTm.eq .res (.lit (.bool true))).value [] { args := args, res := some (.bool true), after := args } = some (.bool (true == true)) from w_eq_bool (w_res rfl) w_lit) rfl

/-! ### the attachment: holds_open's last premise (the goal 'hc' behind k_head) from a wpAny of the law's body -/



/-! ### rules over ANY heap (no ledger) from facts about the written part K: the library's own take a ledger (News) for what they write -/
section
variable {prog : Program} {w : World} {A : Around} {E : Value → Shared → Prop} {s : Shared} {K : Frag}





/-! the whole heap as the ledger: makes every rule that writes through a ledger a rule over any heap -/

end
end Att

namespace L2
open PySem PySem.Spec PyProof.Rows

theorem vals_ints : ∀ {vs : List Value} {ns : List Int}, IntsAre vs ns → Vals (ns.map V.int) vs
  | _, _, .nil => .nil
  | _, _, .cons n t h => .cons ⟨t, rfl⟩ (vals_ints h)

/-- nothing is tracked but the script, known to the object (or it is an object of the module) -/
noncomputable def Only (H : Hp) : Prop := ∀ b, H b = none ∨ ∃ o xs, H b = some (.frz o (.lst xs))

/-- THE HEAD: the law's promise, at the heap behind the top. F, the promise of the law's def, may use that base is part of the heap (so K.In base, base.Ns mainGlobals mg stand in Mod) -/
theorem law_call {P : Program} {w : World} {K : PySem.W.Frag} {mg mb : Str → Option Value} {CX : CXT} {k : Nat} {fa a : Addr} {fd : FuncData} {x : Str} {sp : Sp} {s₁ : Shared} {vs : List Value} {ns : List Int}
    (KX : K.In s₁.heap) (hns : s₁.heap.Ns mainGlobals mg) (hb : s₁.heap.Ns builtinsNs mb) (hbb : ∀ x : Str, x ≠ "__name__" → mb x = bootBuiltins x) (hlim : s₁.heap.NoLimit) (hg : s₁.gens = #[])
    (ha : s₁.heap.get? a = some { cls := .type "list", data := .seq vs.toArray }) (hi : IntsAre vs ns) (hl : ns.length ≤ sizeLine) (hr : Room k callerA)
    (F : ∀ base : Heap, K.In base → base.Ns mainGlobals mg → FnOk P w K mg base CX k fa fd [x] sp) (hbind : ∀ (s : Shared) (u : Value), BindsTo s fd ⟨[u], []⟩ [(x, u)])
    (hsp : ∀ H : Hp, Only H → SqL K H a (ns.map V.int) → sp [.ref a] H (fun v _ => v = .bl true) fun _ _ _ => False)
    (hCX : ∀ H e s', CX [] H s₁ (fun _ _ _ => False) e s' → False) :
    codeAny (model P w) callerA (.call (.ref fa) ⟨[.ref a], []⟩) (fun r s' => r = .ok (.ret (.bool true)) ∧ OldK s₁.heap s'.heap ∧ s'.os = s₁.os ∧ AllBare s'.gens) s₁ := by
  have rv := vals_ints hi
  have lenV := hi.length
  -- from an abstract heap in which nothing but the script may be tracked
  have core : ∀ H : Hp, Only H → SqL K H a (ns.map V.int) → HOk P w H s₁.heap → (∀ b, H b ≠ none → b = a) → (H a ≠ none → K.lookup a = none) →
      codeAny (model P w) callerA (.call (.ref fa) ⟨[.ref a], []⟩) (fun r s' => r = .ok (.ret (.bool true)) ∧ OldK s₁.heap s'.heap ∧ s'.os = s₁.os ∧ AllBare s'.gens) s₁ := by
    intro H hO hS hok hA hK
    have base_of : ∀ {b : Addr} {o : Obj}, s₁.heap.get? b = some o → H b = none → (hidT s₁.heap H).get? b = some o := fun e n => hidT_get e n
    have noA : ∀ {b : Addr} {o : Obj} {es : Array DictEntry} {ep : Nat}, s₁.heap.get? b = some o → o.data = .dict es ep → H b = none := fun {b o es ep} e d => by
      cases q : H b with
      | none => rfl
      | some u =>
        have e' : b = a := hA b (by rw [q]; simp)
        subst e'
        rw [ha] at e; cases e
        have d' : Data.seq vs.toArray _ = Data.dict es ep := d
        cases d'
    have nsK : ∀ {b : Addr} {m : Str → Option Value}, s₁.heap.Ns b m → (hidT s₁.heap H).Ns b m := fun {b m} ⟨o, es, ep, e, d, r⟩ => ⟨o, es, ep, base_of e (noA e d), d, r⟩
    have hKb : K.In (hidT s₁.heap H) := fun b o e => base_of (KX b o e) (by
      cases q : H b with
      | none => rfl
      | some u =>
        have e' : b = a := hA b (by rw [q]; simp)
        subst e'
        rw [hK (by rw [q]; simp)] at e; cases e)
    have hM : Mod K mg (hidT s₁.heap H) := ⟨hKb, nsK hns, ⟨mb, nsK hb, hbb⟩, let ⟨mc, h1, h2⟩ := hlim; ⟨mc, nsK h1, h2⟩⟩
    have e0 : Env0 P w K mg (hidT s₁.heap H) callerA [] s₁ H := ⟨rfl, hM, fun b o e => of_hidT e, Nat.le_of_eq (hidT_size _ _), trivial, fun b hb => absurd (show b ∈ ([] : List Addr) from hb) (by simp), hok, .of_eq hg⟩
    refine codeAny_mono ((F _ hKb (nsK hns)).run callerA [] s₁ H ⟨[.ref a], []⟩ [.ref a] [.ref a] _ _ hr e0 (hbind s₁ (.ref a)) (.cons rfl .nil) (hsp H hO hS)) fun r s' h => ?_
    cases r with
    | error e => exact (hCX H e s' h).elim
    | ok fl =>
      cases fl with
      | next => exact False.elim h
      | brk => exact False.elim h
      | cont => exact False.elim h
      | ret u =>
        obtain ⟨v, H', os, bare, un, hok', r', q⟩ := h
        have q' : v = .bl true := q
        subst q'
        obtain rfl : u = Value.bool true := r'
        refine ⟨rfl, OldK.of_keep fun b o e => ?_, os, bare⟩
        cases q : H b with
        | none => exact un.keep b o e q (by intro z; exact absurd (show b ∈ ([] : List Addr) from z) (by simp)) (by simp)
        | some u =>
          rcases hO b with z | ⟨ob, xs, z⟩
          · rw [q] at z; cases z
          · have z2 := un.frzs b ob _ z
            obtain ⟨e1, _⟩ := hok b _ z
            obtain ⟨e2, _⟩ := hok' b _ z2
            rw [e] at e1; cases e1
            exact e2
  cases hk : K.lookup a with
  | some o =>
    -- the script is one of the module's own objects
    have e := KX a o hk
    rw [ha] at e
    cases e
    refine core (fun _ => none) (fun _ => .inl rfl) (.inr ⟨_, vs.toArray, _, hk, rfl, rfl, rfl, by rw [List.size_toArray, lenV]; exact hl, by simpa using rv⟩) (fun b u z => by have z' : (none : Option HO) = some u := z; cases z') (fun b z => absurd rfl z) fun z => absurd rfl z
  | none =>
    refine core (fun b => if b = a then some (.frz { cls := .type "list", data := .seq vs.toArray } (.lst (ns.map V.int))) else none) (fun b => ?_) (.inl (.inr ⟨{ cls := .type "list", data := .seq vs.toArray }, if_pos rfl⟩)) (fun b u z => ?_) (fun b z => ?_) fun _ => hk
    · by_cases hb : b = a
      · exact .inr ⟨_, _, if_pos hb⟩
      · exact .inl (if_neg hb)
    · by_cases hb : b = a
      · have z' := (if_pos hb).symm.trans z
        cases z'
        subst hb
        exact ⟨ha, by rw [List.length_map]; exact hl, vs, _, rv, ha⟩
      · have z' := (if_neg hb).symm.trans z
        cases z'
    · by_cases hb : b = a
      · exact hb
      · exact absurd (if_neg hb) z
end L2

namespace L2
open PySem PySem.Spec PyProof.Rows

noncomputable abbrev KOf {K : PySem.W.Frag} {h : Heap} (_ : K.In h) : PySem.W.Frag := K

end L2

/- THE LAST THEOREM (shape; LID, My.* are yours):
   My.Adr: a structure of the addresses that your layer names (classes, functions); My.Txt K t: a structure (Prop) of the equations over K;
   My.txt_mk : {K} {implicit addresses ..} (e1 : nsIn K mainGlobals "law" = some (some (.ref f))) (e2 : K.lookup f = some ⟨oc, od, .func (fnOf "law" "law" params body scope dV kV doc pm an cdv ct), sl⟩) (e3 : codeIn K cdv "law" = true) .. : ∃ t, My.Txt K t

set_option maxRecDepth 100000 in
set_option maxHeartbeats 0 in
theorem PySem.Challenge.cw_LID_holds : PySem.Challenge.rw_LID.Holds := by
  w_on; o_law; k_head; (case hw => w_witness2)
  k_fill
  refine L2.walk_of (l := PySem.Challenge.rw_LID) (n := 63) (k := 40) (x := "script") (CX := fun w => ..) (sp := fun _ => My.sp_law) rfl (by decide) rfl ⟨rfl, by decide, by decide⟩ (fun w h Y => PySem.W.kIn_of Y) ?F ?S ?C
  case F =>
    intro w mg fa h KX G hmg
    have T : ∃ t, My.Txt (L2.KOf KX) t := by
      dsimp only [L2.KOf]                          -- K must stand as «<heap const> w.params» for k_is
      refine' My.txt_mk ?e1 ?e2 ?e3 ..
      (case e1 => PySem.W.k_is)                    -- in the order: a name -> its address -> its object -> its parts
      (case e2 => PySem.W.k_is)
      ..
    obtain ⟨t, T⟩ := T
    have e0 := hmg.symm.trans (PySem.W.mg_of KX G T.law)
    cases e0                                       -- fa is the law's own address
    exact ⟨_, fun s u => .of_eq rfl, fun base kb nb => My.law_fn T kb nb⟩     -- if «.of_eq rfl» comes too early: refine' ⟨_, ?b, fun base kb nb => My.law_fn T kb nb⟩; exact fun s u => .of_eq rfl
  case S => exact fun w H a ns hl hO hS => ..
  case C => exact ..
(the tactic k_is has no namespace: write k_is) -/

/-! SHORT WORDS over the layer: a def of the text, its body, what a loop and a test want. -/
namespace L2
open PySem PySem.Spec PyProof.Rows

/-! ### the text by places -/
/-- the j-th statement of a class's body -/
noncomputable def inClass (s : Stmt) (j : Nat) : Stmt := match s with
  | .ClassDef _ _ _ body _ _ _ _ _ _ _ => body.getD j (.Pass ⟨0, 0, 0, 0⟩)
  | _ => .Pass ⟨0, 0, 0, 0⟩
noncomputable def defArgs (s : Stmt) : Arguments := match s with
  | .FunctionDef _ a _ _ _ _ _ _ _ _ => a
  | _ => { posonlyargs := [], args := [], vararg := none, kwonlyargs := [], kw_defaults := [], kwarg := none, defaults := [] }
noncomputable def defBody (s : Stmt) : List Stmt := match s with
  | .FunctionDef _ _ b _ _ _ _ _ _ _ => b
  | _ => []
noncomputable def defScope (s : Stmt) : Scope := match s with
  | .FunctionDef _ _ _ _ _ _ sc _ _ _ => sc
  | _ => { kind := .function, names := [], isGenerator := false, isCoroutine := false }

/-! ### no exception leaves a def -/
noncomputable abbrev CX0 : CXT := fun _ _ _ _ _ _ => False
noncomputable abbrev E0 : XK := fun _ _ _ => False
theorem pass0 {X : Cx} : Passes CX0 X E0 := fun _ _ _ _ _ _ _ h => h.elim

/-! ### a def (or method) of the text as it stands behind the top -/
structure Fun (K : PySem.W.Frag) (x qual : Str) (st : Stmt) (f : Addr) (fd : FuncData) : Prop where
  ex : ∃ (oc : Value) (od : Option Addr) (kV doc pm : Value) (an : Option Addr) (cdv ct : Value) (osl : Array (Option Value)),
    fd = PySem.W.fnOf x qual (defArgs st) (defBody st) (defScope st) .none kV doc pm an cdv ct ∧ K.lookup f = some ⟨oc, od, .func fd, osl⟩ ∧ PySem.W.codeIn K cdv qual = true
  kp : PySem.W.keepIn K (.ref f) = true
section
variable {P : Program} {w : World} {K : PySem.W.Frag} {mg : Str → Option Value} {base : Heap}
/-- THE RULE for a def: its body as a term of rules, and the reading of that term -/
theorem Fun.ok {x qual : Str} {st : Stmt} {f : Addr} {fd : FuncData} {N ps : List Str} {k : Nat} {sp : Sp} (F : Fun K x qual st f fd) (S : FnScope N ps (defScope st)) (len : ∀ vs H Q E, sp vs H Q E → vs.length = ps.length)
    (hbody : ∀ (cdv : Value) (A : Around) (outer : List Env) (s : Shared) (H : Hp) (vs : List V) (Q : VK) (E : XK), Room k (A.deeper (envOfC qual (defScope st) s.heap.objs.size f cdv)) → sp vs H Q E →
      ∃ t, PSs (cxOf CX0 P w K mg base N qual (defScope st) f cdv A outer s H E).nox (defBody st) t ∧ t { nx := fun _ H' => Q .non H', rt := Q } (start N vs) H) : FnOk P w K mg base CX0 (k + 1) f fd ps sp := by
  obtain ⟨oc, od, kV, doc, pm, an, cdv, ct, osl, rfl, lk, hcd⟩ := F.ex
  refine fn_of lk hcd S len fun A outer s H vs Q E hr hsp => ?_
  obtain ⟨t, h, q⟩ := hbody cdv A outer s H vs Q E hr hsp
  exact ⟨t, h.nox, q⟩
/-- how its arguments bind (no defaults): h is «fun _ _ _ _ _ _ us hl => match us, hl with | [_, _], _ => rfl», one _ a parameter -/
theorem Fun.binds {x qual : Str} {st : Stmt} {f : Addr} {fd : FuncData} {ps : List Str} (F : Fun K x qual st f fd)
    (h : ∀ (kV doc pm : Value) (an : Option Addr) (cdv ct : Value) (us : List Value), us.length = ps.length → bindArgs (PySem.W.fnOf x qual (defArgs st) (defBody st) (defScope st) .none kV doc pm an cdv ct) ⟨us, []⟩ = pure (ps.zip us)) : Binds K fd ps [] := by
  obtain ⟨oc, od, kV, doc, pm, an, cdv, ct, osl, rfl, lk, hcd⟩ := F.ex
  exact .all (h kV doc pm an cdv ct)
theorem fun_mk {x qual : Str} {st : Stmt} {f : Addr} {oc : Value} {od an : Option Addr} {osl : Array (Option Value)} {kV doc pm cdv ct : Value} (l : K.lookup f = some ⟨oc, od, .func (PySem.W.fnOf x qual (defArgs st) (defBody st) (defScope st) .none kV doc pm an cdv ct), osl⟩)
    (c : PySem.W.codeIn K cdv qual = true) (k : PySem.W.keepIn K (.ref f) = true) : Fun K x qual st f (PySem.W.fnOf x qual (defArgs st) (defBody st) (defScope st) .none kV doc pm an cdv ct) := ⟨⟨oc, od, kV, doc, pm, an, cdv, ct, osl, rfl, l, c⟩, k⟩
end
theorem hu_of {A : Around} {k : Nat} (hr : Room k A) : A.units + 1 < cLine := Nat.lt_of_le_of_lt (Nat.add_le_add_left (by decide : 1 ≤ 64) _) hr.units
theorem small1000 {n : Nat} (h : n ≤ 1000) : n < sizeLine := Nat.lt_of_le_of_lt h (by decide)

/-! ### expressions in short: the name that stands in the i-th slot -/
section
variable {X : Cx}
theorem pv (i : Nat) {x : Str} {pos : Pos} (hN : X.N[i]? = some x := by rfl) (hv : Vis X.env.scope x := by first | exact Or.inl rfl | exact Or.inr (Or.inl rfl) | exact Or.inr (Or.inr rfl)) (hd : (x == ("__debug__" : Str)) = false := by decide)
    (hcd : (x == ("__classdict__" : Str)) = false := by decide) : PE X (.Name x pos) (tVar i) := pe_var hN hv hd hcd
end

/-! ### tests -/
theorem iteF {A B : Prop} (h : B) : if false = true then A else B := by
  rw [if_neg Bool.false_ne_true]
  exact h
theorem iteT {A B : Prop} (h : A) : if true = true then A else B := by
  rw [if_pos rfl]
  exact h
theorem ite2 {c A B : Prop} [Decidable c] (h1 : c → A) (h2 : ¬ c → B) : if c then A else B := by
  by_cases h : c
  · rw [if_pos h]
    exact h1 h
  · rw [if_neg h]
    exact h2 h
theorem iteNS {c A B : Prop} [Decidable c] (hc : c) (h : B) : if (!decide c) = true then A else B := by
  rw [decide_eq_true hc]
  exact iteF h

/-! ### heaps -/
/-- all that was tracked is as it was -/
noncomputable def Same (H H' : Hp) : Prop := ∀ b o, H b = some o → H' b = some o
theorem Same.refl (H : Hp) : Same H H := fun _ _ h => h
theorem Same.trans {H H1 H2 : Hp} (a : Same H H1) (b : Same H1 H2) : Same H H2 := fun c o h => b c o (a c o h)
theorem Same.free {H H' : Hp} (e : Same H H') {l : Addr} (h : H' l = Option.none) : H l = Option.none := by
  cases q : H l with
  | none => rfl
  | some o =>
    rw [e l o q] at h
    cases h

end L2

set_option Elab.async false
set_option linter.all false
set_option maxRecDepth 100000
set_option maxHeartbeats 4000000
namespace L2
open PySem PySem.Spec PyProof.Rows

/-! ### lists of pairs as tables -/
section
variable {κ : Type} [DecidableEq κ]
noncomputable def valV (kvs : List (κ × V)) (k : κ) : Option V := (kvs.find? fun kv => decide (kv.1 = k)).map (·.2)
/-- in its place, or at the end -/
noncomputable def putK (kvs : List (κ × V)) (k : κ) (v : V) : List (κ × V) :=
  if (kvs.any fun kv => decide (kv.1 = k)) = true then kvs.map (fun kv => if kv.1 = k then (kv.1, v) else kv) else kvs ++ [(k, v)]

theorem valV_pos {p : κ × V} {r : List (κ × V)} {k : κ} (e : p.1 = k) : valV (p :: r) k = some p.2 := by simp [valV, List.find?_cons, e]
theorem valV_neg {p : κ × V} {r : List (κ × V)} {k : κ} (e : ¬ p.1 = k) : valV (p :: r) k = valV r k := by simp [valV, List.find?_cons, e]
theorem length_putK (kvs : List (κ × V)) (k : κ) (v : V) : (putK kvs k v).length ≤ kvs.length + 1 := by
  unfold putK
  split
  · rw [List.length_map]; omega
  · rw [List.length_append, List.length_cons, List.length_nil]; omega


/-- raw tables of the same keys -/
theorem KV.val {kvs : List (κ × V)} {vs : List (κ × Value)} (r : KV kvs vs) (k : κ) : RelO (valV kvs k) (valueAt vs k) := by
  unfold KV at r
  induction r with
  | nil => exact True.intro
  | @cons p q ps qs h t ih =>
    obtain ⟨h1, h2⟩ := h
    by_cases e : p.1 = k
    · have e' : q.1 = k := h1.symm.trans e
      have b : valueAt (q :: qs) k = some q.2 := by simp [valueAt, List.find?_cons, e']
      rw [valV_pos e, b]; exact h2
    · have e' : ¬ q.1 = k := fun z => e (h1.trans z)
      have b : valueAt (q :: qs) k = valueAt qs k := by simp [valueAt, List.find?_cons, e']
      rw [valV_neg e, b]; exact ih
theorem KV.any {kvs : List (κ × V)} {vs : List (κ × Value)} (r : KV kvs vs) (k : κ) : (kvs.any fun kv => decide (kv.1 = k)) = vs.any fun kv => decide (kv.1 = k) := by
  unfold KV at r
  induction r with
  | nil => rfl
  | cons h t ih => rw [List.any_cons, List.any_cons, ih, h.1]
theorem KV.repl {kvs : List (κ × V)} {vs : List (κ × Value)} (r : KV kvs vs) (k : κ) {y : V} {u : Value} (ry : RelV y u) :
    KV (kvs.map fun kv => if kv.1 = k then (kv.1, y) else kv) (vs.map fun kv => if kv.1 = k then (kv.1, u) else kv) := by
  unfold KV at r ⊢
  induction r with
  | nil => exact .nil
  | @cons p q ps qs h t ih =>
    rw [List.map_cons, List.map_cons]
    refine .cons ?_ ih
    obtain ⟨h1, h2⟩ := h
    by_cases e : p.1 = k
    · rw [if_pos e, if_pos (h1.symm.trans e)]; exact ⟨h1, ry⟩
    · rw [if_neg e, if_neg (fun z => e (h1.trans z))]; exact ⟨h1, h2⟩
theorem KV.put {kvs : List (κ × V)} {vs : List (κ × Value)} (r : KV kvs vs) (k : κ) {y : V} {u : Value} (ry : RelV y u) : KV (putK kvs k y) (stored vs k u) := by
  unfold putK stored
  rw [r.any k]
  by_cases e : (vs.any fun kv => decide (kv.1 = k)) = true
  · rw [if_pos e, if_pos e]; exact r.repl k ry
  · rw [if_neg e, if_neg e]; exact Paired.snoc r ⟨rfl, ry⟩
end


/-! ### a tracked dict, its keys ints and texts or tuples of these -/
theorem kV_is {P : Program} {w : World} {k : Key} {u : Value} (r : RelV (kV k) u) : (mixKind P w).is k u = true := by
  cases k with
  | inl i => obtain ⟨t, e⟩ := (show ∃ t, u = Value.int i t from r); subst e; exact mixKind_int P w i t
  | inr x => obtain ⟨t, e⟩ := (show ∃ t, u = Value.str x t from r); subst e; exact mixKind_str P w x t
theorem items_are {P : Program} {w : World} : ∀ {ks : List Key} {us : List Value}, Vals (ks.map kV) us → ItemsAre (mixKind P w) ks us
  | [], _, r => by rw [List.map_nil] at r; cases r; exact .nil
  | k :: ks, _, r => by
    rw [List.map_cons] at r
    cases r with
    | cons h t => exact .cons (kV_is h) (items_are t)

/-- raw entries of a dict with tuple keys -/
noncomputable abbrev KT (H : Hp) : List (List Key × V) → List (List Key × Addr × Value) → Prop := Paired fun p q => p.1 = q.1 ∧ H q.2.1 = some (.tup (p.1.map kV)) ∧ RelV p.2 q.2.2
theorem KT.val {H : Hp} {kvs : List (List Key × V)} {xs : List (List Key × Addr × Value)} (r : KT H kvs xs) (k : List Key) : RelO (valV kvs k) ((atKey xs k).map (·.2)) := by
  induction r with
  | nil => exact True.intro
  | @cons p q ps qs h t ih =>
    obtain ⟨h1, _, h2⟩ := h
    by_cases e : p.1 = k
    · have e' : q.1 = k := h1.symm.trans e
      have b : atKey (q :: qs) k = some q.2 := by simp [atKey, List.find?_cons, e']
      rw [valV_pos e, b]; exact h2
    · have e' : ¬ q.1 = k := fun z => e (h1.trans z)
      have b : atKey (q :: qs) k = atKey qs k := by simp [atKey, List.find?_cons, e']
      rw [valV_neg e, b]; exact ih

section
variable {P : Program} {w : World} {H : Hp} {h : Heap} {a : Addr}
theorem rd_of {u : HO} (ok : HOk P w H h) (e : Rd H a u) : ObjOk P w H h a u := e.ok ok
theorem dk_rd {kvs : List (Key × V)} (ok : HOk P w H h) (e : Rd H a (.dK kvs)) : kvs.length ≤ sizeLine ∧ (a == sysModules) = false ∧ ∃ vs, KV kvs vs ∧ h.DictOf (mixKind P w) a vs :=
  show ObjOk P w H h a (.dK kvs) from rd_of ok e
theorem dk_of {kvs : List (Key × V)} (ok : HOk P w H h) (e : H a = some (.dK kvs)) : kvs.length ≤ sizeLine ∧ (a == sysModules) = false ∧ ∃ vs, KV kvs vs ∧ h.DictOf (mixKind P w) a vs := dk_rd ok (.inl e)
/-- a tracked tuple of ints and texts is a key -/
theorem key_of {ks : List Key} (ok : HOk P w H h) (e : H a = some (.tup (ks.map kV))) : (tupleKind (mixKind P w)).is h ks a := by
  obtain ⟨_, its, r, o, h1, h2, n, h3⟩ := (show ObjOk P w H h a (.tup (ks.map kV)) from ok a _ e)
  exact ⟨o, its.toArray, n, h1, h2, h3, by simpa using items_are r⟩
theorem dt_rd {kvs : List (List Key × V)} (ok : HOk P w H h) (e : Rd H a (.dT kvs)) : kvs.length ≤ sizeLine ∧ (a == sysModules) = false ∧
    ∃ xs, KT H kvs xs ∧ h.DictOfH (tupleKind (mixKind P w)) a xs := by
  obtain ⟨z, y, xs, r, o, es, ep, h1, h2, h3, h4, h5⟩ := (show ObjOk P w H h a (.dT kvs) from rd_of ok e)
  refine ⟨z, y, xs, r, o, es, ep, h1, h2, h3, h4, fun x hx => ?_, h5⟩
  have all : ∀ {l : List (List Key × V)} {m : List (List Key × Addr × Value)}, KT H l m → ∀ x ∈ m, (tupleKind (mixKind P w)).is h x.1 x.2.1 := by
    intro l m q
    induction q with
    | nil => intro x hx; exact nomatch hx
    | @cons p q ps qs hq t ih =>
      intro x hx
      rcases List.mem_cons.mp hx with e | hx
      · subst e
        exact key_of ok (by rw [← hq.1]; exact hq.2.1)
      · exact ih x hx
  exact all r x hx
end

/-- what the dict at a holds at the key y -/
noncomputable def DGet (H : Hp) (a : Addr) (y : V) (r : Option V) : Prop :=
  (∃ kvs k, Rd H a (.dK kvs) ∧ y = kV k ∧ r = valV kvs k) ∨ ∃ kvs k b, Rd H a (.dT kvs) ∧ y = .ref b ∧ H b = some (.tup (k.map kV)) ∧ r = valV kvs k
theorem DGet.k {H : Hp} {a : Addr} {kvs : List (Key × V)} {k : Key} (e : H a = some (.dK kvs)) : DGet H a (kV k) (valV kvs k) := .inl ⟨kvs, k, .inl e, rfl, rfl⟩


section
variable {X : Cx} {pins : List (Addr × Obj)} {σ : St} {H : Hp} {s : Shared} {a : Addr} {y v : V} {u r : Value} {o : Option V} {A : Around} {E : Value → Shared → Prop}

theorem Inv.big (I : Inv X pins σ H s) : sysModules < s.heap.objs.size := by
  have h : mainGlobals < s.heap.objs.size := (I.mod.glob.keeps I.bk).lt
  exact Nat.lt_trans (by decide) h

/-- d[y], there -/
theorem d_getItem {Q : Value → Shared → Prop} (hu : A.units + 1 < cLine) (I : Inv X pins σ H s) (g : DGet H a y (some v)) (ry : RelV y u) (h : ∀ w' s', Inv X pins σ H s' → RelV v w' → Q w' s') :
    wpAny (model X.prog X.w) A (getItem (.ref a) u) Q E s := by
  rcases g with ⟨kvs, k, e, ey, l⟩ | ⟨kvs, k, b, e, ey, eb, l⟩
  · subst ey
    obtain ⟨z, hd, vs, rel, dd⟩ := dk_rd I.hok e
    obtain ⟨w', hw, rw'⟩ := RelO.some_of (v := v) (o := valueAt vs k) (by rw [l]; exact rel.val k)
    exact wpAny_getItem_of (kV_is ry) dd.mapOf hw (h w' _ (I.tok _) rw')
  · subst ey
    cases (show u = Value.ref b from ry)
    obtain ⟨z, hd, xs, rel, dd⟩ := dt_rd I.hok e
    obtain ⟨w', hw, rw'⟩ := RelO.some_of (v := v) (o := (atKey xs k).map (·.2)) (by rw [l]; exact rel.val k)
    obtain ⟨p, hp, hp2⟩ := Option.map_eq_some_iff.mp hw
    refine wpAny_getItem_heap (tupleKind_room_in1 hu) (key_of I.hok eb) dd hp ?_
    rw [hp2]
    exact h w' _ (I.tok _) rw'
/-- a dict's object is replaced -/
theorem d_write {h' : Heap} {t' : Nat} {ob : HO} (I : Inv X pins σ H s) (mu : Mut (H a)) (hs : Heap.SameBut a s.heap h') (he : ∃ q, h'.get? a = some q) (new : ObjOk X.prog X.w (upd H a ob) h' a ob) :
    Inv X pins σ (upd H a ob) { s with heap := h', toks := t' } :=
  I.write (x := a) (e := a) mu (.inl rfl) (fun b q hb z => (hs.2 b hb).trans z) he new
theorem dk_new {P : Program} {w : World} {H' : Hp} {h' : Heap} {kvs : List (Key × V)} {vs : List (Key × Value)} (z : kvs.length ≤ sizeLine) (hd : (a == sysModules) = false) (rel : KV kvs vs) (dd : h'.DictOf (mixKind P w) a vs) :
    ObjOk P w H' h' a (.dK kvs) := ⟨z, hd, vs, rel, dd⟩
end

section
variable {X : Cx} {pins : List (Addr × Obj)} {σ : St} {H : Hp} {s : Shared} {a : Addr} {kvs : List (Key × V)} {k : Key} {u : Value} {A : Around} {E : Value → Shared → Prop}
end


/-! ### readings and rules -/
/-- the element of a subscription, not a slice -/
noncomputable def NoSl (i : Expr) : Prop := ∀ ov iv, subscripted i false ov iv = operate [ov, iv] (getItem ov iv)
theorem subD_of {prog : Program} {w : World} {A : Around} {E : Value → Shared → Prop} {s : Shared} {env : Env} {value slice : Expr} {pos : Pos} {T id : String} {Q : Value → Shared → Prop}
    (hl : typeLookup (.type T) "__getitem__" = pure (some (.builtin id))) (hs : NoSl slice)
    (h : wpAny (model prog w) A (eval value env) (fun o s₁ => wpAny (model prog w) A (eval slice env) (fun i s₂ => s₂.TypeIs o T ∧ wpAny (model prog w) A (getItem o i) Q E s₂) E s₁) E s) :
    wpAny (model prog w) A (eval (.Subscript value slice pos) env) Q E s := by
  refine Subscript_ (wpAny_mono h (fun o s₁ h₁ => wpAny_mono h₁ (fun i s₂ h₂ => ?_) fun _ _ x => x) fun _ _ x => x)
  obtain ⟨hT, h₂⟩ := h₂
  unfold subscriptTail
  refine wpAny_bind ?_
  rw [getitemInPython_of_ne hT.not_modules]
  refine wpAny_bind (wpAny_specialOf hT hl ?_)
  have fin : wpAny (model prog w) A (subscripted slice false o i) (fun r s₃ => wpAny (model prog w) A (letTemporaryGo value o r >>= fun _ => pure r) Q E s₃) E s₂ := by
    rw [hs o i]
    exact wpAny_operating (wpAny_mono h₂ (fun r s₃ h₃ => wpAny_bind (wpAny_letTemporaryGo (wpAny_pure h₃))) fun _ _ x => x)
  first
    | exact wpAny_pure (wpAny_bind fin)
    | exact wpAny_bind (wpAny_pure (wpAny_bind fin))
    | exact wpAny_bind fin

theorem dict_typeIs {X : Cx} {pins : List (Addr × Obj)} {σ : St} {H : Hp} {s : Shared} {a : Addr} {y : V} {o : Option V} (I : Inv X pins σ H s) (g : DGet H a y o) : s.TypeIs (.ref a) "dict" := by
  rcases g with ⟨kvs, k, e, _, _⟩ | ⟨kvs, k, b, e, _, _, _⟩
  · obtain ⟨_, _, vs, _, dd⟩ := dk_rd I.hok e
    exact dd.typeIs
  · obtain ⟨_, _, xs, _, dd⟩ := dt_rd I.hok e
    exact dd.typeIs

/-- d[y] -/
noncomputable def tDGet (td ty : TE) : TE := fun σ H Q => td σ H fun x H1 => ty σ H1 fun y H2 => ∃ a v, x = .ref a ∧ DGet H2 a y (some v) ∧ Q v H2

section
variable {X : Cx} {o i e value : Expr} {pos pos' tpos : Pos} {td ty tv : TE}
theorem pe_dget (hu : X.A.units + 1 < cLine) (ho : PE X o td) (hi : PE X i ty) (hs : NoSl i) : PE X (.Subscript o i pos) (tDGet td ty) := by
  intro pins s σ H Q I h
  refine subD_of PySem.F.slot_dict_getitem.lookup hs (thn (ho pins s σ H _ I h) fun u s1 zz => ?_)
  obtain ⟨x, H1, I1, rx, q1⟩ := zz
  refine thn (hi pins s1 σ H1 _ I1 q1) fun iv s2 zz => ?_
  obtain ⟨y, H2, I2, ry, a, v, ex, g, q2⟩ := zz
  subst ex
  obtain rfl : u = Value.ref a := rx
  exact ⟨dict_typeIs I2 g, d_getItem hu I2 g ry fun w' s3 I3 rw' => ⟨v, H2, I3, rw', q2⟩⟩
end


/-! ### displays -/
theorem dk_empty {P : Program} {w : World} {H : Hp} (h : Heap) (hb : sysModules < h.objs.size) : ObjOk P w H (h.push { cls := .type "dict", data := .dict #[] }) h.objs.size (.dK []) :=
  ⟨Nat.zero_le _, beq_eq_false_iff_ne.mpr (Ne.symm (Nat.ne_of_lt hb)), [], .nil, Heap.DictOf.new h⟩
section
variable {X : Cx} {pos : Pos}
end

/-- the pairs of a display, from the left -/
noncomputable def tPairs : List (TE × TE) → St → Hp → (List (V × V) → Hp → Prop) → Prop
  | [], _, H, Q => Q [] H
  | (tk, tv) :: r, σ, H, Q => tk σ H fun x H1 => tv σ H1 fun y H2 => tPairs r σ H2 fun ps H3 => Q ((x, y) :: ps) H3
noncomputable abbrev VV : List (V × V) → List (Value × Value) → Prop := Paired fun p q => RelV p.1 q.1 ∧ RelV p.2 q.2
noncomputable def PPs (X : Cx) (pos : Pos) (keys : List (Option Expr)) (values : List Expr) (trs : List (TE × TE)) : Prop :=
  ∀ (pins : List (Addr × Obj)) (s : Shared) (σ : St) (H : Hp) (Q : List (V × V) → Hp → Prop), Inv X pins σ H s → tPairs trs σ H Q →
    wpAny (model X.prog X.w) X.A (evalPairs (pairTrees keys values X.env pos)) (fun vs s' => ∃ ps H', Inv X pins σ H' s' ∧ VV ps vs ∧ Q ps H') X.xe s
theorem pps_nil {X : Cx} {pos : Pos} : PPs X pos [] [] [] := fun pins s σ H Q I h => pairTrees_nil_walk ⟨[], H, I, .nil, h⟩
theorem pps_cons {X : Cx} {pos : Pos} {k v : Expr} {ks : List (Option Expr)} {vs : List Expr} {tk tv : TE} {trs : List (TE × TE)} (hk : PE X k tk) (hv : PE X v tv) (hr : PPs X pos ks vs trs) :
    PPs X pos (some k :: ks) (v :: vs) ((tk, tv) :: trs) := fun pins s σ H Q I h =>
  pairTrees_cons_walk (thn (hk pins s σ H _ I h) fun u s1 ⟨x, H1, I1, rx, q1⟩ => thn (hv pins s1 σ H1 _ I1 q1) fun w2 s2 ⟨y, H2, I2, ry, q2⟩ =>
    thn (hr pins s2 σ H2 _ I2 q2) fun ws s3 ⟨ps, H3, I3, rel, q3⟩ => ⟨(x, y) :: ps, H3, I3, .cons ⟨rx, ry⟩ rel, q3⟩)

noncomputable def mergeK (kvs more : List (Key × V)) : List (Key × V) := more.foldl (fun acc kv => putK acc kv.1 kv.2) kvs
theorem KV.merge : ∀ {more : List (Key × V)} {rs : List (Key × Value)} {kvs : List (Key × V)} {vs : List (Key × Value)}, KV more rs → KV kvs vs → KV (mergeK kvs more) (merged vs rs) := by
  intro more rs kvs vs r
  unfold KV at r
  induction r generalizing kvs vs with
  | nil => intro q; exact q
  | @cons p q ps qs h t ih =>
    intro r0
    have e : KV (putK kvs p.1 p.2) (stored vs q.1 q.2) := by
      have := r0.put p.1 h.2
      rw [← h.1]; exact this
    exact ih e
theorem length_mergeK : ∀ (more kvs : List (Key × V)), (mergeK kvs more).length ≤ kvs.length + more.length
  | [], kvs => by show kvs.length ≤ kvs.length + 0; omega
  | p :: r, kvs => by
    have h1 := length_mergeK r (putK kvs p.1 p.2)
    have h2 := length_putK kvs p.1 p.2
    show (mergeK (putK kvs p.1 p.2) r).length ≤ _
    rw [List.length_cons]; omega
theorem carries_of {P : Program} {w : World} : ∀ {kvs : List (Key × V)} {ws : List (Value × Value)}, VV (kvs.map fun kv => (kV kv.1, kv.2)) ws → ∃ rs, Carries (mixKind P w) ws rs ∧ KV kvs rs
  | [], _, r => by rw [List.map_nil] at r; cases r; exact ⟨[], True.intro, .nil⟩
  | p :: kvs, _, r => by
    rw [List.map_cons] at r
    cases r with
    | @cons a b as bs h t =>
      obtain ⟨rs, c, q⟩ := carries_of (P := P) (w := w) t
      obtain ⟨b1, b2⟩ := b
      exact ⟨(p.1, b2) :: rs, ⟨kV_is h.1, rfl, c⟩, .cons ⟨rfl, h.2⟩ q⟩
/-- {k: v, ..} with keys ints and texts; the new dict stands empty while the pairs are made -/
noncomputable def tDisp (trs : List (TE × TE)) : TE := fun σ H Q => ∀ p, H p = none → tPairs trs σ (upd H p (.dK [])) fun ps H2 => H2 p = some (.dK []) ∧ ∃ kvs : List (Key × V), ps = kvs.map (fun kv => (kV kv.1, kv.2)) ∧ kvs.length ≤ 15 ∧ Q (.ref p) (upd H2 p (.dK (mergeK [] kvs)))
theorem pe_disp {X : Cx} {pos : Pos} {keys : List (Option Expr)} {values : List Expr} {trs : List (TE × TE)} (h : PPs X pos keys values trs) (hall : keys.all (·.isSome) = true) (hl : keys.length = values.length) (h0 : keys ≠ [])
    (h15 : keys.length ≤ 15) : PE X (.Dict keys values pos) (tDisp trs) := by
  intro pins s σ H Q I q
  have hn := I.hok.fresh (Nat.le_refl s.heap.objs.size)
  have I1 := I.laid (a := s.heap.objs.size) (o := .dK []) (h' := s.heap.push { cls := .type "dict", data := .dict #[] }) (t' := s.toks) (fun _ _ q => Heap.get?_push_of_some _ q) (Nat.le_refl _) (dk_empty s.heap I.big)
  refine wpAny_Dict_walk (knd := mixKind X.prog X.w) hall hl h0 h15 (thn (h pins _ σ _ _ I1 (q _ hn)) fun ws s2 zz => ?_)
  obtain ⟨ps, H2, I2, rel, e, kvs, ep, lk, q2⟩ := zz
  subst ep
  obtain ⟨rs, c, rk⟩ := carries_of (P := X.prog) (w := X.w) rel
  obtain ⟨z, hd, vs0, r0, dd⟩ := dk_of I2.hok e
  cases r0
  refine ⟨rs, c, dd, fun h' dd' hs => ⟨.ref s.heap.objs.size, _, ?_, rfl, q2⟩⟩
  have hz : (mergeK [] kvs).length ≤ sizeLine := by
    have h1 := length_mergeK kvs []
    rw [List.length_nil] at h1
    rw [sizeLine_eq]; omega
  have he : ∃ q, h'.get? s.heap.objs.size = some q := let ⟨q, _, _, hq, _⟩ := dd'; ⟨q, hq⟩
  exact d_write I2 (by rw [e]; exact True.intro) hs he (dk_new hz hd (rk.merge .nil) dd')


/-! ### methods -/
/-- a method call o.m(e) of a built-in, with one argument: what must be seen of the text -/
structure M1 (X : Cx) (o : Expr) (m : Str) (apos : Pos) (e : Expr) (cpos : Pos) : Prop where
  base : attributeBase o m X.env (eval o X.env) = eval o X.env
  few : ((backTo cpos (starEach [e] X.env)).all (fun x => !x.1) && (backToKw cpos (keywordEach [] X.env)).all (fun x => x.1.isSome)
    && decide (([e] : List Expr).length + ([] : List Keyword).length + (if ([] : List Keyword).isEmpty then 0 else 1) < 30)) = true
  line : (apos.endLine == cpos.line) = true
  trees : backTo cpos (starEach [e] X.env) = [(false, eval e X.env)]


section
variable {X : Cx} {pins : List (Addr × Obj)} {σ : St} {H : Hp} {s : Shared} {a : Addr} {y d : V} {u r : Value} {o : Option V} {A : Around} {E : Value → Shared → Prop}
end

section
variable {X : Cx} {o e f : Expr} {apos cpos : Pos} {td ty tx : TE}
end

end L2


set_option Elab.async false
set_option linter.all false
set_option maxRecDepth 100000
set_option maxHeartbeats 4000000
namespace L2
open PySem PySem.Spec PyProof.Rows

/-! ### a def of the text: where it stands, what it promises -/
/-- the def st stands at the top by the name x -/
structure TopDef (K : PySem.W.Frag) (mg : Str → Option Value) (x : Str) (st : Stmt) : Prop where
  ex : ∃ (f : Addr) (fd : FuncData), Fun K x x st f fd ∧ mg x = some (.ref f)
theorem top_mk {K : PySem.W.Frag} {h : Heap} {mg : Str → Option Value} {x : Str} {st : Stmt} {f : Addr} {oc kV doc pm cdv ct : Value} {od an : Option Addr} {osl : Array (Option Value)} (X : K.In h) (G : h.Ns mainGlobals mg)
    (a : PySem.W.nsIn K mainGlobals x = some (some (.ref f)))
    (l : K.lookup f = some ⟨oc, od, .func (PySem.W.fnOf x x (defArgs st) (defBody st) (defScope st) .none kV doc pm an cdv ct), osl⟩)
    (c : PySem.W.codeIn K cdv x = true) (k : PySem.W.keepIn K (.ref f) = true) : TopDef K mg x st :=
  ⟨_, _, fun_mk l c k, PySem.W.mg_of X G a⟩
/-- the def by the name x keeps sp, within n calls of one another -/
structure Def (P : Program) (w : World) (K : PySem.W.Frag) (mg : Str → Option Value) (base : Heap) (n : Nat) (x : Str) (ps : List Str) (sp : Sp) : Prop where
  ex : ∃ (f : Addr) (fd : FuncData), FnOk P w K mg base CX0 n f fd ps sp ∧ Binds K fd ps [] ∧ PySem.W.keepIn K (.ref f) = true ∧ mg x = some (.ref f)
section
variable {P : Program} {w : World} {K : PySem.W.Frag} {mg : Str → Option Value} {base : Heap}
theorem def_of {x : Str} {st : Stmt} {N ps : List Str} {k : Nat} {sp : Sp} (T : TopDef K mg x st) (S : FnScope N ps (defScope st))
    (bd : ∀ (kV doc pm : Value) (an : Option Addr) (cdv ct : Value) (us : List Value), us.length = ps.length → bindArgs (PySem.W.fnOf x x (defArgs st) (defBody st) (defScope st) .none kV doc pm an cdv ct) ⟨us, []⟩ = pure (ps.zip us))
    (len : ∀ vs H Q E, sp vs H Q E → vs.length = ps.length)
    (body : ∀ (f : Addr) (cdv : Value) (A : Around) (outer : List Env) (s : Shared) (H : Hp) (vs : List V) (Q : VK) (E : XK), Room k (A.deeper (envOfC x (defScope st) s.heap.objs.size f cdv)) → sp vs H Q E →
      ∃ t, PSs (cxOf CX0 P w K mg base N x (defScope st) f cdv A outer s H E).nox (defBody st) t ∧ t { nx := fun _ H' => Q .non H', rt := Q } (start N vs) H) :
    Def P w K mg base (k + 1) x ps sp := by
  obtain ⟨f, fd, F, m⟩ := T.ex
  exact ⟨f, fd, F.ok S len (body f), F.binds bd, F.kp, m⟩
end
section
variable {X : Cx} {n : Nat} {x : Str} {ps : List Str} {sp : Sp} {e a b : Expr} {es : List Expr} {t : TA} {ta tb : TE} {p pos : Pos}
/-- f(..) of such a def -/
theorem pe_def (D : Def X.prog X.w X.K X.mg X.base n x ps sp) (hr : Room n X.A) (hg : Gl X x) (ha : PA X (e :: es) t) (hdb : (x == ("__debug__" : Str)) = false := by decide)
    (he : starEach (e :: es) X.env = (false, eval e X.env) :: starEach es X.env := by rfl) (hpl : (backTo pos (starEach es X.env)).any (·.1) = false := by rfl) :
    PE X (.Call (.Name x p) (e :: es) [] pos) (tCall sp [] E0 t) := by
  obtain ⟨f, fd, F, b, kp, m⟩ := D.ex
  exact pe_call F hr hg m kp b .nil pass0 ha hdb he hpl

/-! ### ints of any size -/
theorem op_mulK : OpR X (binaryOp .Mult) (rI IntMulOk fun i j => .int (i * j)) := opI fun _ _ _ _ _ _ _ hc q => PyProof.Rows.mul_int q hc
noncomputable def CDivK (_ j : Int) : Prop := j ≠ 0 ∧ j.natAbs.log2 < 9000
theorem op_fdivK : OpR X (binaryOp .FloorDiv) (rI CDivK fun i j => .int (i.fdiv j)) := opI fun _ _ _ _ _ _ _ hc q => PyProof.Rows.floordiv_int hc.1 q (.inl (PyProof.noPylong_of_log2 hc.2))

/-! ### isinstance(x, c) -/
theorem call_isi : CallR X (.builtin "isinstance") (fun xs H Q => ∃ (y : V) (c : V) (cv t : Value) (k : Bool), xs = [y, c] ∧ (∀ u, RelV c u → u = cv) ∧ TyOf X.K H y t ∧ PySem.W.kitOne X.K t cv = some k ∧ Q (.bl k) H) := by
  intro pins s σ H xs us Q I r h
  obtain ⟨y, c, cv, t, k, rfl, hc, ty, kt, q⟩ := h
  obtain ⟨u, w', rfl, r1, r2⟩ := vals2 r
  have e := hc _ r2
  subst e
  exact isinst_ok I r1 ty kt fun tk => ⟨.bl k, H, I.tok tk, rfl, q⟩
/-! ### sep.join(a list of texts) -/
end
end L2


set_option Elab.async false
set_option maxRecDepth 100000
set_option maxHeartbeats 4000000
/-! ### the law's call, with the bound of its ints' bits -/
namespace L2
open PySem PySem.Spec PyProof.Rows PySem.W
theorem weight_mem : ∀ {ns : List Int} {n : Int}, n ∈ ns → WData.weight (.int n) ≤ WData.weightAll (ns.map WData.int)
  | [], _, h => nomatch h
  | m :: r, n, h => by
    show _ ≤ WData.weight (.int m) + 1 + WData.weightAll (r.map WData.int)
    rcases List.mem_cons.mp h with e | e
    · subst e; omega
    · have := weight_mem (ns := r) e
      omega
theorem bits_weight (n : Int) : Builtin.Int.intBits n = WData.weight (.int n) := by
  show _ = if n == 0 then 0 else n.natAbs.log2 + 1
  unfold Builtin.Int.intBits
  by_cases h : n = 0
  · subst h; rfl
  · simp [h]
theorem script_bits {ns : List Int} (h : WData.layableAll [.list (ns.map .int)] = true) : ∀ n ∈ ns, Builtin.Int.intBits n ≤ 1048576 := fun n hn => by
  have h1 : WData.layable (.list (ns.map .int)) = true := by
    simpa [WData.layableAll] using h
  have h2 : WData.weight (.list (ns.map .int)) ≤ 2 ^ 20 := by
    unfold WData.layable at h1
    rw [Bool.and_eq_true, Bool.and_eq_true] at h1
    exact of_decide_eq_true h1.2
  have h3 : WData.weightAll (ns.map WData.int) ≤ 2 ^ 20 := h2
  have h4 := weight_mem hn
  rw [bits_weight]
  omega
theorem walk_bits {l : OpenLaw} {n k : Nat} {q : Program} {loose : List Str} {XP : (Str → Option Value) → Heap → Prop} {YP : World → Heap → Prop} {d : DefRec} {K : Params → Frag} {CX : CXT} {sp : Frag → Sp} {x : Str}
    (hn : l.most = some n) (hn2 : n ≤ sizeLine) (hdf : d.params.defaults = []) (hr : Room k callerA) (hY : ∀ (w : World) (h : Heap), YP w h → (K w.params).In h)
    (F : ∀ (w : World) (mg : Str → Option Value) (fa : Addr) (h : Heap), (K w.params).In h → h.Ns mainGlobals mg → mg d.name = some (.ref fa) →
      ∃ fd : FuncData, (∀ (s : Shared) (u : Value), BindsTo s fd ⟨[u], []⟩ [(x, u)]) ∧ ∀ base : Heap, (K w.params).In base → base.Ns mainGlobals mg → FnOk l.prog w (K w.params) mg base CX k fa fd [x] (sp (K w.params)))
    (hsp : ∀ (K : Frag) (H : Hp) (a : Addr) (ns : List Int), ns.length ≤ n → (∀ m ∈ ns, Builtin.Int.intBits m ≤ 1048576) → Only H → SqL K H a (ns.map V.int) → sp K [.ref a] H (fun v _ => v = .bl true) fun _ _ _ => False)
    (hCX : ∀ (H : Hp) (s : Shared) (e : Value) (s' : Shared), CX [] H s (fun _ _ _ => False) e s' → False) : WalkO q loose XP YP l.row.toRowW d [] (fun f vs => PySem.call f vs) := by
  intro w s₀ s₁ mg mb G Y fa o pm cd doc dV kV ho hd hcd hD hmg hg args vals as hpre hlay hrd hwl hlo
  obtain rfl : dV = .none := Dflts.none hD hdf
  obtain rfl : kV = .none := Dflts.noKw hD
  obtain ⟨a, vs, ns, rfl, rfl, hobj, hints, hlen⟩ := Att.script_of hn hpre hwl
  have KX := hY w _ Y
  obtain ⟨fd, hb, hF⟩ := F w mg fa _ KX G.T.g hmg
  have c := law_call KX G.T.g G.T.b G.T.builtins G.T.nolimit hg hobj hints (Nat.le_trans hlen hn2) hr hF hb (fun H hO hS => hsp (K w.params) H a ns hlen (script_bits hlay) hO hS) fun H e s' => hCX H s₁ e s'
  refine enter_call (codeAny_mono c fun r s' hq => ?_)
  obtain ⟨rfl, h2, h3, h4⟩ := hq
  exact ⟨.inl ⟨.bool true, .bool true, [], rfl, fun _ => rfl, .bool true, Att.post_true l _, fun _ => ⟨List.Pairwise.nil, fun _ hm => (nomatch hm)⟩⟩, h2, h3, h4⟩
end L2


set_option Elab.async false
set_option linter.all false
set_option maxRecDepth 100000
set_option maxHeartbeats 4000000
namespace L2
open PySem PySem.Spec PyProof.Rows

/-! ### a list comprehension: its block as a context of its own -/
/-- the context of the block: s, H the state behind the new list; fp the iterator's records -/
noncomputable def cxComp (X : Cx) (scope : Scope) (cl : List (Str × Addr)) (N : List Str) (s : Shared) (H : Hp) (fp : List Addr) : Cx :=
  { prog := X.prog, w := X.w, K := X.K, mg := X.mg, base := X.base, A := X.A, N := N, s₀ := s, H₀ := H, env := compEnvC scope cl s.heap.objs.size X.env,
    outer := X.stack, stack := X.stack, ex := fp, fn := fun _ => false, calm := X.calm, pn := [], xe := fun _ _ => False }
/-- the names that the block sees: its own one, then those of the def at the places js -/
noncomputable def cNames (X : Cx) (x : Str) (js : List Nat) : List Str := x :: js.map fun j => X.N.getD j ""
noncomputable def cVals (js : List Nat) (σ : St) : St := js.map fun j => (σ[j]?).getD none
/-- each place holds a name that is a cell of the def's and free in the block -/
structure FreeAt (X : Cx) (scope : Scope) (js : List Nat) : Prop where
  all : ∀ j ∈ js, ∃ y, X.N[j]? = some y ∧ (X.env.kindOf y = some .cell ∨ X.env.kindOf y = some .free) ∧ (y, NameKind.free) ∈ scope.names ∧
    ((relabel scope X.env).names.lookup y = some .cell ∨ (relabel scope X.env).names.lookup y = some .free)
theorem fa_nil {X : Cx} {scope : Scope} : FreeAt X scope [] := ⟨fun _ h => nomatch h⟩
theorem fa_cons {X : Cx} {scope : Scope} {j : Nat} {js : List Nat} {y : Str} (h1 : X.N[j]? = some y) (h2 : X.env.kindOf y = some .cell ∨ X.env.kindOf y = some .free) (h3 : (y, NameKind.free) ∈ scope.names)
    (h4 : (relabel scope X.env).names.lookup y = some .cell ∨ (relabel scope X.env).names.lookup y = some .free) (r : FreeAt X scope js) : FreeAt X scope (j :: js) :=
  ⟨fun k hk => by
    rcases List.mem_cons.mp hk with e | e
    · subst e; exact ⟨y, h1, h2, h3, h4⟩
    · exact r.all k e⟩

theorem lookup_relabel {env : Env} : ∀ {names : List (Str × NameKind)} {y : Str} {k : NameKind},
    (names.map fun (n, k) => if (k == NameKind.free && env.scope.kind == .function && env.kindOf n == some .cell) then (n, NameKind.cell) else (n, k)).lookup y = some k →
    ∃ k', (y, k') ∈ names ∧ (k' = k ∨ (k = .cell ∧ k' = .free))
  | [], _, _, h => by simp at h
  | (n, k0) :: r, y, k, h => by
    by_cases hc : (k0 == NameKind.free && env.scope.kind == .function && env.kindOf n == some .cell) = true
    · rw [List.map_cons] at h
      dsimp only at h
      rw [if_pos hc] at h
      simp only [List.lookup_cons] at h
      have hf : k0 = .free := by
        rw [Bool.and_eq_true, Bool.and_eq_true] at hc
        exact beq_iff_eq.mp hc.1.1
      cases hx : y == n with
      | true =>
        rw [hx] at h
        have e := beq_iff_eq.mp hx
        subst e
        have e2 := Option.some.inj h
        exact ⟨k0, List.mem_cons_self, .inr ⟨e2.symm, hf⟩⟩
      | false =>
        rw [hx] at h
        obtain ⟨k', m, q⟩ := lookup_relabel h
        exact ⟨k', List.mem_cons_of_mem _ m, q⟩
    · rw [List.map_cons] at h
      dsimp only at h
      rw [if_neg hc] at h
      simp only [List.lookup_cons] at h
      cases hx : y == n with
      | true =>
        rw [hx] at h
        have e := beq_iff_eq.mp hx
        subst e
        have e2 := Option.some.inj h
        exact ⟨k0, List.mem_cons_self, .inl e2⟩
      | false =>
        rw [hx] at h
        obtain ⟨k', m, q⟩ := lookup_relabel h
        exact ⟨k', List.mem_cons_of_mem _ m, q⟩

section
variable {X : Cx} {pins : List (Addr × Obj)} {σ : St} {H : Hp} {s : Shared} {scope : Scope} {cl : List (Str × Addr)} {x : Str} {js : List Nat} {fp : List Addr}

theorem comp_ok (I : Inv X pins σ H s) (hk : scope.kind = .function) (hcell : ∀ y ∈ scope.names, y.2 ≠ .cell)
    (hcl1 : ∀ y c, cl.lookup y = some c → X.env.cells.lookup y = some c) (hcl2 : ∀ y, (y, NameKind.free) ∈ scope.names → ∃ c, cl.lookup y = some c)
    (hf : ∀ b ∈ fp, FpOk X pins H b) (hlt : ∀ b ∈ fp, b < s.heap.objs.size) : (cxComp X scope cl (cNames X x js) s H fp).Ok where
  mod := I.ok.mod
  kind := hk
  glob := I.ok.glob
  blt := I.ok.blt
  above := Nat.le_refl _
  inj := fun y z c h1 h2 => I.ok.inj y z c (hcl1 y c h1) (hcl1 z c h2)
  has := fun y hy => by
    have hy' : (relabel scope X.env).names.lookup y = some .cell ∨ (relabel scope X.env).names.lookup y = some .free := hy
    rcases hy' with h | h
    · obtain ⟨k', m, q⟩ := lookup_relabel h
      rcases q with q | ⟨_, q⟩
      · exact absurd q (hcell _ m)
      · subst q; exact hcl2 y m
    · obtain ⟨k', m, q⟩ := lookup_relabel h
      rcases q with q | ⟨q, _⟩
      · subst q; exact hcl2 y m
      · cases q
  cab := fun y c h _ => by cases h
  hd := I.ok.hd
  frames := I.ok.frames
  stk := .inl rfl
  exf := fun b hb => ⟨Nat.ne_of_lt (hlt b hb), fun y c h => (hf b hb).2.2.2.2.1 y c (hcl1 y c h)⟩
  bs := I.bs
  bsz := Nat.le_trans I.ok.bsz I.sz
  noex := fun b o e hb => by
    rcases (hf b hb).2.2.2.1 with z | z
    · exact I.ok.noex b o e z
    · exact absurd (Nat.lt_of_lt_of_le (Heap.lt_size e) (Nat.le_trans I.ok.bsz z)) (Nat.lt_irrefl _)
  exfs := fun b hb hz => (List.mem_cons.mp (I.stkSub b hz)).elim (hf b hb).2.1 (hf b hb).2.2.1
  funs := I.stack
  frf := I.stkFree

theorem comp_start {h₁ : Heap} {tk : Nat} (I : Inv X pins σ H s) (hk : scope.kind = .function) (hcell : ∀ y ∈ scope.names, y.2 ≠ .cell)
    (hcl1 : ∀ y c, cl.lookup y = some c → X.env.cells.lookup y = some c) (hcl2 : ∀ y, (y, NameKind.free) ∈ scope.names → ∃ c, cl.lookup y = some c) (hjs : FreeAt X scope js)
    (hf : ∀ b ∈ fp, FpOk X pins H b) (hlt : ∀ b ∈ fp, b < s.heap.objs.size) {m : Str → Option Value} (hn : h₁.Ns s.heap.objs.size m) (hkeep : ∀ b o, s.heap.get? b = some o → h₁.get? b = some o) :
    Inv (cxComp X scope cl (cNames X x js) s H fp) [] (none :: cVals js σ) H { s with heap := h₁, toks := tk } where
  ok := comp_ok I hk hcell hcl1 hcl2 hf hlt
  os := rfl
  bare := I.bare
  base := Un.kept hkeep
  loc := by
    refine ⟨m, hn, fun i y v h1 h2 h3 => ?_⟩
    cases i with
    | zero =>
      have z : (some none : Option (Option V)) = some (some v) := h2
      cases z
    | succ k =>
      have h1' : (js.map fun j => X.N.getD j "")[k]? = some y := h1
      have h2' : (js.map fun j => (σ[j]?).getD none)[k]? = some (some v) := h2
      rw [List.getElem?_map] at h1' h2'
      cases hj : js[k]? with
      | none => rw [hj] at h1'; cases h1'
      | some j =>
        rw [hj] at h1' h2'
        have e1 : X.N.getD j "" = y := Option.some.inj h1'
        have e2 : (σ[j]?).getD none = some v := Option.some.inj h2'
        obtain ⟨y', n1, n2, n3, n4⟩ := hjs.all j (List.mem_of_getElem? hj)
        have e3 : y' = y := by rw [← e1, List.getD_eq_getElem?_getD, n1]; rfl
        subst e3
        have e4 : σ[j]? = some (some v) := by
          cases q : σ[j]? with
          | none => rw [q] at e2; cases e2
          | some a => rw [q] at e2; exact congrArg some e2
        obtain ⟨m0, _, hl⟩ := I.loc
        obtain ⟨u, r, l⟩ := hl j y' v n1 e4 (n2.elim (fun z => Or.inr (Or.inl z)) fun z => Or.inr (Or.inr z))
        refine ⟨u, r, .inr ⟨n4, ?_⟩⟩
        rcases l with ⟨l, _⟩ | ⟨_, c, hc, hi⟩
        · exfalso
          rcases n2 with z | z <;> (rw [z] at l; cases l)
        · obtain ⟨c', hc'⟩ := hcl2 y' n3
          have e5 := hcl1 y' c' hc'
          rw [hc] at e5
          have e6 := Option.some.inj e5
          subst e6
          obtain ⟨o, ho, hd⟩ := hi
          exact ⟨c, hc', o, hkeep c o ho, hd⟩
  cell := fun y c h => by
    obtain ⟨v, o, ho, hd⟩ := I.cell y c (hcl1 y c h)
    exact ⟨v, o, hkeep c o ho, hd⟩
  free := I.hok.fresh (Nat.le_refl _)
  freeC := fun y c h => I.freeC y c (hcl1 y c h)
  pin := fun p hp => absurd (show p ∈ ([] : List (Addr × Obj)) from hp) (by simp)
  hok := I.hok.kept hkeep
  len := by
    show (none :: cVals js σ).length = (cNames X x js).length
    simp [cVals, cNames]
end

/-- the tests of a clause -/
noncomputable def PIf (X : Cx) (ifs : List Expr) (t : TT) : Prop :=
  ∀ (pins : List (Addr × Obj)) (s : Shared) (σ : St) (H : Hp) (Q : Bool → Hp → Prop), Inv X pins σ H s → t σ H Q →
    wpAny (model X.prog X.w) X.A (forIn ifs true fun c r => if r = true then do let ok ← isTrue c X.env (eval c X.env); pure (ForInStep.yield ok) else pure (ForInStep.yield r)) (TP X pins σ Q) X.xe s
noncomputable def tNoIf : TT := fun _ H Q => Q true H
theorem pif_nil {X : Cx} : PIf X [] tNoIf := fun _ _ _ H _ I h => wpAny_tests_nil ⟨H, I, h⟩

/-- [elt for x in iter if ..]: W an invariant by the turn and a measure; the list grows at D -/
noncomputable def tComp (wi : TI) (tc : TT) (te : TE) (js : List Nat) : TE := fun σ H Q => wi σ H fun J H1 => ∀ D, H1 D = none →
  ∃ W : Nat → Nat → Hp → Prop, (∃ m, W 0 m (upd H1 D (.lst []))) ∧ ∀ i m H2, W i m H2 → (J.stop i H2 ∧ Q (.ref D) H2) ∨
    (J.go i H2 ∧ ∀ v H3, J.yld i H2 v H3 → tc (some v :: cVals js σ) H3 fun b H4 => if b = true then te (some v :: cVals js σ) H4 fun y H5 =>
      ∃ ys, H5 D = some (.lst ys) ∧ ys.length < sizeLine ∧ ∃ m', m' < m ∧ W (i + 1) m' (upd H5 D (.lst (ys ++ [y]))) else ∃ m', m' < m ∧ W (i + 1) m' H4)

section
variable {X : Cx} {elt iter : Expr} {x : Str} {px pos : Pos} {ifs : List Expr} {scope : Scope} {cl : List (Str × Addr)} {wi : TI} {tc : TT} {te : TE} {js : List Nat}

theorem comp_core {use : Option (Value → Sem Unit)} {Qv : Value → Shared → Prop} {pins : List (Addr × Obj)} {s : Shared} {σ : St} {H : Hp} {Q : VK}
    (hc : X.calm = true) (hi : PI X (.Name x px) iter wi) (hk : scope.kind = .function) (hcell : ∀ y ∈ scope.names, y.2 ≠ .cell) (hx : (relabel scope X.env).names.lookup x = some .local)
    (hcl1 : ∀ y c, cl.lookup y = some c → X.env.cells.lookup y = some c) (hcl2 : ∀ y, (y, NameKind.free) ∈ scope.names → ∃ c, cl.lookup y = some c) (hjs : FreeAt X scope js) (hnd : (cNames X x js).Nodup)
    (ht : ∀ s' H' fp, PIf (cxComp X scope cl (cNames X x js) s' H' fp) ifs tc) (he : ∀ s' H' fp, PE (cxComp X scope cl (cNames X x js) s' H' fp) elt te)
    (I : Inv X pins σ H s) (h : tComp wi tc te js σ H Q)
    (fin : ∀ (D C : Addr) (H' : Hp) (s' : Shared), Inv X pins σ H' s' → FpOk X pins H' C → (∃ m, s'.heap.Ns C m) → Q (.ref D) H' → compPost (model X.prog X.w) X.A X.xe use Qv (.ref D) C (.ok .next) s') :
    wpAny (model X.prog X.w) X.A (eval iter X.env) (fun xv s₁ => wpAny (model X.prog X.w) X.A (pyIter xv) (fun it s₂ => wpAny (model X.prog X.w) X.A (newList []) (fun acc s₃ =>
      wpAny (model X.prog X.w) X.A (newFunctionEnv scope X.env.globals cl [] X.env.qual none .none (some X.env)) (fun cenv s₄ =>
        codeAny (model X.prog X.w) X.A (.compStart (.ListComp elt [⟨.Name x px, iter, ifs, 0⟩] scope pos) 0 it acc { cenv with scope := relabel scope X.env })
          (compPost (model X.prog X.w) X.A X.xe use Qv acc cenv.locals) s₄) X.xe s₃) X.xe s₂) X.xe s₁) X.xe s := by
  refine thn (hi pins s σ H _ I h) fun v s1 h1 => thn h1 fun itv s2 h2 => ?_
  obtain ⟨it, fp, tn, J, H2, e, I2, T, st2, f2, hW⟩ := h2
  subst e
  obtain ⟨W, ⟨m0, w0⟩, turn⟩ := hW s2.heap.objs.size (I2.hok.fresh (Nat.le_refl _))
  have hlt2 : ∀ b ∈ fp, b < s2.heap.objs.size := fun b hb => let ⟨_, e, _⟩ := T.obj _ _ st2 b hb; Heap.lt_size e
  have I3 : Inv X pins σ (upd H2 s2.heap.objs.size (.lst [])) { s2 with heap := s2.heap.push { cls := .type "list", data := .seq ([] : List Value).toArray } } :=
    I2.lnew (t' := s2.toks) (its := []) .nil (Nat.zero_le _)
  refine wpAny_newObj_type ?_
  have k23 : ∀ b o, s2.heap.get? b = some o → (s2.heap.push { cls := .type "list", data := .seq ([] : List Value).toArray }).get? b = some o := fun b o e => Heap.get?_push_of_some _ e
  have sz3 : (s2.heap.push { cls := .type "list", data := .seq ([] : List Value).toArray }).objs.size = s2.heap.objs.size + 1 := Heap.size_push ..
  generalize hs3 : ({ s2 with heap := s2.heap.push { cls := .type "list", data := .seq ([] : List Value).toArray } } : Shared) = s3 at I3
  have hs3' : s3.heap = s2.heap.push { cls := .type "list", data := .seq ([] : List Value).toArray } := by rw [← hs3]
  have hlt3 : ∀ b ∈ fp, b < s3.heap.objs.size := fun b hb => by rw [hs3', sz3]; exact Nat.lt_succ_of_lt (hlt2 b hb)
  have f3 : ∀ b ∈ fp, FpOk X pins (upd H2 s2.heap.objs.size (.lst [])) b := fun b hb => ⟨by rw [upd_ne (Nat.ne_of_lt (hlt2 b hb))]; exact (f2 b hb).1, (f2 b hb).2⟩
  refine wpAny_newFunctionEnv hcell (by intro y hy; simp at hy) (fun h₁ hns hsb => ?_) hk
  have k34 : ∀ b o, s3.heap.get? b = some o → h₁.get? b = some o := fun b o e => hsb.extBut b o (Nat.ne_of_lt (Heap.lt_size e)) (Heap.get?_push_of_some _ e)
  have I4 := comp_start (x := x) (js := js) (tk := s3.toks + ([] : List (Str × Value)).length) I3 hk hcell hcl1 hcl2 hjs f3 hlt3 hns k34
  have st4 : tn 0 h₁ := T.keep 0 _ _ st2 fun b hb o e => k34 b o (by rw [hs3']; exact k23 b o e)
  -- the iterator's records stay what they are
  have stat : ∀ {H' : Hp}, (∀ b ∈ fp, H' b = none) → ∀ b ∈ fp, FpOk (cxComp X scope cl (cNames X x js) s3 (upd H2 s2.heap.objs.size (.lst [])) fp) [] H' b := fun hn b hb =>
    ⟨hn b hb, Nat.ne_of_lt (hlt3 b hb), fun hz => (List.mem_cons.mp (I3.stkSub b hz)).elim (f2 b hb).2.1 (f2 b hb).2.2.1, .inl hb, fun y c q => (f2 b hb).2.2.2.2.1 y c (hcl1 y c q), fun p hp => absurd (show p ∈ ([] : List (Addr × Obj)) from hp) (by simp)⟩
  have back : ∀ {σ' : St} {H' : Hp} {s' : Shared}, Inv (cxComp X scope cl (cNames X x js) s3 (upd H2 s2.heap.objs.size (.lst [])) fp) [] σ' H' s' → Inv X pins σ H' s' := fun {σ' H' s'} J' =>
    I3.call' (ch := fp) J'.os J'.base J'.hok J'.bare fun b hb => ⟨(f2 b hb).2.2.2.1, (f2 b hb).2.1, (f2 b hb).2.2.2.2.1, (f2 b hb).2.2.2.2.2⟩
  have loop : codeAny (model X.prog X.w) X.A (.compLoop (.ListComp elt [⟨.Name x px, iter, ifs, 0⟩] scope pos) 0 (.ref it) (.ref s2.heap.objs.size) (compEnvC scope cl s3.heap.objs.size X.env))
      (compPost (model X.prog X.w) X.A X.xe use Qv (.ref s2.heap.objs.size) s3.heap.objs.size) { s3 with heap := h₁, toks := s3.toks + ([] : List (Str × Value)).length } := by
    refine codeAny_compLoop_tests (fun n s' => ∃ i o H', Inv (cxComp X scope cl (cNames X x js) s3 (upd H2 s2.heap.objs.size (.lst [])) fp) [] (o :: cVals js σ) H' s' ∧ tn i s'.heap ∧ (∀ b ∈ fp, H' b = none) ∧ W i n H') ?_ m0
      ⟨0, none, _, I4, st4, fun b hb => (f3 b hb).1, w0⟩
    rintro n s5 ⟨i, o, H5, I5, st5, fr5, w5⟩
    rcases turn i n H5 w5 with ⟨stop, q⟩ | ⟨go, step⟩
    · refine thn (T.done (cxComp X scope cl (cNames X x js) s3 (upd H2 s2.heap.objs.size (.lst [])) fp) rfl rfl rfl hc i [] s5 _ H5 _ I5 (stat fr5) st5 stop) fun r s6 zz => ?_
      obtain ⟨hr, I6⟩ := zz
      subst hr
      exact fin _ _ H5 s6 (back I6) (I3.fpOk (Nat.le_refl _) I6.free) (let ⟨m, hm, _⟩ := I6.loc; ⟨m, hm⟩) q
    · refine thn (T.item (cxComp X scope cl (cNames X x js) s3 (upd H2 s2.heap.objs.size (.lst [])) fp) rfl rfl rfl hc i [] s5 _ H5 _ I5 (stat fr5) st5 go) fun r s6 zz => ?_
      obtain ⟨u, hr, h6⟩ := zz
      subst hr
      show wpAny _ _ (assign (.Name x px) _ u) _ _ s6
      intro Γ p hΓ
      have h6' := h6 Γ p hΓ
      obtain ⟨v, H6, I6, r6, y6, st6, fr6⟩ := h6'
      refine (?_ : wpAny _ _ _ _ _ s6) Γ p hΓ
      have I6' := I6.pinned (stat fr6) (T.obj _ _ st6)
      have hg : PG (cxComp X scope cl (cNames X x js) s3 (upd H2 s2.heap.objs.size (.lst [])) fp) (.Name x px) (gName 0) := pg_name (i := 0) hnd rfl (Or.inl hx) (.inr hx)
      refine wpAny_mono (hg _ s6 _ H6 v u (fun σ' H' => σ' = some v :: cVals js σ ∧ H' = H6) I6' r6 ⟨rfl, rfl⟩) (fun _ s7 q7 => ?_) (fun _ _ f => False.elim f)
      obtain ⟨σ7, H7, I7, e7, e8⟩ := q7
      subst e7 e8
      refine wpAny_mono (ht s3 _ fp _ s7 _ H7 _ I7 (step v H7 y6)) (fun ok s8 q8 => ?_) (fun _ _ f => False.elim f)
      obtain ⟨H8, I8, q8⟩ := q8
      have again : ∀ {s9 : Shared} {σ9 : St} {H9 : Hp} {m' : Nat}, Inv (cxComp X scope cl (cNames X x js) s3 (upd H2 s2.heap.objs.size (.lst [])) fp) ([] ++ pinsAt fp s6.heap) (some v :: cVals js σ) H9 s9 → m' < n → W (i + 1) m' H9 →
          ∃ m, m < n ∧ ∃ i o H', Inv (cxComp X scope cl (cNames X x js) s3 (upd H2 s2.heap.objs.size (.lst [])) fp) [] (o :: cVals js σ) H' s9 ∧ tn i s9.heap ∧ (∀ b ∈ fp, H' b = none) ∧ W i m H' := fun {s9 σ9 H9 m'} I9 hm w9 => by
        refine ⟨m', hm, i + 1, some v, H9, I9.unpinned, T.keep _ _ _ st6 fun b hb o e => (I9.pin (b, o) (List.mem_append_right _ (List.mem_append_right _ (mem_pinsAt hb e)))).1, fun b hb => ?_, w9⟩
        obtain ⟨o, e, d⟩ := T.obj _ _ st6 b hb
        exact (I9.pin (b, o) (List.mem_append_right _ (List.mem_append_right _ (mem_pinsAt hb e)))).2.1
      cases ok with
      | false =>
        rw [if_neg Bool.false_ne_true] at q8 ⊢
        obtain ⟨m', hm, w9⟩ := q8
        exact again (σ9 := []) I8 hm w9
      | true =>
        rw [if_pos rfl] at q8 ⊢
        refine wpAny_mono (he s3 _ fp _ s8 _ H8 _ I8 q8) (fun y s9 q9 => ?_) (fun _ _ f => False.elim f)
        obtain ⟨yv, H9, I9, r9, ys, hD, hl, m', hm, w9⟩ := q9
        refine wpAny_mono (mt_append (X := cxComp X scope cl (cNames X x js) s3 (upd H2 s2.heap.objs.size (.lst [])) fp) _ s9 _ H9 (.ref s2.heap.objs.size) [yv] (.ref s2.heap.objs.size) [y] (fun _ H' => H' = upd H9 s2.heap.objs.size (.lst (ys ++ [yv]))) I9 rfl (.cons r9 .nil) ⟨_, ys, yv, rfl, rfl, hD, hl, rfl⟩) (fun _ s10 q10 => ?_) (fun _ _ f => False.elim f)
        obtain ⟨_, H10, I10, _, e10⟩ := q10
        subst e10
        exact again (σ9 := []) I10 hm w9
  exact codeAny_compStart_list loop (T.self _ 0 _ _ _ st4 loop)

/-- the comprehension as an expression -/
theorem pe_comp (hc : X.calm = true) (hi : PI X (.Name x px) iter wi) (hk : scope.kind = .function) (hcell : ∀ y ∈ scope.names, y.2 ≠ .cell) (hnames : ∀ y ∈ scope.names, y.2 = .local → scope.names.lookup y.1 = some .local) (hx : (relabel scope X.env).names.lookup x = some .local)
    (hclos : closureFor scope X.env = pure cl) (hcl1 : ∀ y c, cl.lookup y = some c → X.env.cells.lookup y = some c) (hcl2 : ∀ y, (y, NameKind.free) ∈ scope.names → ∃ c, cl.lookup y = some c) (hjs : FreeAt X scope js) (hnd : (cNames X x js).Nodup)
    (ht : ∀ s' H' fp, PIf (cxComp X scope cl (cNames X x js) s' H' fp) ifs tc) (he : ∀ s' H' fp, PE (cxComp X scope cl (cNames X x js) s' H' fp) elt te)
    (hs : ∀ x, foldedSetIterable iter X.env x = pure x := by intro _; rfl) : PE X (.ListComp elt [⟨.Name x px, iter, ifs, 0⟩] scope pos) (tComp wi tc te js) := by
  intro pins s σ H Q I h
  rw [eval_ListComp]
  refine wpAny_comprehension_free (use := none) rfl hs hclos hk hnames (comp_core hc hi hk hcell hx hcl1 hcl2 hjs hnd ht he I h fun D C H' s' I' fC hC q => ?_)
  obtain ⟨m, hm⟩ := hC
  refine ⟨m, hm, fun h' sb => ?_⟩
  obtain ⟨f0, f1, f2, f3, f4, f5⟩ := fC
  exact ⟨.ref D, H', I'.turned (t' := s'.toks) (fun b o hb e => (sb.2 b hb).trans e) f0 f1 f3 f4 f5, rfl, q⟩

/-- y = [..] -/
noncomputable def tAsgC (i : Nat) (te : TE) : TS := fun D σ H => te σ H fun v H1 => D.nx (σ.set i (some v)) H1
theorem ps_setC {y : Str} {i : Nat} {py spos : Pos} (hN : X.N.Nodup) (hy : X.N[i]? = some y) (hyl : Loc X.env.scope y) (hyf : X.fn y = true ∨ X.env.scope.names.lookup y = some .local)
    (hsw : swapsWith (.ListComp elt [⟨.Name x px, iter, ifs, 0⟩] scope pos) (some (.Name y py)) spos.line X.env = pure true)
    (hc : X.calm = true) (hi : PI X (.Name x px) iter wi) (hk : scope.kind = .function) (hcell : ∀ y ∈ scope.names, y.2 ≠ .cell) (hnames : ∀ y ∈ scope.names, y.2 = .local → scope.names.lookup y.1 = some .local) (hx : (relabel scope X.env).names.lookup x = some .local)
    (hclos : closureFor scope X.env = pure cl) (hcl1 : ∀ y c, cl.lookup y = some c → X.env.cells.lookup y = some c) (hcl2 : ∀ y, (y, NameKind.free) ∈ scope.names → ∃ c, cl.lookup y = some c) (hjs : FreeAt X scope js) (hnd : (cNames X x js).Nodup)
    (ht : ∀ s' H' fp, PIf (cxComp X scope cl (cNames X x js) s' H' fp) ifs tc) (he : ∀ s' H' fp, PE (cxComp X scope cl (cNames X x js) s' H' fp) elt te)
    (hs : ∀ x, foldedSetIterable iter X.env x = pure x := by intro _; rfl) :
    PS X (.Assign [.Name y py] (.ListComp elt [⟨.Name x px, iter, ifs, 0⟩] scope pos) spos) (tAsgC i (tComp wi tc te js)) := by
  intro pins s σ H D I h
  rw [exec_Assign_Name_used _ _ _ _ hsw]
  refine wpAny_bind (wpAny_standAt (wpAny_bind ?_))
  show wpAny _ _ (do let _ ← comprehension (.ListComp elt [⟨.Name x px, iter, ifs, 0⟩] scope pos) scope X.env _ (newList []) false (eval iter X.env) (some (assign (.Name y py) X.env))) _ _ s
  refine wpAny_bind (wpAny_mono (wpAny_comprehension_free (use := some (assign (.Name y py) X.env)) (Q := fun _ s' => SP X pins D .next s') rfl hs hclos hk hnames
    (comp_core hc hi hk hcell hx hcl1 hcl2 hjs hnd ht he I h fun D' C H' s' I' fC hC q => ?_)) (fun _ s' hq => wpAny_pure (wpAny_pure hq)) fun _ _ e => e)
  obtain ⟨m, o, es, ep, ho, hd, hr⟩ := hC
  obtain ⟨f0, f1, f2, f3, f4, f5⟩ := fC
  have Ip : Inv X (pins ++ [(C, o)]) σ H' s' := I'.pins_of fun p hp => (List.mem_append.mp hp).elim (fun z => I'.pin p (List.mem_append_right _ z)) fun z => by
    have e : p = (C, o) := by simpa using z
    subst e
    exact ⟨ho, f0, f1, f2, fun v z => by rw [hd] at z; cases z⟩
  have hg : PG X (.Name y py) (gName i) := pg_name hN hy hyl hyf
  refine thn (hg _ s' σ H' (.ref D') (.ref D') (fun σ' H'' => σ' = σ.set i (some (.ref D')) ∧ H'' = H') Ip rfl ⟨rfl, rfl⟩) fun _ s'' q'' => ?_
  obtain ⟨σ'', H'', I'', e1, e2⟩ := q''
  subst e1 e2
  have hp := (I''.pin (C, o) (by simp)).1
  refine ⟨m, ⟨o, es, ep, hp, hd, hr⟩, fun h' sb => ?_⟩
  exact ⟨_, _, (I''.unpinned).turned (t' := s''.toks) (fun b o hb e => (sb.2 b hb).trans e) f0 f1 f3 f4 f5, q⟩
end
end L2


set_option Elab.async false
set_option linter.all false
set_option maxRecDepth 100000
set_option maxHeartbeats 4000000
namespace L2
open PySem PySem.Spec PySem.Calls PyProof.Rows PySem.W PySem.Builtin.Getset_descriptor
/-- what the fragment says of an own class of exceptions, for isinstance -/
structure ExcCls (K : Frag) (D : Addr) : Prop where
  ga : findIn K (.ref D) "__getattribute__" = some (some (.builtin "BaseException.__getattribute__"))
  gt : findIn K (.ref D) "__getattr__" = some none
  cl : ∃ cd, clsIn K D = some cd
  ha : findIn K (.ref D) "__class__" = some (some (.builtin "object.__class__"))
  hn : specialIn K (.builtin "object.__class__") "__get__" = some (some (.builtin "getset_descriptor.__get__"))
  tk : takesIn K (.builtin "object.__class__") = some true
  hb : mroIn K D (.type "BaseException") = some true
  hm : mroIn K D (.type "object") = some true
section
variable {prog : Program} {w : World} {A : Around} {E : Value → Shared → Prop} {s : Shared} {K : Frag} {x D : Addr}
/-- an object of the class D, whatever else is in it -/
noncomputable def OfCls (x D : Addr) (h : Heap) : Prop := ∃ ox, h.get? x = some ox ∧ ox.cls = .ref D
theorem OfCls.type {M : Model} {h : Heap} (I : OfCls x D h) : Looks M h (typeOf (.ref x)) (.ref D) := by
  obtain ⟨ox, a, b⟩ := I
  exact b ▸ (Looks.ld a).andThen .now
theorem exc_find {M : Model} {h : Heap} (c : ExcCls K D) (X : K.In h) :
    Looks M h (Builtin.ObjectAttr.find (.ref x) (.ref D) "__class__") (.bind (.builtin "getset_descriptor.__get__") (.builtin "object.__class__")) := by
  have l1 := looks_findIn (M := M) X c.ha
  have l2 := looks_specialIn (M := M) X c.hn
  have l3 := looks_takesIn (M := M) X c.tk
  have l4 : Looks M h (Builtin.ObjectAttr.dataDescriptor? (some (.builtin "object.__class__")) (some (.builtin "getset_descriptor.__get__"))) (some (.builtin "getset_descriptor.__get__", .builtin "object.__class__")) := l3.andThen .now
  exact l1.andThen (Looks.andThen (show Looks M h (Builtin.ObjectAttr.getOf (some (.builtin "object.__class__"))) _ from l2) (l4.andThen (Looks.tag .now)))
theorem exc_get {R : Result → Shared → Prop} {tp : Value} (c : ExcCls K D) (X : K.In s.heap) (I : OfCls x D s.heap) (h : R (.ok (.ret (.ref D))) s) :
    codeAny (model prog w) A (.call (.builtin "getset_descriptor.__get__") ⟨[.builtin "object.__class__", .ref x, tp], []⟩) R s := by
  obtain ⟨hh, g, dr, t, os⟩ := s
  have l0 := I.type (M := model prog w)
  have l1 := looks_mroIn (M := model prog w) X c.hm
  refine codeAny_call_builtin (KF.slot_gs).plain KF.entry_gs ?_
  refine (KF.slot_gs).check _ _ _ _ _ _ _ _ KF.type_class (KF.args_gs _ _ _) ?_
  unfold Builtin.«getset_descriptor.__get__» descrGet; rw [dga_obj]
  refine wpAny_bind (wpAny_pure ?_)
  unfold descrGetter descrCheckInstance descrNameAndClass isInstance; simp only [KF.owner_class]
  repeat lk
  refine ⟨Code.quiet_builtin _ (by decide +kernel), codeAny_builtin KF.entry_class ?_⟩; unfold Builtin.«object.__class__» shownTypeOf
  repeat lk
  exact h
theorem exc_class {Q : Option Value → Shared → Prop} (c : ExcCls K D) (X : K.In s.heap) (I : OfCls x D s.heap) (h : Q (some (.ref D)) { s with toks := s.toks + 1 }) :
    wpAny (model prog w) A (getAttr? (.ref x) "__class__") Q E s := by
  obtain ⟨hh, g, d, t, os⟩ := s
  have L0 := I.type (M := model prog w)
  have L1 := looks_findIn (M := model prog w) X c.ga
  have L2 := looks_findIn (M := model prog w) X c.gt
  have LB := looks_mroIn (M := model prog w) X c.hb
  have L3 := exc_find (M := model prog w) (x := x) c X
  unfold getAttr? getAttrBy? getAttrBy
  refine wpAny_bind (wpAny_mkText (wpAny_bind (wpAny_attempt (wpAny_holding (wpAny_bind (L0.at (wpAny_bind (L1.at ?_))))))))
  show wpAny _ _ (getAttrByItsOwn (.ref x) _ (.ref D) (.builtin "BaseException.__getattribute__") false false) _ _ _
  unfold getAttrByItsOwn
  show wpAny _ _ (typeLookup (.ref D) "__getattr__" >>= _) _ _ _
  refine wpAny_bind (L2.at ?_)
  refine wpAny_bind (wpAny_attempt (wpAny_holding ?_))
  show wpAny _ _ (boundAndCalled (.builtin "BaseException.__getattribute__") (.ref x) _) _ _ _
  unfold boundAndCalled
  have FB := (F.attrBase_ValueError).ga
  refine wpAny_bind (wpAny_of_eq (FB.bind (.ref x)) ?_)
  show wpAny _ _ (call (.builtin "BaseException.__getattribute__") [.ref x, _]) _ _ _
  refine wpAny_call (codeAny_call_builtin FB.plain F.entry_bexc_ga ?_)
  have kd : builtinKind "BaseException.__getattribute__" = some .slot := by decide +kernel
  have sp : splitId "BaseException.__getattribute__" = some ("BaseException", "__getattribute__") := by decide +kernel
  have ar := F.args_bexc_ga (.ref x) (.str "__class__" t)
  simp only [checkBuiltinCall, kd, sp]
  unfold isInstance
  refine wpAny_bind (wpAny_bind (L0.at (LB.at ?_)))
  rw [if_neg (by decide)]
  refine wpAny_of_eq ar ?_
  unfold Builtin.«object.__getattribute__»
  refine wpAny_bind (wpAny_pure (wpAny_bind (wpAny_pure (wpAny_bind (L0.at (wpAny_bind (L3.at ?_)))))))
  unfold Builtin.ObjectAttr.bindTo
  refine wpAny_bind (wpAny_holding (wpAny_call (exc_get (s := ⟨hh, g, d, t + 1, os⟩) c X I ?_)))
  refine wpAny_pure ?_
  exact handed_on rfl (wpAny_pure h)
theorem kitx_exc (c : ExcCls K D) : KitX K (.ref x) (.ref D) (OfCls x D) where
  ty := fun _ _ _ I => I.type
  it := fun _ _ X _ => by
    obtain ⟨cd, hcd⟩ := c.cl
    unfold clsIn at hcd
    split at hcd
    · rename_i c' d' cd' sl' ho
      intro A' Q' E' s' k q
      unfold isType loadHead
      exact wpAny_bind (wpAny_loadPart (k _ _ (X _ _ ho)) (wpAny_pure q))
    · cases hcd
  ne := fun h tp dd its n sl X htp => by
    obtain ⟨cd, hcd⟩ := c.cl
    refine Bool.eq_false_iff.mpr fun q => ?_
    have e : D = tp := Value.ref.inj (beq_iff_eq.mp q)
    subst e
    unfold clsIn at hcd
    split at hcd
    · rename_i c' d' cd' sl' ho
      have z := (X _ _ ho).symm.trans htp
      cases z
    · cases hcd
  ca := fun X I k => exc_class c X I k
end
end L2


set_option Elab.async false
set_option linter.all false
set_option maxRecDepth 100000
set_option maxHeartbeats 4000000
namespace L2
open PySem PySem.Spec PyProof.Rows
section
variable {P : Program} {w : World} {H : Hp} {h : Heap} {a : Addr} {o : HO}
theorem ObjOk.there (x : ObjOk P w H h a o) : ∃ ob, h.get? a = some ob := by
  cases o with
  | lst xs => obtain ⟨_, _, _, _, e⟩ := x; exact ⟨_, e⟩
  | tup xs => obtain ⟨_, _, _, ⟨_, e, _⟩⟩ := x; exact ⟨_, e⟩
  | dK kvs => obtain ⟨_, _, _, _, o, _, _, e, _⟩ := x; exact ⟨_, e⟩
  | dT kvs => obtain ⟨_, _, _, _, o, _, _, e, _⟩ := x; exact ⟨_, e⟩
  | set S n => obtain ⟨o, _, _, _, e, _⟩ := x; exact ⟨_, e⟩
  | ins C dx fs => obtain ⟨_, _, _, e, _⟩ := x; exact ⟨_, e⟩
  | own y => exact x
  | xd fs => obtain ⟨_, ⟨_, _, _, e, _⟩, _⟩ := x; exact ⟨_, e⟩
  | rng lo hi => obtain ⟨_, _, _, e⟩ := x; exact ⟨_, e⟩
  | frz ob u => obtain ⟨e, _⟩ := x; exact ⟨_, e⟩
  | tbl ps => exact ⟨_, (show h.get? a = some _ from x)⟩
  | met f y => exact ⟨_, (show h.get? a = some _ from x)⟩
  | ext φ => obtain ⟨_, e, _⟩ := x; exact e
end

/-! ### how an exception lies behind a call: ea the object, C its class; whatever is tracked, or stood ahead of the call, stands in B, which stays -/

/-! ### raise: the exception leaves the def -/
section
variable {P : Program} {w : World} {K : PySem.W.Frag} {mg : Str → Option Value} {base : Heap} {N : List Str} {qual : Str} {scope : Scope} {f : Addr} {cd : Value} {A : Around} {outer : List Env} {s : Shared} {H : Hp} {E : XK}
end
end L2


set_option Elab.async false
set_option linter.all false
set_option maxRecDepth 100000
set_option maxHeartbeats 4000000
namespace L2
open PySem PySem.Spec PyProof.Rows PySem.W

/-! ### raise X(..) of an own class without __init__ -/
noncomputable abbrev bmV : List Value := [.type "ValueError", .type "Exception", .type "BaseException", .type "object"]

section
variable {P : Program} {w : World} {K : Frag} {mg : Str → Option Value} {base : Heap} {N : List Str} {qual : Str} {scope : Scope} {f : Addr} {cd : Value} {A : Around} {outer : List Env} {s : Shared} {H : Hp} {E : XK}
end

/-! ### a def that may raise -/

/-! ### except X -/
structure CatchCls (K : Frag) (D : Addr) : Prop where
  cl : ∃ cd, clsIn K D = some cd
  ty : typeIn K (.ref D) = some (.type "type")
  hb : mroIn K D (.type "BaseException") = some true
theorem exc_matches {M : Model} {A : Around} {E : Value → Shared → Prop} {s : Shared} {K : Frag} {e C D : Addr} {Q : Bool → Shared → Prop} (X : K.In s.heap) (I : OfCls e C s.heap) (c : CatchCls K D) {b : Bool} (hm : mroIn K C (.ref D) = some b) (hq : Q b s) :
    wpAny M A (excMatches (.ref e) (.ref D)) Q E s := by
  obtain ⟨hh, g, d, t, os⟩ := s
  have l0 := I.type (M := M)
  obtain ⟨ob, ho, hc⟩ := Option.map_eq_some_iff.mp c.ty
  have l1 : Looks M hh (typeOf (.ref D)) (.type "type") := hc ▸ (Looks.ld (X _ _ ho)).andThen .now
  have l2 : Looks M hh (isType (.ref D)) true := by
    obtain ⟨cd, hcd⟩ := c.cl
    unfold clsIn at hcd
    split at hcd
    · rename_i c' d' cd' sl' lo
      intro A' Q' E' s' k q
      unfold isType loadHead
      exact wpAny_bind (wpAny_loadPart (k _ _ (X _ _ lo)) (wpAny_pure q))
    · cases hcd
  have l3 := looks_mroIn (M := M) X c.hb
  have l4 := looks_mroIn (M := M) X hm
  have l5 : Looks M hh (isInstance (.ref D) (.type "tuple")) false := l1.andThen (Looks.of_pure tc_notTuple)
  have l6 : Looks M hh (isExcClass (.ref D)) true := l2.andThen (by exact l3)
  unfold excMatches
  refine wpAny_bind (l5.at ?_)
  rw [if_neg (by decide)]
  refine wpAny_bind (wpAny_pure ?_)
  simp only [List.forIn_cons, List.forIn_nil]
  refine wpAny_bind (wpAny_bind (wpAny_bind (l6.at ?_)))
  rw [if_neg (by decide)]
  refine wpAny_pure (wpAny_pure (wpAny_bind (l0.at (wpAny_bind (wpAny_bind (wpAny_bind (l4.at ?_)))))))
  cases b with
  | true => exact wpAny_pure (wpAny_pure (wpAny_pure hq))
  | false => exact wpAny_pure (wpAny_pure (wpAny_pure hq))
end L2


set_option Elab.async false
set_option linter.all false
set_option maxRecDepth 100000
set_option maxHeartbeats 4000000
namespace L2
open PySem PySem.Spec PyProof.Rows PySem.W

/-- the context of an except suite -/
noncomputable def Cx.mark (X : Cx) (ea : Addr) : Cx := { X with A := X.A.mark (some (.ref ea)), calm := false }
section
variable {X : Cx} {pins : List (Addr × Obj)} {σ : St} {H H' : Hp} {s s' : Shared}
theorem Inv.mark (I : Inv X pins σ H s) (ea : Addr) : Inv (X.mark ea) pins σ H s :=
  ⟨⟨I.ok.mod, I.ok.kind, I.ok.glob, I.ok.blt, I.ok.above, I.ok.inj, I.ok.has, I.ok.cab, (fun z => by cases z), I.ok.frames, I.ok.stk, I.ok.exf, I.ok.bs, I.ok.bsz, I.ok.noex, I.ok.exfs, I.ok.funs, I.ok.frf⟩,
    I.os, I.bare, I.base, I.loc, I.cell, I.free, I.freeC, I.pin, I.hok, I.len⟩
theorem Inv.unmark {ea : Addr} (I : Inv (X.mark ea) pins σ H s) (ok : X.Ok) : Inv X pins σ H s :=
  ⟨ok, I.os, I.bare, I.base, I.loc, I.cell, I.free, I.freeC, I.pin, I.hok, I.len⟩
/-- an untracked object of ours is tracked from now on -/
theorem Inv.track {a : Addr} {φ : Heap → Prop} (I : Inv X pins σ H s) (n : H a = none) (new : X.s₀.heap.get? a = none) (hL : a ≠ X.env.locals) (hc : ∀ x c, X.env.cells.lookup x = some c → c ≠ a) (hp : ∀ p ∈ X.pn ++ pins, p.1 ≠ a)
    (p : φ s.heap) (there : ∃ o, s.heap.get? a = some o) (st : ∀ h1 h2 : Heap, φ h1 → (∀ o, h1.get? a = some o → h2.get? a = some o) → φ h2) : Inv X pins σ (upd H a (.ext φ)) s :=
  ⟨I.ok, I.os, I.bare, ⟨I.base.keep, I.base.slot, fun b o e z hx => by rw [upd_ne (fun q => by rw [q, new] at e; cases e)]; exact I.base.free b o e z hx, I.base.there,
      fun b xs e => by have q := I.base.tups b xs e; rw [upd_ne (ne_of_none q n)]; exact q, fun b o u e => by have q := I.base.frzs b o u e; rw [upd_ne (ne_of_none q n)]; exact q,
      fun b ps e => by obtain ⟨m, q⟩ := I.base.tbls b ps e; exact ⟨m, by rw [upd_ne (ne_of_none q n)]; exact q⟩⟩,
    I.loc, I.cell, by rw [upd_ne (Ne.symm hL)]; exact I.free, fun x c e => by rw [upd_ne (hc x c e)]; exact I.freeC x c e,
    fun q hq => by obtain ⟨a1, a2, a3⟩ := I.pin q hq; exact ⟨a1, by rw [upd_ne (hp q hq)]; exact a2, a3⟩,
    fun b u e => by
      by_cases hb : b = a
      · subst hb
        rw [upd_same] at e
        cases e
        exact ⟨p, there, st⟩
      · rw [upd_ne hb] at e
        exact (I.hok b u e).stay (fun _ _ _ z => z) (fun c z => by rw [upd_ne (ne_of_none z n)]; exact z) fun c xs z => by rw [upd_ne (ne_of_none z n)]; exact z,
    I.len⟩
/-- a name of the frame's is gone -/
theorem Inv.unname {i : Nat} {x : Str} {v : Option Value} {m : Str → Option Value} {h' : Heap} {tk : Nat} (I : Inv X pins σ H s) (hN : X.N.Nodup) (hi : X.N[i]? = some x)
    (hm : s.heap.Ns X.env.locals m) (hn : h'.Ns X.env.locals fun y => if y = x then v else m y) (hs : Heap.SameBut X.env.locals s.heap h') : Inv X pins (σ.set i none) H { s with heap := h', toks := tk } := by
  have old : ∀ b o, X.s₀.heap.get? b = some o → b ≠ X.env.locals := fun b o e => Nat.ne_of_lt (Nat.lt_of_lt_of_le (Heap.lt_size e) I.ok.above)
  have cellK : ∀ y c, X.env.cells.lookup y = some c → ∀ u, s.heap.IsCell c u → h'.IsCell c u := fun y c e u z => z.sameBut hs (I.cne y c e)
  refine ⟨I.ok, I.os, I.bare, ⟨fun b o e n hb hx => (hs.2 b (old b o e)).trans (I.base.keep b o e n hb hx), fun b o e n hb hx => ?_, I.base.free, fun b o e hx => ?_, I.base.tups, I.base.frzs, I.base.tbls⟩, ⟨_, hn, fun j y u e1 e2 e3 => ?_⟩,
    fun y c e => ?_, I.free, I.freeC, fun p hp => ?_, fun b u e => ?_, by simpa using I.len⟩
  · obtain ⟨sl, z⟩ := I.base.slot b o e n hb hx
    exact ⟨sl, (hs.2 b (old b o e)).trans z⟩
  · obtain ⟨o', z⟩ := I.base.there b o e hx
    exact ⟨o', (hs.2 b (old b o e)).trans z⟩
  · by_cases hj : j = i
    · subst hj
      have e4 : (σ.set j none)[j]? = some (some u) := e2
      by_cases hl : j < σ.length
      · rw [List.getElem?_set_self hl] at e4
        cases e4
      · rw [List.getElem?_eq_none (by rw [List.length_set]; omega)] at e4
        cases e4
    · have e4 : (σ.set i none)[j]? = some (some u) := e2
      rw [List.getElem?_set_ne (Ne.symm hj)] at e4
      obtain ⟨m0, hm0, hl⟩ := I.loc
      have em : m0 = m := by
        obtain ⟨o1, es1, ep1, g1, d1, _, r1⟩ := hm0
        obtain ⟨o2, es2, ep2, g2, d2, _, r2⟩ := hm
        rw [g1] at g2
        cases g2
        rw [d1] at d2
        cases d2
        funext z
        exact (r1 z).symm.trans (r2 z)
      subst em
      obtain ⟨u', r', q⟩ := hl j y u e1 e4 e3
      refine ⟨u', r', ?_⟩
      rcases q with ⟨k, e⟩ | ⟨k, c, e, z⟩
      · refine .inl ⟨k, ?_⟩
        have ne : y ≠ x := fun e => hj (nodup_ix hN e1 (e ▸ hi))
        show (if y = x then v else m0 y) = some u'
        rw [if_neg ne]
        exact e
      · exact .inr ⟨k, c, e, cellK y c e _ z⟩
  · obtain ⟨u, z⟩ := I.cell y c e
    exact ⟨u, cellK y c e u z⟩
  · obtain ⟨a1, a2, a3, a4⟩ := I.pin p hp
    exact ⟨(hs.2 _ a3).trans a1, a2, a3, a4⟩
  · have nl : ∀ c z, H c = some z → c ≠ X.env.locals := fun c z q e => by rw [e, I.free] at q; cases q
    exact (I.hok b u e).stay (fun c z hc q => (hs.2 c (hc.elim (fun k => by rw [k]; exact nl b u e) fun k => nl c _ k)).trans q) (fun _ z => z) fun _ _ z => z
/-- the frame again, at a heap in which B stays -/
theorem Inv.caught {ea : Addr} {C : Value} (I : Inv X pins σ H s) {t : Addr} {B : Heap} {h6 : Heap} {tk : Nat} (ho : s'.os = s.os) (hg : AllBare s'.gens) (un : Un (frs X.stack) [] H H' s.heap s'.heap) (hok : HOk X.prog X.w H' s'.heap)
    (cov : ∀ b o, s'.heap.get? b = some o → b ∉ frs X.stack → ((∃ u, H' b = some u) ∨ ∃ o', s.heap.get? b = some o') → B.get? b = some o) (st : B.StaysIn h6) (up : s'.heap.UpToSlots h6) : Inv X pins σ H' { s' with heap := h6, toks := tk } := by
  have fr := I.stack
  have frf : ∀ b u, H' b = some u → b ∉ frs X.stack := fun b u e z => by
    obtain ⟨_, o, e2, _⟩ := fr.mem z
    have q := un.free b o e2 (I.stkFree b z) (by simp)
    rw [e] at q; cases q
  have slotK : ∀ b o, s.heap.get? b = some o → b ∈ frs X.stack → ∃ sl, h6.get? b = some { o with slots := sl } := fun b o e hb => by
    obtain ⟨_, o', e2, nf⟩ := fr.mem hb
    have e3 : some o' = some o := e2.symm.trans e
    cases e3
    obtain ⟨sl, e4⟩ := un.slot b _ e (I.stkFree b hb) hb (by simp)
    obtain ⟨sl', e5⟩ := up b _ e4 nf
    exact ⟨sl', e5⟩
  have u6 : Un (frs X.stack) [] H H' s.heap h6 := by
    refine ⟨fun b o e n hb hx => st b o (cov b o (un.keep b o e n hb hx) hb (.inr ⟨o, e⟩)), fun b o e n hb hx => slotK b o e hb, un.free, fun b o e hx => ?_, un.tups, un.frzs, un.tbls⟩
    by_cases hb : b ∈ frs X.stack
    · obtain ⟨sl, z⟩ := slotK b o e hb
      exact ⟨_, z⟩
    · obtain ⟨o', z⟩ := un.there b o e hx
      exact ⟨o', st b o' (cov b o' z hb (.inr ⟨o, e⟩))⟩
  have k6 : HOk X.prog X.w H' h6 := fun b u e => (hok b u e).stay (fun c z hc q => by
    have tr : ∃ v, H' c = some v := hc.elim (fun k => ⟨u, by rw [k]; exact e⟩) fun k => ⟨_, k⟩
    obtain ⟨v, hv⟩ := tr
    exact st c z (cov c z q (frf c v hv) (.inl ⟨v, hv⟩))) (fun _ z => z) fun _ _ z => z
  exact I.call' (s' := { s' with heap := h6, toks := tk }) (ch := []) ho u6 k6 hg fun b hb => nomatch hb
end
end L2


set_option Elab.async false
set_option linter.all false
set_option maxRecDepth 100000
set_option maxHeartbeats 4000000
namespace L2
open PySem PySem.Spec PyProof.Rows PySem.W

/-! ### try: f(..) except Y as n: suite -/

/-! ### isinstance(an exception that was caught, c) -/
end L2


set_option Elab.async false
set_option linter.all false
set_option maxRecDepth 100000
set_option maxHeartbeats 4000000
namespace L2
open PySem PySem.Spec PyProof.Rows PySem.W
section
variable {X : Cx}
/-! ### == of two tuples of ints -/

/-! ### a, b = a list -/

/-! ### a comprehension's free names -/
theorem clo_aux {env : Env} : ∀ (names : List (Str × NameKind)) (acc : List (Str × Addr)), (∀ y, (y, NameKind.free) ∈ names → ∃ c, env.cells.lookup y = some c) →
    ∃ cl : List (Str × Addr), (forIn names acc (fun x r => match x with
        | (name, kind) => if (kind == NameKind.free) = true then do let a ← cellOf env name; pure (ForInStep.yield ((name, a) :: r)) else pure (ForInStep.yield r)) : Sem _) = pure cl ∧
      (∀ y c, cl.lookup y = some c → acc.lookup y = some c ∨ env.cells.lookup y = some c) ∧ (∀ y, (y, NameKind.free) ∈ names → ∃ c, cl.lookup y = some c) ∧ ∀ y, (∃ c, acc.lookup y = some c) → ∃ c, cl.lookup y = some c
  | [], acc, _ => ⟨acc, rfl, fun _ _ h => .inl h, (fun _ h => nomatch h), fun _ h => h⟩
  | (nm, kd) :: r, acc, h => by
    by_cases hk : kd = .free
    · subst hk
      obtain ⟨c, hc⟩ := h nm List.mem_cons_self
      obtain ⟨cl, e, p1, p2, p3⟩ := clo_aux r ((nm, c) :: acc) fun y hy => h y (List.mem_cons_of_mem _ hy)
      refine ⟨cl, ?_, fun y d hd => ?_, fun y hy => ?_, fun y hy => ?_⟩
      · rw [List.forIn_cons]
        have z : cellOf env nm = pure c := by unfold cellOf; rw [hc]
        simp only [z, beq_self_eq_true, if_true]
        exact e
      · rcases p1 y d hd with q | q
        · rw [List.lookup_cons] at q
          cases hy : y == nm with
          | true =>
            rw [hy] at q
            have e1 := beq_iff_eq.mp hy
            subst e1
            cases q
            exact .inr hc
          | false => rw [hy] at q; exact .inl q
        · exact .inr q
      · rcases List.mem_cons.mp hy with q | q
        · cases q
          exact p3 nm ⟨c, by rw [List.lookup_cons, beq_self_eq_true]⟩
        · exact p2 y q
      · obtain ⟨d, hd⟩ := hy
        refine p3 y ?_
        rw [List.lookup_cons]
        cases y == nm with
        | true => exact ⟨c, rfl⟩
        | false => exact ⟨d, hd⟩
    · obtain ⟨cl, e, p1, p2, p3⟩ := clo_aux r acc fun y hy => h y (List.mem_cons_of_mem _ hy)
      refine ⟨cl, ?_, p1, fun y hy => ?_, p3⟩
      · rw [List.forIn_cons]
        have z : (kd == NameKind.free) = false := by simpa using hk
        simp only [z, Bool.false_eq_true, if_false]
        exact e
      · rcases List.mem_cons.mp hy with q | q
        · cases q; exact absurd rfl hk
        · exact p2 y q
theorem clo_of {scope : Scope} {env : Env} (h : ∀ y, (y, NameKind.free) ∈ scope.names → ∃ c, env.cells.lookup y = some c) :
    ∃ cl, closureFor scope env = pure cl ∧ (∀ y c, cl.lookup y = some c → env.cells.lookup y = some c) ∧ ∀ y, (y, NameKind.free) ∈ scope.names → ∃ c, cl.lookup y = some c := by
  obtain ⟨cl, e, p1, p2, _⟩ := clo_aux (env := env) scope.names [] h
  refine ⟨cl, ?_, fun y c hc => (p1 y c hc).elim (fun z => by cases z) fun z => z, p2⟩
  unfold closureFor
  show (forIn scope.names [] _ >>= fun s => pure s) = pure cl
  rw [bind_pure]
  exact e
/-- what the block's free names ask: each is one of those at js -/
theorem free_of {scope : Scope} {js : List Nat} {pins : List (Addr × Obj)} {σ : St} {H : Hp} {s : Shared} (I : Inv X pins σ H s) (hf : ∀ y, (y, NameKind.free) ∈ scope.names → X.env.kindOf y = some .cell ∨ X.env.kindOf y = some .free) :
    ∀ y, (y, NameKind.free) ∈ scope.names → ∃ c, X.env.cells.lookup y = some c := fun y hy => I.ok.has y (hf y hy)
variable {elt iter : Expr} {x : Str} {px pos : Pos} {ifs : List Expr} {scope : Scope} {wi : TI} {tc : TT} {te : TE} {js : List Nat}
theorem pe_compF (hc : X.calm = true) (hi : PI X (.Name x px) iter wi) (hk : scope.kind = .function) (hcell : ∀ y ∈ scope.names, y.2 ≠ .cell) (hnames : ∀ y ∈ scope.names, y.2 = .local → scope.names.lookup y.1 = some .local) (hx : (relabel scope X.env).names.lookup x = some .local)
    (hf : ∀ p ∈ scope.names, p.2 = .free → X.env.kindOf p.1 = some .cell ∨ X.env.kindOf p.1 = some .free) (hjs : FreeAt X scope js) (hnd : (cNames X x js).Nodup)
    (ht : ∀ cl s' H' fp, PIf (cxComp X scope cl (cNames X x js) s' H' fp) ifs tc) (he : ∀ cl s' H' fp, PE (cxComp X scope cl (cNames X x js) s' H' fp) elt te)
    (hs : ∀ x, foldedSetIterable iter X.env x = pure x := by intro _; rfl) : PE X (.ListComp elt [⟨.Name x px, iter, ifs, 0⟩] scope pos) (tComp wi tc te js) := by
  intro pins s σ H Q I h
  obtain ⟨cl, e, p1, p2⟩ := clo_of (free_of (js := js) I fun y hy => hf (y, .free) hy rfl)
  exact pe_comp hc hi hk hcell hnames hx e p1 p2 hjs hnd (ht cl) (he cl) hs pins s σ H Q I h
theorem ps_setF {y : Str} {i : Nat} {py spos : Pos} (hN : X.N.Nodup) (hy : X.N[i]? = some y) (hyl : Loc X.env.scope y) (hyf : X.fn y = true ∨ X.env.scope.names.lookup y = some .local)
    (hsw : swapsWith (.ListComp elt [⟨.Name x px, iter, ifs, 0⟩] scope pos) (some (.Name y py)) spos.line X.env = pure true)
    (hc : X.calm = true) (hi : PI X (.Name x px) iter wi) (hk : scope.kind = .function) (hcell : ∀ y ∈ scope.names, y.2 ≠ .cell) (hnames : ∀ y ∈ scope.names, y.2 = .local → scope.names.lookup y.1 = some .local) (hx : (relabel scope X.env).names.lookup x = some .local)
    (hf : ∀ p ∈ scope.names, p.2 = .free → X.env.kindOf p.1 = some .cell ∨ X.env.kindOf p.1 = some .free) (hjs : FreeAt X scope js) (hnd : (cNames X x js).Nodup)
    (ht : ∀ cl s' H' fp, PIf (cxComp X scope cl (cNames X x js) s' H' fp) ifs tc) (he : ∀ cl s' H' fp, PE (cxComp X scope cl (cNames X x js) s' H' fp) elt te)
    (hs : ∀ x, foldedSetIterable iter X.env x = pure x := by intro _; rfl) :
    PS X (.Assign [.Name y py] (.ListComp elt [⟨.Name x px, iter, ifs, 0⟩] scope pos) spos) (tAsgC i (tComp wi tc te js)) := by
  intro pins s σ H D I h
  obtain ⟨cl, e, p1, p2⟩ := clo_of (free_of (js := js) I fun y hy => hf (y, .free) hy rfl)
  exact ps_setC hN hy hyl hyf hsw hc hi hk hcell hnames hx e p1 p2 hjs hnd (ht cl) (he cl) hs pins s σ H D I h
end
end L2


set_option Elab.async false
set_option linter.all false
set_option maxRecDepth 100000
set_option maxHeartbeats 4000000
namespace L2
open PySem PySem.Spec PyProof.Rows

/-! ### data in the heap: ints, truths, texts, None, and tuples of these -/
mutual
noncomputable def Dat (K : PySem.W.Frag) (H : Hp) : PyData → V → Prop
  | .none, v => v = .non
  | .bool b, v => v = .bl b
  | .int i, v => v = .int i
  | .str x, v => v = .str x
  | .tuple ds, v => ∃ a xs, v = .ref a ∧ SqT K H a xs ∧ DatAll K H ds xs
  | .list _, _ => False
  | .dict _, _ => False
noncomputable def DatAll (K : PySem.W.Frag) (H : Hp) : List PyData → List V → Prop
  | [], xs => xs = []
  | d :: ds, xs => ∃ x r, xs = x :: r ∧ Dat K H d x ∧ DatAll K H ds r
end
/-- tuples, and what is frozen, stay -/
structure Tst (H H' : Hp) : Prop where
  t : ∀ b xs, H b = some (.tup xs) → H' b = some (.tup xs)
  f : ∀ b o u, H b = some (.frz o u) → H' b = some (.frz o u)
theorem Same.ts {H H' : Hp} (e : Same H H') : Tst H H' := ⟨fun b xs h => e b _ h, fun b o u h => e b _ h⟩
theorem ts_mut {H : Hp} {l : Addr} {xs : List V} {o : HO} (e : H l = some (.lst xs)) : Tst H (upd H l o) :=
  ⟨fun b ys h => by rw [upd_ne (ne_of h e (by intro z; cases z))]; exact h, fun b o u h => by rw [upd_ne (ne_of h e (by intro z; cases z))]; exact h⟩
theorem SqT.ts {K : PySem.W.Frag} {H H' : Hp} {a : Addr} {xs : List V} (h : SqT K H a xs) (e : Tst H H') : SqT K H' a xs := by
  rcases h with (h | ⟨o, h⟩) | h
  · exact .inl (.inl (e.t _ _ h))
  · exact .inl (.inr ⟨o, e.f _ _ _ h⟩)
  · exact .inr h
mutual
theorem Dat.ts {K : PySem.W.Frag} {H H' : Hp} (e : Tst H H') : ∀ {d : PyData} {v : V}, Dat K H d v → Dat K H' d v
  | .none, _, h => h
  | .bool _, _, h => h
  | .int _, _, h => h
  | .str _, _, h => h
  | .tuple _, _, ⟨a, xs, h1, h2, h3⟩ => ⟨a, xs, h1, h2.ts e, DatAll.ts e h3⟩
  | .list _, _, h => h
  | .dict _, _, h => h
theorem DatAll.ts {K : PySem.W.Frag} {H H' : Hp} (e : Tst H H') : ∀ {ds : List PyData} {xs : List V}, DatAll K H ds xs → DatAll K H' ds xs
  | [], _, h => h
  | _ :: _, _, ⟨x, r, h1, h2, h3⟩ => ⟨x, r, h1, Dat.ts e h2, DatAll.ts e h3⟩
end
theorem DatAll.len {K : PySem.W.Frag} {H : Hp} : ∀ {ds : List PyData} {xs : List V}, DatAll K H ds xs → xs.length = ds.length
  | [], _, h => by subst h; rfl
  | _ :: _, _, ⟨x, r, h1, _, h3⟩ => by subst h1; simp [h3.len]
theorem DatAll.get {K : PySem.W.Frag} {H : Hp} : ∀ {ds : List PyData} {xs : List V} {i : Nat} {d : PyData}, DatAll K H ds xs → ds[i]? = some d → ∃ x, xs[i]? = some x ∧ Dat K H d x
  | [], _, _, _, _, e => by cases e
  | _ :: _, _, 0, _, ⟨x, r, h1, h2, _⟩, e => by subst h1; cases e; exact ⟨x, rfl, h2⟩
  | _ :: _, _, i + 1, _, ⟨x, r, h1, _, h3⟩, e => by
    subst h1
    obtain ⟨y, e1, e2⟩ := h3.get (i := i) (by simpa using e)
    exact ⟨y, by simpa using e1, e2⟩
theorem DatAll.get' {K : PySem.W.Frag} {H : Hp} {ds : List PyData} {xs : List V} {i : Nat} {x : V} (h : DatAll K H ds xs) (e : xs[i]? = some x) : ∃ d, ds[i]? = some d ∧ Dat K H d x := by
  have hl := h.len
  have hi := (List.getElem?_eq_some_iff.mp e).1
  have hd : ds[i]? = some (ds[i]'(by omega)) := List.getElem?_eq_getElem (by omega)
  obtain ⟨y, e1, e2⟩ := h.get hd
  rw [e] at e1
  cases e1
  exact ⟨_, hd, e2⟩
theorem DatAll.append {K : PySem.W.Frag} {H : Hp} : ∀ {ds es : List PyData} {xs ys : List V}, DatAll K H ds xs → DatAll K H es ys → DatAll K H (ds ++ es) (xs ++ ys)
  | [], _, _, _, h, g => by subst h; exact g
  | _ :: _, _, _, _, ⟨x, r, h1, h2, h3⟩, g => by subst h1; exact ⟨x, _, rfl, h2, h3.append g⟩
theorem DatAll.snoc {K : PySem.W.Frag} {H : Hp} {ds : List PyData} {xs : List V} {d : PyData} {x : V} (h : DatAll K H ds xs) (g : Dat K H d x) : DatAll K H (ds ++ [d]) (xs ++ [x]) := h.append ⟨x, [], rfl, g, rfl⟩
mutual
theorem Dat.reads {X : Cx} {pins : List (Addr × Obj)} {σ : St} {H : Hp} {s : Shared} (I : Inv X pins σ H s) : ∀ (d : PyData) {v : V} {u : Value}, Dat X.K H d v → RelV v u → ∃ as, Reads s.heap u d as
  | .none, _, _, h, r => by
    cases (show _ = V.non from h)
    cases (show _ = Value.none from r)
    exact ⟨[], .none⟩
  | .bool b, _, _, h, r => by
    cases (show _ = V.bl b from h)
    cases (show _ = Value.bool b from r)
    exact ⟨[], .bool b⟩
  | .int i, _, _, h, r => by
    cases (show _ = V.int i from h)
    obtain ⟨t, q⟩ := (show ∃ t, _ = Value.int i t from r)
    cases q
    exact ⟨[], .int i t⟩
  | .str x, _, _, h, r => by
    cases (show _ = V.str x from h)
    obtain ⟨t, q⟩ := (show ∃ t, _ = Value.str x t from r)
    cases q
    exact ⟨[], .str x t⟩
  | .tuple ds, _, _, ⟨a, xs, h1, h2, h3⟩, r => by
    cases h1
    cases (show _ = Value.ref a from r)
    obtain ⟨its, rv, ⟨o, ho, hc, n, hd⟩, _⟩ := I.tuple h2
    obtain ⟨as, ra⟩ := DatAll.reads I ds h3 rv
    exact ⟨as, .tuple ho hc hd (by simpa using ra)⟩
  | .list _, _, _, h, _ => False.elim h
  | .dict _, _, _, h, _ => False.elim h
theorem DatAll.reads {X : Cx} {pins : List (Addr × Obj)} {σ : St} {H : Hp} {s : Shared} (I : Inv X pins σ H s) : ∀ (ds : List PyData) {xs : List V} {us : List Value}, DatAll X.K H ds xs → Vals xs us → ∃ as, ReadsAll s.heap us ds as
  | [], _, _, h, r => by
    cases (show _ = ([] : List V) from h)
    cases r
    exact ⟨[], .nil⟩
  | d :: ds, _, _, ⟨x, t, h1, h2, h3⟩, r => by
    cases h1
    cases r with
    | cons r1 r2 =>
      obtain ⟨as, a1⟩ := Dat.reads I d h2 r1
      obtain ⟨bs, b1⟩ := DatAll.reads I ds h3 r2
      exact ⟨as ++ bs, .cons a1 b1⟩
end
section
variable {X : Cx}
/-! ### isinstance of a tuple, a list that is read -/
theorem call_isiT : CallR X (.builtin "isinstance") (fun xs H Q => ∃ (a : Addr) (ys : List V) (c : V) (cv : Value) (k : Bool), xs = [.ref a, c] ∧ (∀ u, RelV c u → u = cv) ∧ SqT X.K H a ys ∧ PySem.W.kitOne X.K (.type "tuple") cv = some k ∧ Q (.bl k) H) := by
  intro pins s σ H xs us Q I r h
  obtain ⟨a, ys, c, cv, k, rfl, hc, hq, kt, q⟩ := h
  obtain ⟨u, w', rfl, r1, r2⟩ := vals2 r
  have e := hc _ r2
  subst e
  cases (show u = Value.ref a from r1)
  obtain ⟨its, rv, ⟨o, h1, h2, _⟩, _⟩ := I.tuple hq
  exact PySem.W.kia_one PySem.W.kitx_tuple I.kIn ⟨o, h1, h2⟩ kt (fun z => nomatch z) fun tk => ⟨.bl k, H, I.tok tk, rfl, q⟩
theorem call_isiL : CallR X (.builtin "isinstance") (fun xs H Q => ∃ (a : Addr) (ys : List V) (c : V) (cv : Value) (k : Bool), xs = [.ref a, c] ∧ (∀ u, RelV c u → u = cv) ∧ SqL X.K H a ys ∧ PySem.W.kitOne X.K (.type "list") cv = some k ∧ Q (.bl k) H) := by
  intro pins s σ H xs us Q I r h
  obtain ⟨a, ys, c, cv, k, rfl, hc, hq, kt, q⟩ := h
  obtain ⟨u, w', rfl, r1, r2⟩ := vals2 r
  have e := hc _ r2
  subst e
  cases (show u = Value.ref a from r1)
  obtain ⟨its, rv, ⟨o, n, h1, h2, _⟩, _⟩ := I.list hq
  exact PySem.W.kia_one PySem.W.kitx_list I.kIn ⟨o, h1, h2⟩ kt (fun z => nomatch z) fun tk => ⟨.bl k, H, I.tok tk, rfl, q⟩
/-! ### all, any of a list of truths -/
theorem bools_of {bs : List Bool} : ∀ {us : List Value}, Vals (bs.map V.bl) us → LSm.BoolsAre us bs := by
  induction bs with
  | nil => intro us r; cases r; exact .nil
  | cons b r ih =>
    intro us q
    cases q with
    | cons a t =>
      cases (show _ = Value.bool b from a)
      exact .cons b (ih t)
theorem call_all (hc : X.calm = true) : CallR X (.builtin "all") (fun xs H Q => ∃ (l : Addr) (bs : List Bool), xs = [.ref l] ∧ SqL X.K H l (bs.map V.bl) ∧ Q (.bl (bs.all id)) H) := by
  intro pins s σ H xs us Q I r h
  obtain ⟨l, bs, rfl, hq, q⟩ := h
  obtain ⟨u, rfl, rx⟩ := vals1 r
  cases rx
  obtain ⟨its, rv, pl, _⟩ := I.list hq
  have hl := pl.isList
  have hb := bools_of rv
  have hlt : l < s.heap.objs.size := by obtain ⟨_, e, _⟩ := hl; exact Heap.lt_size e
  refine call_all_walk (wpAny_pyIter_list hl ?_)
  refine ⟨s.heap.objs.size, [s.heap.objs.size, l], [s.heap.objs.size], its.toArray.size, _, _, fun i => (bs[i]?).getD true, rfl, Walks.list (A := X.A.in1) (I.ok.hd hc) _ l (Nat.ne_of_lt hlt) its.toArray,
    ⟨⟨_, Heap.get?_push_size _ rfl, rfl, rfl⟩, hl.push _⟩, fun i v s' Q' E' hP hQ => ?_, fun h' tk hk => ?_⟩
  · obtain ⟨b, e, rfl⟩ := hb.get i v (by simpa using hP)
    simp only [e, Option.getD_some] at hQ
    exact wpAny_truthy_bool hQ
  · have e : ((List.range its.toArray.size).all fun i => (bs[i]?).getD true) = bs.all id := by
      rw [List.size_toArray, hb.length]; exact LSm.range_all bs
    rw [e]
    exact ⟨.bl _, H, I.kept (t' := tk) (LSm.kept_iter hk), rfl, q⟩
end
/-! ### the same, where the context's K is named (within a comprehension the reading may not name the context) -/
section
variable {X : Cx} {K : PySem.W.Frag}
theorem ix_tupK (e : X.K = K) : IxR X (rIxT K) := e ▸ ix_tup
end
/-! ### what such data say when they are compared -/
theorem lay_map {α : Type} {f : α → PyData} (h : ∀ a, (f a).canLay0 = true) : ∀ L : List α, PyData.canLayAll0 (L.map f) = true
  | [] => by simp [PyData.canLayAll0]
  | a :: r => by simp [PyData.canLayAll0, h a, lay_map h r]
theorem depth_map {α : Type} {f : α → PyData} {n : Nat} (h : ∀ a, (f a).depth ≤ n) : ∀ L : List α, PyData.depthAll (L.map f) ≤ n
  | [] => by simp [PyData.depthAll]
  | a :: r => by
    have h1 := h a
    have h2 := depth_map h r
    simp only [List.map_cons, PyData.depthAll]
    omega
/-! ### a tuple, an int that stands at the top -/
structure TopTup (K : PySem.W.Frag) (mg : Str → Option Value) (x : Str) (ns : List Int) : Prop where
  ex : ∃ a, mg x = some (.ref a) ∧ ∀ H, SqT K H a (ns.map V.int)
theorem toptup_mk {K : PySem.W.Frag} {h : Heap} {mg : Str → Option Value} {x : Str} {a : Addr} {od : Option Addr} {its : Array Value} {n : Nat} {osl : Array (Option Value)} {ns : List Int} (X : K.In h) (G : h.Ns mainGlobals mg)
    (e : PySem.W.nsIn K mainGlobals x = some (some (.ref a))) (l : K.lookup a = some ⟨.type "tuple", od, .seq its n, osl⟩) (hz : its.size ≤ sizeLine) (v : Vals (ns.map V.int) its.toList) : TopTup K mg x ns :=
  ⟨a, PySem.W.mg_of X G e, fun _ => .inr ⟨_, its, n, l, rfl, rfl, hz, v⟩⟩
theorem topint_mk {K : PySem.W.Frag} {h : Heap} {mg : Str → Option Value} {x : Str} {v : Value} {n : Int} (X : K.In h) (G : h.Ns mainGlobals mg) (e : PySem.W.nsIn K mainGlobals x = some (some v)) (q : ∃ t, v = .int n t) : ∃ t, mg x = some (.int n t) := by
  obtain ⟨t, rfl⟩ := q
  exact ⟨t, PySem.W.mg_of X G e⟩
end L2


set_option Elab.async false
set_option linter.all false
set_option maxRecDepth 100000
set_option maxHeartbeats 4000000
namespace L2
open PySem PySem.Spec PyProof.Rows
section
variable {X : Cx} {pins : List (Addr × Obj)} {σ : St} {H H' : Hp} {s s' : Shared} {h' : Heap}
/-- several records of ours have turned -/
theorem Inv.turnedL {t' : Nat} {fp : List Addr} (I : Inv X pins σ H s) (kp : ∀ b o, b ∉ fp → s.heap.get? b = some o → h'.get? b = some o) (hf : ∀ b ∈ fp, FpOk X pins H b) : Inv X pins σ H { s with heap := h', toks := t' } := by
  have far : ∀ b u, H b = some u → b ∉ fp := fun b u e z => by
    have := (hf b z).1
    rw [e] at this; cases this
  refine I.step (ch := fp) (g' := s.gens) (d' := s.drawn) (fun b hb => ⟨(hf b hb).2.2.2.1, (hf b hb).2.1, (hf b hb).2.2.2.2.1, (hf b hb).2.2.2.2.2⟩) (fun b o _ _ hc e _ => kp b o hc e) (fun b o _ _ hc e _ => ⟨o.slots, kp b o hc e⟩) (fun _ _ _ _ n => n)
    (fun b o hc e => ⟨o, kp b o hc e⟩) (fun _ _ e => e) (fun _ _ _ e => e) (fun b ps e => ⟨#[], by rw [e]; simp⟩) (fun m hm => ?_) (fun b u e => ?_) I.bare
  · obtain ⟨o, es, ep, ho, r⟩ := hm
    exact ⟨o, es, ep, kp _ o (fun z => (hf _ z).2.1 rfl) ho, r⟩
  · exact (I.hok b u e).stay (fun c v hc q => kp c v (hc.elim (fun z => by rw [z]; exact far b u e) fun z => far c _ z) q) (fun _ q => q) fun _ _ q => q
/-- what lies there untracked is tracked from now on -/
theorem Inv.trackO {a : Addr} {o : HO} (I : Inv X pins σ H s) (n : H a = none) (new : X.s₀.heap.get? a = none) (hL : a ≠ X.env.locals) (hc : ∀ x c, X.env.cells.lookup x = some c → c ≠ a) (hp : ∀ p ∈ X.pn ++ pins, p.1 ≠ a)
    (p : ObjOk X.prog X.w (upd H a o) s.heap a o) : Inv X pins σ (upd H a o) s :=
  ⟨I.ok, I.os, I.bare, ⟨I.base.keep, I.base.slot, fun b o e z hx => by rw [upd_ne (fun q => by rw [q, new] at e; cases e)]; exact I.base.free b o e z hx, I.base.there,
      fun b xs e => by have q := I.base.tups b xs e; rw [upd_ne (ne_of_none q n)]; exact q, fun b o u e => by have q := I.base.frzs b o u e; rw [upd_ne (ne_of_none q n)]; exact q,
      fun b ps e => by obtain ⟨m, q⟩ := I.base.tbls b ps e; exact ⟨m, by rw [upd_ne (ne_of_none q n)]; exact q⟩⟩,
    I.loc, I.cell, by rw [upd_ne (Ne.symm hL)]; exact I.free, fun x c e => by rw [upd_ne (hc x c e)]; exact I.freeC x c e,
    fun q hq => by obtain ⟨a1, a2, a3⟩ := I.pin q hq; exact ⟨a1, by rw [upd_ne (hp q hq)]; exact a2, a3⟩,
    fun b u e => by
      by_cases hb : b = a
      · subst hb
        rw [upd_same] at e
        cases e
        exact p
      · rw [upd_ne hb] at e
        exact (I.hok b u e).stay (fun _ _ _ z => z) (fun c z => by rw [upd_ne (ne_of_none z n)]; exact z) fun c xs z => by rw [upd_ne (ne_of_none z n)]; exact z,
    I.len⟩
end

/-! ### what yields a new tuple at each turn -/
/-- src: what stands in the tuple of turn i -/
noncomputable def ItT (go : Nat → Hp → Prop) (src : Nat → Hp → List V → Prop) (n : Nat → Hp → Prop) : It :=
  ⟨go, fun i H v H' => ∃ (T : Addr) (vs : List V), H T = none ∧ v = .ref T ∧ H' = upd H T (.tup vs) ∧ src i H vs, n⟩
/-- one turn, by the library's walk that yields tuples -/
theorem turn_item {X : Cx} {elts : List Expr} {kk : Nat} {tpos : Pos} {I₀ : Addr} {fp' wr fp : List Addr} {n : Nat} {Pt : Nat → Array Value → Prop} {St : Nat → Heap → Prop} {Mid : Nat → Addr → Heap → Prop} (W : WalksT X.prog X.w X.A I₀ fp' wr n Pt St Mid)
    {pins : List (Addr × Obj)} {s : Shared} {σ : L2.St} {H : Hp} {E : Value → Shared → Prop} {i : Nat} {vs : List V} {src : Nat → Hp → List V → Prop} {tn : Nat → Heap → Prop} (I : Inv X pins σ H s) (hf : ∀ b ∈ fp, FpOk X pins H b) (hob : ∀ b ∈ fp, ∃ o, s.heap.get? b = some o) (hw : ∀ b ∈ wr, b ∈ fp) (hi : i < n) (st : St i s.heap)
    (hv : ∀ vals, Pt i vals → Vals vs vals.toList) (hz : vs.length ≤ sizeLine) (hsrc : src i H vs) (htn : ∀ h, St (i + 1) h → tn (i + 1) h) {gop stp : Nat → Hp → Prop} :
    wpAny (model X.prog X.w) X.A (pyNext (.ref I₀)) (fun r s1 => ∃ u, r = some u ∧
      wpAny (model X.prog X.w) X.A (letOwnedTupleGo (.Tuple elts kk tpos) (.ref I₀) u) (fun _ s2 => ∃ x H', Inv X pins σ H' s2 ∧ RelV x u ∧ (ItT gop src stp).yld i H x H' ∧ tn (i + 1) s2.heap ∧ ∀ b ∈ fp, H' b = none) E s1) E s := by
  refine W.item i s _ _ hi st fun T vals h1 tk hP hT hTup hM kp => ?_
  refine ⟨.ref T, rfl, W.go elts kk tpos i T { s with heap := h1, toks := tk } _ _ hM fun h2 hst kp2 => ?_⟩
  have I1 : Inv X pins σ H { s with heap := h2, toks := tk } := I.turnedL (fun b o hb e => kp2 b o (fun z => hb (hw b z)) (kp b o (fun z => hb (hw b z)) e)) hf
  have nT : H T = none := I.hok.fresh hT
  have tup : h2.IsTuple T vals := by
    obtain ⟨o, e, r⟩ := hTup
    exact ⟨o, kp2 T o (W.apart i T h1 hM) e, r⟩
  have new : X.s₀.heap.get? T = none := by
    cases z : X.s₀.heap.get? T with
    | none => rfl
    | some o => exact absurd (Nat.lt_of_lt_of_le (Heap.lt_size z) (Nat.le_trans I.sz hT)) (Nat.lt_irrefl _)
  refine ⟨.ref T, upd H T (.tup vs), I1.trackO nT new (Nat.ne_of_gt (Nat.lt_of_lt_of_le I.lt hT)) (fun x c e z => ?_) (fun p hp z => ?_) ⟨hz, vals.toList, hv vals hP, (by rw [Array.toArray_toList]; exact tup)⟩, rfl, ⟨T, vs, nT, rfl, rfl, hsrc⟩, htn _ hst, fun b hb => ?_⟩
  · obtain ⟨v, o, ho, _⟩ := I.cell x c e
    exact absurd (Nat.lt_of_lt_of_le (Heap.lt_size ho) (by rw [z]; exact hT)) (Nat.lt_irrefl _)
  · exact absurd (Nat.lt_of_lt_of_le (Heap.lt_size (I.pin p hp).1) (by rw [z]; exact hT)) (Nat.lt_irrefl _)
  · have e0 := (hf b hb).1
    obtain ⟨o, ho⟩ := hob b hb
    have bT : b ≠ T := fun z => absurd (Nat.lt_of_lt_of_le (Heap.lt_size ho) (by rw [z]; exact hT)) (Nat.lt_irrefl _)
    rw [upd_ne bT]
    exact e0
/-! ### enumerate of a list -/
noncomputable def srcE (K : PySem.W.Frag) (a : Addr) : Nat → Hp → List V → Prop := fun i H vs => ∃ x, vs = [.int i, x] ∧ ∀ xs, SqL K H a xs → xs[i]? = some x
noncomputable def ItE (K : PySem.W.Frag) (a : Addr) : It := ItT (fun i H => ∃ xs x, SqL K H a xs ∧ xs[i]? = some x) (srcE K a) fun i H => ∃ xs, SqL K H a xs ∧ xs.length ≤ i
theorem isList_ne {h : Heap} {a b : Addr} {its : Array Value} {o : Obj} {T : String} (l : h.IsList a its) (e : h.get? b = some o) (c : o.cls = .type T) (n : T ≠ "list") : a ≠ b := fun z => by
  obtain ⟨o', e', c', _⟩ := l
  rw [z, e] at e'
  cases e'
  rw [c] at c'
  exact n (Value.type.inj c')
theorem turn_enum {P : Program} {w : World} {K : PySem.W.Frag} {elts : List Expr} {kk : Nat} {tpos : Pos} (a e it : Addr) (hei : e ≠ it) :
    Turn P w K (.Tuple elts kk tpos) (ItE K a) [e, it] e (fun i h => (∃ old, IsEnum h e it i old) ∧ h.IsListIter it a i) where
  mem := by simp
  obj := fun i h st b hb => by
    obtain ⟨⟨old, he⟩, o, ho, _, hd⟩ := st
    rcases List.mem_cons.mp hb with rfl | hb
    · exact ⟨_, he, fun v z => by cases z⟩
    · rw [List.mem_singleton.mp hb]
      exact ⟨o, ho, fun v z => by rw [hd] at z; cases z⟩
  keep := fun i h h' st k => by
    obtain ⟨⟨old, he⟩, l⟩ := st
    exact ⟨⟨old, k e (by simp) _ he⟩, l.at fun o z => k it (by simp) o z⟩
  item := by
    intro X hP hw hK hc i pins s σ H E I hf st hg
    subst hP hw hK
    obtain ⟨xs, x, hq, hx⟩ := hg
    obtain ⟨its, rv, p, hz⟩ := I.list hq
    obtain ⟨u, hu, ru⟩ := rv.get hx
    obtain ⟨⟨old, he⟩, hit⟩ := st
    have hL := p.isList
    have ne1 : a ≠ e := isList_ne hL he rfl (by decide)
    have ne2 : a ≠ it := by
      obtain ⟨o, ho, hc', _⟩ := id hit
      exact isList_ne hL ho hc' (by decide)
    have W := WalksT.enumerateD (A := X.A) (Draws.list (prog := X.prog) (w := X.w) (A := X.A.in1) (I.ok.hd hc) it a ne2 its.toArray) e hei (by simp; exact ⟨hei, Ne.symm ne1⟩) (by simp)
    refine turn_item (fp := [e, it]) (vs := [.int i, x]) (src := srcE X.K a) (tn := fun i h => (∃ old, IsEnum h e it i old) ∧ h.IsListIter it a i) W I hf (fun b hb => ?_) (fun b hb => hb) (by have := (List.getElem?_eq_some_iff.mp hu).1; simpa using this) ⟨⟨old, he⟩, hit, hL⟩ (fun vals hP => ?_) (by show 2 ≤ sizeLine; decide) ⟨x, rfl, fun ys hy => by rw [I.list_inj hy hq]; exact hx⟩ fun h st => ⟨?_, st.2.1⟩
    · rcases List.mem_cons.mp hb with rfl | hb
      · exact ⟨_, he⟩
      · rw [List.mem_singleton.mp hb]
        obtain ⟨o, ho, _⟩ := id hit
        exact ⟨o, ho⟩
    · obtain ⟨t, y, hy, rfl⟩ := hP
      have ey : y = u := by
        have : its[i]? = some y := by simpa using hy
        rw [hu] at this
        exact (Option.some.inj this).symm
      subst ey
      exact .cons ⟨t, rfl⟩ (.cons ru .nil)
    · obtain ⟨old', z⟩ := st.1
      exact ⟨old', z⟩
  done := by
    intro X hP hw hK hc i pins s σ H E I hf st hg
    subst hP hw hK
    obtain ⟨xs, hq, hx⟩ := hg
    obtain ⟨its, rv, p, hz⟩ := I.list hq
    obtain ⟨⟨old, he⟩, hit⟩ := st
    have hl := rv.length
    obtain ⟨f0, f1, f2, f3, f4, f5⟩ := hf it (by simp)
    exact wpAny_pyNext_enum_end (I.ok.hd hc) he hit p.isList (by simp; omega) fun h' eb => ⟨rfl, I.turned (t' := s.toks) (fun b o hb e => eb b o hb e) f0 f1 f3 f4 f5⟩
  self := fun _ _ _ _ _ st h => by
    obtain ⟨⟨old, he⟩, _⟩ := st
    exact wpAny_pyIter_enum he h
section
variable {X : Cx}
noncomputable def iEnum (K : PySem.W.Frag) (tl : TE) : TI := fun σ H R => tl σ H fun x H1 => ∃ a, x = .ref a ∧ (∃ xs, SqL K H1 a xs) ∧ R (ItE K a) H1
theorem pi_enum {elts : List Expr} {kk : Nat} {tpos p pos : Pos} {e : Expr} {te : TE} (hg : Gl X "enumerate") (hm : X.mg "enumerate" = none) (he : PE X e te)
    (hs : starEach [e] X.env = [(false, eval e X.env)] := by rfl) : PI X (.Tuple elts kk tpos) (.Call (.Name "enumerate" p) [e] [] pos) (iEnum X.K te) := by
  intro pins s σ H R I h
  have b1 : bootBuiltins "enumerate" = some (.type "enumerate") := by decide +kernel
  refine wpAny_Call_Name_kw (ld_blt I hg hm b1 ?_ (by decide) (by decide))
  refine PyProof.Rows.callWith_type1 ?_ hs (by rfl)
  rw [hs]
  refine Calls.spliced_cons (thn (he pins s σ H _ I h) fun u s1 zz => ?_)
  obtain ⟨y, H1, I1, ry, a, ey, ⟨xs, hq⟩, q⟩ := zz
  subst ey
  have eu : u = Value.ref a := ry
  subst eu
  refine Calls.spliced_nil ?_
  obtain ⟨its, rv, pl, hz⟩ := I1.list hq
  refine call_enumerate_list pl.isList fun h' e1 e2 e3 kp => ?_
  have I2 : Inv X pins σ H1 { s1 with heap := h' } := I1.kept (t' := s1.toks) kp
  refine wpAny_pyIter_enum (s := { s1 with heap := h' }) e1 ?_
  refine ⟨_, [s1.heap.objs.size + 1, s1.heap.objs.size], _, ItE X.K a, H1, rfl, I2, turn_enum a _ _ (Nat.ne_of_gt (Nat.lt_succ_self _)), ⟨⟨_, e1⟩, e2⟩, fun b hb => ?_, q⟩
  have nb : s1.heap.objs.size ≤ b := by
    rcases List.mem_cons.mp hb with rfl | hb
    · exact Nat.le_succ _
    · rw [List.mem_singleton.mp hb]; exact Nat.le_refl _
  exact I1.fpOk nb (I1.hok.fresh nb)
end
/-- over a list that the body leaves as it is, with the turns' numbers -/
theorem for_enum {K : PySem.W.Frag} {a : Addr} {xs : List V} {g : TG} {tb : TS} {D : Ends} {σ : St} {H : Hp} (Pv : Nat → St → Hp → Prop) (h0 : Pv 0 σ H) (hl : ∀ i σ H, i ≤ xs.length → Pv i σ H → SqL K H a xs)
    (hs : ∀ i x T σ H, xs[i]? = some x → Pv i σ H → H T = none → g (.ref T) σ (upd H T (.tup [.int i, x])) fun σ2 H2 => tb { D with nx := Pv (i + 1), ct := Pv (i + 1), bk := D.nx } σ2 H2) (hd : ∀ σ H, Pv xs.length σ H → D.nx σ H) :
    ∃ W : Nat → Nat → St → Hp → Prop, (∃ m, W 0 m σ H) ∧ ∀ i m σ H, W i m σ H →
      ((ItE K a).stop i H ∧ D.nx σ H) ∨ ((ItE K a).go i H ∧ ∃ N : St → Hp → Prop, (∀ σ' H', N σ' H' → ∃ m', m' < m ∧ W (i + 1) m' σ' H') ∧ ∀ x H', (ItE K a).yld i H x H' → g x σ H' fun σ2 H2 => tb { D with nx := N, ct := N, bk := D.nx } σ2 H2) := by
  refine ⟨fun i m σ H => m = xs.length - i ∧ i ≤ xs.length ∧ Pv i σ H, ⟨xs.length, by simp, Nat.zero_le _, h0⟩, ?_⟩
  rintro i m σ H ⟨rfl, hi, p⟩
  have q := hl i σ H hi p
  by_cases hlt : i < xs.length
  · refine .inr ⟨⟨xs, xs[i], q, by simp [hlt]⟩, Pv (i + 1), fun σ' H' p' => ⟨xs.length - (i + 1), by omega, rfl, hlt, p'⟩, fun x H' y => ?_⟩
    obtain ⟨T, vs, nT, rfl, rfl, x, rfl, hx⟩ := y
    exact hs i x T σ H (hx xs q) p nT
  · have e : i = xs.length := by omega
    subst e
    exact .inl ⟨⟨xs, q, Nat.le_refl _⟩, hd σ H p⟩
end L2


set_option Elab.async false
set_option linter.all false
set_option maxRecDepth 100000
set_option maxHeartbeats 4000000
namespace L2
open PySem PySem.Spec PyProof.Rows PySem.AutoSeq1
/-! ### enumerate of a tuple -/
noncomputable abbrev titObj (t : Addr) : Obj := { cls := .type "tuple_iterator", data := .fields #[.ref t, .int 0 0] }
section
variable {prog : Program} {w : World} {A : Around} {E : Value → Shared → Prop} {s : Shared}
theorem nextOf_tup {it t : Addr} {i : Nat} {ys : Array Value} {x : Value} {Q : Value → Shared → Prop} (st : s.heap.IsTupleIter it t i) (tp : s.heap.IsTuple t ys) (e : ys[i]? = some x)
    (k : ∀ h', h'.IsTupleIter it t (i + 1) → Heap.SameBut it s.heap h' → Q x { s with heap := h' }) : wpAny (model prog w) A (Builtin.SmallTypes.nextOf (.ref it)) Q E s := by
  obtain ⟨ob, gb, cb, db⟩ := id st; obtain ⟨ot, gt, _, nt, dt⟩ := tp
  unfold Builtin.SmallTypes.nextOf; refine wpAny_bind (wpAny_callSpecial?_slot (name := Str.ofString "__next__") st.typeIs F.slot_tuple_iterator_next (wpAny_call_entry F.slot_tuple_iterator_next st.typeIs F.entry_tuple_iterator_next ?_ (F.args_tuple_iterator_next_1 _)))
  show wpAny _ _ (field (.ref it) 0 >>= _) _ _ s; refine wpAny_bind (wpAny_field gb db (x := .ref t) rfl ?_)
  show wpAny _ _ (if (Value.ref t == Value.none) = true then _ else _) _ _ s; rw [if_neg (show ¬ ((Value.ref t == Value.none) = true) from Bool.false_ne_true)]
  show wpAny _ _ (field (.ref it) 1 >>= _) _ _ s; refine wpAny_bind (wpAny_field gb db (x := .int i 0) rfl ?_)
  show wpAny _ _ (seqItems? (.ref t) >>= _) _ _ s; refine wpAny_bind (wpAny_seqItems gt dt ?_)
  simp only [Int.toNat_natCast, e]; refine wpAny_bind (wpAny_setField gb db (by simp) (wpAny_pure ⟨x, rfl, wpAny_pure (k _ ?_ (Heap.SameBut.update ..))⟩))
  exact ⟨_, Heap.get?_update_self _ gb (Obj.isFreed_of_fields (Obj.data_mapFields db _)), (Obj.cls_mapFields ..).trans cb, by rw [Obj.data_mapFields db]; simp [rawInt]⟩
theorem nextOf_tupEnd {it t : Addr} {i : Nat} {ys : Array Value} {Q : Value → Shared → Prop} (hd : A.handled = none) (st : s.heap.IsTupleIter it t i) (tp : s.heap.IsTuple t ys) (e : ys[i]? = none)
    (k : ∀ h' x, Heap.ExtBut it s.heap h' → (∃ o, h'.get? x = some o ∧ o.cls = .type "StopIteration") → E (.ref x) { s with heap := h' }) : wpAny (model prog w) A (Builtin.SmallTypes.nextOf (.ref it)) Q E s := by
  obtain ⟨ob, gb, cb, db⟩ := id st; obtain ⟨ot, gt, _, nt, dt⟩ := tp
  unfold Builtin.SmallTypes.nextOf; refine wpAny_bind (wpAny_callSpecial?_slot (name := Str.ofString "__next__") st.typeIs F.slot_tuple_iterator_next (wpAny_call_entry F.slot_tuple_iterator_next st.typeIs F.entry_tuple_iterator_next ?_ (F.args_tuple_iterator_next_1 _)))
  show wpAny _ _ (field (.ref it) 0 >>= _) _ _ s; refine wpAny_bind (wpAny_field gb db (x := .ref t) rfl ?_)
  show wpAny _ _ (if (Value.ref t == Value.none) = true then _ else _) _ _ s; rw [if_neg (show ¬ ((Value.ref t == Value.none) = true) from Bool.false_ne_true)]
  show wpAny _ _ (field (.ref it) 1 >>= _) _ _ s; refine wpAny_bind (wpAny_field gb db (x := .int i 0) rfl ?_)
  show wpAny _ _ (seqItems? (.ref t) >>= _) _ _ s; refine wpAny_bind (wpAny_seqItems gt dt ?_)
  simp only [Int.toNat_natCast, e]; refine wpAny_bind (wpAny_rule (wpAny_bind (wpAny_setField gb db (by simp) ?_)))
  show wpAny _ _ (newExc (.type "StopIteration") [] >>= _) _ _ _; refine wpAny_bind ?_; simp only [newExc, newTuple]
  refine wpAny_bind (wpAny_newObj_type ?_ (by size_fits)); refine wpAny_bind (m := firstArgMember _ _) (wpAny_of_eq (a := Value.none) (by first | rfl | (simp only [firstArgMember]; rfl)) ?_); refine wpAny_newObj_type ?_ (by size_fits)
  simp only [raiseNew]; refine wpAny_bind (wpAny_handled ?_); first | rw [show A.in1.handled = none from hd] | rw [hd]
  refine wpAny_bind (wpAny_pure (wpAny_throw ?_)); exact k _ _ (((Heap.SameBut.update ..).extBut.push _).push _) ⟨_, Heap.get?_push_size _ rfl, rfl⟩
end
section
variable {X : Cx}
end
end L2


set_option Elab.async false
set_option linter.all false
set_option maxRecDepth 100000
set_option maxHeartbeats 4000000
namespace L2
open PySem PySem.Spec PyProof.Rows
/-! ### zip of two lists -/
/-- the zip's own records, apart from one another -/
structure ZOwn (z TI TO i1 i2 : Addr) : Prop where
  a1 : TI ≠ z
  a2 : TO ≠ z
  a3 : i1 ≠ z
  a4 : i2 ≠ z
  a5 : TI ≠ TO
  a6 : TI ≠ i1
  a7 : TI ≠ i2
  a8 : TO ≠ i1
  a9 : TO ≠ i2
  a10 : i1 ≠ i2
section
variable {X : Cx}
end
end L2


set_option Elab.async false
set_option linter.all false
set_option maxRecDepth 100000
set_option maxHeartbeats 4000000
namespace L2
open PySem PySem.Spec PyProof.Rows
/-! ### a list comprehension with a tuple as its target: its block has the names xs of its own -/
noncomputable def cNamesT (X : Cx) (xs : List Str) (js : List Nat) : List Str := xs ++ js.map fun j => X.N.getD j ""
section
variable {X : Cx} {pins : List (Addr × Obj)} {σ : St} {H : Hp} {s : Shared} {scope : Scope} {cl : List (Str × Addr)} {xs : List Str} {js : List Nat} {fp : List Addr} {N : List Str}
theorem comp_okT (I : Inv X pins σ H s) (hk : scope.kind = .function) (hcell : ∀ y ∈ scope.names, y.2 ≠ .cell)
    (hcl1 : ∀ y c, cl.lookup y = some c → X.env.cells.lookup y = some c) (hcl2 : ∀ y, (y, NameKind.free) ∈ scope.names → ∃ c, cl.lookup y = some c)
    (hf : ∀ b ∈ fp, FpOk X pins H b) (hlt : ∀ b ∈ fp, b < s.heap.objs.size) : (cxComp X scope cl N s H fp).Ok where
  mod := I.ok.mod
  kind := hk
  glob := I.ok.glob
  blt := I.ok.blt
  above := Nat.le_refl _
  inj := fun y z c h1 h2 => I.ok.inj y z c (hcl1 y c h1) (hcl1 z c h2)
  has := fun y hy => by
    have hy' : (relabel scope X.env).names.lookup y = some .cell ∨ (relabel scope X.env).names.lookup y = some .free := hy
    rcases hy' with h | h
    · obtain ⟨k', m, q⟩ := lookup_relabel h
      rcases q with q | ⟨_, q⟩
      · exact absurd q (hcell _ m)
      · subst q; exact hcl2 y m
    · obtain ⟨k', m, q⟩ := lookup_relabel h
      rcases q with q | ⟨q, _⟩
      · subst q; exact hcl2 y m
      · cases q
  cab := fun y c h _ => by cases h
  hd := I.ok.hd
  frames := I.ok.frames
  stk := .inl rfl
  exf := fun b hb => ⟨Nat.ne_of_lt (hlt b hb), fun y c h => (hf b hb).2.2.2.2.1 y c (hcl1 y c h)⟩
  bs := I.bs
  bsz := Nat.le_trans I.ok.bsz I.sz
  noex := fun b o e hb => by
    rcases (hf b hb).2.2.2.1 with z | z
    · exact I.ok.noex b o e z
    · exact absurd (Nat.lt_of_lt_of_le (Heap.lt_size e) (Nat.le_trans I.ok.bsz z)) (Nat.lt_irrefl _)
  exfs := fun b hb hz => (List.mem_cons.mp (I.stkSub b hz)).elim (hf b hb).2.1 (hf b hb).2.2.1
  funs := I.stack
  frf := I.stkFree

theorem comp_startT {h₁ : Heap} {tk : Nat} (I : Inv X pins σ H s) (hk : scope.kind = .function) (hcell : ∀ y ∈ scope.names, y.2 ≠ .cell)
    (hcl1 : ∀ y c, cl.lookup y = some c → X.env.cells.lookup y = some c) (hcl2 : ∀ y, (y, NameKind.free) ∈ scope.names → ∃ c, cl.lookup y = some c) (hjs : FreeAt X scope js)
    (hf : ∀ b ∈ fp, FpOk X pins H b) (hlt : ∀ b ∈ fp, b < s.heap.objs.size) {m : Str → Option Value} (hn : h₁.Ns s.heap.objs.size m) (hkeep : ∀ b o, s.heap.get? b = some o → h₁.get? b = some o) :
    Inv (cxComp X scope cl (cNamesT X xs js) s H fp) [] (List.replicate xs.length none ++ cVals js σ) H { s with heap := h₁, toks := tk } where
  ok := comp_okT I hk hcell hcl1 hcl2 hf hlt
  os := rfl
  bare := I.bare
  base := Un.kept hkeep
  loc := by
    refine ⟨m, hn, fun i y v h1 h2 h3 => ?_⟩
    by_cases hik : i < xs.length
    · rw [List.getElem?_append_left (by simpa using hik), List.getElem?_replicate_of_lt hik] at h2
      cases h2
    · generalize hkk : i - xs.length = k
      have h1' : (js.map fun j => X.N.getD j "")[k]? = some y := by
        have q : (xs ++ js.map fun j => X.N.getD j "")[i]? = some y := h1
        rw [List.getElem?_append_right (by omega), hkk] at q
        exact q
      have h2' : (js.map fun j => (σ[j]?).getD none)[k]? = some (some v) := by
        rw [List.getElem?_append_right (by simp; omega), List.length_replicate, hkk] at h2
        exact h2
      rw [List.getElem?_map] at h1' h2'
      cases hj : js[k]? with
      | none => rw [hj] at h1'; cases h1'
      | some j =>
        rw [hj] at h1' h2'
        have e1 : X.N.getD j "" = y := Option.some.inj h1'
        have e2 : (σ[j]?).getD none = some v := Option.some.inj h2'
        obtain ⟨y', n1, n2, n3, n4⟩ := hjs.all j (List.mem_of_getElem? hj)
        have e3 : y' = y := by rw [← e1, List.getD_eq_getElem?_getD, n1]; rfl
        subst e3
        have e4 : σ[j]? = some (some v) := by
          cases q : σ[j]? with
          | none => rw [q] at e2; cases e2
          | some a => rw [q] at e2; exact congrArg some e2
        obtain ⟨m0, _, hl⟩ := I.loc
        obtain ⟨u, r, l⟩ := hl j y' v n1 e4 (n2.elim (fun z => Or.inr (Or.inl z)) fun z => Or.inr (Or.inr z))
        refine ⟨u, r, .inr ⟨n4, ?_⟩⟩
        rcases l with ⟨l, _⟩ | ⟨_, c, hc, hi⟩
        · exfalso
          rcases n2 with z | z <;> (rw [z] at l; cases l)
        · obtain ⟨c', hc'⟩ := hcl2 y' n3
          have e5 := hcl1 y' c' hc'
          rw [hc] at e5
          have e6 := Option.some.inj e5
          subst e6
          obtain ⟨o, ho, hd⟩ := hi
          exact ⟨c, hc', o, hkeep c o ho, hd⟩
  cell := fun y c h => by
    obtain ⟨v, o, ho, hd⟩ := I.cell y c (hcl1 y c h)
    exact ⟨v, o, hkeep c o ho, hd⟩
  free := I.hok.fresh (Nat.le_refl _)
  freeC := fun y c h => I.freeC y c (hcl1 y c h)
  pin := fun p hp => absurd (show p ∈ ([] : List (Addr × Obj)) from hp) (by simp)
  hok := I.hok.kept hkeep
  len := by
    show (List.replicate xs.length none ++ cVals js σ).length = (cNamesT X xs js).length
    simp [cVals, cNamesT]
end

/-- [elt for a, b, .. in iter]: n names of the block's own -/
noncomputable def tCompT (n : Nat) (wi : TI) (g : TG) (te : TE) (js : List Nat) : TE := fun σ H Q => wi σ H fun J H1 => ∀ D, H1 D = none →
  ∃ W : Nat → Nat → Hp → Prop, (∃ m, W 0 m (upd H1 D (.lst []))) ∧ ∀ i m H2, W i m H2 → (J.stop i H2 ∧ Q (.ref D) H2) ∨
    (J.go i H2 ∧ ∀ o : St, o.length = n → ∀ v H3, J.yld i H2 v H3 → g v (o ++ cVals js σ) H3 fun σ4 H4 => ∃ o', o'.length = n ∧ σ4 = o' ++ cVals js σ ∧ te (o' ++ cVals js σ) H4 fun y H5 =>
      ∃ ys, H5 D = some (.lst ys) ∧ ys.length < sizeLine ∧ ∃ m', m' < m ∧ W (i + 1) m' (upd H5 D (.lst (ys ++ [y]))))
section
variable {X : Cx} {elt iter : Expr} {xs : List Str} {elts : List Expr} {kk : Nat} {tp pos : Pos} {scope : Scope} {cl : List (Str × Addr)} {wi : TI} {g : TG} {te : TE} {js : List Nat}
theorem comp_coreT {use : Option (Value → Sem Unit)} {Qv : Value → Shared → Prop} {pins : List (Addr × Obj)} {s : Shared} {σ : St} {H : Hp} {Q : VK}
    (hc : X.calm = true) (hi : PI X (.Tuple elts kk tp) iter wi) (hk : scope.kind = .function) (hcell : ∀ y ∈ scope.names, y.2 ≠ .cell)
    (hcl1 : ∀ y c, cl.lookup y = some c → X.env.cells.lookup y = some c) (hcl2 : ∀ y, (y, NameKind.free) ∈ scope.names → ∃ c, cl.lookup y = some c) (hjs : FreeAt X scope js) (hnd : (cNamesT X xs js).Nodup)
    (hg : ∀ s' H' fp, PG (cxComp X scope cl (cNamesT X xs js) s' H' fp) (.Tuple elts kk tp) g) (he : ∀ s' H' fp, PE (cxComp X scope cl (cNamesT X xs js) s' H' fp) elt te)
    (I : Inv X pins σ H s) (h : tCompT xs.length wi g te js σ H Q)
    (fin : ∀ (D C : Addr) (H' : Hp) (s' : Shared), Inv X pins σ H' s' → FpOk X pins H' C → (∃ m, s'.heap.Ns C m) → Q (.ref D) H' → compPost (model X.prog X.w) X.A X.xe use Qv (.ref D) C (.ok .next) s') :
    wpAny (model X.prog X.w) X.A (eval iter X.env) (fun xv s₁ => wpAny (model X.prog X.w) X.A (pyIter xv) (fun it s₂ => wpAny (model X.prog X.w) X.A (newList []) (fun acc s₃ =>
      wpAny (model X.prog X.w) X.A (newFunctionEnv scope X.env.globals cl [] X.env.qual none .none (some X.env)) (fun cenv s₄ =>
        codeAny (model X.prog X.w) X.A (.compStart (.ListComp elt [⟨.Tuple elts kk tp, iter, [], 0⟩] scope pos) 0 it acc { cenv with scope := relabel scope X.env })
          (compPost (model X.prog X.w) X.A X.xe use Qv acc cenv.locals) s₄) X.xe s₃) X.xe s₂) X.xe s₁) X.xe s := by
  refine thn (hi pins s σ H _ I h) fun v s1 h1 => thn h1 fun itv s2 h2 => ?_
  obtain ⟨it, fp, tn, J, H2, e, I2, T, st2, f2, hW⟩ := h2
  subst e
  obtain ⟨W, ⟨m0, w0⟩, turn⟩ := hW s2.heap.objs.size (I2.hok.fresh (Nat.le_refl _))
  have hlt2 : ∀ b ∈ fp, b < s2.heap.objs.size := fun b hb => let ⟨_, e, _⟩ := T.obj _ _ st2 b hb; Heap.lt_size e
  have I3 : Inv X pins σ (upd H2 s2.heap.objs.size (.lst [])) { s2 with heap := s2.heap.push { cls := .type "list", data := .seq ([] : List Value).toArray } } :=
    I2.lnew (t' := s2.toks) (its := []) .nil (Nat.zero_le _)
  refine wpAny_newObj_type ?_
  have k23 : ∀ b o, s2.heap.get? b = some o → (s2.heap.push { cls := .type "list", data := .seq ([] : List Value).toArray }).get? b = some o := fun b o e => Heap.get?_push_of_some _ e
  have sz3 : (s2.heap.push { cls := .type "list", data := .seq ([] : List Value).toArray }).objs.size = s2.heap.objs.size + 1 := Heap.size_push ..
  generalize hs3 : ({ s2 with heap := s2.heap.push { cls := .type "list", data := .seq ([] : List Value).toArray } } : Shared) = s3 at I3
  have hs3' : s3.heap = s2.heap.push { cls := .type "list", data := .seq ([] : List Value).toArray } := by rw [← hs3]
  have hlt3 : ∀ b ∈ fp, b < s3.heap.objs.size := fun b hb => by rw [hs3', sz3]; exact Nat.lt_succ_of_lt (hlt2 b hb)
  have f3 : ∀ b ∈ fp, FpOk X pins (upd H2 s2.heap.objs.size (.lst [])) b := fun b hb => ⟨by rw [upd_ne (Nat.ne_of_lt (hlt2 b hb))]; exact (f2 b hb).1, (f2 b hb).2⟩
  refine wpAny_newFunctionEnv hcell (by intro y hy; simp at hy) (fun h₁ hns hsb => ?_) hk
  have k34 : ∀ b o, s3.heap.get? b = some o → h₁.get? b = some o := fun b o e => hsb.extBut b o (Nat.ne_of_lt (Heap.lt_size e)) (Heap.get?_push_of_some _ e)
  have I4 := comp_startT (xs := xs) (js := js) (tk := s3.toks + ([] : List (Str × Value)).length) I3 hk hcell hcl1 hcl2 hjs f3 hlt3 hns k34
  have st4 : tn 0 h₁ := T.keep 0 _ _ st2 fun b hb o e => k34 b o (by rw [hs3']; exact k23 b o e)
  -- the iterator's records stay what they are
  have stat : ∀ {H' : Hp}, (∀ b ∈ fp, H' b = none) → ∀ b ∈ fp, FpOk (cxComp X scope cl (cNamesT X xs js) s3 (upd H2 s2.heap.objs.size (.lst [])) fp) [] H' b := fun hn b hb =>
    ⟨hn b hb, Nat.ne_of_lt (hlt3 b hb), fun hz => (List.mem_cons.mp (I3.stkSub b hz)).elim (f2 b hb).2.1 (f2 b hb).2.2.1, .inl hb, fun y c q => (f2 b hb).2.2.2.2.1 y c (hcl1 y c q), fun p hp => absurd (show p ∈ ([] : List (Addr × Obj)) from hp) (by simp)⟩
  have back : ∀ {σ' : St} {H' : Hp} {s' : Shared}, Inv (cxComp X scope cl (cNamesT X xs js) s3 (upd H2 s2.heap.objs.size (.lst [])) fp) [] σ' H' s' → Inv X pins σ H' s' := fun {σ' H' s'} J' =>
    I3.call' (ch := fp) J'.os J'.base J'.hok J'.bare fun b hb => ⟨(f2 b hb).2.2.2.1, (f2 b hb).2.1, (f2 b hb).2.2.2.2.1, (f2 b hb).2.2.2.2.2⟩
  have loop : codeAny (model X.prog X.w) X.A (.compLoop (.ListComp elt [⟨.Tuple elts kk tp, iter, [], 0⟩] scope pos) 0 (.ref it) (.ref s2.heap.objs.size) (compEnvC scope cl s3.heap.objs.size X.env))
      (compPost (model X.prog X.w) X.A X.xe use Qv (.ref s2.heap.objs.size) s3.heap.objs.size) { s3 with heap := h₁, toks := s3.toks + ([] : List (Str × Value)).length } := by
    refine PyProof.Rows.LCp.codeAny_compLoop_pair (fun n s' => ∃ (i : Nat) (o : St) (H' : Hp), o.length = xs.length ∧ Inv (cxComp X scope cl (cNamesT X xs js) s3 (upd H2 s2.heap.objs.size (.lst [])) fp) [] (o ++ cVals js σ) H' s' ∧ tn i s'.heap ∧ (∀ b ∈ fp, H' b = none) ∧ W i n H') ?_ m0
      ⟨0, _, _, List.length_replicate, I4, st4, fun b hb => (f3 b hb).1, w0⟩
    rintro n s5 ⟨i, o, H5, ho, I5, st5, fr5, w5⟩
    rcases turn i n H5 w5 with ⟨stop, q⟩ | ⟨go, step⟩
    · refine thn (T.done (cxComp X scope cl (cNamesT X xs js) s3 (upd H2 s2.heap.objs.size (.lst [])) fp) rfl rfl rfl hc i [] s5 _ H5 _ I5 (stat fr5) st5 stop) fun r s6 zz => ?_
      obtain ⟨hr, I6⟩ := zz
      subst hr
      exact fin _ _ H5 s6 (back I6) (I3.fpOk (Nat.le_refl _) I6.free) (let ⟨m, hm, _⟩ := I6.loc; ⟨m, hm⟩) q
    · refine thn (T.item (cxComp X scope cl (cNamesT X xs js) s3 (upd H2 s2.heap.objs.size (.lst [])) fp) rfl rfl rfl hc i [] s5 _ H5 _ I5 (stat fr5) st5 go) fun r s6 zz => ?_
      obtain ⟨u, hr, h6⟩ := zz
      subst hr
      refine wpAny_mono h6 (fun _ s6' q6 => ?_) (fun _ _ f => f)
      obtain ⟨v, H6, I6, r6, y6, st6, fr6⟩ := q6
      have I6' := I6.pinned (stat fr6) (T.obj _ _ st6)
      refine wpAny_mono (hg s3 _ fp _ s6' _ H6 v u _ I6' r6 (step o ho v H6 y6)) (fun _ s7 q7 => ?_) (fun _ _ f => False.elim f)
      obtain ⟨σ7, H7, I7, o7, ho7, e7, q7⟩ := q7
      subst e7
      refine wpAny_mono (he s3 _ fp _ s7 _ H7 _ I7 q7) (fun y s9 q9 => ?_) (fun _ _ f => False.elim f)
      obtain ⟨yv, H9, I9, r9, ys, hD, hl, m', hm, w9⟩ := q9
      refine wpAny_mono (mt_append (X := cxComp X scope cl (cNamesT X xs js) s3 (upd H2 s2.heap.objs.size (.lst [])) fp) _ s9 _ H9 (.ref s2.heap.objs.size) [yv] (.ref s2.heap.objs.size) [y] (fun _ H' => H' = upd H9 s2.heap.objs.size (.lst (ys ++ [yv]))) I9 rfl (.cons r9 .nil) ⟨_, ys, yv, rfl, rfl, hD, hl, rfl⟩) (fun _ s10 q10 => ?_) (fun _ _ f => False.elim f)
      obtain ⟨_, H10, I10, _, e10⟩ := q10
      subst e10
      refine ⟨m', hm, i + 1, o7, _, ho7, I10.unpinned, T.keep _ _ _ st6 fun b hb o e => (I10.pin (b, o) (List.mem_append_right _ (List.mem_append_right _ (mem_pinsAt hb e)))).1, fun b hb => ?_, w9⟩
      obtain ⟨o, e, d⟩ := T.obj _ _ st6 b hb
      exact (I10.pin (b, o) (List.mem_append_right _ (List.mem_append_right _ (mem_pinsAt hb e)))).2.1
  exact codeAny_compStart_list loop (T.self _ 0 _ _ _ st4 loop)

/-- the comprehension as an expression -/
theorem pe_compT (hc : X.calm = true) (hi : PI X (.Tuple elts kk tp) iter wi) (hk : scope.kind = .function) (hcell : ∀ y ∈ scope.names, y.2 ≠ .cell) (hnames : ∀ y ∈ scope.names, y.2 = .local → scope.names.lookup y.1 = some .local)
    (hclos : closureFor scope X.env = pure cl) (hcl1 : ∀ y c, cl.lookup y = some c → X.env.cells.lookup y = some c) (hcl2 : ∀ y, (y, NameKind.free) ∈ scope.names → ∃ c, cl.lookup y = some c) (hjs : FreeAt X scope js) (hnd : (cNamesT X xs js).Nodup)
    (hg : ∀ s' H' fp, PG (cxComp X scope cl (cNamesT X xs js) s' H' fp) (.Tuple elts kk tp) g) (he : ∀ s' H' fp, PE (cxComp X scope cl (cNamesT X xs js) s' H' fp) elt te)
    (hs : ∀ x, foldedSetIterable iter X.env x = pure x := by intro _; rfl) : PE X (.ListComp elt [⟨.Tuple elts kk tp, iter, [], 0⟩] scope pos) (tCompT xs.length wi g te js) := by
  intro pins s σ H Q I h
  rw [eval_ListComp]
  refine wpAny_comprehension_free (use := none) rfl hs hclos hk hnames (comp_coreT hc hi hk hcell hcl1 hcl2 hjs hnd hg he I h fun D C H' s' I' fC hC q => ?_)
  obtain ⟨m, hm⟩ := hC
  refine ⟨m, hm, fun h' sb => ?_⟩
  obtain ⟨f0, f1, f2, f3, f4, f5⟩ := fC
  exact ⟨.ref D, H', I'.turned (t' := s'.toks) (fun b o hb e => (sb.2 b hb).trans e) f0 f1 f3 f4 f5, rfl, q⟩

/-- the closure found from the scope -/
theorem pe_compTF (hc : X.calm = true) (hi : PI X (.Tuple elts kk tp) iter wi) (hk : scope.kind = .function) (hcell : ∀ y ∈ scope.names, y.2 ≠ .cell) (hnames : ∀ y ∈ scope.names, y.2 = .local → scope.names.lookup y.1 = some .local)
    (hf : ∀ p ∈ scope.names, p.2 = .free → X.env.kindOf p.1 = some .cell ∨ X.env.kindOf p.1 = some .free) (hjs : FreeAt X scope js) (hnd : (cNamesT X xs js).Nodup)
    (hg : ∀ cl s' H' fp, PG (cxComp X scope cl (cNamesT X xs js) s' H' fp) (.Tuple elts kk tp) g) (he : ∀ cl s' H' fp, PE (cxComp X scope cl (cNamesT X xs js) s' H' fp) elt te)
    (hs : ∀ x, foldedSetIterable iter X.env x = pure x := by intro _; rfl) : PE X (.ListComp elt [⟨.Tuple elts kk tp, iter, [], 0⟩] scope pos) (tCompT xs.length wi g te js) := by
  intro pins s σ H Q I h
  obtain ⟨cl, e, p1, p2⟩ := clo_of (free_of (js := js) I fun y hy => hf (y, .free) hy rfl)
  exact pe_compT hc hi hk hcell hnames e p1 p2 hjs hnd (hg cl) (he cl) hs pins s σ H Q I h
end
end L2


set_option Elab.async false
set_option linter.all false
set_option maxRecDepth 100000
set_option maxHeartbeats 4000000
namespace L2
open PySem PySem.Spec PyProof.Rows PySem.AutoSeq1
/-! ### zip of two tuples, the first no longer than the second -/
theorem tit_at {h h' : Heap} {it t : Addr} {i : Nat} (z : h.IsTupleIter it t i) (k : ∀ o, h.get? it = some o → h'.get? it = some o) : h'.IsTupleIter it t i := let ⟨o, e, r⟩ := z; ⟨o, k o e, r⟩
theorem tup_at {h h' : Heap} {t : Addr} {ys : Array Value} (z : h.IsTuple t ys) (k : ∀ o, h.get? t = some o → h'.get? t = some o) : h'.IsTuple t ys := let ⟨o, e, r⟩ := z; ⟨o, k o e, r⟩
section
variable {prog : Program} {w : World} {A : Around} {E : Value → Shared → Prop} {s : Shared}
theorem zipT_item {z TI TO i1 i2 l1 l2 : Addr} {k1 k2 : Nat} {xs ys : Array Value} {x y a b : Value} {Q : Value → Shared → Prop} (D : ZipApart z TI TO i1 i2 l1 l2)
    (gz : IsZip s.heap z TI TO .none) (gI : IsPair s.heap TI (.ref i1) (.ref i2)) (gO : IsPair s.heap TO a b) (t1 : s.heap.IsTupleIter i1 l1 k1) (t2 : s.heap.IsTupleIter i2 l2 k2) (p1 : s.heap.IsTuple l1 xs) (p2 : s.heap.IsTuple l2 ys) (ex : xs[k1]? = some x) (ey : ys[k2]? = some y)
    (k : ∀ h', IsZip h' z TI TO (rawInt s.heap.objs.size) → IsPair h' TO x y → h'.IsTupleIter i1 l1 (k1 + 1) → h'.IsTupleIter i2 l2 (k2 + 1) → IsPair h' s.heap.objs.size x y → (∀ c o, c ≠ z → c ≠ TO → c ≠ i1 → c ≠ i2 → s.heap.get? c = some o → h'.get? c = some o) → Q (.ref s.heap.objs.size) { s with heap := h' }) :
    wpAny (model prog w) A (Builtin.«zip.__next__» ⟨[.ref z], []⟩) (fun fin s' => ∃ v, fin = .done (.ret v) ∧ Q v s') E s := by
  show wpAny _ _ (field (.ref z) 2 >>= _) _ _ _; refine wpAny_bind (wpAny_field gz rfl (x := .bool false) rfl ?_)
  show wpAny _ _ (field (.ref z) 3 >>= _) _ _ _; refine wpAny_bind (wpAny_field gz rfl (x := .ref TI) rfl ?_)
  refine wpAny_bind (wpAny_seqItems gI rfl ?_); show wpAny _ _ (Builtin.SmallTypes.ownedTupleIsFree (.ref z) >>= _) _ _ _
  refine wpAny_bind ?_; unfold Builtin.SmallTypes.ownedTupleIsFree; refine wpAny_bind (wpAny_field gz rfl (x := .none) rfl (wpAny_pure ?_))
  simp only [if_true]; refine wpAny_bind (wpAny_rule ?_); refine wpAny_bind (wpAny_field gz rfl (x := .ref TO) rfl ?_)
  refine wpAny_bind (wpAny_setField_rec gz (by simp) fun m1 gz1 b1 => ?_)
  replace gz1 : IsZip m1 z TI TO .ellipsis := gz1
  refine wpAny_bind ?_; simp only [List.zipIdx_cons, List.zipIdx_nil, List.forIn_cons, List.forIn_nil]; refine wpAny_bind (wpAny_bind (wpAny_onRaise ?_))
  show wpAny _ _ (Builtin.SmallTypes.nextOf (.ref i1) >>= _) _ _ _; refine wpAny_bind (nextOf_tup (tit_at t1 fun o e => b1.extBut _ _ D.i1z e) (tup_at p1 fun o e => b1.extBut _ _ D.l1z e) ex fun m2 u2 b2 => wpAny_pure ?_)
  have gO2 : IsPair m2 TO a b := b2.extBut _ _ D.TOi1 (b1.extBut _ _ D.TOz gO)
  refine wpAny_bind (wpAny_seqItems gO2 rfl ?_); refine wpAny_bind (wpAny_updateSeq_pair gO2 fun m3 gO3 b3 => ?_)
  replace gO3 : IsPair m3 TO x b := gO3
  refine wpAny_bind (wpAny_letGo (wpAny_pure ?_)); refine wpAny_bind (wpAny_bind (wpAny_onRaise ?_)); show wpAny _ _ (Builtin.SmallTypes.nextOf (.ref i2) >>= _) _ _ _
  have e3 : ∀ c o, c ≠ z → c ≠ TO → c ≠ i1 → s.heap.get? c = some o → m3.get? c = some o := fun c o n1 n2 n3 e => b3.extBut _ _ n2 (b2.extBut _ _ n3 (b1.extBut _ _ n1 e))
  refine wpAny_bind (nextOf_tup (tit_at t2 fun o e => e3 _ o D.i2z D.TOi2.symm D.i12.symm e) (tup_at p2 fun o e => e3 _ o D.l2z D.l2TO D.l2i1 e) ey fun m4 u4 b4 => wpAny_pure ?_)
  have gO4 : IsPair m4 TO x b := b4.extBut _ _ D.TOi2 gO3
  refine wpAny_bind (wpAny_seqItems gO4 rfl ?_); refine wpAny_bind (wpAny_updateSeq_pair gO4 fun m5 gO5 b5 => ?_)
  replace gO5 : IsPair m5 TO x y := gO5
  refine wpAny_bind (wpAny_letGo (wpAny_pure (wpAny_pure ?_))); refine wpAny_bind (wpAny_seqItems gO5 rfl ?_); refine wpAny_bind (wpAny_newTuple ?_)
  have sz5 : m5.objs.size = s.heap.objs.size := by rw [b5.1, b4.1, b3.1, b2.1, b1.1]
  have e5 : ∀ c o, c ≠ TO → c ≠ i2 → m3.get? c = some o → m5.get? c = some o := fun c o n1 n2 e => b5.extBut _ _ n1 (b4.extBut _ _ n2 e)
  have gz5 : IsZip m5 z TI TO .ellipsis := e5 _ _ D.TOz.symm D.i2z.symm (b3.extBut _ _ D.TOz.symm (b2.extBut _ _ D.i1z.symm gz1))
  have u5 : m5.IsTupleIter i1 l1 (k1 + 1) := tit_at u2 fun o e => e5 _ o D.TOi1.symm D.i12 (b3.extBut _ _ D.TOi1.symm e)
  have v5 : m5.IsTupleIter i2 l2 (k2 + 1) := tit_at u4 fun o e => b5.extBut _ _ D.TOi2.symm e
  have zl : z < m5.objs.size := Heap.lt_size gz5
  show wpAny _ _ (Builtin.SmallTypes.ownedTupleHandOut (.ref z) (.ref m5.objs.size) >>= _) _ _ _; refine wpAny_bind ?_; unfold Builtin.SmallTypes.ownedTupleHandOut
  have gz6 : IsZip (m5.push { cls := .type "tuple", data := .seq #[x, y] }) z TI TO .ellipsis := Heap.get?_push_of_some _ gz5
  refine wpAny_bind (wpAny_setField_rec gz6 (by simp) fun m7 gz7 b7 => ?_)
  replace gz7 : IsZip m7 z TI TO (rawInt m5.objs.size) := gz7
  refine wpAny_setField_rec gz7 (by simp) fun m8 gz8 b8 => ?_
  replace gz8 : IsZip m8 z TI TO (rawInt m5.objs.size) := gz8
  have e8 : ∀ c o, c ≠ z → m5.get? c = some o → m8.get? c = some o := fun c o n1 e => b8.extBut _ _ n1 (b7.extBut _ _ n1 (Heap.get?_push_of_some _ e))
  have gT : IsPair m8 m5.objs.size x y := b8.extBut _ _ (Nat.ne_of_gt zl) (b7.extBut _ _ (Nat.ne_of_gt zl) (Heap.get?_push_size _ rfl))
  rw [sz5] at gz8 gT
  refine wpAny_pure ⟨_, rfl, ?_⟩; show Q (.ref m5.objs.size) _; rw [sz5]
  exact k m8 gz8 (e8 _ _ D.TOz gO5) (tit_at u5 fun o e => e8 _ o D.i1z e) (tit_at v5 fun o e => e8 _ o D.i2z e) gT fun c o n1 n2 n3 n4 e => e8 c o n1 (e5 c o n2 n4 (e3 c o n1 n2 n3 e))
theorem zipT_end {z TI TO i1 i2 l1 l2 : Addr} {k1 : Nat} {xs : Array Value} {a b : Value} {Q : Fin → Shared → Prop} (hd : A.handled = none) (D : ZipApart z TI TO i1 i2 l1 l2)
    (gz : IsZip s.heap z TI TO .none) (gI : IsPair s.heap TI (.ref i1) (.ref i2)) (gO : IsPair s.heap TO a b) (t1 : s.heap.IsTupleIter i1 l1 k1) (p1 : s.heap.IsTuple l1 xs) (ex : xs[k1]? = none)
    (k : ∀ h' e, (∀ c o, c ≠ z → c ≠ TO → c ≠ i1 → c ≠ i2 → s.heap.get? c = some o → h'.get? c = some o) → (∃ o, h'.get? e = some o ∧ o.cls = .type "StopIteration") → E (.ref e) { s with heap := h' }) :
    wpAny (model prog w) A (Builtin.«zip.__next__» ⟨[.ref z], []⟩) Q E s := by
  show wpAny _ _ (field (.ref z) 2 >>= _) _ _ _; refine wpAny_bind (wpAny_field gz rfl (x := .bool false) rfl ?_)
  show wpAny _ _ (field (.ref z) 3 >>= _) _ _ _; refine wpAny_bind (wpAny_field gz rfl (x := .ref TI) rfl ?_)
  refine wpAny_bind (wpAny_seqItems gI rfl ?_); show wpAny _ _ (Builtin.SmallTypes.ownedTupleIsFree (.ref z) >>= _) _ _ _
  refine wpAny_bind ?_; unfold Builtin.SmallTypes.ownedTupleIsFree; refine wpAny_bind (wpAny_field gz rfl (x := .none) rfl (wpAny_pure ?_))
  simp only [if_true]; refine wpAny_bind (wpAny_rule ?_); refine wpAny_bind (wpAny_field gz rfl (x := .ref TO) rfl ?_)
  refine wpAny_bind (wpAny_setField_rec gz (by simp) fun m1 gz1 b1 => ?_)
  replace gz1 : IsZip m1 z TI TO .ellipsis := gz1
  refine wpAny_bind ?_; simp only [List.zipIdx_cons, List.zipIdx_nil, List.forIn_cons, List.forIn_nil]; refine wpAny_bind (wpAny_bind (wpAny_onRaise ?_))
  show wpAny _ _ (Builtin.SmallTypes.nextOf (.ref i1) >>= _) _ _ _; refine wpAny_bind (nextOf_tupEnd hd (tit_at t1 fun o e => b1.extBut _ _ D.i1z e) (tup_at p1 fun o e => b1.extBut _ _ D.l1z e) ex fun m2 e b2 he => ?_)
  obtain ⟨oe, ge, ce⟩ := he
  have gz2 : IsZip m2 z TI TO .ellipsis := b2 _ _ D.i1z.symm gz1
  have ne : e ≠ z := fun q => by subst q; rw [gz2] at ge; cases ge; simp at ce
  refine wpAny_setField_rec gz2 (by simp) fun m3 _ b3 => k m3 e (fun c o n1 _ n3 _ q => b3.extBut _ _ n1 (b2 _ _ n3 (b1.extBut _ _ n1 q))) ⟨oe, b3.extBut _ _ ne ge, ce⟩
theorem walkT_zip (hd : A.handled = none) (z TI TO i1 i2 l1 l2 : Addr) (D : ZipApart z TI TO i1 i2 l1 l2) (xs ys : Array Value) (hle : xs.size ≤ ys.size) :
    WalksT prog w A z [z, TI, TO, i1, i2, l1, l2] [z, TO, i1, i2] xs.size (fun i vals => ∃ x y, xs[i]? = some x ∧ ys[i]? = some y ∧ vals = #[x, y])
      (fun i h => IsZip h z TI TO .none ∧ IsPair h TI (.ref i1) (.ref i2) ∧ (∃ a b, IsPair h TO a b) ∧ h.IsTupleIter i1 l1 i ∧ h.IsTupleIter i2 l2 i ∧ h.IsTuple l1 xs ∧ h.IsTuple l2 ys)
      (fun i T h => IsZip h z TI TO (rawInt T) ∧ IsPair h TI (.ref i1) (.ref i2) ∧ (∃ a b, IsPair h TO a b) ∧ h.IsTupleIter i1 l1 (i + 1) ∧ h.IsTupleIter i2 l2 (i + 1) ∧ h.IsTuple l1 xs ∧ h.IsTuple l2 ys ∧ T ≠ z ∧ T ≠ TO ∧ T ≠ i1 ∧ T ≠ i2) where
  sub := fun c hc => by
    simp only [List.mem_cons, List.not_mem_nil, or_false] at hc ⊢
    rcases hc with q | q | q | q <;> simp [q]
  frame := fun i h h' st kp => by
    obtain ⟨q1, q2, ⟨a, b, q3⟩, q4, q5, q6, q7⟩ := st
    exact ⟨kp z (by simp) _ q1, kp TI (by simp) _ q2, ⟨a, b, kp TO (by simp) _ q3⟩, tit_at q4 fun o e => kp i1 (by simp) o e, tit_at q5 fun o e => kp i2 (by simp) o e, tup_at q6 fun o e => kp l1 (by simp) o e, tup_at q7 fun o e => kp l2 (by simp) o e⟩
  item := fun i s Q E hi st k => by
    obtain ⟨q1, q2, ⟨a, b, q3⟩, q4, q5, q6, q7⟩ := st
    have hx : xs[i]? = some xs[i] := Array.getElem?_eq_getElem hi
    have hy : ys[i]? = some (ys[i]'(by omega)) := Array.getElem?_eq_getElem (by omega)
    have hT : s.TypeIs (.ref z) "zip" := ⟨_, q1, rfl⟩
    have lt : ∀ {c o}, s.heap.get? c = some o → s.heap.objs.size ≠ c := fun e => Nat.ne_of_gt (Heap.lt_size e)
    unfold pyNext
    refine wpAny_bind (wpAny_attempt (wpAny_callSpecial?_slot (name := Str.ofString "__next__") hT F.slot_zip_next (wpAny_call_entry F.slot_zip_next hT F.entry_zip_next (zipT_item D q1 q2 q3 q4 q5 q6 q7 hx hy fun h' a1 a2 a3 a4 a5 kp => wpAny_pure ?_) (F.args_zip_next_1 _))))
    exact k s.heap.objs.size #[xs[i], ys[i]'(by omega)] h' s.toks ⟨_, _, hx, hy, rfl⟩ (Nat.le_refl _) ⟨_, a5, rfl, _, rfl⟩
      ⟨a1, kp _ _ D.TIz D.TITO D.TIi1 D.TIi2 q2, ⟨_, _, a2⟩, a3, a4, tup_at q6 fun o e => kp _ o D.l1z D.l1TO D.l1i1 D.l1i2 e, tup_at q7 fun o e => kp _ o D.l2z D.l2TO D.l2i1 D.l2i2 e, lt q1, lt q3, (by obtain ⟨_, e, _⟩ := q4; exact lt e), (by obtain ⟨_, e, _⟩ := q5; exact lt e)⟩
      fun c o hc e => kp c o (fun q => hc (by simp [q])) (fun q => hc (by simp [q])) (fun q => hc (by simp [q])) (fun q => hc (by simp [q])) e
  go := fun elts kk pos i T s Q E hm k => by
    obtain ⟨q1, q2, ⟨a, b, q3⟩, q4, q5, q6, q7, _⟩ := hm
    refine wpAny_letOwnedTupleGo_zip q1 fun h' gz' b' => k h' ⟨gz', b'.extBut _ _ D.TIz q2, ⟨a, b, b'.extBut _ _ D.TOz q3⟩, tit_at q4 fun o e => b'.extBut _ _ D.i1z e, tit_at q5 fun o e => b'.extBut _ _ D.i2z e, tup_at q6 fun o e => b'.extBut _ _ D.l1z e, tup_at q7 fun o e => b'.extBut _ _ D.l2z e⟩ fun c o hc e => b'.extBut _ _ (fun q => hc (by simp [q])) e
  apart := fun i T h hm hT => by
    obtain ⟨_, _, _, _, _, _, _, n1, n2, n3, n4⟩ := hm
    simp only [List.mem_cons, List.not_mem_nil, or_false] at hT
    rcases hT with q | q | q | q
    · exact n1 q
    · exact n2 q
    · exact n3 q
    · exact n4 q
  done := fun s Q E st k => by
    obtain ⟨q1, q2, ⟨a, b, q3⟩, q4, q5, q6, q7⟩ := st
    have hT : s.TypeIs (.ref z) "zip" := ⟨_, q1, rfl⟩
    unfold pyNext
    refine wpAny_bind (wpAny_attempt (wpAny_callSpecial?_slot (name := Str.ofString "__next__") hT F.slot_zip_next (wpAny_call_entry F.slot_zip_next hT F.entry_zip_next (zipT_end hd D q1 q2 q3 q4 q6 (Array.getElem?_eq_none (Nat.le_refl _)) fun h' e kp ge => ?_) (F.args_zip_next_1 _))))
    obtain ⟨o, ho, hc⟩ := ge
    refine wpAny_bind (wpAny_isInstance (T := "StopIteration") (b := true) ⟨o, ho, hc⟩ isSubtype_stop ?_)
    exact wpAny_pure (k h' s.toks fun c o hc e => kp c o (fun q => hc (by simp [q])) (fun q => hc (by simp [q])) (fun q => hc (by simp [q])) (fun q => hc (by simp [q])) e)
  self := fun i s Q E st k => wpAny_pyIter_zip st.1 k
end
noncomputable abbrev tz1 (h : Heap) (a : Addr) : Heap := h.push (titObj a)
noncomputable abbrev tz2 (h : Heap) (a b : Addr) : Heap := (tz1 h a).push (titObj b)
noncomputable abbrev tz3 (h : Heap) (a b : Addr) : Heap := (tz2 h a b).push { cls := .type "tuple", data := .seq #[.ref h.objs.size, .ref (tz1 h a).objs.size] }
noncomputable abbrev tz4 (h : Heap) (a b : Addr) : Heap := (tz3 h a b).push { cls := .type "tuple", data := .seq #[.none, .none] }
noncomputable abbrev tz5 (h : Heap) (a b : Addr) : Heap := (tz4 h a b).push { cls := .type "zip", data := .fields #[.none, .bool false, .bool false, .ref (tz2 h a b).objs.size, .ref (tz3 h a b).objs.size] }
theorem zipT_new (a b : Addr) (xs ys : Array Value) : Meets (Builtin.«zip.__new__» ⟨[.type "zip", .ref a, .ref b], []⟩) (fun _ R s => s.heap.IsTuple a xs ∧ s.heap.IsTuple b ys ∧ R (.ok (.ret (.ref (tz4 s.heap a b).objs.size))) { s with heap := tz5 s.heap a b }) :=
  .of_wp fun prog w A R s h => by
    obtain ⟨hp, g, d, tk, os⟩ := s; obtain ⟨q1, q2, h⟩ := h; have su := sub_zip
    have t1 : Heap.IsTuple (Shared.heap ⟨hp, g, d, tk, os⟩) a xs := q1
    have t2 : Heap.IsTuple (Shared.heap ⟨hp.push (titObj a), g, d, tk, os⟩) b ys := tup_at q2 fun o e => Heap.get?_push_of_some _ e
    wp_walk using wpAny_pyIter_tuple t1, wpAny_pyIter_tuple t2
    exact ⟨_, rfl, h⟩
theorem call_zipT {prog : Program} {w : World} {A : Around} {E : Value → Shared → Prop} {s : Shared} {a b : Addr} {xs ys : Array Value} {Q : Value → Shared → Prop} (q1 : s.heap.IsTuple a xs) (q2 : s.heap.IsTuple b ys)
    (k : ∀ h', IsZip h' (s.heap.objs.size + 4) (s.heap.objs.size + 2) (s.heap.objs.size + 3) .none → IsPair h' (s.heap.objs.size + 2) (.ref s.heap.objs.size) (.ref (s.heap.objs.size + 1)) → IsPair h' (s.heap.objs.size + 3) .none .none →
      h'.IsTupleIter s.heap.objs.size a 0 → h'.IsTupleIter (s.heap.objs.size + 1) b 0 → (∀ c o, s.heap.get? c = some o → h'.get? c = some o) → Q (.ref (s.heap.objs.size + 4)) { s with heap := h' }) : wpAny (model prog w) A (call (.type "zip") [.ref a, .ref b]) Q E s := by
  refine callType_new F.called_zip (by decide) (F.typeCall_zip_2 _ _) (F.newCall_zip_2 _ _) (fun obj => F.args_object_init_3 obj _ _) F.entry_zip_new (zipT_new a b xs ys) ⟨q1, q2, ?_⟩
  have z1 : (tz1 s.heap a).objs.size = s.heap.objs.size + 1 := Heap.size_push ..
  have z2 : (tz2 s.heap a b).objs.size = s.heap.objs.size + 2 := by rw [Heap.size_push, z1]
  have z3 : (tz3 s.heap a b).objs.size = s.heap.objs.size + 3 := by rw [Heap.size_push, z2]
  have z4 : (tz4 s.heap a b).objs.size = s.heap.objs.size + 4 := by rw [Heap.size_push, z3]
  have up : ∀ {h : Heap} {o : Obj} {c : Addr} {q : Obj}, h.get? c = some q → (h.push o).get? c = some q := fun e => Heap.get?_push_of_some _ e
  have g5 : (tz5 s.heap a b).get? (tz4 s.heap a b).objs.size = some _ := Heap.get?_push_size _ rfl
  have g4 : (tz5 s.heap a b).get? (tz3 s.heap a b).objs.size = some _ := up (Heap.get?_push_size _ rfl)
  have g3 : (tz5 s.heap a b).get? (tz2 s.heap a b).objs.size = some _ := up (up (Heap.get?_push_size _ rfl))
  have g2 : (tz5 s.heap a b).get? (tz1 s.heap a).objs.size = some _ := up (up (up (Heap.get?_push_size _ rfl)))
  have g1 : (tz5 s.heap a b).get? s.heap.objs.size = some _ := up (up (up (up (Heap.get?_push_size _ rfl))))
  show _ ∧ _
  rw [z2, z3, z4] at g5; rw [z1, z2] at g3; rw [z3] at g4; rw [z1] at g2; rw [z4]
  exact ⟨⟨_, g5, rfl⟩, k _ g5 g3 g4 ⟨_, g1, rfl, rfl⟩ ⟨_, g2, rfl, rfl⟩ fun c o e => up (up (up (up (up e))))⟩
noncomputable def srcZT (K : PySem.W.Frag) (a b : Addr) : Nat → Hp → List V → Prop := fun i H vs => ∃ x y, vs = [x, y] ∧ (∀ xs, SqT K H a xs → xs[i]? = some x) ∧ ∀ ys, SqT K H b ys → ys[i]? = some y
noncomputable def ItZT (K : PySem.W.Frag) (a b : Addr) : It := ItT (fun i H => ∃ xs ys, SqT K H a xs ∧ SqT K H b ys ∧ i < xs.length ∧ xs.length ≤ ys.length) (srcZT K a b) fun i H => ∃ xs ys, SqT K H a xs ∧ SqT K H b ys ∧ xs.length ≤ i ∧ xs.length ≤ ys.length
noncomputable def tnZT (a b z TI TO i1 i2 : Addr) (i : Nat) (h : Heap) : Prop := IsZip h z TI TO .none ∧ IsPair h TI (.ref i1) (.ref i2) ∧ (∃ u v, IsPair h TO u v) ∧ h.IsTupleIter i1 a i ∧ h.IsTupleIter i2 b i
theorem sqT_ne {X : Cx} {pins : List (Addr × Obj)} {σ : St} {H : Hp} {s : Shared} {a b : Addr} {xs : List V} (I : Inv X pins σ H s) (h : SqT X.K H a xs) (f : FpOk X pins H b) : a ≠ b := by
  intro e
  subst e
  obtain ⟨f0, _, _, f3, _⟩ := f
  rcases h with (h | ⟨o, h⟩) | ⟨o, its, n, hk, _⟩
  · rw [f0] at h; cases h
  · rw [f0] at h; cases h
  · have g := I.ok.mod.kin a o hk
    rcases f3 with z | z
    · exact I.ok.noex a o g z
    · exact absurd (Nat.lt_of_lt_of_le (Heap.lt_size g) (Nat.le_trans I.ok.bsz z)) (Nat.lt_irrefl _)
theorem zapartT {X : Cx} {pins : List (Addr × Obj)} {σ : St} {H : Hp} {s : Shared} {a b z TI TO i1 i2 : Addr} {xs ys : List V} (I : Inv X pins σ H s) (o : ZOwn z TI TO i1 i2) (hf : ∀ c ∈ [z, TI, TO, i1, i2], FpOk X pins H c) (la : SqT X.K H a xs) (lb : SqT X.K H b ys) : ZipApart z TI TO i1 i2 a b :=
  ⟨o.a1, o.a2, o.a3, o.a4, o.a5, o.a6, o.a7, o.a8, o.a9, o.a10, sqT_ne I la (hf z (by simp)), sqT_ne I la (hf TO (by simp)), sqT_ne I la (hf i1 (by simp)), sqT_ne I la (hf i2 (by simp)), sqT_ne I lb (hf z (by simp)), sqT_ne I lb (hf TO (by simp)), sqT_ne I lb (hf i1 (by simp)), sqT_ne I lb (hf i2 (by simp))⟩
theorem zobjT {h : Heap} {a b z TI TO i1 i2 : Addr} {i : Nat} (st : tnZT a b z TI TO i1 i2 i h) : ∀ c ∈ [z, TI, TO, i1, i2], ∃ o, h.get? c = some o ∧ ∀ v, o.data ≠ .cell v := by
  intro c hc
  obtain ⟨hz, hTI, ⟨u, v, hTO⟩, ⟨o1, g1, _, d1⟩, ⟨o2, g2, _, d2⟩⟩ := st
  simp only [List.mem_cons, List.not_mem_nil, or_false] at hc
  rcases hc with rfl | rfl | rfl | rfl | rfl
  · exact ⟨_, hz, fun v z => by cases z⟩
  · exact ⟨_, hTI, fun v z => by cases z⟩
  · exact ⟨_, hTO, fun v z => by cases z⟩
  · exact ⟨_, g1, fun v z => by rw [d1] at z; cases z⟩
  · exact ⟨_, g2, fun v z => by rw [d2] at z; cases z⟩
theorem turn_zipT {P : Program} {w : World} {K : PySem.W.Frag} {elts : List Expr} {kk : Nat} {tpos : Pos} (a b z TI TO i1 i2 : Addr) (own : ZOwn z TI TO i1 i2) :
    Turn P w K (.Tuple elts kk tpos) (ItZT K a b) [z, TI, TO, i1, i2] z (tnZT a b z TI TO i1 i2) where
  mem := by simp
  obj := fun i h st c hc => zobjT st c hc
  keep := fun i h h' st k => by
    obtain ⟨hz, hTI, ⟨u, v, hTO⟩, l1, l2⟩ := st
    exact ⟨k z (by simp) _ hz, k TI (by simp) _ hTI, ⟨u, v, k TO (by simp) _ hTO⟩, tit_at l1 fun o q => k i1 (by simp) o q, tit_at l2 fun o q => k i2 (by simp) o q⟩
  item := by
    intro X hP hw hK hc i pins s σ H E I hf st hg
    subst hP hw hK
    obtain ⟨xs, ys, hq, hq2, hi, hle⟩ := hg
    obtain ⟨its, rv, p, hz⟩ := I.tuple hq
    obtain ⟨its2, rv2, p2, hz2⟩ := I.tuple hq2
    have hx : xs[i]? = some xs[i] := List.getElem?_eq_getElem hi
    have hy : ys[i]? = some (ys[i]'(by omega)) := List.getElem?_eq_getElem (by omega)
    obtain ⟨u, hu, ru⟩ := rv.get hx
    obtain ⟨u2, hu2, ru2⟩ := rv2.get hy
    have e1 := rv.length
    have e2 := rv2.length
    have D := zapartT I own hf hq hq2
    have W := walkT_zip (prog := X.prog) (w := X.w) (A := X.A) (I.ok.hd hc) z TI TO i1 i2 a b D its.toArray its2.toArray (by simp only [List.size_toArray]; omega)
    obtain ⟨s1, s2, s3, s4, s5⟩ := id st
    refine turn_item (fp := [z, TI, TO, i1, i2]) (vs := [xs[i], ys[i]'(by omega)]) (src := srcZT X.K a b) (tn := tnZT a b z TI TO i1 i2) W I hf (fun c hc => let ⟨o, q, _⟩ := zobjT st c hc; ⟨o, q⟩) (fun c hc => ?_) (by simp only [List.size_toArray]; omega) ⟨s1, s2, s3, s4, s5, p, p2⟩ (fun vals hP => ?_) (by show 2 ≤ sizeLine; decide)
      ⟨_, _, rfl, fun zs hzs => by rw [I.tuple_inj hzs hq]; exact hx, fun zs hzs => by rw [I.tuple_inj hzs hq2]; exact hy⟩ fun h st => ⟨st.1, st.2.1, st.2.2.1, st.2.2.2.1, st.2.2.2.2.1⟩
    · simp only [List.mem_cons, List.not_mem_nil, or_false] at hc ⊢
      rcases hc with q | q | q | q <;> simp [q]
    · obtain ⟨v1, v2, e1, e2, rfl⟩ := hP
      have f1 : v1 = u := by
        have q : its[i]? = some v1 := by simpa using e1
        rw [hu] at q
        exact (Option.some.inj q).symm
      have f2 : v2 = u2 := by
        have q : its2[i]? = some v2 := by simpa using e2
        rw [hu2] at q
        exact (Option.some.inj q).symm
      subst f1 f2
      exact .cons ru (.cons ru2 .nil)
  done := by
    intro X hP hw hK hc i pins s σ H E I hf st hg
    subst hP hw hK
    obtain ⟨xs, ys, hq, hq2, hend, hle⟩ := hg
    obtain ⟨its, rv, p, hz⟩ := I.tuple hq
    have D := zapartT I own hf hq hq2
    obtain ⟨s1, s2, ⟨u, v, s3⟩, s4, s5⟩ := id st
    have e1 := rv.length
    have hT : s.TypeIs (.ref z) "zip" := ⟨_, s1, rfl⟩
    have pT : s.heap.IsTuple a its.toArray := p
    unfold pyNext
    refine wpAny_bind (wpAny_attempt (wpAny_callSpecial?_slot (name := Str.ofString "__next__") hT F.slot_zip_next (wpAny_call_entry F.slot_zip_next hT F.entry_zip_next (zipT_end (I.ok.hd hc) D s1 s2 s3 s4 pT (by simp; omega) fun h' e kp ge => ?_) (F.args_zip_next_1 _))))
    obtain ⟨o, ho, hcl⟩ := ge
    refine wpAny_bind (wpAny_isInstance (T := "StopIteration") (b := true) ⟨o, ho, hcl⟩ isSubtype_stop ?_)
    exact wpAny_pure ⟨rfl, I.turnedL (t' := s.toks) (fun c o hc q => kp c o (fun e => hc (by simp [e])) (fun e => hc (by simp [e])) (fun e => hc (by simp [e])) (fun e => hc (by simp [e])) q) hf⟩
  self := fun _ _ _ _ _ st h => wpAny_pyIter_zip st.1 h
section
variable {X : Cx}
noncomputable def iZipT (K : PySem.W.Frag) (ta tb : TE) : TI := fun σ H R => ta σ H fun x H1 => tb σ H1 fun y H2 => ∃ a b xs ys, x = .ref a ∧ y = .ref b ∧ SqT K H2 a xs ∧ SqT K H2 b ys ∧ R (ItZT K a b) H2
theorem pi_zipT {elts : List Expr} {kk : Nat} {tpos p pos : Pos} {e f : Expr} {te tf : TE} (hg : Gl X "zip") (hm : X.mg "zip" = none) (he : PE X e te) (hf : PE X f tf)
    (hs : starEach [e, f] X.env = [(false, eval e X.env), (false, eval f X.env)] := by rfl) (hs2 : starEach [f] X.env = [(false, eval f X.env)] := by rfl) : PI X (.Tuple elts kk tpos) (.Call (.Name "zip" p) [e, f] [] pos) (iZipT X.K te tf) := by
  intro pins s σ H R I h
  have b1 : bootBuiltins "zip" = some (.type "zip") := by decide +kernel
  refine wpAny_Call_Name_kw (ld_blt I hg hm b1 ?_ (by decide) (by decide))
  refine PyProof.Rows.callWith_type1 ?_ (by rw [hs, hs2]) (by rw [hs2]; rfl)
  rw [hs]
  refine Calls.spliced_cons (thn (he pins s σ H _ I h) fun u s1 zz => ?_)
  obtain ⟨x, H1, I1, rx, q1⟩ := zz
  refine Calls.spliced_cons (thn (hf pins s1 σ H1 _ I1 q1) fun u2 s2 zz => ?_)
  obtain ⟨y, H2, I2, ry, a, b, xs, ys, ex, ey, hq, hq2, q⟩ := zz
  subst ex ey
  have eu : u = Value.ref a := rx
  have eu2 : u2 = Value.ref b := ry
  subst eu eu2
  refine Calls.spliced_nil ?_
  obtain ⟨its, rv, pl, hz⟩ := I2.tuple hq
  obtain ⟨its2, rv2, pl2, hz2⟩ := I2.tuple hq2
  refine call_zipT (show s2.heap.IsTuple a its.toArray from pl) (show s2.heap.IsTuple b its2.toArray from pl2) fun h' z TI TO i1 i2 kp => ?_
  have I3 : Inv X pins σ H2 { s2 with heap := h' } := I2.kept (t' := s2.toks) kp
  refine wpAny_pyIter_zip (s := { s2 with heap := h' }) z ?_
  have ne : ∀ i j : Nat, i ≠ j → s2.heap.objs.size + i ≠ s2.heap.objs.size + j := fun i j hij e => hij (Nat.add_left_cancel e)
  refine ⟨_, [s2.heap.objs.size + 4, s2.heap.objs.size + 2, s2.heap.objs.size + 3, s2.heap.objs.size, s2.heap.objs.size + 1], _, ItZT X.K a b, H2, rfl, I3,
    turn_zipT a b _ _ _ _ _ ⟨ne 2 4 (by decide), ne 3 4 (by decide), ne 0 4 (by decide), ne 1 4 (by decide), ne 2 3 (by decide), ne 2 0 (by decide), ne 2 1 (by decide), ne 3 0 (by decide), ne 3 1 (by decide), ne 0 1 (by decide)⟩,
    ⟨z, TI, ⟨_, _, TO⟩, i1, i2⟩, fun c hc => ?_, q⟩
  have nb : s2.heap.objs.size ≤ c := by
    simp only [List.mem_cons, List.not_mem_nil, or_false] at hc
    rcases hc with rfl | rfl | rfl | rfl | rfl
    · exact Nat.le_add_right _ _
    · exact Nat.le_add_right _ _
    · exact Nat.le_add_right _ _
    · exact Nat.le_refl _
    · exact Nat.le_add_right _ _
  exact I2.fpOk nb (I2.hok.fresh nb)
end
end L2


set_option Elab.async false
set_option linter.all false
set_option maxRecDepth 100000
set_option maxHeartbeats 4000000
namespace L2
open PySem PySem.Spec PyProof.Rows
/-! ### range(a, b, 2) -/
section
variable {X : Cx} {tg : Expr}
end
/-! ### min, max of a list of ints -/
section
variable {X : Cx}
theorem call_minL (hc : X.calm = true) : CallR X (.builtin "min") (fun xs H Q => ∃ (l : Addr) (ns : List Int), xs = [.ref l] ∧ SqL X.K H l (ns.map V.int) ∧ 0 < ns.length ∧ ∀ M, M ∈ ns → (∀ a ∈ ns, M ≤ a) → Q (.int M) H) := by
  intro pins s σ H xs us Q I r h
  obtain ⟨l, ns, rfl, hq, hne, q⟩ := h
  obtain ⟨u, rfl, rx⟩ := vals1 r
  cases rx
  obtain ⟨its, rv, pl, _⟩ := I.list hq
  have hi : IntsAre its ns := intsAre_of rv
  have hl := pl.isList
  obtain ⟨ys, e⟩ := hi.allInts.items
  have en : ns = ys.toList.map (·.1) := by rw [← hi.numsOf, ← nums_intItems, ← e]
  have sz : ns.length = ys.size := by rw [en, List.length_map, Array.length_toList]
  rw [e] at hl
  refine min_intList (I.ok.hd hc) hl (by omega) fun v h' tk hv hk => ?_
  obtain ⟨t, rfl⟩ := intItems_at hv
  obtain ⟨h1, h2⟩ := argBest_lt (numAt ys) (ys.size - 1)
  refine ⟨.int _, H, I.kept hk, ⟨t, rfl⟩, q _ ?_ fun a ha => ?_⟩
  · rw [numAt_eq, ← en]; exact PySem.getD_mem (by omega)
  · rw [en] at ha
    obtain ⟨j, hj, rfl⟩ := mem_getD ha
    rw [← numAt_eq]; exact h2 j (by rw [List.length_map, Array.length_toList] at hj; omega)
theorem call_maxL (hc : X.calm = true) : CallR X (.builtin "max") (fun xs H Q => ∃ (l : Addr) (ns : List Int), xs = [.ref l] ∧ SqL X.K H l (ns.map V.int) ∧ 0 < ns.length ∧ ∀ M, M ∈ ns → (∀ a ∈ ns, a ≤ M) → Q (.int M) H) := by
  intro pins s σ H xs us Q I r h
  obtain ⟨l, ns, rfl, hq, hne, q⟩ := h
  obtain ⟨u, rfl, rx⟩ := vals1 r
  cases rx
  obtain ⟨its, rv, pl, _⟩ := I.list hq
  have hi : IntsAre its ns := intsAre_of rv
  have hl := pl.isList
  obtain ⟨ys, e⟩ := hi.allInts.items
  have en : ns = ys.toList.map (·.1) := by rw [← hi.numsOf, ← nums_intItems, ← e]
  have sz : ns.length = ys.size := by rw [en, List.length_map, Array.length_toList]
  rw [e] at hl
  refine max_intList (I.ok.hd hc) hl (by omega) fun v h' tk hv hk => ?_
  obtain ⟨t, rfl⟩ := intItems_at hv
  obtain ⟨h1, h2⟩ := argBest_gt (numAt ys) (ys.size - 1)
  refine ⟨.int _, H, I.kept hk, ⟨t, rfl⟩, q _ ?_ fun a ha => ?_⟩
  · rw [numAt_eq, ← en]; exact PySem.getD_mem (by omega)
  · rw [en] at ha
    obtain ⟨j, hj, rfl⟩ := mem_getD ha
    rw [← numAt_eq]; exact h2 j (by rw [List.length_map, Array.length_toList] at hj; omega)
end
section
variable {X : Cx} {n : Nat} {x : Str} {sp : Sp} {p pos : Pos}
/-- f() of a def -/
theorem pe_def0 (D : Def X.prog X.w X.K X.mg X.base n x [] sp) (hr : Room n X.A) (hg : Gl X x) (hdb : (x == ("__debug__" : Str)) = false := by decide) : PE X (.Call (.Name x p) [] [] pos) (tCall sp [] E0 tNil) := by
  obtain ⟨f, fd, F, b, kp, m⟩ := D.ex
  exact pe_call0 F hr hg m kp b .nil pass0 hdb
end
end L2


set_option Elab.async false
set_option linter.all false
set_option maxRecDepth 100000
set_option maxHeartbeats 4000000
namespace L2
open PySem PySem.Spec PyProof.Rows
/-! ### arguments that are written numbers or tuples: what starEach says of them is told once -/
section
variable {X : Cx} {es fs : List Expr} {t : TA} {te : TE} {k j : Nat} {p : Pos} {i : Int}
theorem pa_ki (hr : PA X es t) : PA X (.Constant (.int i) j p :: es) (tCons (tC (.int i)) t) := pa_cons pe_int hr
theorem pa_tu (ha : PE X (.Tuple fs k p) te) (hr : PA X es t) : PA X (.Tuple fs k p :: es) (tCons te t) := pa_cons ha hr
noncomputable def tK3 (a b c : Int) : TE := tTup (tCons (tC (.int a)) (tCons (tC (.int b)) (tCons (tC (.int c)) tNil)))
/-- a written tuple of three numbers -/
noncomputable def eK3 (a b c : Int) (j1 j2 j3 k : Nat) (p1 p2 p3 p : Pos) : Expr := .Tuple [.Constant (.int a) j1 p1, .Constant (.int b) j2 p2, .Constant (.int c) j3 p3] k p
theorem pe_k3 {a b c : Int} {j1 j2 j3 k : Nat} {p1 p2 p3 p : Pos} : PE X (.Tuple [.Constant (.int a) j1 p1, .Constant (.int b) j2 p2, .Constant (.int c) j3 p3] k p) (tK3 a b c) := by
  unfold tK3
  refine pe_tup ?_
  refine pa_ki ?_
  refine pa_ki ?_
  refine pa_ki ?_
  exact pa_nil
theorem pe_eK3 {a b c : Int} {j1 j2 j3 k : Nat} {p1 p2 p3 p : Pos} : PE X (eK3 a b c j1 j2 j3 k p1 p2 p3 p) (tK3 a b c) := pe_k3
noncomputable def tSq : TE := tLst (tCons (tK3 1 0 0) (tCons (tK3 1 1 0) (tCons (tK3 1 1 1) (tCons (tK3 1 0 1) tNil))))
/-- the written list of the square's corners -/
structure IsSq (e : Expr) : Prop where
  ex : ∃ a1 a2 a3 a4 q1 q2 q3 q4 b1 b2 b3 b4 r1 r2 r3 r4 c1 c2 c3 c4 s1 s2 s3 s4 d1 d2 d3 d4 t1 t2 t3 t4 p, e = .List [eK3 1 0 0 a1 a2 a3 a4 q1 q2 q3 q4, eK3 1 1 0 b1 b2 b3 b4 r1 r2 r3 r4, eK3 1 1 1 c1 c2 c3 c4 s1 s2 s3 s4, eK3 1 0 1 d1 d2 d3 d4 t1 t2 t3 t4] p
theorem pe_sq {e : Expr} (h : IsSq e) : PE X e tSq := by
  obtain ⟨a1, a2, a3, a4, q1, q2, q3, q4, b1, b2, b3, b4, r1, r2, r3, r4, c1, c2, c3, c4, s1, s2, s3, s4, d1, d2, d3, d4, t1, t2, t3, t4, p, rfl⟩ := h.ex
  unfold tSq
  refine pe_lst ?_
  refine pa_cons pe_eK3 ?_ rfl
  refine pa_cons pe_eK3 ?_ rfl
  refine pa_cons pe_eK3 ?_ rfl
  refine pa_cons pe_eK3 ?_ rfl
  exact pa_nil
end
end L2


set_option Elab.async false
set_option linter.all false
set_option maxRecDepth 100000
set_option maxHeartbeats 4000000
namespace L2
open PySem PySem.Spec PyProof.Rows PySem.W
/-! ### y = [.. for a, b in ..] -/
section
variable {X : Cx} {elt iter : Expr} {xs : List Str} {elts : List Expr} {kk : Nat} {tp pos : Pos} {scope : Scope} {cl : List (Str × Addr)} {wi : TI} {g : TG} {te : TE} {js : List Nat}
end
/-! ### try: z = f(..) except Y: suite -/
end L2


set_option Elab.async false
set_option linter.all false
set_option maxRecDepth 100000
set_option maxHeartbeats 4000000
namespace L2
open PySem PySem.Spec PyProof.Rows
/-! ### data in which lists stand too, at any place -/
mutual
noncomputable def DatM (K : PySem.W.Frag) (H : Hp) : PyData → V → Prop
  | .none, v => v = .non
  | .bool b, v => v = .bl b
  | .int i, v => v = .int i
  | .str x, v => v = .str x
  | .tuple ds, v => ∃ a xs, v = .ref a ∧ SqT K H a xs ∧ DatMAll K H ds xs
  | .list ds, v => ∃ a xs, v = .ref a ∧ SqL K H a xs ∧ DatMAll K H ds xs
  | .dict _, _ => False
noncomputable def DatMAll (K : PySem.W.Frag) (H : Hp) : List PyData → List V → Prop
  | [], xs => xs = []
  | d :: ds, xs => ∃ x r, xs = x :: r ∧ DatM K H d x ∧ DatMAll K H ds r
end
mutual
theorem Dat.m {K : PySem.W.Frag} {H : Hp} : ∀ {d : PyData} {v : V}, Dat K H d v → DatM K H d v
  | .none, _, h => h
  | .bool _, _, h => h
  | .int _, _, h => h
  | .str _, _, h => h
  | .tuple _, _, ⟨a, xs, h1, h2, h3⟩ => ⟨a, xs, h1, h2, DatAll.m h3⟩
  | .list _, _, h => False.elim h
  | .dict _, _, h => h
theorem DatAll.m {K : PySem.W.Frag} {H : Hp} : ∀ {ds : List PyData} {xs : List V}, DatAll K H ds xs → DatMAll K H ds xs
  | [], _, h => h
  | _ :: _, _, ⟨x, r, h1, h2, h3⟩ => ⟨x, r, h1, Dat.m h2, DatAll.m h3⟩
end
mutual
theorem DatM.reads {X : Cx} {pins : List (Addr × Obj)} {σ : St} {H : Hp} {s : Shared} (I : Inv X pins σ H s) : ∀ (d : PyData) {v : V} {u : Value}, DatM X.K H d v → RelV v u → ∃ as, Reads s.heap u d as
  | .none, _, _, h, r => Dat.reads I .none h r
  | .bool b, _, _, h, r => Dat.reads I (.bool b) h r
  | .int i, _, _, h, r => Dat.reads I (.int i) h r
  | .str x, _, _, h, r => Dat.reads I (.str x) h r
  | .tuple ds, _, _, ⟨a, xs, h1, h2, h3⟩, r => by
    cases h1
    cases (show _ = Value.ref a from r)
    obtain ⟨its, rv, ⟨o, ho, hc, n, hd⟩, _⟩ := I.tuple h2
    obtain ⟨as, ra⟩ := DatMAll.reads I ds h3 rv
    exact ⟨as, .tuple ho hc hd (by simpa using ra)⟩
  | .list ds, _, _, ⟨a, xs, h1, h2, h3⟩, r => by
    cases h1
    cases (show _ = Value.ref a from r)
    obtain ⟨its, rv, ⟨o, n, ho, hc, _, hd⟩, _⟩ := I.list h2
    obtain ⟨as, ra⟩ := DatMAll.reads I ds h3 rv
    exact ⟨a :: as, .list ho hc hd (by simpa using ra)⟩
  | .dict _, _, _, h, _ => False.elim h
theorem DatMAll.reads {X : Cx} {pins : List (Addr × Obj)} {σ : St} {H : Hp} {s : Shared} (I : Inv X pins σ H s) : ∀ (ds : List PyData) {xs : List V} {us : List Value}, DatMAll X.K H ds xs → Vals xs us → ∃ as, ReadsAll s.heap us ds as
  | [], _, _, h, r => by
    cases (show _ = ([] : List V) from h)
    cases r
    exact ⟨[], .nil⟩
  | d :: ds, _, _, ⟨x, t, h1, h2, h3⟩, r => by
    cases h1
    cases r with
    | cons r1 r2 =>
      obtain ⟨as, a1⟩ := DatM.reads I d h2 r1
      obtain ⟨bs, b1⟩ := DatMAll.reads I ds h3 r2
      exact ⟨as ++ bs, .cons a1 b1⟩
end
section
variable {X : Cx}
noncomputable def rEqM (K : PySem.W.Frag) : R2 := fun x y H Q => ∃ d e, DatM K H d x ∧ DatM K H e y ∧ SeqAt.shaped d = true ∧ SeqAt.shaped e = true ∧ Q (.bl (PyData.eqv d e)) H
noncomputable def rNeM (K : PySem.W.Frag) : R2 := fun x y H Q => ∃ d e, DatM K H d x ∧ DatM K H e y ∧ SeqAt.shaped d = true ∧ SeqAt.shaped e = true ∧ Q (.bl (!PyData.eqv d e)) H
theorem op_eqM (hu : X.A.units + 64 < cLine) : OpR X (compareOp .Eq) (rEqM X.K) := by
  intro pins s σ H x y v u Q I rx ry h
  obtain ⟨d, e, hd, he, sd, se, q⟩ := h
  obtain ⟨as, ra⟩ := hd.reads I d rx
  obtain ⟨bs, rb⟩ := he.reads I e ry
  exact eq_dataH ra rb sd se hu ⟨.bl _, H, I, rfl, q⟩
theorem op_neM (hu : X.A.units + 64 < cLine) : OpR X (compareOp .NotEq) (rNeM X.K) := by
  intro pins s σ H x y v u Q I rx ry h
  obtain ⟨d, e, hd, he, sd, se, q⟩ := h
  obtain ⟨as, ra⟩ := hd.reads I d rx
  obtain ⟨bs, rb⟩ := he.reads I e ry
  exact ne_dataH ra rb sd se hu ⟨.bl _, H, I, rfl, q⟩
end
end L2


set_option Elab.async false
namespace Mine
namespace Lo
/-- the greatest common factor, as an int -/
noncomputable def gc (a b : Int) : Int := (Int.gcd a b : Nat)
theorem gc_nonneg (a b : Int) : 0 ≤ gc a b := Int.natCast_nonneg _
theorem gc_zero {a : Int} (h : 0 ≤ a) : gc a 0 = a := by
  unfold gc; rw [Int.gcd_zero_right]; omega
theorem gc_turn (g l : Int) : gc l (g.fmod l) = gc g l := by
  unfold gc
  congr 1
  rw [Int.fmod_def]
  rw [Int.gcd_comm g l]
  have : g - l * g.fdiv l = g + l * (-(g.fdiv l)) := by rw [Int.mul_neg]; omega
  rw [this]
  exact Int.gcd_add_mul_left_right ..
theorem gc_dvd_left (a b : Int) : gc a b ∣ a := Int.gcd_dvd_left ..
theorem gc_dvd_right (a b : Int) : gc a b ∣ b := Int.gcd_dvd_right ..
end Lo

/-! ### stretches and lines, as they are told -/
namespace Ln
/-! ### the stretch in which x lies -/
end Ln
end Mine


set_option Elab.async false
set_option linter.all false
namespace Mine
/-- three numbers: a point (n, x, y), or a rule (a, b, c) -/
structure T3 where
  u : Int
  v : Int
  w : Int
deriving DecidableEq
namespace Hu
/-- what a rule tells at a point -/
noncomputable def tl (r p : T3) : Int := r.u * p.v + r.v * p.w + r.w * p.u
/-- the rule of the straight line through two points -/
noncomputable def thr (p q : T3) : T3 := ⟨p.u * q.w - q.u * p.w, q.u * p.v - p.u * q.v, q.v * p.w - p.v * q.w⟩
theorem pos_of {g x : Int} (hg : 0 < g) (h : 0 ≤ g * x) : 0 ≤ x := by
  rcases Int.lt_or_le x 0 with z | z
  · have := Int.mul_neg_of_pos_of_neg hg z; omega
  · exact z
section
variable {α : Type} {f : Nat → List α}
noncomputable def fl (f : Nat → List α) (n : Nat) : List α := (List.range n).flatMap f
theorem fl_succ (n : Nat) : fl f (n + 1) = fl f n ++ f n := by simp [fl, List.range_succ]
theorem sub_one {p : α} : ∀ {n : Nat}, p ∈ fl f n → ∃ i, i < n ∧ p ∈ f i
  | 0, h => by simp [fl] at h
  | n + 1, h => by
    rw [fl_succ] at h
    rcases List.mem_append.mp h with h | h
    · obtain ⟨i, hi, z⟩ := sub_one h
      exact ⟨i, by omega, z⟩
    · exact ⟨n, by omega, h⟩
theorem fl_len {c : Nat} (h : ∀ i, (f i).length ≤ c) : ∀ n : Nat, (fl f n).length ≤ n * c
  | 0 => by simp [fl]
  | n + 1 => by
    rw [fl_succ, List.length_append]
    have := fl_len h n
    have := h n
    rw [Nat.add_mul]
    omega
theorem fl_mem {p : α} {i n : Nat} (hi : i < n) (h : p ∈ f i) : p ∈ fl f n := by
  unfold fl
  exact List.mem_flatMap.mpr ⟨i, List.mem_range.mpr hi, h⟩
end
noncomputable def z3 : T3 := ⟨1, 0, 0⟩
/-- the i-th corner, round and round -/
noncomputable def cor (h : List T3) (i : Nat) : T3 := h.getD (i % h.length) z3
theorem cor_lt {h : List T3} {i : Nat} (hi : i < h.length) : cor h i = h[i] := by
  unfold cor
  rw [Nat.mod_eq_of_lt hi, List.getD_eq_getElem?_getD, List.getElem?_eq_getElem hi]
  rfl
theorem cor_mem {h : List T3} (h0 : 0 < h.length) (i : Nat) : cor h i ∈ h := by
  have : i % h.length < h.length := Nat.mod_lt _ h0
  unfold cor
  rw [List.getD_eq_getElem?_getD, List.getElem?_eq_getElem this]
  exact List.getElem_mem this
end Hu
end Mine


set_option Elab.async false
set_option linter.all false
namespace Mine
namespace Hu
noncomputable def nm (p q s t : Int) : Int := (t.natAbs : Int) * p + (s.natAbs : Int) * q
noncomputable def gg (U V W : Int) : Int := Lo.gc (Lo.gc U V) W
/-- the corner between p and q, at which is told s and t -/
noncomputable def mid (p q : T3) (s t : Int) : T3 :=
  ⟨(nm p.u q.u s t).fdiv (gg (nm p.u q.u s t) (nm p.v q.v s t) (nm p.w q.w s t)), (nm p.v q.v s t).fdiv (gg (nm p.u q.u s t) (nm p.v q.v s t) (nm p.w q.w s t)), (nm p.w q.w s t).fdiv (gg (nm p.u q.u s t) (nm p.v q.v s t) (nm p.w q.w s t))⟩
theorem mid_neg (p q : T3) (s t : Int) : mid p q (-s) (-t) = mid p q s t := by simp only [mid, nm, Int.natAbs_neg]
theorem gg_u (U V W : Int) : gg U V W ∣ U := Int.dvd_trans (Lo.gc_dvd_left _ _) (Lo.gc_dvd_left _ _)
theorem gg_v (U V W : Int) : gg U V W ∣ V := Int.dvd_trans (Lo.gc_dvd_left _ _) (Lo.gc_dvd_right _ _)
theorem gg_w (U V W : Int) : gg U V W ∣ W := Lo.gc_dvd_right _ _
theorem gg_nonneg (U V W : Int) : 0 ≤ gg U V W := Lo.gc_nonneg _ _
theorem gg_pos {U V W : Int} (h : 0 < U) : 0 < gg U V W := by
  rcases Int.lt_or_eq_of_le (gg_nonneg U V W) with z | z
  · exact z
  · have := gg_u U V W
    rw [← z] at this
    have := Int.zero_dvd.mp this
    omega
theorem gg_le {U V W : Int} (h : 0 < U) : gg U V W ≤ U := Int.le_of_dvd h (gg_u U V W)
theorem div_eq {g x : Int} (h : g ∣ x) : g * x.fdiv g = x := by
  rw [Int.fdiv_eq_ediv_of_dvd h]
  exact Int.mul_ediv_cancel' h
/-- a corner within a bound -/
structure P3 (b : Nat) (p : T3) : Prop where
  n0 : 0 < p.u
  x0 : 0 ≤ p.v
  y0 : 0 ≤ p.w
  n1 : p.u < 2 ^ b
  x1 : p.v < 2 ^ b
  y1 : p.w < 2 ^ b
theorem P3.mono {b c : Nat} {p : T3} (h : P3 b p) (z : b ≤ c) : P3 c p := by
  have e : (2 : Int) ^ b ≤ 2 ^ c := by
    have := Nat.pow_le_pow_right (n := 2) (by decide) z
    exact_mod_cast this
  exact ⟨h.n0, h.x0, h.y0, Int.lt_of_lt_of_le h.n1 e, Int.lt_of_lt_of_le h.x1 e, Int.lt_of_lt_of_le h.y1 e⟩
theorem mul_lt {a c : Int} {m n : Nat} (h1 : a.natAbs < 2 ^ m) (h2 : c.natAbs < 2 ^ n) : (a * c).natAbs < 2 ^ (m + n) := by
  rw [Int.natAbs_mul, Nat.pow_add]
  rcases Nat.eq_zero_or_pos c.natAbs with z | z
  · rw [z, Nat.mul_zero]; exact Nat.mul_pos (Nat.pow_pos (by decide)) (Nat.pow_pos (by decide))
  · exact Nat.lt_of_lt_of_le (Nat.mul_lt_mul_of_pos_right h1 z) (Nat.mul_le_mul_left _ (Nat.le_of_lt h2))
theorem na_of {b : Nat} {x : Int} (h0 : 0 ≤ x) (h : x < 2 ^ b) : x.natAbs < 2 ^ b := by
  have e : ((2 ^ b : Nat) : Int) = (2 : Int) ^ b := by norm_cast
  omega
theorem of_na {b : Nat} {x : Int} (h : x.natAbs < 2 ^ b) : x < 2 ^ b := by
  have e : ((2 ^ b : Nat) : Int) = (2 : Int) ^ b := by norm_cast
  omega
theorem nm_b {b e : Nat} {p q s t : Int} (p0 : 0 ≤ p) (q0 : 0 ≤ q) (p1 : p < 2 ^ b) (q1 : q < 2 ^ b) (hs : s.natAbs < 2 ^ e) (ht : t.natAbs < 2 ^ e) : 0 ≤ nm p q s t ∧ (nm p q s t).natAbs < 2 ^ (e + b + 1) := by
  have a1 := mul_lt (a := (t.natAbs : Int)) (c := p) (m := e) (n := b) (by simpa using ht) (na_of p0 p1)
  have a2 := mul_lt (a := (s.natAbs : Int)) (c := q) (m := e) (n := b) (by simpa using hs) (na_of q0 q1)
  have b1 : 0 ≤ (t.natAbs : Int) * p := Int.mul_nonneg (by omega) p0
  have b2 : 0 ≤ (s.natAbs : Int) * q := Int.mul_nonneg (by omega) q0
  have e1 : 2 ^ (e + b + 1) = 2 ^ (e + b) + 2 ^ (e + b) := by rw [Nat.pow_succ]; omega
  unfold nm
  rw [e1]
  exact ⟨by omega, by omega⟩
theorem fdiv_b {g x : Int} (hg : 0 < g) (h : g ∣ x) (x0 : 0 ≤ x) : 0 ≤ x.fdiv g ∧ x.fdiv g ≤ x := by
  have e := div_eq h
  have p : 0 ≤ x.fdiv g := pos_of hg (by omega)
  refine ⟨p, ?_⟩
  have : x.fdiv g * 1 ≤ x.fdiv g * g := Int.mul_le_mul_of_nonneg_left (by omega) p
  rw [Int.mul_comm _ g, e] at this
  omega
section
variable {b e : Nat} {p q : T3} {s t : Int}
theorem mid_num (hp : P3 b p) (hq : P3 b q) (h : s * t < 0) : 0 < nm p.u q.u s t := by
  have s0 : s ≠ 0 := fun z => by rw [z] at h; simp at h
  have t0 : t ≠ 0 := fun z => by rw [z] at h; simp at h
  have a1 : 0 < (t.natAbs : Int) * p.u := Int.mul_pos (by omega) hp.n0
  have a2 : 0 < (s.natAbs : Int) * q.u := Int.mul_pos (by omega) hq.n0
  unfold nm; omega
theorem mid_p3 (hp : P3 b p) (hq : P3 b q) (h : s * t < 0) (hs : s.natAbs < 2 ^ e) (ht : t.natAbs < 2 ^ e) : P3 (e + b + 1) (mid p q s t) := by
  have n0 := mid_num hp hq h
  have g0 := gg_pos (V := nm p.v q.v s t) (W := nm p.w q.w s t) n0
  obtain ⟨u0, u1⟩ := nm_b (Int.le_of_lt hp.n0) (Int.le_of_lt hq.n0) hp.n1 hq.n1 hs ht
  obtain ⟨v0, v1⟩ := nm_b hp.x0 hq.x0 hp.x1 hq.x1 hs ht
  obtain ⟨w0, w1⟩ := nm_b hp.y0 hq.y0 hp.y1 hq.y1 hs ht
  obtain ⟨d0, d1⟩ := fdiv_b g0 (gg_u _ _ _) u0
  obtain ⟨e0, e1⟩ := fdiv_b g0 (gg_v _ _ _) v0
  obtain ⟨f0, f1⟩ := fdiv_b g0 (gg_w _ _ _) w0
  refine ⟨?_, e0, f0, Int.lt_of_le_of_lt d1 (of_na u1), Int.lt_of_le_of_lt e1 (of_na v1), Int.lt_of_le_of_lt f1 (of_na w1)⟩
  have z := div_eq (gg_u (nm p.u q.u s t) (nm p.v q.v s t) (nm p.w q.w s t))
  rcases Int.lt_or_eq_of_le d0 with c | c
  · exact c
  · rw [← c] at z; omega
end
/-- a hull as far as it is asked here: its corners' bound, how many they are at most -/
structure Hull (b l : Nat) (h : List T3) : Prop where
  ok : ∀ p ∈ h, P3 b p
  pos : 0 < h.length
  few : h.length ≤ l
noncomputable def stp (h : List T3) (t : Nat → Int) (i : Nat) : List T3 := (if t i ≤ 0 then [cor h i] else []) ++ (if t i * t (i + 1) < 0 then [mid (cor h i) (cor h (i + 1)) (t i) (t (i + 1))] else [])
noncomputable def tv (r : T3) (h : List T3) (i : Nat) : Int := tl r (cor h i)
noncomputable def tn (r : T3) (h : List T3) (i : Nat) : Int := - tl r (cor h i)
noncomputable def low (r : T3) (h : List T3) : List T3 := fl (stp h (tv r h)) h.length
noncomputable def high (r : T3) (h : List T3) : List T3 := fl (stp h (tn r h)) h.length
theorem stp_len (h : List T3) (t : Nat → Int) (i : Nat) : (stp h t i).length ≤ 2 := by
  unfold stp
  rw [List.length_append]
  split <;> split <;> simp
theorem stp_hull {b l e : Nat} {h : List T3} (H : Hull b l h) {t : Nat → Int} (ht : ∀ i, (t i).natAbs < 2 ^ e) {i : Nat} (hi : i < h.length) (hn : t i ≤ 0) : Hull (e + b + 1) (l * 2) (fl (stp h t) h.length) where
  ok := fun p hp => by
    obtain ⟨j, hj, z⟩ := sub_one hp
    unfold stp at z
    rcases List.mem_append.mp z with z | z
    · split at z
      · rw [List.mem_singleton.mp z]; exact (H.ok _ (cor_mem H.pos j)).mono (by omega)
      · cases z
    · split at z
      · rename_i c
        rw [List.mem_singleton.mp z]; exact mid_p3 (H.ok _ (cor_mem H.pos j)) (H.ok _ (cor_mem H.pos (j + 1))) c (ht _) (ht _)
      · cases z
  pos := List.length_pos_of_mem (fl_mem (p := cor h i) hi (by unfold stp; rw [if_pos hn]; simp))
  few := by
    have := fl_len (stp_len h t) h.length
    have := H.few
    omega
/-- a rule within a bound -/
structure R3 (c : Nat) (r : T3) : Prop where
  a : r.u.natAbs < 2 ^ c
  b : r.v.natAbs < 2 ^ c
  c : r.w.natAbs < 2 ^ c
theorem P3.r {b : Nat} {p : T3} (h : P3 b p) : R3 b p := ⟨na_of (Int.le_of_lt h.n0) h.n1, na_of h.x0 h.x1, na_of h.y0 h.y1⟩
theorem tl_b {b c : Nat} {r p : T3} (hr : R3 c r) (hp : R3 b p) : (tl r p).natAbs < 2 ^ (c + b + 2) := by
  have a1 := mul_lt hr.a hp.b
  have a2 := mul_lt hr.b hp.c
  have a3 := mul_lt hr.c hp.a
  have e1 : 2 ^ (c + b + 2) = 4 * 2 ^ (c + b) := by rw [Nat.pow_add]; omega
  unfold tl
  rw [e1]
  omega
theorem low_hull {b l c : Nat} {h : List T3} {r : T3} (H : Hull b l h) (hr : R3 c r) {p : T3} (hp : p ∈ h) (hn : tl r p ≤ 0) : Hull (c + b + 2 + b + 1) (l * 2) (low r h) := by
  obtain ⟨i, hi, e⟩ := List.mem_iff_getElem.mp hp
  refine stp_hull H (fun i => tl_b hr (H.ok _ (cor_mem H.pos i)).r) hi ?_
  show tl r (cor h i) ≤ 0
  rw [cor_lt hi, e]; exact hn
theorem high_hull {b l c : Nat} {h : List T3} {r : T3} (H : Hull b l h) (hr : R3 c r) {p : T3} (hp : p ∈ h) (hn : 0 ≤ tl r p) : Hull (c + b + 2 + b + 1) (l * 2) (high r h) := by
  obtain ⟨i, hi, e⟩ := List.mem_iff_getElem.mp hp
  refine stp_hull H (fun i => by show (- tl r (cor h i)).natAbs < _; rw [Int.natAbs_neg]; exact tl_b hr (H.ok _ (cor_mem H.pos i)).r) hi ?_
  show - tl r (cor h i) ≤ 0
  rw [cor_lt hi, e]; omega
/-- whether a rule does not cut -/
noncomputable def NoCut (r : T3) (h : List T3) : Prop := (∀ p ∈ h, 0 ≤ tl r p) ∨ ∀ p ∈ h, tl r p ≤ 0
theorem R3.mono {b c : Nat} {p : T3} (h : R3 b p) (z : b ≤ c) : R3 c p := by
  have e := Nat.pow_le_pow_right (n := 2) (by decide) z
  exact ⟨Nat.lt_of_lt_of_le h.a e, Nat.lt_of_lt_of_le h.b e, Nat.lt_of_lt_of_le h.c e⟩
/-- the two tests for a point between -/
theorem cross_iff (a c : Int) : ((if c < a then c else a) < 0 ∧ 0 < (if c > a then c else a)) ↔ a * c < 0 := by
  constructor
  · intro ⟨h1, h2⟩
    rcases Int.lt_trichotomy a 0 with x | x | x
    · have : 0 < c := by split at h2 <;> omega
      exact Int.mul_neg_of_neg_of_pos x this
    · exfalso; split at h1 <;> split at h2 <;> omega
    · have : c < 0 := by split at h1 <;> omega
      exact Int.mul_neg_of_pos_of_neg x this
  · intro h
    rcases Int.lt_trichotomy a 0 with x | x | x
    · have : 0 < c := by
        rcases Int.lt_or_le 0 c with y | y
        · exact y
        · have := Int.mul_nonneg_of_nonpos_of_nonpos (Int.le_of_lt x) y; omega
      constructor <;> split <;> omega
    · rw [x] at h; simp at h
    · have : c < 0 := by
        rcases Int.lt_or_le c 0 with y | y
        · exact y
        · have := Int.mul_nonneg (Int.le_of_lt x) y; omega
      constructor <;> split <;> omega
end Hu
end Mine
namespace Mine
namespace Hu
theorem stp_high (r : T3) (h : List T3) (i : Nat) : stp h (tn r h) i = (if 0 ≤ tv r h i then [cor h i] else []) ++ (if tv r h i * tv r h (i + 1) < 0 then [mid (cor h i) (cor h (i + 1)) (tv r h i) (tv r h (i + 1))] else []) := by
  unfold stp tn tv
  rw [mid_neg, Int.neg_mul_neg]
  congr 1
  by_cases c : 0 ≤ tl r (cor h i)
  · rw [if_pos c, if_pos (by omega)]
  · rw [if_neg c, if_neg (by omega)]
theorem tv_mod (r : T3) (h : List T3) (i : Nat) : tv r h (i % h.length) = tv r h i := by unfold tv cor; rw [Nat.mod_mod]
theorem cor_mod (h : List T3) (i : Nat) : cor h (i % h.length) = cor h i := by unfold cor; rw [Nat.mod_mod]
theorem cor_get {h : List T3} {i : Nat} (hi : i < h.length) : h[i]? = some (cor h i) := by rw [List.getElem?_eq_getElem hi, cor_lt hi]
theorem fmod_nat (i n : Nat) : ((i : Int) + 1).fmod (n : Int) = (((i + 1) % n : Nat) : Int) := by
  rw [Int.fmod_eq_emod_of_nonneg _ (by omega), Int.natCast_emod, Int.natCast_add]
  rfl
end Hu
end Mine
namespace Mine
namespace Hu
noncomputable def sqH : List T3 := [⟨1, 0, 0⟩, ⟨1, 1, 0⟩, ⟨1, 1, 1⟩, ⟨1, 0, 1⟩]
theorem sq_hull : Hull 1 4 sqH := ⟨fun p hp => by
  simp only [sqH, List.mem_cons, List.not_mem_nil, or_false] at hp
  rcases hp with rfl | rfl | rfl | rfl <;> exact ⟨by decide, by decide, by decide, by decide, by decide, by decide⟩, by decide, by decide⟩
theorem Hull.mono {b b' l l' : Nat} {h : List T3} (H : Hull b l h) (h1 : b ≤ b') (h2 : l ≤ l') : Hull b' l' h := ⟨fun p hp => (H.ok p hp).mono h1, H.pos, Nat.le_trans H.few h2⟩
noncomputable def bb : Nat → Nat
  | 0 => 1
  | i + 1 => 5 + bb i + 2 + bb i + 1
noncomputable def ll : Nat → Nat
  | 0 => 4
  | i + 1 => ll i * 2
theorem bb_le {i : Nat} (h : i ≤ 6) : bb i ≤ 568 ∧ ll i ≤ 256 := by
  have m : ∀ i : Nat, bb i ≤ bb (i + 1) ∧ ll i ≤ ll (i + 1) := fun i => ⟨by show bb i ≤ 5 + bb i + 2 + bb i + 1; omega, by show ll i ≤ ll i * 2; omega⟩
  have z : ∀ k : Nat, bb i ≤ bb (i + k) ∧ ll i ≤ ll (i + k) := fun k => by
    induction k with
    | zero => exact ⟨Nat.le_refl _, Nat.le_refl _⟩
    | succ k ih => exact ⟨Nat.le_trans ih.1 (m _).1, Nat.le_trans ih.2 (m _).2⟩
  have y := z (6 - i)
  rw [show i + (6 - i) = 6 by omega] at y
  exact y
end Hu
end Mine


set_option Elab.async false
set_option linter.all false
namespace Mine
namespace Hu
/-! ### what is told at all corners is told at all that lies within -/
noncomputable def Cone (h : List T3) (p : T3) : Prop := ∀ f : T3, (∀ c ∈ h, 0 ≤ tl f c) → 0 ≤ tl f p
theorem tl_neg (f p : T3) : tl ⟨-f.u, -f.v, -f.w⟩ p = - tl f p := by simp only [tl]; grind
theorem Cone.le {h : List T3} {p : T3} (C : Cone h p) {f : T3} (hf : ∀ c ∈ h, tl f c ≤ 0) : tl f p ≤ 0 := by
  have z := C ⟨-f.u, -f.v, -f.w⟩ fun c hc => by rw [tl_neg]; have := hf c hc; omega
  rw [tl_neg] at z
  omega
theorem cone_mem {h : List T3} {c : T3} (hc : c ∈ h) : Cone h c := fun f hf => hf c hc
theorem Cone.sub {h g : List T3} (s : ∀ c ∈ g, Cone h c) {p : T3} (C : Cone g p) : Cone h p := fun f hf => C f fun c hc => s c hc f hf
inductive Row where
  | lf (k : Nat)
  | nt (i : Nat)
  | fd (k i j : Nat)
noncomputable def z0 : T3 := ⟨0, 0, 0⟩
noncomputable def fld (k : Nat) (n a b : Int) : Int :=
  if k = 0 then (if a + b < n then a + b else n) else if k = 1 then (if a + b - n > 0 then a + b - n else 0) else if k = 2 then (if b > a then b else a) else if k = 3 then (if b < a then b else a) else (if n - a + b < n then n - a + b else n)
noncomputable def lfw (k : Nat) (p : T3) : Int := if k = 0 then 0 else if k = 1 then p.u else if k = 2 then p.v else p.w
noncomputable def wof (ws : List Int) (p : T3) : Row → Int
  | .lf k => lfw k p
  | .nt i => p.u - ws.getD i 0
  | .fd k i j => fld k p.u (ws.getD i 0) (ws.getD j 0)
noncomputable def worths (p : T3) : List Row → List Int → List Int
  | [], ws => ws
  | r :: rs, ws => worths p rs (ws ++ [wof ws p r])
noncomputable def lft (k : Nat) : T3 := if k = 0 then ⟨0, 0, 0⟩ else if k = 1 then ⟨0, 0, 1⟩ else if k = 2 then ⟨1, 0, 0⟩ else ⟨0, 1, 0⟩
noncomputable def pl (a b : T3) : T3 := ⟨a.u + b.u, a.v + b.v, a.w + b.w⟩
noncomputable def mi (a b : T3) : T3 := ⟨a.u - b.u, a.v - b.v, a.w - b.w⟩
noncomputable def al : T3 := ⟨0, 0, 1⟩
theorem tl_pl (a b p : T3) : tl (pl a b) p = tl a p + tl b p := by simp only [tl, pl]; grind
theorem tl_mi (a b p : T3) : tl (mi a b) p = tl a p - tl b p := by simp only [tl, mi]; grind
theorem tl_al (p : T3) : tl al p = p.u := by simp only [tl, al]; grind
theorem tl_z0 (p : T3) : tl z0 p = 0 := by simp only [tl, z0]; grind
theorem tl_lft (k : Nat) (p : T3) : tl (lft k) p = lfw k p := by
  unfold lft lfw tl
  split
  · simp
  · split
    · simp
    · split <;> simp
/-- the choice at a fold: the test, the rule where it is not above nought, the rule where it is not below -/
noncomputable def fch (k : Nat) (a b : T3) : T3 × T3 × T3 :=
  if k = 0 then (mi (pl a b) al, pl a b, al) else if k = 1 then (mi (pl a b) al, z0, mi (pl a b) al) else if k = 2 then (mi a b, b, a) else if k = 3 then (mi a b, a, b) else (mi b a, pl al (mi b a), al)
noncomputable def choice (rs : List T3) : Row → T3 × T3 × T3
  | .lf k => (z0, lft k, lft k)
  | .nt i => (z0, mi al (rs.getD i z0), mi al (rs.getD i z0))
  | .fd k i j => fch k (rs.getD i z0) (rs.getD j z0)
open Classical in
noncomputable def chosen (h : List T3) (c : T3 × T3 × T3) : Option T3 := if ∀ q ∈ h, tl c.1 q ≤ 0 then some c.2.1 else if ∀ q ∈ h, 0 ≤ tl c.1 q then some c.2.2 else none
inductive Out where
  | rules (rs : List T3)
  | mixed (k : Nat) (t : T3)
noncomputable def run (h : List T3) : List Row → List T3 → Out
  | [], rs => .rules rs
  | r :: rest, rs => match chosen h (choice rs r) with
    | some x => run h rest (rs ++ [x])
    | none => .mixed rs.length (choice rs r).1
noncomputable def tv2 (rs : List T3) (p : T3) : List Int := rs.map fun r => tl r p
theorem tv2_at (rs : List T3) (p : T3) (i : Nat) : (tv2 rs p).getD i 0 = tl (rs.getD i z0) p := by
  unfold tv2
  rw [List.getD_eq_getElem?_getD, List.getD_eq_getElem?_getD, List.getElem?_map]
  cases rs[i]? with
  | none => exact (tl_z0 p).symm
  | some r => rfl
/-- what the test tells, by the worths alone -/
noncomputable def tsem (ws : List Int) (p : T3) : Row → Int
  | .lf _ => 0
  | .nt _ => 0
  | .fd k i j => if k = 0 then ws.getD i 0 + ws.getD j 0 - p.u else if k = 1 then ws.getD i 0 + ws.getD j 0 - p.u else if k = 2 then ws.getD i 0 - ws.getD j 0 else if k = 3 then ws.getD i 0 - ws.getD j 0 else ws.getD j 0 - ws.getD i 0
theorem test_tells (rs : List T3) (p : T3) (r : Row) : tl (choice rs r).1 p = tsem (tv2 rs p) p r := by
  cases r with
  | lf k => exact tl_z0 p
  | nt i => exact tl_z0 p
  | fd k i j =>
    show tl (fch k _ _).1 p = tsem _ p (.fd k i j)
    unfold fch tsem
    simp only [tv2_at]
    split
    · show tl (mi (pl _ _) al) p = _
      rw [tl_mi, tl_pl, tl_al]
    · split
      · show tl (mi (pl _ _) al) p = _
        rw [tl_mi, tl_pl, tl_al]
      · split
        · show tl (mi _ _) p = _
          rw [tl_mi]
        · split
          · show tl (mi _ _) p = _
            rw [tl_mi]
          · show tl (mi _ _) p = _
            rw [tl_mi]
theorem lo_tells (rs : List T3) (p : T3) (r : Row) (h : tsem (tv2 rs p) p r ≤ 0) : tl (choice rs r).2.1 p = wof (tv2 rs p) p r := by
  cases r with
  | lf k => exact tl_lft k p
  | nt i =>
    show tl (mi al _) p = p.u - _
    rw [tl_mi, tl_al, tv2_at]
  | fd k i j =>
    show tl (fch k _ _).2.1 p = fld k p.u _ _
    unfold tsem at h
    unfold fch fld
    simp only [tv2_at] at h ⊢
    split at h <;> rename_i c0
    · rw [if_pos c0, if_pos c0]
      show tl (pl _ _) p = _
      rw [tl_pl]
      split <;> omega
    · rw [if_neg c0, if_neg c0]
      split at h <;> rename_i c1
      · rw [if_pos c1, if_pos c1]
        show tl z0 p = _
        rw [tl_z0]
        split <;> omega
      · rw [if_neg c1, if_neg c1]
        split at h <;> rename_i c2
        · rw [if_pos c2, if_pos c2]
          show tl (rs.getD j z0) p = _
          split <;> omega
        · rw [if_neg c2, if_neg c2]
          split at h <;> rename_i c3
          · rw [if_pos c3, if_pos c3]
            show tl (rs.getD i z0) p = _
            split <;> omega
          · rw [if_neg c3, if_neg c3]
            show tl (pl al (mi _ _)) p = _
            rw [tl_pl, tl_al, tl_mi]
            split <;> omega
theorem hi_tells (rs : List T3) (p : T3) (r : Row) (h : 0 ≤ tsem (tv2 rs p) p r) : tl (choice rs r).2.2 p = wof (tv2 rs p) p r := by
  cases r with
  | lf k => exact tl_lft k p
  | nt i =>
    show tl (mi al _) p = p.u - _
    rw [tl_mi, tl_al, tv2_at]
  | fd k i j =>
    show tl (fch k _ _).2.2 p = fld k p.u _ _
    unfold tsem at h
    unfold fch fld
    simp only [tv2_at] at h ⊢
    split at h <;> rename_i c0
    · rw [if_pos c0, if_pos c0]
      show tl al p = _
      rw [tl_al]
      split <;> omega
    · rw [if_neg c0, if_neg c0]
      split at h <;> rename_i c1
      · rw [if_pos c1, if_pos c1]
        show tl (mi (pl _ _) al) p = _
        rw [tl_mi, tl_pl, tl_al]
        split <;> omega
      · rw [if_neg c1, if_neg c1]
        split at h <;> rename_i c2
        · rw [if_pos c2, if_pos c2]
          show tl (rs.getD i z0) p = _
          split <;> omega
        · rw [if_neg c2, if_neg c2]
          split at h <;> rename_i c3
          · rw [if_pos c3, if_pos c3]
            show tl (rs.getD j z0) p = _
            split <;> omega
          · rw [if_neg c3, if_neg c3]
            show tl al p = _
            rw [tl_al]
            split <;> omega
theorem chosen_tells {h : List T3} {rs : List T3} {r : Row} {x : T3} (e : chosen h (choice rs r) = some x) {p : T3} (C : Cone h p) : tl x p = wof (tv2 rs p) p r := by
  unfold chosen at e
  split at e
  · rename_i c
    cases e
    exact lo_tells rs p r (by rw [← test_tells]; exact C.le c)
  · split at e
    · rename_i c
      cases e
      exact hi_tells rs p r (by rw [← test_tells]; exact C _ c)
    · cases e
theorem tv2_snoc (rs : List T3) (x p : T3) : tv2 (rs ++ [x]) p = tv2 rs p ++ [tl x p] := by unfold tv2; rw [List.map_append]; rfl
theorem run_tells {h : List T3} {p : T3} (C : Cone h p) : ∀ (rows : List Row) (rs out : List T3), run h rows rs = .rules out → tv2 out p = worths p rows (tv2 rs p)
  | [], rs, out, e => by cases e; rfl
  | r :: rest, rs, out, e => by
    unfold run at e
    cases q : chosen h (choice rs r) with
    | none => rw [q] at e; cases e
    | some x =>
      rw [q] at e
      rw [run_tells C rest _ out e, tv2_snoc, chosen_tells q C]
      rfl
/-! ### bounds -/
noncomputable def Rb (rs : List T3) : Prop := ∀ i x, rs[i]? = some x → R3 (i + 1) x
theorem two_pow (m : Nat) : 2 ^ (m + 1) = 2 * 2 ^ m := by rw [Nat.pow_succ, Nat.mul_comm]
theorem lt_add {x y : Int} {m : Nat} (hx : x.natAbs < 2 ^ m) (hy : y.natAbs < 2 ^ m) : (x + y).natAbs < 2 ^ (m + 1) := by rw [two_pow]; omega
theorem lt_sub {x y : Int} {m : Nat} (hx : x.natAbs < 2 ^ m) (hy : y.natAbs < 2 ^ m) : (x - y).natAbs < 2 ^ (m + 1) := by rw [two_pow]; omega
theorem lt_addc {x y : Int} {m : Nat} (hx : x.natAbs < 2 ^ m) (hy : y.natAbs < 2 ^ m) {c : Int} (h0 : 0 ≤ c) (h1 : c ≤ 1) : (x + y - c).natAbs < 2 ^ (m + 1) := by rw [two_pow]; omega
theorem lt_subc {x y : Int} {m : Nat} (hx : x.natAbs < 2 ^ m) (hy : y.natAbs < 2 ^ m) {c : Int} (h0 : 0 ≤ c) (h1 : c ≤ 1) : (c + (x - y)).natAbs < 2 ^ (m + 1) := by rw [two_pow]; omega
theorem lt_one (m : Nat) {c : Int} (h0 : 0 ≤ c) (h1 : c ≤ 1) : c.natAbs < 2 ^ (m + 1) := by
  have := Nat.one_le_two_pow (n := m)
  rw [two_pow]
  omega
theorem r3_pl {m : Nat} {a b : T3} (ha : R3 m a) (hb : R3 m b) : R3 (m + 1) (pl a b) := ⟨lt_add ha.a hb.a, lt_add ha.b hb.b, lt_add ha.c hb.c⟩
theorem r3_mi {m : Nat} {a b : T3} (ha : R3 m a) (hb : R3 m b) : R3 (m + 1) (mi a b) := ⟨lt_sub ha.a hb.a, lt_sub ha.b hb.b, lt_sub ha.c hb.c⟩
theorem r3_mal {m : Nat} {a b : T3} (ha : R3 m a) (hb : R3 m b) : R3 (m + 1) (mi (pl a b) al) := ⟨lt_addc ha.a hb.a (c := 0) (by decide) (by decide), lt_addc ha.b hb.b (c := 0) (by decide) (by decide), lt_addc ha.c hb.c (c := 1) (by decide) (by decide)⟩
theorem r3_alm {m : Nat} {a b : T3} (ha : R3 m a) (hb : R3 m b) : R3 (m + 1) (pl al (mi b a)) := ⟨lt_subc hb.a ha.a (c := 0) (by decide) (by decide), lt_subc hb.b ha.b (c := 0) (by decide) (by decide), lt_subc hb.c ha.c (c := 1) (by decide) (by decide)⟩
theorem r3_c (m : Nat) {a b c : Int} (a0 : 0 ≤ a) (a1 : a ≤ 1) (b0 : 0 ≤ b) (b1 : b ≤ 1) (c0 : 0 ≤ c) (c1 : c ≤ 1) : R3 (m + 1) ⟨a, b, c⟩ := ⟨lt_one m a0 a1, lt_one m b0 b1, lt_one m c0 c1⟩
theorem r3_one (m : Nat) : R3 (m + 1) al := r3_c m (by decide) (by decide) (by decide) (by decide) (by decide) (by decide)
theorem r3_z0 (m : Nat) : R3 (m + 1) z0 := r3_c m (by decide) (by decide) (by decide) (by decide) (by decide) (by decide)
theorem r3_lft (k m : Nat) : R3 (m + 1) (lft k) := by
  unfold lft
  split
  · exact r3_z0 m
  · split
    · exact r3_one m
    · split <;> exact r3_c m (by decide) (by decide) (by decide) (by decide) (by decide) (by decide)
/-- a row that stands at the place n may stand there -/
noncomputable def Row.Ok (n : Nat) : Row → Prop
  | .lf k => k < 4
  | .nt i => i < n
  | .fd k i j => k < 5 ∧ i < n ∧ j < n
theorem rb_at {rs : List T3} (h : Rb rs) {i : Nat} (hi : i < rs.length) : R3 rs.length (rs.getD i z0) := by
  have e : rs[i]? = some (rs.getD i z0) := by rw [List.getD_eq_getElem?_getD, List.getElem?_eq_getElem hi]; rfl
  exact (h i _ e).mono (by omega)
theorem choice_b {rs : List T3} (h : Rb rs) {r : Row} (ok : r.Ok rs.length) : R3 (rs.length + 1) (choice rs r).1 ∧ R3 (rs.length + 1) (choice rs r).2.1 ∧ R3 (rs.length + 1) (choice rs r).2.2 := by
  cases r with
  | lf k => exact ⟨r3_z0 _, r3_lft k _, r3_lft k _⟩
  | nt i =>
    have a := rb_at h ok
    have l0 : ∃ m, rs.length = m + 1 := ⟨rs.length - 1, by have : i < rs.length := ok; omega⟩
    obtain ⟨m, em⟩ := l0
    have o : R3 rs.length al := by rw [em]; exact r3_one m
    exact ⟨r3_z0 _, r3_mi o a, r3_mi o a⟩
  | fd k i j =>
    obtain ⟨_, hi, hj⟩ := ok
    have a := rb_at h hi
    have b := rb_at h hj
    show R3 _ (fch k _ _).1 ∧ R3 _ (fch k _ _).2.1 ∧ R3 _ (fch k _ _).2.2
    unfold fch
    split
    · exact ⟨r3_mal a b, r3_pl a b, r3_one _⟩
    · split
      · exact ⟨r3_mal a b, r3_z0 _, r3_mal a b⟩
      · split
        · exact ⟨r3_mi a b, b.mono (by omega), a.mono (by omega)⟩
        · split
          · exact ⟨r3_mi a b, a.mono (by omega), b.mono (by omega)⟩
          · exact ⟨r3_mi b a, r3_alm a b, r3_one _⟩
theorem rb_snoc {rs : List T3} {x : T3} (h : Rb rs) (hx : R3 (rs.length + 1) x) : Rb (rs ++ [x]) := fun i y e => by
  rcases Nat.lt_or_ge i rs.length with z | z
  · rw [List.getElem?_append_left z] at e
    exact h i y e
  · rw [List.getElem?_append_right z] at e
    have : i - rs.length = 0 := by
      rcases Nat.eq_zero_or_pos (i - rs.length) with q | q
      · exact q
      · rw [List.getElem?_eq_none (by simp; omega)] at e; cases e
    rw [this] at e
    cases e
    rw [show i = rs.length by omega]
    exact hx
theorem chosen_b {rs : List T3} {h : List T3} {r : Row} {x : T3} (hb : Rb rs) (ok : r.Ok rs.length) (e : chosen h (choice rs r) = some x) : R3 (rs.length + 1) x := by
  obtain ⟨_, b1, b2⟩ := choice_b hb ok
  unfold chosen at e
  split at e
  · cases e; exact b1
  · split at e
    · cases e; exact b2
    · cases e
end Hu
end Mine


set_option Elab.async false
set_option linter.all false
set_option maxRecDepth 100000
set_option maxHeartbeats 4000000
namespace Mine
open PySem L2
/-! ### small numbers -/
noncomputable def Sm (x : Int) : Prop := x.natAbs < 2 ^ 200
noncomputable abbrev bits (x : Int) : Nat := Builtin.Int.intBits x
theorem bits_of {x : Int} {m : Nat} (h : x.natAbs < 2 ^ m) : bits x ≤ m := intBits_le_iff.mpr h
theorem mulS {a b : Int} (ha : Sm a) (hb : Sm b) : IntMulOk a b := IntMulOk.of_le (m := 200) (n := 200) (bits_of ha) (bits_of hb) (by decide)
theorem sm_of {x : Int} (h : x.natAbs ≤ 10 ^ 50) : Sm x := Nat.lt_of_le_of_lt h (by decide +kernel)
theorem sm_mod {x m : Int} (h0 : 0 < m) (h : m ≤ 10 ^ 40) : Sm (x % m) := by
  have h1 := Int.emod_nonneg x (show m ≠ 0 by omega)
  have h2 := Int.emod_lt_of_pos x h0
  exact sm_of (by omega)
theorem abs_is (i : Int) : (if i < 0 then -i else i) = (i.natAbs : Int) := by split <;> omega
/-! ### items of the script -/
theorem at_script {ns : List Int} {i : Int} (h0 : 0 ≤ i) (h : i < (ns.length : Int)) : ∃ v : Int, atI (ns.map V.int) i = some (.int v) ∧ v ∈ ns := by
  have hi : i.toNat < ns.length := by omega
  have ek : i = ((i.toNat : Nat) : Int) := by omega
  have q : atI (ns.map V.int) ((i.toNat : Nat) : Int) = some (.int ns[i.toNat]) := atI_nat (by rw [List.getElem?_map, List.getElem?_eq_getElem hi] <;> rfl)
  rw [← ek] at q
  exact ⟨_, q, List.getElem_mem hi⟩
/-- a script as the law has it: a list of at most 63 ints, each of at most 2 ** 20 bits; it is frozen -/
structure Scr (K : PySem.W.Frag) (H : Hp) (a : Addr) (ns : List Int) : Prop where
  sq : (∃ o, H a = some (.frz o (.lst (ns.map V.int)))) ∨ ∃ (o : Obj) (its : Array Value) (n : Nat), K.lookup a = some o ∧ o.cls = .type "list" ∧ o.dict = none ∧ o.data = .seq its n ∧ its.size ≤ sizeLine ∧ Vals (ns.map V.int) its.toList
  few : ns.length ≤ 63
  bit : ∀ n ∈ ns, bits n ≤ 1048576
theorem Scr.l {K : PySem.W.Frag} {H : Hp} {a : Addr} {ns : List Int} (S : Scr K H a ns) : SqL K H a (ns.map V.int) := S.sq.elim (fun h => .inl (.inr h)) .inr
theorem Scr.ts {K : PySem.W.Frag} {H H' : Hp} {a : Addr} {ns : List Int} (S : Scr K H a ns) (e : Tst H H') : Scr K H' a ns := ⟨S.sq.elim (fun ⟨o, h⟩ => .inl ⟨o, e.f _ _ _ h⟩) .inr, S.few, S.bit⟩
theorem scr_of {K : PySem.W.Frag} {H : Hp} {a : Addr} {ns : List Int} (O : Only H) (h : SqL K H a (ns.map V.int)) (few : ns.length ≤ 63) (bit : ∀ n ∈ ns, bits n ≤ 1048576) : Scr K H a ns := by
  refine ⟨?_, few, bit⟩
  rcases h with (h | h) | h
  · exfalso
    rcases O a with z | ⟨o, xs, z⟩
    · rw [h] at z; cases z
    · rw [h] at z; cases z
  · exact .inl h
  · exact .inr h
theorem same_new {H : Hp} {p : Addr} (h : H p = none) (o : HO) : Same H (upd H p o) := fun b u q => by rw [upd_ne (ne_of_none q h)]; exact q
/-- a change at what was not there at first -/
theorem same_mut {H H' : Hp} {l : Addr} (e : Same H H') (h : H l = none) (o : HO) : Same H (upd H' l o) := fun b u q => by rw [upd_ne (ne_of_none q h)]; exact e b u q
/-! ### fractions, stretches, lines as data -/
section
variable {K : PySem.W.Frag} {H H' : Hp} {a : Addr} {v e : V} {p q m h : Int} {s : St4} {L : List St4}
end
mutual
theorem eqv_self : ∀ d : PyData, d.canLay0 = true → PyData.eqv d d = true
  | .none, _ => by simp [PyData.eqv]
  | .bool _, _ => by simp [PyData.eqv]
  | .int _, _ => by simp [PyData.eqv]
  | .str _, _ => by simp [PyData.eqv]
  | .list xs, h => by simp only [PyData.eqv]; exact eqvAll_self xs (by simpa [PyData.canLay0] using h)
  | .tuple xs, h => by simp only [PyData.eqv]; exact eqvAll_self xs (by simpa [PyData.canLay0] using h)
  | .dict _, h => by simp [PyData.canLay0] at h
theorem eqvAll_self : ∀ xs : List PyData, PyData.canLayAll0 xs = true → PyData.eqvAll xs xs = true
  | [], _ => by simp [PyData.eqvAll]
  | x :: xs, h => by
    have h' : x.canLay0 = true ∧ PyData.canLayAll0 xs = true := by simpa [PyData.canLayAll0] using h
    simp [PyData.eqvAll, eqv_self x h'.1, eqvAll_self xs h'.2]
end
theorem eqv_shaped {d : PyData} (h : SeqAt.shaped d = true) : PyData.eqv d d = true := eqv_self d (SeqAt.canLay_of_shaped h)
end Mine


set_option Elab.async false
set_option linter.all false
set_option maxRecDepth 100000
set_option maxHeartbeats 4000000
namespace L2
open PySem PySem.Spec PyProof.Rows
/-! ### what is never come to -/
/-! ### sum of a list of ints -/
theorem call_sumL {X : Cx} (hc : X.calm = true) : CallR X (.builtin "sum") (fun xs H Q => ∃ (l : Addr) (ns : List Int), xs = [.ref l] ∧ SqL X.K H l (ns.map V.int) ∧ Q (.int ns.sum) H) := by
  intro pins s σ H xs us Q I r h
  obtain ⟨l, ns, rfl, hq, q⟩ := h
  obtain ⟨u, rfl, rx⟩ := vals1 r
  cases rx
  obtain ⟨its, rv, pl, _⟩ := I.list hq
  have hi : IntsAre its ns := intsAre_of rv
  have hl := pl.isList
  obtain ⟨ys, e⟩ := hi.allInts.items
  have en : ns = ys.toList.map (·.1) := by rw [← hi.numsOf, ← nums_intItems, ← e]
  rw [e] at hl
  refine sum_intListG (I.ok.hd hc) hl fun h' tk t' hk => ?_
  have es : preSum (numAt ys) ys.size = ns.sum := by rw [preSum_eq, ← en, List.take_of_length_le (by rw [en]; simp)]
  rw [es]
  exact ⟨.int ns.sum, H, I.kept hk, ⟨t', rfl⟩, q⟩
/-! ### TABLE.get(x) of a dict at a file's top -/
structure TopDict (K : PySem.W.Frag) (mg : Str → Option Value) (x : Str) (D : List (Str × Int)) : Prop where
  ex : ∃ a o es ep, mg x = some (.ref a) ∧ (a == sysModules) = false ∧ K.lookup a = some o ∧ o.ExactDict ∧ o.data = .dict es ep ∧ KTD.Rows (fun (n : Int) v => ∃ t, v = Value.int n t) es.toList D
theorem topdict_mk {K : PySem.W.Frag} {h : Heap} {mg : Str → Option Value} {x : Str} {a : Addr} {es : Array DictEntry} {ep : Nat} {D : List (Str × Int)} (X : K.In h) (G : h.Ns mainGlobals mg)
    (e : PySem.W.nsIn K mainGlobals x = some (some (.ref a))) (l : K.lookup a = some ⟨.type "dict", none, .dict es ep, #[]⟩) (hs : (a == sysModules) = false) (r : KTD.Rows (fun (n : Int) v => ∃ t, v = Value.int n t) es.toList D) : TopDict K mg x D :=
  ⟨a, _, es, ep, PySem.W.mg_of X G e, hs, l, ⟨rfl, rfl, rfl⟩, rfl, r⟩
noncomputable def tTGet (D : List (Str × Int)) (ty : TE) : TE := fun σ H Q => ty σ H fun y H1 => ∃ k, y = .str k ∧ Q (match KTD.datumAt k D with | some n => .int n | none => .non) H1
theorem pe_tget {X : Cx} {x : Str} {D : List (Str × Int)} {e : Expr} {p apos cpos : Pos} {ty : TE} (T : TopDict X.K X.mg x D) (hg : Gl X x) (he : PE X e ty) (m : M1 X (.Name x p) "get" apos e cpos) (hdb : (x == ("__debug__" : Str)) = false := by decide) :
    PE X (.Call (.Attribute (.Name x p) "get" apos) [e] [] cpos) (tTGet D ty) := by
  intro pins s σ H Q I h
  obtain ⟨a, o, es, ep, hm, hs, lk, xd, dt, rw'⟩ := T.ex
  have tab : ∀ {s1 : Shared} {H1 : Hp}, Inv X pins σ H1 s1 → KTD.TextTab s1.heap a (D.map fun q => (q.1, KTD.Dat.flat (.int q.2))) := fun {s1 H1} I1 =>
    ⟨hs, o, es, ep, I1.kIn _ _ lk, xd, dt, KTD.Rows.mono (R' := KTD.Dat.At s1.heap) (f := fun n => KTD.Dat.flat (.int n)) (fun n v z => by obtain ⟨t, rfl⟩ := z; exact PyProof.V.Flat.int n t) rw'⟩
  refine wpAny_Call_method m.base m.few m.line PySem.F.plainAttrs_dict PySem.F.slot_dict_get PySem.F.type_dict_get (ld_glob I hg hm ?_ hdb)
  have T1 : KTD.Here s.heap s.heap a _ := ⟨tab I, fun _ _ z => z⟩
  refine ⟨T1.typeIs, T1.noDict, ?_⟩
  rw [m.trees]
  refine Calls.callWith_builtin rfl (Calls.evalArgs_plain (Calls.spliced_cons (thn (he pins s σ H _ I h) fun iv s2 zz => ?_)))
  obtain ⟨y, H2, I2, ry, k, ek, q2⟩ := zz
  refine Calls.spliced_nil ?_
  subst ek
  obtain ⟨t, rfl⟩ := ry
  have T2 : KTD.Here s2.heap s2.heap a _ := ⟨tab I2, fun _ _ z => z⟩
  have dm : ∀ D' : List (Str × Int), KTD.datumAt k (D'.map fun q => (q.1, KTD.Dat.flat (.int q.2))) = (KTD.datumAt k D').map fun n => KTD.Dat.flat (.int n) := by
    intro D'
    induction D' with
    | nil => rfl
    | cons c D' ih =>
      show (if decide (k = c.1) = true then _ else KTD.datumAt k (D'.map _)) = Option.map _ (if decide (k = c.1) = true then _ else KTD.datumAt k D')
      split
      · rfl
      · exact ih
  refine call_meetsIn PySem.F.slot_dict_get T2.typeIs PySem.F.entry_dict_get (PySem.F.args_dict_get_2 _ _) KTD.meets_get1 ⟨T2, fun d v e1 e2 => ?_, fun e1 => ?_⟩
  · rw [dm] at e1
    cases hn : KTD.datumAt k D with
    | none => rw [hn] at e1; cases e1
    | some n =>
      rw [hn] at e1 q2
      cases e1
      obtain ⟨t', rfl⟩ := PyProof.V.Flat.int_inv e2
      exact ⟨.int n, H2, I2.tok _, ⟨t', rfl⟩, q2⟩
  · rw [dm] at e1
    cases hn : KTD.datumAt k D with
    | none =>
      rw [hn] at q2
      exact ⟨.non, H2, I2.tok _, rfl, q2⟩
    | some n => rw [hn] at e1; cases e1
end L2


set_option Elab.async false
set_option linter.all false
set_option maxRecDepth 100000
set_option maxHeartbeats 4000000
namespace L2
open PySem PySem.Spec PyProof.Rows
/-! ### a list comprehension whose own name is a cell (a comprehension within it reads it) -/
noncomputable def cxCompC (X : Cx) (scope : Scope) (cl : List (Str × Addr)) (x : Str) (N : List Str) (s : Shared) (H : Hp) (fp : List Addr) : Cx :=
  { cxComp X scope ((x, s.heap.objs.size + 1) :: cl) N s H fp with fn := fun y => y == x }
theorem ns_empty {h : Heap} {a : Addr} (e : h.get? a = some { cls := .type "dict", data := .dict #[] }) : h.Ns a (fun _ => none) := ⟨_, #[], 0, e, rfl, fun _ he => by simp at he, fun _ => rfl⟩
theorem new_env1 {M : Model} {A : Around} {E : Value → Shared → Prop} {s : Shared} {scope : Scope} {x q : Str} {g : Addr} {cl : List (Str × Addr)} {env : Env} {Q : Env → Shared → Prop} (hone : scope.names.filter (fun y => y.2 == NameKind.cell) = [(x, .cell)])
    (h : Q { scope, locals := s.heap.objs.size, globals := g, cells := (x, s.heap.objs.size + 1) :: cl, qual := q, func := none, code := env.code, frame := env.frame, builtins := env.builtins } { s with heap := (s.heap.push { cls := .type "dict", data := .dict #[] }).push { cls := .type "cell", data := .cell none } }) :
    wpAny M A (newFunctionEnv scope g cl [] q none .none (some env)) Q E s := by
  unfold newFunctionEnv
  refine wpAny_bind (wpAny_alloc ?_)
  refine wpAny_bind ?_
  refine wpAny_forIn_list _ (fun left cells s' => (left.filter (fun y => y.2 == NameKind.cell) = [(x, .cell)] ∧ cells = cl ∧ s' = { s with heap := s.heap.push { cls := .type "dict", data := .dict #[] } }) ∨
    (left.filter (fun y => y.2 == NameKind.cell) = [] ∧ cells = (x, s.heap.objs.size + 1) :: cl ∧ s' = { s with heap := (s.heap.push { cls := .type "dict", data := .dict #[] }).push { cls := .type "cell", data := .cell none } })) _ ?_ ?_ _ _ (.inl ⟨hone, rfl, rfl⟩)
  · rintro ⟨n, k⟩ left cells s' hI
    dsimp only
    by_cases hk : (k == NameKind.cell) = true
    · rw [if_pos hk]
      rcases hI with ⟨h1, h2, h3⟩ | ⟨h1, h2, h3⟩
      · subst h2 h3
        rw [List.filter_cons, show ((n, k).2 == NameKind.cell) = true from hk, if_pos rfl] at h1
        obtain ⟨e1, e2⟩ := List.cons.inj h1
        cases e1
        refine wpAny_bind (wpAny_alloc ?_)
        refine wpAny_pure (.inr ⟨e2, ?_, rfl⟩)
        show (x, (s.heap.push _).objs.size) :: _ = _
        rw [Heap.size_push]
      · rw [List.filter_cons, show ((n, k).2 == NameKind.cell) = true from hk, if_pos rfl] at h1
        cases h1
    · rw [if_neg hk]
      refine wpAny_pure ?_
      rcases hI with ⟨h1, h2, h3⟩ | ⟨h1, h2, h3⟩
      · rw [List.filter_cons, show ((n, k).2 == NameKind.cell) = false from Bool.not_eq_true _ ▸ hk, if_neg Bool.false_ne_true] at h1
        exact .inl ⟨h1, h2, h3⟩
      · rw [List.filter_cons, show ((n, k).2 == NameKind.cell) = false from Bool.not_eq_true _ ▸ hk, if_neg Bool.false_ne_true] at h1
        exact .inr ⟨h1, h2, h3⟩
  · rintro cells s' hI
    rcases hI with ⟨h1, _⟩ | ⟨_, h2, h3⟩
    · cases h1
    · subst h2 h3
      dsimp only
      rw [List.forIn_nil]
      exact wpAny_bind (wpAny_pure (wpAny_pure h))
theorem one_cell {names : List (Str × NameKind)} {x y : Str} (hone : names.filter (fun y => y.2 == NameKind.cell) = [(x, .cell)]) (h : (y, NameKind.cell) ∈ names) : y = x := by
  have z : (y, NameKind.cell) ∈ names.filter (fun y => y.2 == NameKind.cell) := List.mem_filter.mpr ⟨h, rfl⟩
  rw [hone] at z
  exact (Prod.mk.inj (List.mem_singleton.mp z)).1
theorem lk_cons {cl : List (Str × Addr)} {x y : Str} {c n : Addr} (q : ((x, n) :: cl).lookup y = some c) : (y = x ∧ c = n) ∨ cl.lookup y = some c := by
  rw [List.lookup_cons] at q
  cases z : y == x with
  | true => rw [z] at q; exact .inl ⟨beq_iff_eq.mp z, (Option.some.inj q).symm⟩
  | false => rw [z] at q; exact .inr q
theorem cell_ne {X : Cx} {cl : List (Str × Addr)} {x y : Str} {c b n : Addr} (hb : b < n) (h : ∀ y c, X.env.cells.lookup y = some c → c ≠ b) (hcl1 : ∀ y c, cl.lookup y = some c → X.env.cells.lookup y = some c) (q : ((x, n + 1) :: cl).lookup y = some c) : c ≠ b := by
  rcases lk_cons q with ⟨_, e⟩ | q
  · subst e; exact Nat.ne_of_gt (Nat.lt_succ_of_lt hb)
  · exact h y c (hcl1 y c q)
section
variable {X : Cx} {pins : List (Addr × Obj)} {σ : St} {H : Hp} {s : Shared} {scope : Scope} {cl : List (Str × Addr)} {x : Str} {js : List Nat} {fp : List Addr}
theorem comp_okC (I : Inv X pins σ H s) (hk : scope.kind = .function) (hone : scope.names.filter (fun y => y.2 == NameKind.cell) = [(x, .cell)])
    (hcl1 : ∀ y c, cl.lookup y = some c → X.env.cells.lookup y = some c) (hcl2 : ∀ y, (y, NameKind.free) ∈ scope.names → ∃ c, cl.lookup y = some c)
    (hf : ∀ b ∈ fp, FpOk X pins H b) (hlt : ∀ b ∈ fp, b < s.heap.objs.size) : (cxCompC X scope cl x (cNames X x js) s H fp).Ok where
  mod := I.ok.mod
  kind := hk
  glob := I.ok.glob
  blt := I.ok.blt
  above := Nat.le_refl _
  inj := fun y z c h1 h2 => by
    have h1' : ((x, s.heap.objs.size + 1) :: cl).lookup y = some c := h1
    have h2' : ((x, s.heap.objs.size + 1) :: cl).lookup z = some c := h2
    have old : ∀ {y c}, cl.lookup y = some c → c < s.heap.objs.size := fun {y c} q => let ⟨_, o, ho, _⟩ := I.cell y c (hcl1 y c q); Heap.lt_size ho
    rcases lk_cons h1' with ⟨a1, a2⟩ | a <;> rcases lk_cons h2' with ⟨b1, b2⟩ | b
    · rw [a1, b1]
    · subst a2; exact absurd (old b) (Nat.not_lt.mpr (Nat.le_succ _))
    · subst b2; exact absurd (old a) (Nat.not_lt.mpr (Nat.le_succ _))
    · exact I.ok.inj y z c (hcl1 y c a) (hcl1 z c b)
  has := fun y hy => by
    have more : ∀ y, (∃ c, cl.lookup y = some c) → ∃ c, ((x, s.heap.objs.size + 1) :: cl).lookup y = some c := fun y ⟨c, e⟩ => by
      rw [List.lookup_cons]
      split
      · exact ⟨_, rfl⟩
      · exact ⟨c, e⟩
    have hy' : (relabel scope X.env).names.lookup y = some .cell ∨ (relabel scope X.env).names.lookup y = some .free := hy
    rcases hy' with h | h
    · obtain ⟨k', m, q⟩ := lookup_relabel h
      rcases q with q | ⟨_, q⟩
      · subst q
        have e := one_cell hone m
        subst e
        exact ⟨_, (by show ((y, s.heap.objs.size + 1) :: cl).lookup y = _; rw [List.lookup_cons, beq_self_eq_true])⟩
      · subst q; exact more y (hcl2 y m)
    · obtain ⟨k', m, q⟩ := lookup_relabel h
      rcases q with q | ⟨q, _⟩
      · subst q; exact more y (hcl2 y m)
      · cases q
  cab := fun y c h q => by
    have q' : ((x, s.heap.objs.size + 1) :: cl).lookup y = some c := q
    have h' : (y == x) = true := h
    rw [List.lookup_cons, h'] at q'
    cases q'
    exact Nat.le_succ _
  hd := I.ok.hd
  frames := I.ok.frames
  stk := .inl rfl
  exf := fun b hb => ⟨Nat.ne_of_lt (hlt b hb), fun y c h => cell_ne (hlt b hb) (hf b hb).2.2.2.2.1 hcl1 h⟩
  bs := I.bs
  bsz := Nat.le_trans I.ok.bsz I.sz
  noex := fun b o e hb => by
    rcases (hf b hb).2.2.2.1 with z | z
    · exact I.ok.noex b o e z
    · exact absurd (Nat.lt_of_lt_of_le (Heap.lt_size e) (Nat.le_trans I.ok.bsz z)) (Nat.lt_irrefl _)
  exfs := fun b hb hz => (List.mem_cons.mp (I.stkSub b hz)).elim (hf b hb).2.1 (hf b hb).2.2.1
  funs := I.stack
  frf := I.stkFree

theorem comp_startC {h₁ : Heap} {tk : Nat} (I : Inv X pins σ H s) (hk : scope.kind = .function) (hone : scope.names.filter (fun y => y.2 == NameKind.cell) = [(x, .cell)])
    (hcl1 : ∀ y c, cl.lookup y = some c → X.env.cells.lookup y = some c) (hcl2 : ∀ y, (y, NameKind.free) ∈ scope.names → ∃ c, cl.lookup y = some c) (hjs : FreeAt X scope js) (hnd : (cNames X x js).Nodup)
    (hf : ∀ b ∈ fp, FpOk X pins H b) (hlt : ∀ b ∈ fp, b < s.heap.objs.size) {m : Str → Option Value} (hn : h₁.Ns s.heap.objs.size m) (hx0 : h₁.IsCell (s.heap.objs.size + 1) none) (hkeep : ∀ b o, s.heap.get? b = some o → h₁.get? b = some o) :
    Inv (cxCompC X scope cl x (cNames X x js) s H fp) [] (none :: cVals js σ) H { s with heap := h₁, toks := tk } where
  ok := comp_okC I hk hone hcl1 hcl2 hf hlt
  os := rfl
  bare := I.bare
  base := Un.kept hkeep
  loc := by
    refine ⟨m, hn, fun i y v h1 h2 h3 => ?_⟩
    cases i with
    | zero =>
      have z : (some none : Option (Option V)) = some (some v) := h2
      cases z
    | succ k =>
      have h1' : (js.map fun j => X.N.getD j "")[k]? = some y := h1
      have h2' : (js.map fun j => (σ[j]?).getD none)[k]? = some (some v) := h2
      rw [List.getElem?_map] at h1' h2'
      cases hj : js[k]? with
      | none => rw [hj] at h1'; cases h1'
      | some j =>
        rw [hj] at h1' h2'
        have e1 : X.N.getD j "" = y := Option.some.inj h1'
        have e2 : (σ[j]?).getD none = some v := Option.some.inj h2'
        obtain ⟨y', n1, n2, n3, n4⟩ := hjs.all j (List.mem_of_getElem? hj)
        have e3 : y' = y := by rw [← e1, List.getD_eq_getElem?_getD, n1]; rfl
        subst e3
        have e4 : σ[j]? = some (some v) := by
          cases q : σ[j]? with
          | none => rw [q] at e2; cases e2
          | some a => rw [q] at e2; exact congrArg some e2
        obtain ⟨m0, _, hl⟩ := I.loc
        obtain ⟨u, r, l⟩ := hl j y' v n1 e4 (n2.elim (fun z => Or.inr (Or.inl z)) fun z => Or.inr (Or.inr z))
        refine ⟨u, r, .inr ⟨n4, ?_⟩⟩
        rcases l with ⟨l, _⟩ | ⟨_, c, hc, hi⟩
        · exfalso
          rcases n2 with z | z <;> (rw [z] at l; cases l)
        · obtain ⟨c', hc'⟩ := hcl2 y' n3
          have e5 := hcl1 y' c' hc'
          rw [hc] at e5
          have e6 := Option.some.inj e5
          subst e6
          obtain ⟨o, ho, hd⟩ := hi
          have ny : (y' == x) = false := by
            rw [beq_eq_false_iff_ne]
            intro z
            subst z
            exact (List.nodup_cons.mp hnd).1 (List.mem_of_getElem? h1)
          exact ⟨c, (by show ((x, s.heap.objs.size + 1) :: cl).lookup y' = _; rw [List.lookup_cons, ny]; exact hc'), o, hkeep c o ho, hd⟩
  cell := fun y c h => by
    have h' : ((x, s.heap.objs.size + 1) :: cl).lookup y = some c := h
    rcases lk_cons h' with ⟨_, e⟩ | h'
    · subst e
      exact ⟨none, hx0⟩
    · obtain ⟨v, o, ho, hd⟩ := I.cell y c (hcl1 y c h')
      exact ⟨v, o, hkeep c o ho, hd⟩
  free := I.hok.fresh (Nat.le_refl _)
  freeC := fun y c h => by
    have h' : ((x, s.heap.objs.size + 1) :: cl).lookup y = some c := h
    rcases lk_cons h' with ⟨_, e⟩ | h'
    · subst e
      exact I.hok.fresh (Nat.le_succ _)
    · exact I.freeC y c (hcl1 y c h')
  pin := fun p hp => absurd (show p ∈ ([] : List (Addr × Obj)) from hp) (by simp)
  hok := I.hok.kept hkeep
  len := by
    show (none :: cVals js σ).length = (cNames X x js).length
    simp [cVals, cNames]
end
section
variable {X : Cx} {elt iter : Expr} {x : Str} {px pos : Pos} {ifs : List Expr} {scope : Scope} {cl : List (Str × Addr)} {wi : TI} {tc : TT} {te : TE} {js : List Nat}
theorem comp_coreC {use : Option (Value → Sem Unit)} {Qv : Value → Shared → Prop} {pins : List (Addr × Obj)} {s : Shared} {σ : St} {H : Hp} {Q : VK}
    (hc : X.calm = true) (hi : PI X (.Name x px) iter wi) (hk : scope.kind = .function) (hone : scope.names.filter (fun y => y.2 == NameKind.cell) = [(x, .cell)]) (hx : (relabel scope X.env).names.lookup x = some .cell)
    (hcl1 : ∀ y c, cl.lookup y = some c → X.env.cells.lookup y = some c) (hcl2 : ∀ y, (y, NameKind.free) ∈ scope.names → ∃ c, cl.lookup y = some c) (hjs : FreeAt X scope js) (hnd : (cNames X x js).Nodup)
    (ht : ∀ s' H' fp, PIf (cxCompC X scope cl x (cNames X x js) s' H' fp) ifs tc) (he : ∀ s' H' fp, PE (cxCompC X scope cl x (cNames X x js) s' H' fp) elt te)
    (I : Inv X pins σ H s) (h : tComp wi tc te js σ H Q)
    (fin : ∀ (D C : Addr) (H' : Hp) (s' : Shared), Inv X pins σ H' s' → FpOk X pins H' C → (∃ m, s'.heap.Ns C m) → Q (.ref D) H' → compPost (model X.prog X.w) X.A X.xe use Qv (.ref D) C (.ok .next) s') :
    wpAny (model X.prog X.w) X.A (eval iter X.env) (fun xv s₁ => wpAny (model X.prog X.w) X.A (pyIter xv) (fun it s₂ => wpAny (model X.prog X.w) X.A (newList []) (fun acc s₃ =>
      wpAny (model X.prog X.w) X.A (newFunctionEnv scope X.env.globals cl [] X.env.qual none .none (some X.env)) (fun cenv s₄ =>
        codeAny (model X.prog X.w) X.A (.compStart (.ListComp elt [⟨.Name x px, iter, ifs, 0⟩] scope pos) 0 it acc { cenv with scope := relabel scope X.env })
          (compPost (model X.prog X.w) X.A X.xe use Qv acc cenv.locals) s₄) X.xe s₃) X.xe s₂) X.xe s₁) X.xe s := by
  refine thn (hi pins s σ H _ I h) fun v s1 h1 => thn h1 fun itv s2 h2 => ?_
  obtain ⟨it, fp, tn, J, H2, e, I2, T, st2, f2, hW⟩ := h2
  subst e
  obtain ⟨W, ⟨m0, w0⟩, turn⟩ := hW s2.heap.objs.size (I2.hok.fresh (Nat.le_refl _))
  have hlt2 : ∀ b ∈ fp, b < s2.heap.objs.size := fun b hb => let ⟨_, e, _⟩ := T.obj _ _ st2 b hb; Heap.lt_size e
  have I3 : Inv X pins σ (upd H2 s2.heap.objs.size (.lst [])) { s2 with heap := s2.heap.push { cls := .type "list", data := .seq ([] : List Value).toArray } } :=
    I2.lnew (t' := s2.toks) (its := []) .nil (Nat.zero_le _)
  refine wpAny_newObj_type ?_
  have k23 : ∀ b o, s2.heap.get? b = some o → (s2.heap.push { cls := .type "list", data := .seq ([] : List Value).toArray }).get? b = some o := fun b o e => Heap.get?_push_of_some _ e
  have sz3 : (s2.heap.push { cls := .type "list", data := .seq ([] : List Value).toArray }).objs.size = s2.heap.objs.size + 1 := Heap.size_push ..
  generalize hs3 : ({ s2 with heap := s2.heap.push { cls := .type "list", data := .seq ([] : List Value).toArray } } : Shared) = s3 at I3
  have hs3' : s3.heap = s2.heap.push { cls := .type "list", data := .seq ([] : List Value).toArray } := by rw [← hs3]
  have hlt3 : ∀ b ∈ fp, b < s3.heap.objs.size := fun b hb => by rw [hs3', sz3]; exact Nat.lt_succ_of_lt (hlt2 b hb)
  have f3 : ∀ b ∈ fp, FpOk X pins (upd H2 s2.heap.objs.size (.lst [])) b := fun b hb => ⟨by rw [upd_ne (Nat.ne_of_lt (hlt2 b hb))]; exact (f2 b hb).1, (f2 b hb).2⟩
  refine new_env1 hone ?_
  generalize eh : (s3.heap.push { cls := .type "dict", data := .dict #[] }).push { cls := .type "cell", data := .cell none } = h₁
  have k34 : ∀ b o, s3.heap.get? b = some o → h₁.get? b = some o := fun b o e => by rw [← eh]; exact Heap.get?_push_of_some _ (Heap.get?_push_of_some _ e)
  have gF : h₁.get? s3.heap.objs.size = some { cls := .type "dict", data := .dict #[] } := by rw [← eh]; exact Heap.get?_push_of_some _ (Heap.get?_push_size _ rfl)
  have gC : h₁.get? (s3.heap.objs.size + 1) = some { cls := .type "cell", data := .cell none } := by
    rw [← eh]
    have z := Heap.get?_push_size (s3.heap.push { cls := .type "dict", data := .dict #[] }) (o := { cls := .type "cell", data := .cell none }) rfl
    rw [Heap.size_push] at z
    exact z
  have hns : h₁.Ns s3.heap.objs.size (fun _ => none) := ns_empty gF
  have I4 := comp_startC (x := x) (js := js) (tk := s3.toks) I3 hk hone hcl1 hcl2 hjs hnd f3 hlt3 hns ⟨_, gC, rfl⟩ k34
  have st4 : tn 0 h₁ := T.keep 0 _ _ st2 fun b hb o e => k34 b o (by rw [hs3']; exact k23 b o e)
  -- the iterator's records stay what they are
  have stat : ∀ {H' : Hp}, (∀ b ∈ fp, H' b = none) → ∀ b ∈ fp, FpOk (cxCompC X scope cl x (cNames X x js) s3 (upd H2 s2.heap.objs.size (.lst [])) fp) [] H' b := fun hn b hb =>
    ⟨hn b hb, Nat.ne_of_lt (hlt3 b hb), fun hz => (List.mem_cons.mp (I3.stkSub b hz)).elim (f2 b hb).2.1 (f2 b hb).2.2.1, .inl hb, fun y c q => cell_ne (hlt3 b hb) (f2 b hb).2.2.2.2.1 hcl1 q, fun p hp => absurd (show p ∈ ([] : List (Addr × Obj)) from hp) (by simp)⟩
  have back : ∀ {σ' : St} {H' : Hp} {s' : Shared}, Inv (cxCompC X scope cl x (cNames X x js) s3 (upd H2 s2.heap.objs.size (.lst [])) fp) [] σ' H' s' → Inv X pins σ H' s' := fun {σ' H' s'} J' =>
    I3.call' (ch := fp) J'.os J'.base J'.hok J'.bare fun b hb => ⟨(f2 b hb).2.2.2.1, (f2 b hb).2.1, (f2 b hb).2.2.2.2.1, (f2 b hb).2.2.2.2.2⟩
  have loop : codeAny (model X.prog X.w) X.A (.compLoop (.ListComp elt [⟨.Name x px, iter, ifs, 0⟩] scope pos) 0 (.ref it) (.ref s2.heap.objs.size) (compEnvC scope ((x, s3.heap.objs.size + 1) :: cl) s3.heap.objs.size X.env))
      (compPost (model X.prog X.w) X.A X.xe use Qv (.ref s2.heap.objs.size) s3.heap.objs.size) { s3 with heap := h₁ } := by
    refine codeAny_compLoop_tests (fun n s' => ∃ i o H', Inv (cxCompC X scope cl x (cNames X x js) s3 (upd H2 s2.heap.objs.size (.lst [])) fp) [] (o :: cVals js σ) H' s' ∧ tn i s'.heap ∧ (∀ b ∈ fp, H' b = none) ∧ W i n H') ?_ m0
      ⟨0, none, _, I4, st4, fun b hb => (f3 b hb).1, w0⟩
    rintro n s5 ⟨i, o, H5, I5, st5, fr5, w5⟩
    rcases turn i n H5 w5 with ⟨stop, q⟩ | ⟨go, step⟩
    · refine thn (T.done (cxCompC X scope cl x (cNames X x js) s3 (upd H2 s2.heap.objs.size (.lst [])) fp) rfl rfl rfl hc i [] s5 _ H5 _ I5 (stat fr5) st5 stop) fun r s6 zz => ?_
      obtain ⟨hr, I6⟩ := zz
      subst hr
      exact fin _ _ H5 s6 (back I6) (I3.fpOk (Nat.le_refl _) I6.free) (let ⟨m, hm, _⟩ := I6.loc; ⟨m, hm⟩) q
    · refine thn (T.item (cxCompC X scope cl x (cNames X x js) s3 (upd H2 s2.heap.objs.size (.lst [])) fp) rfl rfl rfl hc i [] s5 _ H5 _ I5 (stat fr5) st5 go) fun r s6 zz => ?_
      obtain ⟨u, hr, h6⟩ := zz
      subst hr
      show wpAny _ _ (assign (.Name x px) _ u) _ _ s6
      intro Γ p hΓ
      have h6' := h6 Γ p hΓ
      obtain ⟨v, H6, I6, r6, y6, st6, fr6⟩ := h6'
      refine (?_ : wpAny _ _ _ _ _ s6) Γ p hΓ
      have I6' := I6.pinned (stat fr6) (T.obj _ _ st6)
      have hg : PG (cxCompC X scope cl x (cNames X x js) s3 (upd H2 s2.heap.objs.size (.lst [])) fp) (.Name x px) (gName 0) := pg_name (i := 0) hnd rfl (Or.inr hx) (.inl (beq_self_eq_true x))
      refine wpAny_mono (hg _ s6 _ H6 v u (fun σ' H' => σ' = some v :: cVals js σ ∧ H' = H6) I6' r6 ⟨rfl, rfl⟩) (fun _ s7 q7 => ?_) (fun _ _ f => False.elim f)
      obtain ⟨σ7, H7, I7, e7, e8⟩ := q7
      subst e7 e8
      refine wpAny_mono (ht s3 _ fp _ s7 _ H7 _ I7 (step v H7 y6)) (fun ok s8 q8 => ?_) (fun _ _ f => False.elim f)
      obtain ⟨H8, I8, q8⟩ := q8
      have again : ∀ {s9 : Shared} {σ9 : St} {H9 : Hp} {m' : Nat}, Inv (cxCompC X scope cl x (cNames X x js) s3 (upd H2 s2.heap.objs.size (.lst [])) fp) ([] ++ pinsAt fp s6.heap) (some v :: cVals js σ) H9 s9 → m' < n → W (i + 1) m' H9 →
          ∃ m, m < n ∧ ∃ i o H', Inv (cxCompC X scope cl x (cNames X x js) s3 (upd H2 s2.heap.objs.size (.lst [])) fp) [] (o :: cVals js σ) H' s9 ∧ tn i s9.heap ∧ (∀ b ∈ fp, H' b = none) ∧ W i m H' := fun {s9 σ9 H9 m'} I9 hm w9 => by
        refine ⟨m', hm, i + 1, some v, H9, I9.unpinned, T.keep _ _ _ st6 fun b hb o e => (I9.pin (b, o) (List.mem_append_right _ (List.mem_append_right _ (mem_pinsAt hb e)))).1, fun b hb => ?_, w9⟩
        obtain ⟨o, e, d⟩ := T.obj _ _ st6 b hb
        exact (I9.pin (b, o) (List.mem_append_right _ (List.mem_append_right _ (mem_pinsAt hb e)))).2.1
      cases ok with
      | false =>
        rw [if_neg Bool.false_ne_true] at q8 ⊢
        obtain ⟨m', hm, w9⟩ := q8
        exact again (σ9 := []) I8 hm w9
      | true =>
        rw [if_pos rfl] at q8 ⊢
        refine wpAny_mono (he s3 _ fp _ s8 _ H8 _ I8 q8) (fun y s9 q9 => ?_) (fun _ _ f => False.elim f)
        obtain ⟨yv, H9, I9, r9, ys, hD, hl, m', hm, w9⟩ := q9
        refine wpAny_mono (mt_append (X := cxCompC X scope cl x (cNames X x js) s3 (upd H2 s2.heap.objs.size (.lst [])) fp) _ s9 _ H9 (.ref s2.heap.objs.size) [yv] (.ref s2.heap.objs.size) [y] (fun _ H' => H' = upd H9 s2.heap.objs.size (.lst (ys ++ [yv]))) I9 rfl (.cons r9 .nil) ⟨_, ys, yv, rfl, rfl, hD, hl, rfl⟩) (fun _ s10 q10 => ?_) (fun _ _ f => False.elim f)
        obtain ⟨_, H10, I10, _, e10⟩ := q10
        subst e10
        exact again (σ9 := []) I10 hm w9
  exact codeAny_compStart_list loop (T.self _ 0 _ _ _ st4 loop)

theorem pe_compC (hc : X.calm = true) (hi : PI X (.Name x px) iter wi) (hk : scope.kind = .function) (hone : scope.names.filter (fun y => y.2 == NameKind.cell) = [(x, .cell)]) (hnames : ∀ y ∈ scope.names, y.2 = .local → scope.names.lookup y.1 = some .local) (hx : (relabel scope X.env).names.lookup x = some .cell)
    (hf : ∀ p ∈ scope.names, p.2 = .free → X.env.kindOf p.1 = some .cell ∨ X.env.kindOf p.1 = some .free) (hjs : FreeAt X scope js) (hnd : (cNames X x js).Nodup)
    (ht : ∀ cl s' H' fp, PIf (cxCompC X scope cl x (cNames X x js) s' H' fp) ifs tc) (he : ∀ cl s' H' fp, PE (cxCompC X scope cl x (cNames X x js) s' H' fp) elt te)
    (hs : ∀ x, foldedSetIterable iter X.env x = pure x := by intro _; rfl) : PE X (.ListComp elt [⟨.Name x px, iter, ifs, 0⟩] scope pos) (tComp wi tc te js) := by
  intro pins s σ H Q I h
  obtain ⟨cl, e, p1, p2⟩ := clo_of (free_of (js := js) I fun y hy => hf (y, .free) hy rfl)
  rw [eval_ListComp]
  refine wpAny_comprehension_free (use := none) rfl hs e hk hnames (comp_coreC hc hi hk hone hx p1 p2 hjs hnd (ht cl) (he cl) I h fun D C H' s' I' fC hC q => ?_)
  obtain ⟨m, hm⟩ := hC
  refine ⟨m, hm, fun h' sb => ?_⟩
  obtain ⟨f0, f1, f2, f3, f4, f5⟩ := fC
  exact ⟨.ref D, H', I'.turned (t' := s'.toks) (fun b o hb e => (sb.2 b hb).trans e) f0 f1 f3 f4 f5, rfl, q⟩
end
end L2


set_option Elab.async false
set_option linter.all false
set_option maxRecDepth 100000
set_option maxHeartbeats 4000000
namespace L2
open PySem
/-- an own class of exceptions, above which others of one's own may stand, with an __init__ of its own -/
noncomputable def XAt (h : Heap) (C : Addr) (bmB : List Value) (newId : String) (fI : Addr) : Prop :=
  ∃ nm qn N bs bm hd sn sub ab col dd k0 k1 k2 k3 k5 mN oI, h.get? C = some (excClassObj nm qn C N bs bm hd sn sub ab col dd k0 k1 k2 k3 k5 newId) ∧ h.Ns N mN ∧ mN "__init__" = some (.ref fI) ∧ OwnTail h bmB bm ∧ h.get? fI = some oI ∧ oI.cls = .type "function"
section
variable {prog : Program} {w : World} {A : Around} {E : Value → Shared → Prop} {h : Heap} {g : Array GenState} {d : Drawn} {t : Nat} {os : OsState}
variable {C fI : Addr} {bmB : List Value} {B newId initId : String}
/-- what the new exception and its tuple lie as -/
noncomputable abbrev withTup (h : Heap) (us : List Value) : Heap := h.push { cls := .type "tuple", data := .seq us.toArray }
noncomputable abbrev withExc (h : Heap) (C : Addr) (us : List Value) : Heap := (withTup h us).push { cls := .ref C, data := .fields #[.ref h.objs.size, .none, .none, .none, .bool false, .none] }
theorem withExc_keeps (us : List Value) {b : Addr} {o : Obj} (e : h.get? b = some o) : (withExc h C us).get? b = some o := Heap.get?_push_of_some _ (Heap.get?_push_of_some _ e)
theorem withExc_at (us : List Value) : (withExc h C us).get? (h.objs.size + 1) = some { cls := .ref C, data := .fields #[.ref h.objs.size, .none, .none, .none, .bool false, .none] } := by heap_get
theorem type_call_init (F : ExcBaseFacts B newId initId bmB) {us : List Value} {Q : Fin → Shared → Prop} (x : XAt h C bmB newId fI) (hz : us.length ≤ sizeLine)
    (hq : wpAny (model prog w) A (call (.ref fI) (.ref (h.objs.size + 1) :: us)) (fun r s' => r = .none ∧ Q (.done (.ret (.ref (h.objs.size + 1)))) s') E ⟨withExc h C us, g, d, t, os⟩) :
    wpAny (model prog w) A (Builtin.«type.__call__» ⟨.ref C :: us, []⟩) Q E ⟨h, g, d, t, os⟩ := by
  obtain ⟨nm, qn, N, bs, bm, hd, sn, sub, ab, col, dd, k0, k1, k2, k3, k5, mN, oI, hC, hn, hi, T, hfI, hfc⟩ := x
  have hself : (Value.ref C :: bm).contains (.ref C) = true := by simp
  have hC2 := withExc_keeps (C := C) us hC
  have hn2 : (withExc h C us).Ns N mN := hn.keeps fun b o e => withExc_keeps us e
  have T2 : OwnTail (withExc h C us) bmB bm := T.keeps fun b o e => withExc_keeps us e
  have he2 := withExc_at (h := h) (C := C) us
  repeat (first | with_reducible refine wpAny_loadPart_at hC ?_ | with_reducible refine wpAny_madeBy_exc hC ?_ | wp_step)
  refine codeAny_call_builtin_code (Code.quiet_builtin _ F.quiet) (wpAny_check_new_subT F T hC (codeAny_exc_new_subT F T hC ?_ hz))
  show wpAny _ _ _ _ _ _
  unfold isInstance
  repeat (first | with_reducible refine wpAny_loadPart_at he2 ?_ | (with_reducible refine wpAny_isSubtype_exc hC2 ?_; rw [hself]) | wp_step)
  show wpAny _ _ (typeLookup (.ref C) _) _ _ _
  refine wpAny_typeLookup_tail hC2 hn2 T2 F.mroIs F.init.lookup ?_
  rw [hi]
  refine wpAny_holding (wpAny_bind ?_)
  unfold bindSpecial
  refine wpAny_bind (wpAny_typeOf (T := "function") ⟨_, withExc_keeps us hfI, hfc⟩ ?_)
  rw [if_pos (by decide)]
  refine wpAny_pure (wpAny_bind (wpAny_mono hq (fun r s' z => ?_) fun _ _ z => z))
  obtain ⟨rfl, z⟩ := z
  wp_walk
  exact z
theorem call_init (F : ExcBaseFacts B newId initId bmB) {us : List Value} {Q : Value → Shared → Prop} (x : XAt h C bmB newId fI) (hz : us.length ≤ sizeLine)
    (hq : wpAny (model prog w) (A.under (.builtin "type.__call__" ⟨.ref C :: us, []⟩)) (call (.ref fI) (.ref (h.objs.size + 1) :: us)) (fun r s' => r = .none ∧ Q (.ref (h.objs.size + 1)) s') E ⟨withExc h C us, g, d, t, os⟩) :
    wpAny (model prog w) A (call (.ref C) us) Q E ⟨h, g, d, t, os⟩ := by
  obtain ⟨nm, qn, N, bs, bm, hd, sn, sub, ab, col, dd, k0, k1, k2, k3, k5, mN, oI, hC, r⟩ := id x
  have f1 := tc_lookup
  have f2 := tc_bind (.ref C)
  have hT : (⟨h, g, d, t, os⟩ : Shared).TypeIs (.ref C) "type" := ⟨_, hC, rfl⟩
  refine wpAny_call (codeAny_of_tree ?_)
  show wpAny _ _ (callAny (.ref C) _) _ _ _
  repeat (any_goals (first | assumption | with_reducible refine wpAny_loadPart_at hC ?_ | wp_step))
  exact ⟨rfl, codeAny_call_builtin_at (Code.quiet_builtin _ (by decide +kernel)) entry_typeCall (wpAny_check_type_call_sub hC (type_call_init F x hz hq))⟩
end
end L2


set_option Elab.async false
set_option linter.all false
set_option maxRecDepth 100000
set_option maxHeartbeats 4000000
namespace L2
open PySem
/-! ### an exception on its way, with its own dict: what is known of the object at e -/
noncomputable def XTr (g base : Heap) (e : Addr) (cl : Value) (dc : Option Addr) (fl : Value) : Prop :=
  ∃ oe vs T oT ts, g.get? e = some oe ∧ (oe.cls = cl ∧ oe.dict = dc) ∧ oe.data = .fields vs ∧ vs[1]? = some (.ref T) ∧ base.get? T = none ∧ T ≠ e ∧ g.get? T = some oT ∧ oT.data = .fields ts ∧ ts[3]? = some fl
noncomputable def XNote (base : Heap) (l : List Env) (e : Addr) (cl : Value) (dc : Option Addr) (fl : Value) (g g' : Heap) : Prop := base.StaysIn g' ∧ g'.FunFrames base l ∧ XTr g' base e cl dc fl ∧ g.UpToSlots g'
noncomputable def XFly (base : Heap) (l : List Env) (e : Addr) (cl : Value) (dc : Option Addr) (fl : Value) (g : Heap) : Prop := base.StaysIn g ∧ base.get? e = none ∧ g.FunFrames base l ∧ XTr g base e cl dc fl
theorem no_record {g : Heap} {e b : Addr} {oe o : Obj} {vs : Array Value} (he : g.get? e = some oe) (hd : oe.data = .fields vs) (hb : g.get? b = some o) (n : ∀ ws, o.data ≠ .fields ws) : b ≠ e := fun z => by
  subst z
  rw [he] at hb
  cases hb
  exact n vs hd
theorem dict_mapFields (f : Array Value → Array Value) (o : Obj) : (Obj.mapFields f o).dict = o.dict := by
  obtain ⟨c, d, dt, sl⟩ := o
  cases dt <;> rfl
section
variable {M : Model} {A : Around} {E : Value → Shared → Prop} {s : Shared} {base : Heap} {env : Env} {outer l : List Env} {L e : Addr} {cl fl : Value} {dc : Option Addr} {Q : Unit → Shared → Prop}
/-- a new entry of the traceback is put at the exception's head -/
theorem entered {oe : Obj} {vs : Array Value} {hd0 : Value} {more : Bool} (hfr : A.frames = some (env :: outer)) (hl : s.heap.FunFrames base (env :: outer)) (hf : env.frame = some L)
    (he : s.heap.get? e = some oe) (kb : base.StaysIn s.heap) (en : base.get? e = none) (hd : oe.data = .fields vs) (z1 : 1 < vs.size) (k : ∀ g', XNote base (env :: outer) e oe.cls oe.dict (rawInt L) s.heap g' → Q () { s with heap := g' }) :
    wpAny M A (do let a ← frameOf env; let pl ← entryPlaceOf L more; let b ← EntryCells.newEntry hd0 a .none (rawInt L) .none pl; setField (.ref e) 1 b) Q E s := by
  have nf : e ∉ (env :: outer).filterMap (·.frame) := fun hm => by
    obtain ⟨_, o, ho, n⟩ := hl.mem hm
    exact no_record he hd ho n rfl
  refine wpAny_bind (wpAny_frameOf_fun hfr hl hf fun g1 sm => wpAny_bind (wpAny_entryPlaceOf fun pl hpl => ?_))
  unfold EntryCells.newEntry newFields
  refine wpAny_bind (wpAny_newObj_type ?_ (hpl.sizeOk5 _ _ _ _ _))
  have a1 : g1.get? e = some oe := (sm.2.1 e nf).trans he
  have b1 : base.StaysIn g1 := fun b o z => (sm.2.1 b fun hm => by rw [(hl.mem hm).1] at z; cases z).trans (kb b o z)
  have a2 := Heap.get?_push_of_some (h := g1) { cls := .type "traceback", dict := none, data := .fields ([hd0, .ref L, .none, rawInt L, .none] ++ (if pl.isEmpty then List.replicate 6 Value.none else pl)).toArray } a1
  refine wpAny_setField a2 hd z1 (k _ ?_)
  have ne : g1.objs.size ≠ e := Nat.ne_of_gt (Heap.lt_size a1)
  have d3 := Obj.data_mapFields hd (·.setIfInBounds 1 (Value.ref g1.objs.size))
  have a3 := Heap.get?_update_self (Obj.mapFields (·.setIfInBounds 1 (Value.ref g1.objs.size))) a2 (Obj.isFreed_of_fields d3)
  have t3 := (Heap.get?_update_other (g1.push { cls := .type "traceback", dict := none, data := .fields ([hd0, .ref L, .none, rawInt L, .none] ++ (if pl.isEmpty then List.replicate 6 Value.none else pl)).toArray })
    (Obj.mapFields (·.setIfInBounds 1 (Value.ref g1.objs.size))) (Ne.symm ne)).trans (Heap.get?_push_size g1 rfl)
  have stay : ∀ b o, b ≠ e → g1.get? b = some o → ((g1.push { cls := .type "traceback", dict := none, data := .fields ([hd0, .ref L, .none, rawInt L, .none] ++ (if pl.isEmpty then List.replicate 6 Value.none else pl)).toArray }).update e
      (Obj.mapFields (·.setIfInBounds 1 (Value.ref g1.objs.size)))).get? b = some o := fun b o z hb => by
    rw [Heap.get?_update_other _ _ (Ne.symm z)]
    exact Heap.get?_push_of_some _ hb
  refine ⟨fun b o z => stay b o (fun q => by rw [q, en] at z; cases z) (b1 b o z), hl.of_keeps fun b o hb n => ?_, ?_, fun b o hb n => ?_⟩
  · obtain ⟨sl, z⟩ := sm.2.2 b o hb
    exact ⟨_, stay b _ (no_record he hd hb n) z, rfl⟩
  · exact ⟨_, _, g1.objs.size, _, _, a3, ⟨Obj.cls_mapFields _ _, dict_mapFields _ _⟩, d3, by simp [z1], b1.fresh, ne, t3, rfl, by first | (simp; done) | (rcases hpl with rfl | ⟨_, _, _, _, _, _, _, rfl⟩ <;> simp)⟩
  · obtain ⟨sl, z⟩ := sm.2.2 b o hb
    exact ⟨sl, stay b _ (no_record he hd hb n) z⟩
/-- no frame holds the exception -/
theorem unheld (kb : base.StaysIn s.heap) (hl : s.heap.FunFrames base l) (ht : XTr s.heap base e cl dc fl) (k : ∀ g', XNote base l e cl dc .none s.heap g' → Q () { s with heap := g' }) : wpAny M A (setFlight (.ref e) none) Q E s := by
  obtain ⟨oe, vs, T, oT, ts, he, hc, hd, h1, nT, ne, hT, dT, h3⟩ := ht
  have z3 : 3 < ts.size := (Array.getElem?_eq_some_iff.mp h3).1
  have other : ∀ b, b ≠ T → (s.heap.update T (Obj.mapFields (·.setIfInBounds 3 ((none : Option Addr).elim Value.none fun f => rawInt f)))).get? b = s.heap.get? b := fun b z => Heap.get?_update_other _ _ (Ne.symm z)
  unfold setFlight
  refine wpAny_bind (wpAny_field he hd h1 ?_)
  rw [if_pos (show (Value.ref T != Value.none) = true by simp)]
  refine wpAny_setField hT dT z3 (k _ ⟨fun b o z => (other b fun q => by rw [q, nT] at z; cases z).trans (kb b o z), hl.of_keeps fun b o hb n => ⟨o, (other b (no_record hT dT hb n)).trans hb, rfl⟩, ?_, fun b o hb n => ⟨o.slots, (other b (no_record hT dT hb n)).trans hb⟩⟩)
  exact ⟨oe, vs, T, _, _, (other e (Ne.symm ne)).trans he, hc, hd, h1, nT, ne, Heap.get?_update_self _ hT (Obj.isFreed_of_fields (Obj.data_mapFields dT _)), Obj.data_mapFields dT _, by simp [z3]⟩
/-- the frame's entry, the first one -/
theorem noted_first {oe : Obj} {vs : Array Value} (hfr : A.frames = some (env :: outer)) (hl : s.heap.FunFrames base (env :: outer)) (hf : env.frame = some L) (he : s.heap.get? e = some oe) (kb : base.StaysIn s.heap) (en : base.get? e = none)
    (hd : oe.data = .fields vs) (h1 : vs[1]? = some .none) (k : ∀ g', XNote base (env :: outer) e oe.cls oe.dict (rawInt L) s.heap g' → Q () { s with heap := g' }) : wpAny M A (noteFrame (.ref e) env) Q E s := by
  unfold noteFrame
  simp only [hf]
  refine wpAny_bind (wpAny_field he hd h1 ?_)
  rw [if_neg (by decide)]
  exact entered hfr hl hf he kb en hd (Array.getElem?_eq_some_iff.mp h1).1 k
/-- .. a further one -/
theorem noted_next (hfr : A.frames = some (env :: outer)) (hl : s.heap.FunFrames base (env :: outer)) (hf : env.frame = some L) (ht : XTr s.heap base e cl dc .none) (kb : base.StaysIn s.heap) (en : base.get? e = none)
    (k : ∀ g', XNote base (env :: outer) e cl dc (rawInt L) s.heap g' → Q () { s with heap := g' }) : wpAny M A (noteFrame (.ref e) env) Q E s := by
  obtain ⟨oe, vs, T, oT, ts, he, ⟨rfl, rfl⟩, hd, h1, nT, ne, hT, dT, h3⟩ := ht
  unfold noteFrame
  simp only [hf]
  refine wpAny_bind (wpAny_field he hd h1 ?_)
  rw [if_pos (show (Value.ref T != Value.none) = true by simp)]
  refine wpAny_bind (wpAny_field hT dT h3 ?_)
  rw [if_neg (show ¬ ((Value.none == rawInt L) = true) by simp [rawInt])]
  refine wpAny_bind (wpAny_setField hT dT (Array.getElem?_eq_some_iff.mp h3).1 ?_)
  have other : ∀ b, b ≠ T → (s.heap.update T (Obj.mapFields (·.setIfInBounds 3 Value.none))).get? b = s.heap.get? b := fun b z => Heap.get?_update_other _ _ (Ne.symm z)
  refine entered hfr (hl.of_keeps fun b o hb n => ⟨o, (other b (no_record hT dT hb n)).trans hb, rfl⟩) hf ((other e (Ne.symm ne)).trans he) (fun b o z => (other b fun q => by rw [q, nT] at z; cases z).trans (kb b o z)) en hd (Array.getElem?_eq_some_iff.mp h1).1 fun g' x => k g' ?_
  exact ⟨x.1, x.2.1, x.2.2.1, fun b o hb n => x.2.2.2 b o ((other b (no_record hT dT hb n)).trans hb) n⟩
/-- the exception leaves the frame in which it was raised -/
theorem leaves_first {oe : Obj} {vs : Array Value} (hfr : A.frames = some (env :: outer)) (hl : s.heap.FunFrames base (env :: outer)) (hf : env.frame = some L) (he : s.heap.get? e = some oe) (kb : base.StaysIn s.heap) (en : base.get? e = none)
    (hd : oe.data = .fields vs) (h1 : vs[1]? = some .none) (k : ∀ g', XFly base outer e oe.cls oe.dict .none g' → s.heap.UpToSlots g' → Q () { s with heap := g' }) : wpAny M A (leaving env (.ref e)) Q E s := by
  unfold leaving
  refine wpAny_bind (noted_first hfr hl hf he kb en hd h1 fun g1 zz => ?_)
  obtain ⟨k1, k2, k3, k4⟩ := zz
  refine unheld (s := { s with heap := g1 }) k1 k2 k3 fun g2 zz => ?_
  obtain ⟨j1, ⟨_, _, j2⟩, j3, j4⟩ := zz
  exact k g2 ⟨j1, en, j2, j3⟩ (k4.trans j4)
/-- .. one through which it goes -/
theorem leaves_next (hfr : A.frames = some (env :: outer)) (hf : env.frame = some L) (x : XFly base (env :: outer) e cl dc .none s.heap) (k : ∀ g', XFly base outer e cl dc .none g' → s.heap.UpToSlots g' → Q () { s with heap := g' }) : wpAny M A (leaving env (.ref e)) Q E s := by
  obtain ⟨f1, f2, f3, f4⟩ := x
  unfold leaving
  refine wpAny_bind (noted_next hfr f3 hf f4 f1 f2 fun g1 zz => ?_)
  obtain ⟨k1, k2, k3, k4⟩ := zz
  refine unheld (s := { s with heap := g1 }) k1 k2 k3 fun g2 zz => ?_
  obtain ⟨j1, ⟨_, _, j2⟩, j3, j4⟩ := zz
  exact k g2 ⟨j1, f2, j2, j3⟩ (k4.trans j4)
/-- it is looked at by the frame that may catch it; it lands there -/
theorem looked (hfr : A.frames = some (env :: outer)) (hf : env.frame = some L) (x : XFly base (env :: outer) e cl dc .none s.heap) (k : ∀ g', XFly base (env :: outer) e cl dc (rawInt L) g' → s.heap.UpToSlots g' → Q () { s with heap := g' }) : wpAny M A (noteFrame (.ref e) env) Q E s := by
  obtain ⟨f1, f2, f3, f4⟩ := x
  refine noted_next hfr f3 hf f4 f1 f2 fun g1 zz => ?_
  obtain ⟨k1, k2, k3, k4⟩ := zz
  exact k g1 ⟨k1, f2, k2, k3⟩ k4
theorem landed (x : XFly base l e cl dc fl s.heap) (k : ∀ g', XFly base l e cl dc .none g' → s.heap.UpToSlots g' → Q () { s with heap := g' }) : wpAny M A (setFlight (.ref e) none) Q E s := by
  obtain ⟨f1, f2, f3, f4⟩ := x
  refine unheld f1 f3 f4 fun g1 zz => ?_
  obtain ⟨k1, k2, k3, k4⟩ := zz
  exact k g1 ⟨k1, f2, k2, k3⟩ k4
end
end L2


set_option Elab.async false
set_option linter.all false
set_option maxRecDepth 100000
set_option maxHeartbeats 4000000
namespace L2
open PySem PySem.Spec PySem.Calls PyProof.Rows PySem.W PySem.Builtin PySem.Builtin.ObjectAttr
/-- above the class stand own ones, then ValueError -/
noncomputable def overV : List Value → Bool
  | [] => false
  | v :: r => (v :: r == bmV) || (match v with | .ref _ => overV r | _ => false)
theorem refuse_overV (self : Value) : ∀ {l : List Value}, overV l = true → refuseLoop self "__setattr__" l = pure ()
  | [], e => by cases e
  | v :: r, e => by
    rcases (Bool.or_eq_true _ _).mp e with z | z
    · rw [beq_iff_eq.mp z]
      exact PySem.F.store_ValueError.passes self
    · cases v with
      | ref c => rw [refuseLoop_ref]; exact refuse_overV self z
      | _ => cases z
/-- what the fragment says of such a class, for the fields of its exceptions -/
structure XFld (K : Frag) (C : Addr) : Prop where
  ex : ∃ cd, clsIn K C = some cd ∧ overV cd.mro = true ∧ cd.hasDict = true
  sa : findIn K (.ref C) "__setattr__" = some (some (.builtin "object.__setattr__"))
  ec : ExcCls K C
section
variable {prog : Program} {w : World} {A : Around} {s : Shared} {K : Frag} {x C : Addr} {ox : Obj} {od : Option Obj} {name : Str} {v : Value}
theorem x_osa {R : Result → Shared → Prop} {tk : Tok} (X : K.In s.heap) (c : XFld K C) (I : W.InstAt s.heap x ox C od) (ha : NoAttr K C name)
    (h : wpAny (model prog w) A.in1 (storeInOwnDict (.ref x) (.ref C) (.str name tk) name v false)
      (fun fin s' => match fin with | .done f => R (.ok f) s' | .again c' => c'.quiet = true ∧ codeAny (model prog w) A c' R s') (fun e s' => R (.error e) s') s) :
    codeAny (model prog w) A (.call (.builtin "object.__setattr__") ⟨[.ref x, .str name tk, v], []⟩) R s := by
  obtain ⟨cd, hc, ho, _⟩ := c.ex
  have SF := PySem.F.store_object
  have T := I.type (M := model prog w)
  have inst : Looks (model prog w) s.heap (isInstance (.ref x) (.type "object")) true := T.andThen (looks_mroIn X c.ec.hm)
  have mro : Looks (model prog w) s.heap (mroOf (.ref C)) cd.mro := (looks_clsIn X hc).andThen .now
  refine codeAny_call_builtin SF.slot.plain SF.entry (check_slot (M := model prog w) (s := s) (i := "object.__setattr__") (owner := "object") (n := "__setattr__") (self := .ref x) (rest := [.str name tk, v]) (kw := []) SF.kind SF.split inst (SF.args (.ref x) (.str name tk) v) ?_)
  rw [osa_eq, refuse_eq]
  refine wpAny_bind (wpAny_bind (T.here (wpAny_bind (mro.here ?_))))
  rw [refuse_overV _ ho]
  exact wpAny_pure (wpAny_bind (T.here (wpAny_bind ((looks_findIn X (show findIn K (.ref C) name = some none from ha)).here (wpAny_bind (wpAny_pure h))))))
/-- a field is put where there is a dict already -/
theorem x_put {E : Value → Shared → Prop} {dx : Addr} {mA : Str → Option Value} {ns : List Str} {Q : Unit → Shared → Prop} (X : K.In s.heap) (c : XFld K C) (hx : s.heap.get? x = some ox) (hcl : ox.cls = .ref C) (nc : notCls ox = true) (hd : ox.dict = some dx) (ne : dx ≠ x) (nsd : s.heap.Ns1 dx mA) (ha : NoAttr K C name)
    (hw : PySem.Within mA ns) (hsz : ns.length ≤ sizeLine) (h : ∀ h', h'.Ns1 dx (fun y => if y = name then some v else mA y) → Heap.SameBut dx s.heap h' → Q () { s with heap := h', toks := s.toks + 2 }) :
    wpAny (model prog w) A (setAttr (.ref x) name v) Q E s := by
  obtain ⟨ob, ho, _⟩ := lookIn_ns nsd
  have I : W.InstAt s.heap x ox C (some ob) := ⟨hx, hcl, nc, by rw [hd]; exact ho⟩
  refine set_plain X I c.sa (x_osa (s := { s with toks := s.toks + 1 }) X c I ha ?_)
  obtain ⟨cd, hc, _, hdd⟩ := c.ex
  obtain ⟨oc, odi, oda, osl⟩ := ox
  dsimp only at hcl hd
  subst hcl hd
  refine wpAny_bind (wpAny_pure (wpAny_bind (wpAny_bind (wpAny_loadPart hx (wpAny_bind (W.Looks.here (s := { s with toks := s.toks + 1 }) (looks_clsIn X hc) ?_))))))
  rw [hdd]
  refine wpAny_pure (a := some dx) (wpAny_bind (wpAny_pure (wpAny_bind ?_)))
  refine wpAny_nsSet1 (s := { s with toks := s.toks + 1 }) nsd fun h2 hn2 hs2 => ?_
  obtain ⟨oD, esD, epD, hoD, hdD, hcD⟩ := hn2.count (PySem.Within.cons name v hw)
  refine wpAny_bind (wpAny_lookBehind hoD (by rw [hdD]; exact pastItsLine_dict (Nat.le_trans hcD (by rw [List.length_cons]; omega))) ?_)
  exact wpAny_pure (h _ hn2 hs2)
/-- the first field: the dict is made -/
theorem x_put0 {E : Value → Shared → Prop} {Q : Unit → Shared → Prop} (X : K.In s.heap) (c : XFld K C) (hx : s.heap.get? x = some ox) (hcl : ox.cls = .ref C) (hdt : ∃ vs, ox.data = .fields vs) (hd : ox.dict = none) (ha : NoAttr K C name)
    (h : ∀ h', h'.get? x = some { ox with dict := some s.heap.objs.size } → h'.Ns1 s.heap.objs.size (fun y => if y = name then some v else none) → (∀ b o, b ≠ x → s.heap.get? b = some o → h'.get? b = some o) → Q () { s with heap := h', toks := s.toks + 2 }) :
    wpAny (model prog w) A (setAttr (.ref x) name v) Q E s := by
  obtain ⟨vs, hdt⟩ := hdt
  have I : W.InstAt s.heap x ox C none := ⟨hx, hcl, by unfold notCls; rw [hdt], by rw [hd]; exact True.intro⟩
  refine set_plain X I c.sa (x_osa (s := { s with toks := s.toks + 1 }) X c I ha ?_)
  obtain ⟨cd, hc, _, hdd⟩ := c.ex
  obtain ⟨oc, odi, oda, osl⟩ := ox
  dsimp only at hcl hd hdt
  subst hcl hd hdt
  have lt := Heap.lt_size hx
  have e1 : (s.heap.push { cls := .type "dict", data := .dict #[] }).get? x = some ⟨.ref C, none, .fields vs, osl⟩ := Heap.get?_push_of_some _ hx
  refine wpAny_bind (wpAny_pure (wpAny_bind (wpAny_bind (wpAny_loadPart hx (wpAny_bind (W.Looks.here (s := { s with toks := s.toks + 1 }) (looks_clsIn X hc) ?_))))))
  rw [hdd]
  have go : wpAny (model prog w) A.in1 (do let d ← alloc { cls := .type "dict", data := .dict #[] }; update x fun o => { o with dict := some d }; dictMade (.ref C) x d)
      (fun r s1 => ∃ h1, r = some s.heap.objs.size ∧ s1 = { s with heap := h1, toks := s.toks + 1 } ∧ h1.get? x = some ⟨.ref C, some s.heap.objs.size, .fields vs, osl⟩ ∧ h1.Ns s.heap.objs.size (fun _ => none) ∧ ∀ b o, b ≠ x → s.heap.get? b = some o → h1.get? b = some o) (fun _ _ => False) { s with toks := s.toks + 1 } := by
    refine wpAny_bind (wpAny_alloc' (wpAny_bind (wpAny_update' e1 (wpAny_pure ⟨_, rfl, rfl, ?_, ?_, ?_⟩))))
    · exact Heap.get?_update_self _ e1 rfl
    · exact ⟨_, #[], _, (Heap.get?_update_ne _ _ _ _ (Nat.ne_of_gt lt)).trans (Heap.get?_push_at rfl rfl), rfl, (fun e z => absurd z (by simp)), fun _ => rfl⟩
    · exact fun b o nb z => (Heap.get?_update_ne _ _ _ _ nb).trans (Heap.get?_push_of_some _ z)
  change wpAny (model prog w) A.in1 (do let d ← alloc { cls := .type "dict", data := .dict #[] }; update x fun o => { o with dict := some d }; dictMade (.ref C) x d) _ _ _
  refine wpAny_mono go (fun r s1 z => ?_) (fun _ _ z => z.elim)
  obtain ⟨h1, rfl, rfl, gx, gn, gk⟩ := z
  show wpAny _ _ (storeInDict s.heap.objs.size (.str name s.toks) name v) _ _ _
  unfold storeInDict newKeyGuard
  refine wpAny_bind (wpAny_pure (wpAny_bind (wpAny_nsSet1 (s := { s with heap := h1, toks := s.toks + 1 }) (Heap.Ns1.of_empty gn) fun h2 hn2 hs2 => ?_)))
  obtain ⟨oD, esD, epD, hoD, hdD, hcD⟩ := hn2.count (PySem.Within.cons name v PySem.Within.nil)
  refine wpAny_bind (wpAny_lookBehind hoD (by rw [hdD]; exact pastItsLine_dict (Nat.le_trans hcD (by rw [List.length_cons, List.length_nil, sizeLine_eq]; omega))) ?_)
  refine wpAny_pure (h _ ((hs2.2 x (Nat.ne_of_lt lt)).trans gx) hn2 fun b o nb z => (hs2.2 b (Nat.ne_of_lt (Heap.lt_size z))).trans (gk b o nb z))
end
end L2


set_option Elab.async false
set_option linter.all false
set_option maxRecDepth 100000
set_option maxHeartbeats 4000000
namespace L2
open PySem PySem.Spec PySem.Calls PyProof.Rows PySem.W
/-- an exception that was made and not yet raised: its class, its dict -/
noncomputable def XNew (e C : Addr) (dc : Option Addr) (h : Heap) : Prop := ∃ t, h.get? e = some { cls := .ref C, dict := dc, data := .fields #[.ref t, .none, .none, .none, .bool false, .none] }
/-- the dict of an exception -/
noncomputable def XDict (d : Addr) (fs : List (Str × V)) (h : Heap) : Prop := ∃ mA, h.Ns1 d mA ∧ (∀ f, RelO (fs.lookup f) (mA f)) ∧ PySem.Within mA (fs.map (·.1)) ∧ fs.length ≤ 100
/-- an exception that was caught -/
noncomputable def XGot (e C : Addr) (dc : Option Addr) (h : Heap) : Prop := ∃ o vs, h.get? e = some o ∧ o.cls = .ref C ∧ o.dict = dc ∧ o.data = .fields vs
theorem XNew.stay {e C : Addr} {dc : Option Addr} {h1 h2 : Heap} (x : XNew e C dc h1) (k : ∀ o, h1.get? e = some o → h2.get? e = some o) : XNew e C dc h2 := let ⟨t, z⟩ := x; ⟨t, k _ z⟩
theorem XGot.stay {e C : Addr} {dc : Option Addr} {h1 h2 : Heap} (x : XGot e C dc h1) (k : ∀ o, h1.get? e = some o → h2.get? e = some o) : XGot e C dc h2 := let ⟨o, vs, z, r⟩ := x; ⟨o, vs, k _ z, r⟩
theorem XDict.stay {d : Addr} {fs : List (Str × V)} {h1 h2 : Heap} (x : XDict d fs h1) (k : ∀ o, h1.get? d = some o → h2.get? d = some o) : XDict d fs h2 := by
  obtain ⟨mA, ⟨od, es, ep, e, c⟩, r⟩ := x
  exact ⟨mA, ⟨od, es, ep, k _ e, c⟩, r⟩
theorem XDict.there {d : Addr} {fs : List (Str × V)} {h : Heap} (x : XDict d fs h) : ∃ o, h.get? d = some o := by
  obtain ⟨mA, ⟨od, es, ep, e, c⟩, r⟩ := x
  exact ⟨_, e⟩
section
variable {P : Program} {w : World} {H : Hp} {h : Heap} {e C d : Addr} {dc : Option Addr} {fs : List (Str × V)}
theorem xnew_ok (x : XNew e C dc h) : ObjOk P w H h e (.ext (XNew e C dc)) := ⟨x, let ⟨_, z⟩ := x; ⟨_, z⟩, fun _ _ a k => a.stay k⟩
theorem xdict_ok (x : XDict d fs h) : ObjOk P w H h d (.ext (XDict d fs)) := ⟨x, x.there, fun _ _ a k => a.stay k⟩
end
/-- the field put, as a map and as a list of pairs -/
theorem xdict_put {d : Addr} {fs : List (Str × V)} {h h' : Heap} {mA : Str → Option Value} {f : Str} {y : V} {u : Value} (r : ∀ g, RelO (fs.lookup g) (mA g)) (wi : PySem.Within mA (fs.map (·.1))) (z : fs.length < 100) (ry : RelV y u)
    (n : h'.Ns1 d (fun g => if g = f then some u else mA g)) : XDict d (putF f y fs) h' := by
  refine ⟨_, n, fun g => ?_, fun g hg => ?_, ?_⟩
  · show RelO ((putF f y fs).lookup g) (if g = f then some u else mA g)
    rw [lookup_putF]
    by_cases q : g = f
    · rw [if_pos q, if_pos q]; exact ry
    · rw [if_neg q, if_neg q]; exact r g
  · by_cases q : g = f
    · rw [q]; exact (keys_putF f y fs).1
    · exact (keys_putF f y fs).2 g (wi g fun z => hg (by show (if g = f then some u else mA g) = none; rw [if_neg q]; exact z))
  · have := length_putF f y fs
    omega
section
variable {X : Cx} {pins : List (Addr × Obj)} {σ : St} {H : Hp} {s : Shared} {a C d : Addr} {fs : List (Str × V)} {f : Str} {y : V} {u : Value} {A : Around} {E : Value → Shared → Prop} {Q : Unit → Shared → Prop}
theorem xset_ok (I : Inv X pins σ H s) (ea : H a = some (.ext (XNew a C (some d)))) (ed : H d = some (.ext (XDict d fs))) (ne : d ≠ a) (c : XFld X.K C) (n : NoAttr X.K C f) (hl : fs.length < 100) (ry : RelV y u)
    (h : ∀ s', Inv X pins σ (upd H d (.ext (XDict d (putF f y fs)))) s' → Q () s') : wpAny (model X.prog X.w) A (setAttr (.ref a) f u) Q E s := by
  obtain ⟨⟨t, gx⟩, _, _⟩ := (show ObjOk X.prog X.w H s.heap a (.ext (XNew a C (some d))) from I.hok a _ ea)
  obtain ⟨⟨mA, nsd, r, wi, _⟩, _, _⟩ := (show ObjOk X.prog X.w H s.heap d (.ext (XDict d fs)) from I.hok d _ ed)
  refine x_put I.kIn c gx rfl rfl rfl ne nsd n wi (by rw [List.length_map, sizeLine_eq]; omega) fun h' n' sb => h _ ?_
  have x' := xdict_put (d := d) (h := s.heap) r wi hl ry n'
  exact I.write (x := d) (e := d) (by rw [ed]; exact True.intro) (.inl rfl) (fun b q hb z => (sb.2 b hb).trans z) x'.there (xdict_ok x')
theorem xset0_ok (I : Inv X pins σ H s) (ea : H a = some (.ext (XNew a C none))) (c : XFld X.K C) (n : NoAttr X.K C f) (ry : RelV y u)
    (hL : ∀ b, s.heap.objs.size ≤ b → b ≠ X.env.locals ∧ (∀ x c, X.env.cells.lookup x = some c → c ≠ b) ∧ (∀ p ∈ X.pn ++ pins, p.1 ≠ b) ∧ X.s₀.heap.get? b = none)
    (h : ∀ s' b, H b = none → Inv X pins σ (upd (upd H a (.ext (XNew a C (some b)))) b (.ext (XDict b [(f, y)]))) s' → Q () s') : wpAny (model X.prog X.w) A (setAttr (.ref a) f u) Q E s := by
  obtain ⟨⟨t, gx⟩, _, _⟩ := (show ObjOk X.prog X.w H s.heap a (.ext (XNew a C none)) from I.hok a _ ea)
  refine x_put0 I.kIn c gx rfl ⟨_, rfl⟩ rfl n fun h' g' n' kp => ?_
  have fr : H s.heap.objs.size = none := I.hok.fresh (Nat.le_refl _)
  have ne : s.heap.objs.size ≠ a := fun z => by rw [z, ea] at fr; cases fr
  have x' : XDict s.heap.objs.size [(f, y)] h' := xdict_put (fs := []) (h := s.heap) (mA := fun _ => none) (fun _ => True.intro) (fun g z => absurd rfl z) (by decide) ry n'
  have I1 : Inv X pins σ (upd H a (.ext (XNew a C (some s.heap.objs.size)))) { s with heap := h', toks := s.toks + 2 } :=
    I.write (x := a) (e := a) (by rw [ea]; exact True.intro) (.inl rfl) (fun b q hb z => kp b q hb z) ⟨_, g'⟩ (xnew_ok ⟨t, g'⟩)
  obtain ⟨l1, l2, l3, l4⟩ := hL _ (Nat.le_refl _)
  exact h _ s.heap.objs.size fr (I1.track (by rw [upd_ne ne]; exact fr) l4 l1 l2 l3 x' x'.there fun _ _ z k => z.stay k)
end
/-- what is known of addresses above the heap -/
theorem Inv.above {X : Cx} {pins : List (Addr × Obj)} {σ : St} {H : Hp} {s : Shared} (I : Inv X pins σ H s) : ∀ b, s.heap.objs.size ≤ b → b ≠ X.env.locals ∧ (∀ x c, X.env.cells.lookup x = some c → c ≠ b) ∧ (∀ p ∈ X.pn ++ pins, p.1 ≠ b) ∧ X.s₀.heap.get? b = none := fun b hb => by
  have no : ∀ o, s.heap.get? b = some o → False := fun o z => absurd (Heap.lt_size z) (Nat.not_lt.mpr hb)
  refine ⟨fun z => ?_, fun x c k q => ?_, fun p hp q => ?_, ?_⟩
  · obtain ⟨mm, ⟨o, _, _, g, _⟩, _⟩ := I.loc
    rw [← z] at g
    exact no _ g
  · obtain ⟨v, o, g, _⟩ := I.cell x c k
    rw [q] at g
    exact no _ g
  · obtain ⟨g, _⟩ := I.pin p hp
    rw [q] at g
    exact no _ g
  · exact Heap.get?_none_of_le (Nat.le_trans I.sz hb)
/-! ### self.f = value, in the __init__ of an exception -/
noncomputable def sFldX (K : Frag) (ta tv : TE) (f : Str) : TS := fun D σ H => tv σ H fun y H1 => ta σ H1 fun x H2 => ∃ a C, x = .ref a ∧ XFld K C ∧ NoAttr K C f ∧
  ((H2 a = some (.ext (XNew a C none)) ∧ ∀ d, H2 d = none → D.nx σ (upd (upd H2 a (.ext (XNew a C (some d)))) d (.ext (XDict d [(f, y)])))) ∨
   ∃ d fs, H2 a = some (.ext (XNew a C (some d))) ∧ H2 d = some (.ext (XDict d fs)) ∧ d ≠ a ∧ fs.length < 100 ∧ D.nx σ (upd H2 d (.ext (XDict d (putF f y fs)))))
theorem ps_fldX {X : Cx} {o value : Expr} {f : Str} {pos pos' : Pos} {ta tv : TE} (ha : PE X o ta) (hv : PE X value tv) (hs : swapsWith value (some (.Attribute o f pos')) pos.line X.env = pure false) : PS X (.Assign [.Attribute o f pos'] value pos) (sFldX X.K ta tv f) := by
  intro pins s σ H D I h
  refine plainObj_wpAny_Assign_Attribute (thn (hv pins s σ H _ I h) fun u s1 zz => ?_) hs
  obtain ⟨y, H1, I1, ry, q⟩ := zz
  refine thn (ha pins s1 σ H1 _ I1 q) fun ov s2 zz => ?_
  obtain ⟨x, H2, I2, rx, a, C, ex, c, n, q2⟩ := zz
  subst ex
  cases (show ov = Value.ref a from rx)
  rcases q2 with ⟨ea, q2⟩ | ⟨d, fs, ea, ed, ne, l, q2⟩
  · exact xset0_ok I2 ea c n ry I2.above fun s3 b hb I3 => ⟨σ, _, I3, q2 b hb⟩
  · exact xset_ok I2 ea ed ne c n l ry fun s3 I3 => ⟨σ, _, I3, q2⟩
end L2


set_option Elab.async false
set_option linter.all false
set_option maxRecDepth 100000
set_option maxHeartbeats 4000000
namespace L2
open PySem PySem.Spec PySem.Calls PyProof.Rows PySem.W
/-! ### what the fragment says of a class of exceptions with an __init__ of its own -/
noncomputable def excInI (K : Frag) (C : Addr) (bmB : List Value) (newId : String) (fI : Addr) : Bool := match K.lookup C with
  | some ⟨.type "type", _, .cls cl, sl⟩ => (match cl.mro, sl.toList with
    | .ref C1 :: bm, [_, _, _, _, some (.builtin i), _] => (C1 == C && i == newId && !cl.hasDel && tailIn K bmB bm) && (nsOkIn K cl.ns && nsIn K cl.ns "__init__" == some (some (.ref fI)) && isFn K (.ref fI))
    | _, _ => false)
  | _ => false
theorem ns_some_of {K : Frag} {h : Heap} {N : Addr} {m : Str → Option Value} {n : Str} {v : Value} (X : K.In h) (G : h.Ns N m) (q : nsIn K N n = some (some v)) : m n = some v := by
  obtain ⟨o, es, ep, ho, hd, _, hf⟩ := G
  unfold nsIn at q
  split at q
  · rename_i z
    have e := X _ _ z
    rw [ho] at e
    cases e
    cases hd
    split at q
    · rename_i en he
      cases q
      rw [← hf]
      unfold nsFind findBy
      rw [← Array.find?_toList, he]
      rfl
    · split at q <;> cases q
  · cases q
theorem xat_of {K : Frag} {h : Heap} {C fI : Addr} {bmB : List Value} {newId : String} (X : K.In h) (q : excInI K C bmB newId fI = true) : XAt h C bmB newId fI := by
  unfold excInI at q
  split at q
  · rename_i d0 c0 sl0 lk
    split at q
    · rename_i C1 bm1 j0 j1 j2 j3 n1 j5 em es
      simp only [Bool.not_eq_true', beq_iff_eq, Bool.and_eq_true] at q
      obtain ⟨⟨⟨⟨e1, e2⟩, nodel⟩, tl⟩, ⟨ok, ni⟩, fn⟩ := q
      subst e1 e2
      obtain ⟨nm1, bs1, mro1, ns1, qn1, hd1, sn1, sub1, ab1, col1, del1⟩ := c0
      dsimp only at em nodel ok ni
      subst em nodel
      have esl : sl0 = #[j0, j1, j2, j3, some (.builtin n1), j5] := by
        obtain ⟨l0⟩ := sl0
        simp only at es
        rw [es]
      subst esl
      have G : h.Ns ns1 (h.nsMap ns1) := .of_isNs (isNs_of_in X ok)
      obtain ⟨ob, ho, hc⟩ := Option.map_eq_some_iff.mp (show typeIn K (.ref fI) = some (.type "function") from beq_iff_eq.mp fn)
      exact ⟨_, _, _, _, _, _, _, _, _, _, _, _, _, _, _, _, _, ob, X _ _ lk, G, ns_some_of X G ni, tail_of_in X tl, X _ _ ho, hc⟩
    · cases q
  · cases q
/-! ### C(..) of such a class -/
section
variable {X : Cx} {k : Nat} {f C : Addr} {fd : FuncData} {ps : List Str} {sp : Sp} {x : Str} {p pos : Pos} {e : Expr} {es : List Expr} {t : TA}
theorem run_makeX0 {pins : List (Addr × Obj)} {σ : St} {H : Hp} {s : Shared} {R : Hp → Prop} {us : List Value} {vs : List V} (F : FnOk X.prog X.w X.K X.mg X.base CX0 k f fd ps sp) (xi : excInI X.K C bmV "ValueError.__new__" f = true) (hr : Room (k + 1) X.A) (hb : Binds X.K fd ps [])
    (I : Inv X pins σ H s) (r : Vals vs us) (hz : vs.length ≤ 1000) (q : sp (.ref (s.heap.objs.size + 1) :: vs) (upd H (s.heap.objs.size + 1) (.ext (XNew (s.heap.objs.size + 1) C none))) (fun v H2 => v = .non ∧ R H2) E0) : wpAny (model X.prog X.w) X.A (call (.ref C) us) (fun u s' => u = .ref (s.heap.objs.size + 1) ∧ ∃ H', Inv X pins σ H' s' ∧ R H') X.xe s := by
  have lz : us.length ≤ sizeLine := by rw [← r.length, sizeLine_eq]; omega
  have I1 : Inv X pins σ (upd H (s.heap.objs.size + 1) (.ext (XNew (s.heap.objs.size + 1) C none))) { s with heap := withExc s.heap C us, toks := s.toks } :=
    I.laid (fun b o z => withExc_keeps us z) (Nat.le_succ _) (xnew_ok ⟨_, withExc_at us⟩)
  have r1 : Vals (V.ref (s.heap.objs.size + 1) :: vs) (Value.ref (s.heap.objs.size + 1) :: us) := .cons rfl r
  have hl : (Value.ref (s.heap.objs.size + 1) :: us).length = ps.length := by rw [← r1.length]; exact F.len _ _ _ _ q
  have bnd := hb { s with heap := withExc s.heap C us, toks := s.toks } (Value.ref (s.heap.objs.size + 1) :: us) I1.kIn (by rw [List.append_nil]; exact hl)
  rw [List.append_nil] at bnd
  obtain ⟨hh, g, d, tk, os⟩ := s
  refine call_init PySem.F.excBase_ValueError (xat_of I.kIn xi) lz ?_
  refine wpAny_call (codeAny_mono (F.run _ X.stack _ _ ⟨_, []⟩ _ _ _ E0 (hr.make C us []) (I1.env0.make C us []) bnd r1 q) fun res s1 hq => ?_)
  cases res with
  | error ex => exact hq.elim
  | ok fl =>
    cases fl with
    | ret u =>
      obtain ⟨v, H2, I2, rv, ev, q2⟩ := I1.after hq
      subst ev
      exact ⟨rv, rfl, H2, I2, q2⟩
    | next => exact False.elim hq
    | brk => exact False.elim hq
    | cont => exact False.elim hq
end
/-! ### raise of an exception that was made -/
theorem x_raise {prog : Program} {w : World} {A : Around} {E : Value → Shared → Prop} {s : Shared} {env : Env} {ex : Expr} {pos : Pos} {Q : Flow → Shared → Prop} {C : Addr} {bmB : List Value} {newId : String} (hbase : bmB.contains (.type "BaseException") = true) (hh : A.handled = none)
    (h : wpAny (model prog w) A (eval ex env) (fun v s₁ => ∃ e dc, v = .ref e ∧ (∃ fI, XAt s₁.heap C bmB newId fI) ∧ XNew e C dc s₁.heap ∧ E (.ref e) s₁) E s) : wpAny (model prog w) A (exec (.Raise (some ex) none pos) env) Q E s := by
  rw [arm_exec_Raise]
  refine wpAny_bind (wpAny_standAt ?_)
  show wpAny _ _ (raiseStmt env (some (do let v ← eval ex env; standAt pos; pure v)) none) _ _ _
  unfold raiseStmt
  refine wpAny_bind (wpAny_bind (wpAny_mono h (fun v s1 z => wpAny_bind (wpAny_standAt (wpAny_pure ?_))) fun _ _ z => z))
  obtain ⟨e, dc, rfl, ⟨fI, nm, qn, N, bs, bm, hd, sn, sub, ab, col, dd, k0, k1, k2, k3, k5, mN, oI, gC, _, _, T, _, _⟩, ⟨t, ge⟩, hE⟩ := z
  have hcB : (Value.ref C :: bm).contains (.type "BaseException") = true := by rw [List.contains_cons, T.hasType hbase, Bool.or_true]
  obtain ⟨hp, g, d, tk, os⟩ := s1
  repeat (first | with_reducible refine wpAny_loadPart_at ge ?_ | with_reducible refine wpAny_loadPart_at gC ?_ | (with_reducible refine wpAny_isSubtype_exc gC ?_; rw [hcB]) | wp_step)
  exact wpAny_raiseNew_none hh hE
end L2


set_option Elab.async false
set_option linter.all false
set_option maxRecDepth 100000
set_option maxHeartbeats 4000000
namespace L2
open PySem PySem.Spec PySem.Calls PyProof.Rows PySem.W
/-- a is tracked no more -/
noncomputable def del (a : Addr) (H : Hp) : Hp := fun b => if b = a then none else H b
theorem del_same {a : Addr} {H : Hp} : del a H a = none := if_pos rfl
theorem del_ne {a b : Addr} {H : Hp} (n : b ≠ a) : del a H b = H b := if_neg n
/-! ### how an exception lies behind a call: ea the object, C its class, dc its dict; whatever is tracked, or stood ahead of the call, stands in B, which stays -/
noncomputable def FliesD (P : Program) (w : World) (outer : List Env) (H : Hp) (s : Shared) (ea : Addr) (C : Value) (dc : Option Addr) (H' : Hp) (s' : Shared) : Prop := ∃ (B : Heap),
  s'.os = s.os ∧ AllBare s'.gens ∧ Un (frs outer) [] H H' s.heap s'.heap ∧ HOk P w H' s'.heap ∧ XFly B outer ea C dc .none s'.heap ∧ H' ea = none ∧ s.heap.get? ea = none ∧
  ∀ b o, s'.heap.get? b = some o → b ∉ frs outer → ((∃ u, H' b = some u) ∨ ∃ o', s.heap.get? b = some o') → B.get? b = some o
noncomputable def CXd (P : Program) (w : World) : CXT := fun outer H s E e s' => ∃ (ea : Addr) (C : Value) (dc : Option Addr) (H' : Hp), e = .ref ea ∧ FliesD P w outer H s ea C dc H' s' ∧ E C dc H'
theorem passd {P : Program} {w : World} {X : Cx} : Passes (CXd P w) X E0 := fun _ _ _ _ _ _ _ ⟨_, _, _, _, _, _, h⟩ => h.elim
section
variable {P : Program} {w : World} {K : PySem.W.Frag} {mg : Str → Option Value} {base : Heap} {N : List Str} {qual : Str} {scope : Scope} {f : Addr} {cd : Value} {A : Around} {outer : List Env} {s : Shared} {H : Hp} {E : XK}
/-- the one that was made here leaves the def -/
theorem leaves_made {pins : List (Addr × Obj)} {σ : St} {H1 : Hp} {s₂ : Shared} {ea C : Addr} {dc : Option Addr} (I : Inv (cxOf (CXd P w) P w K mg base N qual scope f cd A outer s H E) pins σ H1 s₂)
    (hx : H1 ea = some (.ext (XNew ea C dc))) (new : s.heap.get? ea = none) (q : E (.ref C) dc (del ea H1)) : (cxOf (CXd P w) P w K mg base N qual scope f cd A outer s H E).xe (.ref ea) s₂ := by
  have FR : ∀ b, b ∈ frs (envOfC qual scope s.heap.objs.size f cd :: outer) → b = s.heap.objs.size ∨ b ∈ frs outer := fun b z => List.mem_cons.mp (I.stkSub b z)
  have hin : ∀ en ∈ (envOfC qual scope s.heap.objs.size f cd :: outer), ∀ b, en.frame = some b → b ∈ ea :: frs (envOfC qual scope s.heap.objs.size f cd :: outer) := fun en he b hb => List.mem_cons_of_mem _ (List.mem_filterMap.mpr ⟨en, he, hb⟩)
  obtain ⟨⟨t, ge⟩, _, _⟩ := (show ObjOk P w H1 s₂.heap ea (.ext (XNew ea C dc)) from I.hok ea _ hx)
  show wpAny (model P w) (A.deeper (envOfC qual scope s.heap.objs.size f cd)) (leaving (envOfC qual scope s.heap.objs.size f cd) (.ref ea)) _ _ _
  refine leaves_first (base := PySem.W.hideAll s₂.heap (ea :: frs (envOfC qual scope s.heap.objs.size f cd :: outer))) I.ok.frames (PySem.W.funFrames_hide I.stack hin) rfl ge (fun b o z => PySem.W.of_hideAll _ z) (PySem.W.hideAll_none _ List.mem_cons_self) rfl rfl fun h'' fl up => ?_
  have trk : ∀ b u, H1 b = some u → b ∉ frs (envOfC qual scope s.heap.objs.size f cd :: outer) := fun b u e z => by
    have := I.stkFree b z
    rw [e] at this; cases this
  have keepB : ∀ b o, s₂.heap.get? b = some o → b ≠ ea → b ∉ frs (envOfC qual scope s.heap.objs.size f cd :: outer) → h''.get? b = some o := fun b o e z n =>
    fl.1 b o (PySem.W.hideAll_get _ e fun k => (List.mem_cons.mp k).elim z n)
  have neS : ∀ b o, s.heap.get? b = some o → b ≠ ea := fun b o e z => by rw [z, new] at e; cases e
  have notF : ∀ b o, s.heap.get? b = some o → b ∉ frs outer → b ∉ frs (envOfC qual scope s.heap.objs.size f cd :: outer) := fun b o e n z =>
    (FR b z).elim (fun z => absurd (Nat.lt_of_lt_of_le (Heap.lt_size e) I.ok.above) (by rw [z]; exact Nat.lt_irrefl _)) n
  have hthere : ∀ b o, s.heap.get? b = some o → ∃ o', s₂.heap.get? b = some o' := fun b o e => I.base.there b o e (fun z => nomatch z)
  have slotK : ∀ b o, s.heap.get? b = some o → b ∈ frs outer → ∃ sl, h''.get? b = some { o with slots := sl } := fun b o e hb => by
    obtain ⟨sl, e1⟩ := I.base.slot b o e (I.ok.frf b hb) hb (fun z => nomatch z)
    obtain ⟨_, o', e2, nf⟩ := I.ok.funs.mem hb
    have e3 : some o' = some o := e2.symm.trans e
    cases e3
    obtain ⟨sl', e4⟩ := up b _ e1 nf
    exact ⟨sl', e4⟩
  refine ⟨ea, .ref C, dc, del ea H1, rfl, ⟨_, I.os, I.bare, ⟨?_, ?_, ?_, ?_, ?_, ?_, ?_⟩, ?_, fl, del_same, new, ?_⟩, q⟩
  · exact fun b o e n hb z => keepB b o (I.base.keep b o e n hb z) (neS b o e) (notF b o e hb)
  · exact fun b o e n hb z => slotK b o e hb
  · exact fun b o e n z => by rw [del_ne (neS b o e)]; exact I.base.free b o e n z
  · intro b o e z
    by_cases hb : b ∈ frs outer
    · obtain ⟨sl, e1⟩ := slotK b o e hb
      exact ⟨_, e1⟩
    · obtain ⟨o', e1⟩ := hthere b o e
      exact ⟨o', keepB b o' e1 (neS b o e) (notF b o e hb)⟩
  · intro b xs e
    have z := I.base.tups b xs e
    rw [del_ne fun k => by rw [k, hx] at z; cases z]
    exact z
  · intro b o u e
    have z := I.base.frzs b o u e
    rw [del_ne fun k => by rw [k, hx] at z; cases z]
    exact z
  · intro b ps e
    obtain ⟨m, z⟩ := I.base.tbls b ps e
    exact ⟨m, by rw [del_ne fun k => by rw [k, hx] at z; cases z]; exact z⟩
  · intro b u e
    have nb : b ≠ ea := fun z => by rw [z, del_same] at e; cases e
    rw [del_ne nb] at e
    refine (I.hok b u e).stay (fun c v hc e' => ?_) (fun c z => ?_) fun c xs z => ?_
    · have tc : ∃ v', H1 c = some v' ∧ c ≠ ea := hc.elim (fun z => ⟨u, by rw [z]; exact e, by rw [z]; exact nb⟩) fun z => ⟨_, z, fun k => by rw [k, hx] at z; cases z⟩
      obtain ⟨v', z1, z2⟩ := tc
      exact keepB c v e' z2 (trk c v' z1)
    · rw [del_ne fun k => by rw [k, hx] at z; cases z]
      exact z
    · rw [del_ne fun k => by rw [k, hx] at z; cases z]
      exact z
  · intro b o e n hb
    have key : ∃ o2, s₂.heap.get? b = some o2 ∧ b ≠ ea ∧ b ∉ frs (envOfC qual scope s.heap.objs.size f cd :: outer) := by
      rcases hb with ⟨u, hu⟩ | ⟨o', ho⟩
      · have nb : b ≠ ea := fun z => by rw [z, del_same] at hu; cases hu
        rw [del_ne nb] at hu
        obtain ⟨ob, e2⟩ := (I.hok b u hu).there
        exact ⟨ob, e2, nb, trk b u hu⟩
      · obtain ⟨o2, e2⟩ := hthere b o' ho
        exact ⟨o2, e2, neS b o' ho, notF b o' ho n⟩
    obtain ⟨o2, e2, n1, n2⟩ := key
    have e3 := keepB b o2 e2 n1 n2
    rw [e] at e3
    cases e3
    exact PySem.W.hideAll_get _ e2 fun k => (List.mem_cons.mp k).elim n1 n2
/-! ### raise C(..) -/
end
end L2


set_option Elab.async false
set_option linter.all false
set_option maxRecDepth 100000
set_option maxHeartbeats 4000000
namespace L2
open PySem PySem.Spec PySem.Calls PyProof.Rows PySem.W PySem.Builtin.Getset_descriptor
theorem XFly.got {base g : Heap} {l : List Env} {e C : Addr} {fl : Value} {dc : Option Addr} (x : XFly base l e (.ref C) dc fl g) : XGot e C dc g := by
  obtain ⟨_, _, _, oe, vs, _, _, _, a, b, c, _⟩ := x
  exact ⟨oe, vs, a, b.1, b.2, c⟩
theorem XGot.of {e C : Addr} {dc : Option Addr} {h : Heap} (x : XGot e C dc h) : OfCls e C h := let ⟨o, _, a, b, _⟩ := x; ⟨o, a, b⟩
/-! ### a def that may raise an exception with fields -/
structure DefD (P : Program) (w : World) (K : Frag) (mg : Str → Option Value) (base : Heap) (n : Nat) (x : Str) (ps : List Str) (sp : Sp) : Prop where
  ex : ∃ (f : Addr) (fd : FuncData), FnOk P w K mg base (CXd P w) n f fd ps sp ∧ Binds K fd ps [] ∧ keepIn K (.ref f) = true ∧ mg x = some (.ref f)
theorem defd_of {P : Program} {w : World} {K : Frag} {mg : Str → Option Value} {base : Heap} {x : Str} {st : Stmt} {N ps : List Str} {k : Nat} {sp : Sp} (T : TopDef K mg x st) (S : FnScope N ps (defScope st))
    (bd : ∀ (kV doc pm : Value) (an : Option Addr) (cdv ct : Value) (us : List Value), us.length = ps.length → bindArgs (fnOf x x (defArgs st) (defBody st) (defScope st) .none kV doc pm an cdv ct) ⟨us, []⟩ = pure (ps.zip us))
    (len : ∀ vs H Q E, sp vs H Q E → vs.length = ps.length)
    (body : ∀ (f : Addr) (cdv : Value) (A : Around) (outer : List Env) (s : Shared) (H : Hp) (vs : List V) (Q : VK) (E : XK), Room k (A.deeper (envOfC x (defScope st) s.heap.objs.size f cdv)) → sp vs H Q E →
      ∃ t, PSs (cxOf (CXd P w) P w K mg base N x (defScope st) f cdv A outer s H E) (defBody st) t ∧ t { nx := fun _ H' => Q .non H', rt := Q } (start N vs) H) :
    DefD P w K mg base (k + 1) x ps sp := by
  obtain ⟨f, fd, F, m⟩ := T.ex
  obtain ⟨oc, od, kV, doc, pm, an, cdv, ct, osl, rfl, lk, hcd⟩ := id F.ex
  exact ⟨f, _, fn_of lk hcd S len fun A outer s H vs Q E hr h => body f cdv A outer s H vs Q E hr h, F.binds bd, F.kp, m⟩
/-- a call of it that raises nothing -/
theorem pe_defD {X : Cx} {n : Nat} {x : Str} {ps : List Str} {sp : Sp} {e : Expr} {es : List Expr} {t : TA} {p pos : Pos} (D : DefD X.prog X.w X.K X.mg X.base n x ps sp) (hr : Room n X.A) (hg : Gl X x) (ha : PA X (e :: es) t)
    (hdb : (x == ("__debug__" : Str)) = false := by decide) (he : starEach (e :: es) X.env = (false, eval e X.env) :: starEach es X.env := by rfl) (hpl : (backTo pos (starEach es X.env)).any (·.1) = false := by rfl) :
    PE X (.Call (.Name x p) (e :: es) [] pos) (tCall sp [] E0 t) := by
  obtain ⟨f, fd, F, b, kp, m⟩ := D.ex
  exact pe_call F hr hg m kp b .nil passd ha hdb he hpl
section
variable {P : Program} {w : World} {K : PySem.W.Frag} {mg : Str → Option Value} {base : Heap} {N : List Str} {qual : Str} {scope : Scope} {f : Addr} {cd : Value} {A : Around} {outer : List Env} {s : Shared} {H : Hp} {E : XK}
/-- a callee's exception goes on through this def -/
theorem pass_on : Passes (CXd P w) (cxOf (CXd P w) P w K mg base N qual scope f cd A outer s H E) E := by
  intro pins σ H1 s1 e s' I hq
  obtain ⟨ea, C, dc, H2, rfl, ⟨B, ho, hgn, un, hok, fl, h0, h1, cov⟩, q⟩ := hq
  have hthere : ∀ b o, s.heap.get? b = some o → ∃ o', s1.heap.get? b = some o' := fun b o z => I.base.there b o z (fun z => nomatch z)
  show wpAny (model P w) (A.deeper (envOfC qual scope s.heap.objs.size f cd)) (leaving (envOfC qual scope s.heap.objs.size f cd) (.ref ea)) _ _ _
  refine leaves_next I.ok.frames rfl fl fun g fl2 up => ?_
  have I2 : Inv (cxOf (CXd P w) P w K mg base N qual scope f cd A outer s H E) pins σ H2 { s' with heap := g, toks := s'.toks } := I.caught (C := C) (ea := ea) (t := ea) ho hgn un hok cov fl2.1 up
  have new : s.heap.get? ea = none := by
    cases z : s.heap.get? ea with
    | none => rfl
    | some o => obtain ⟨o', e'⟩ := hthere ea o z; rw [h1] at e'; cases e'
  refine ⟨ea, C, dc, H2, rfl, ⟨B, I2.os, I2.bare, I2.base, I2.hok, fl2, h0, new, fun b o z n hb => ?_⟩, q⟩
  have nf : b ∉ frs (envOfC qual scope s.heap.objs.size f cd :: outer) := fun k => by
    rcases hb with ⟨u, hu⟩ | ⟨o', ho'⟩
    · have := I2.stkFree b k
      rw [hu] at this; cases this
    · exact (List.mem_cons.mp (I.stkSub b k)).elim (fun y => absurd (Nat.lt_of_lt_of_le (Heap.lt_size ho') I.ok.above) (by rw [y]; exact Nat.lt_irrefl _)) n
  have key : (∃ o1, s'.heap.get? b = some o1) ∧ ((∃ u, H2 b = some u) ∨ ∃ o', s1.heap.get? b = some o') := by
    rcases hb with ⟨u, hu⟩ | ⟨o', ho'⟩
    · exact ⟨(hok b u hu).there, .inl ⟨u, hu⟩⟩
    · obtain ⟨o2, e2⟩ := hthere b o' ho'
      exact ⟨un.there b o2 e2 (fun z => nomatch z), .inr ⟨o2, e2⟩⟩
  obtain ⟨⟨o1, e1⟩, k2⟩ := key
  have e2 := cov b o1 e1 nf k2
  have e3 := fl2.1 b o1 e2
  have e4 : some o = some o1 := z.symm.trans e3
  cases e4
  exact e2
theorem pe_defP {n : Nat} {x : Str} {ps : List Str} {sp : Sp} {e : Expr} {es : List Expr} {t : TA} {p pos : Pos} (D : DefD P w K mg base n x ps sp) (hr : Room n (cxOf (CXd P w) P w K mg base N qual scope f cd A outer s H E).A) (hg : Gl (cxOf (CXd P w) P w K mg base N qual scope f cd A outer s H E) x) (ha : PA (cxOf (CXd P w) P w K mg base N qual scope f cd A outer s H E) (e :: es) t)
    (hdb : (x == ("__debug__" : Str)) = false := by decide) (he : starEach (e :: es) (envOfC qual scope s.heap.objs.size f cd) = (false, eval e (envOfC qual scope s.heap.objs.size f cd)) :: starEach es (envOfC qual scope s.heap.objs.size f cd) := by rfl) (hpl : (backTo pos (starEach es (envOfC qual scope s.heap.objs.size f cd))).any (·.1) = false := by rfl) :
    PE (cxOf (CXd P w) P w K mg base N qual scope f cd A outer s H E) (.Call (.Name x p) (e :: es) [] pos) (tCall sp [] E t) := by
  obtain ⟨g, fd, F, b, kp, m⟩ := D.ex
  exact pe_call F hr hg m kp b .nil pass_on ha hdb he hpl
end
/-! ### e.f of an exception that was caught -/
theorem x_get {prog : Program} {w : World} {A : Around} {E : Value → Shared → Prop} {s : Shared} {K : Frag} {x C dx : Addr} {mA : Str → Option Value} {name : Str} {v : Value} {expr : Bool} {Q : Value → Shared → Prop} (X : K.In s.heap) (c : XFld K C) (g : XGot x C (some dx) s.heap) (n : s.heap.Ns1 dx mA) (ha : NoAttr K C name) (hv : mA name = some v) (hh : handedIn v = true) (h : Q v { s with toks := s.toks + 1 }) :
    wpAny (model prog w) A (getAttr (.ref x) name expr) Q E s := by
  obtain ⟨ox, vs, hx, hcl, hdx, hdt⟩ := g
  obtain ⟨od, ho, hl⟩ := lookIn_ns n
  have I : W.InstAt s.heap x ox C (some od) := ⟨hx, hcl, by unfold notCls; rw [hdt], by rw [hdx]; exact ho⟩
  obtain ⟨cd, hc, _, hdd⟩ := c.ex
  have hf : findObj K C (some od) name = some (.value v) := findObj_own (by unfold hasDictIn; rw [hc]; exact hdd) (show findIn K (.ref C) name = some none from ha) rfl (by rw [hl, hv])
  obtain ⟨hh', g, d, t, os⟩ := s
  have L0 := I.type (M := model prog w)
  have L1 := looks_findIn (M := model prog w) X c.ec.ga
  have L2 := looks_findIn (M := model prog w) X c.ec.gt
  have LB := looks_mroIn (M := model prog w) X c.ec.hb
  have L3 := looks_find (M := model prog w) X I hf
  unfold getAttr getAttrBy
  refine wpAny_bind (wpAny_mkText (wpAny_holding (wpAny_bind (L0.at (wpAny_bind (L1.at ?_))))))
  show wpAny _ _ (getAttrByItsOwn (.ref x) _ (.ref C) (.builtin "BaseException.__getattribute__") _ _) _ _ _
  unfold getAttrByItsOwn
  show wpAny _ _ (typeLookup (.ref C) "__getattr__" >>= _) _ _ _
  refine wpAny_bind (L2.at ?_)
  refine wpAny_bind (wpAny_attempt (wpAny_holding ?_))
  have FB := (F.attrBase_ValueError).ga
  have kd : builtinKind "BaseException.__getattribute__" = some .slot := by decide +kernel
  have spl : splitId "BaseException.__getattribute__" = some ("BaseException", "__getattribute__") := by decide +kernel
  have ar := F.args_bexc_ga (.ref x) (.str name t)
  rw [show callGetattribute (.ref x) (.str name t) (.builtin "BaseException.__getattribute__") expr = boundAndCalled (.builtin "BaseException.__getattribute__") (.ref x) (.str name t) by unfold callGetattribute; cases expr <;> rfl]
  unfold boundAndCalled
  refine wpAny_bind (wpAny_of_eq (FB.bind (.ref x)) ?_)
  show wpAny _ _ (call (.builtin "BaseException.__getattribute__") [.ref x, _]) _ _ _
  refine wpAny_call (codeAny_call_builtin FB.plain F.entry_bexc_ga ?_)
  simp only [checkBuiltinCall, kd, spl]
  unfold isInstance
  refine wpAny_bind (wpAny_bind (L0.at (LB.at ?_)))
  rw [if_neg (by decide)]
  refine wpAny_of_eq ar ?_
  unfold Builtin.«object.__getattribute__»
  refine wpAny_bind (wpAny_pure (wpAny_bind (wpAny_pure (wpAny_bind (L0.at (wpAny_bind (L3.at ?_)))))))
  refine wpAny_pure ?_
  exact handed_on hh h
section
variable {X : Cx}
noncomputable def tFldG (K : Frag) (ta : TE) (f : Str) : TE := fun σ H Q => ta σ H fun x H1 => ∃ a C d fs v, x = .ref a ∧ H1 a = some (.ext (XGot a C (some d))) ∧ H1 d = some (.ext (XDict d fs)) ∧ XFld K C ∧ NoAttr K C f ∧ fs.lookup f = some v ∧ Q v H1
theorem pe_fldGK {K : Frag} {e : Expr} {f : Str} {pos : Pos} {ta : TE} (eK : X.K = K) (he : PE X e ta) (hb : attributeBase e f X.env (eval e X.env) = eval e X.env) : PE X (.Attribute e f pos) (tFldG K ta f) := by
  subst eK
  intro pins s σ H Q I h
  refine attr_of hb (thn (he pins s σ H _ I h) fun u s1 zz => ?_)
  obtain ⟨x, H1, I1, rx, a, C, d, fs, v, ex, ea, ed, c, n, l, q⟩ := zz
  subst ex
  cases (show u = Value.ref a from rx)
  obtain ⟨mA, nsd, r, _, _⟩ := (show ObjOk X.prog X.w H1 s1.heap d (.ext (XDict d fs)) from I1.hok d _ ed).1
  obtain ⟨u, hu, ru⟩ := RelO.some_of (v := v) (o := mA f) (by rw [← l]; exact r f)
  exact x_get I1.kIn c (show ObjOk X.prog X.w H1 s1.heap a (.ext (XGot a C (some d))) from I1.hok a _ ea).1 nsd n hu (handed_of ru) ⟨v, H1, I1.tok _, ru, q⟩
/-! ### isinstance(such an exception, c) -/
theorem call_isiGK {K : Frag} (eK : X.K = K) : CallR X (.builtin "isinstance") (fun xs H Q => ∃ (ea : Addr) (c : V) (cv : Value) (C : Addr) (dc : Option Addr) (k : Bool), xs = [.ref ea, c] ∧ (∀ u, RelV c u → u = cv) ∧ H ea = some (.ext (XGot ea C dc)) ∧ ExcCls K C ∧ kitOne K (.ref C) cv = some k ∧ Q (.bl k) H) := by
  subst eK
  intro pins s σ H xs us Q I r h
  obtain ⟨ea, c, cv, C, dc, k, rfl, hc, he, ec, kt, q⟩ := h
  obtain ⟨u, w', rfl, r1, r2⟩ := vals2 r
  have e := hc _ r2
  subst e
  cases (show u = Value.ref ea from r1)
  obtain ⟨p, _, _⟩ := (show ObjOk X.prog X.w H s.heap ea (.ext (XGot ea C dc)) from I.hok ea _ he)
  exact kia_one (kitx_exc ec) I.kIn p.of kt (fun z => nomatch z) fun tk => ⟨.bl k, H, I.tok tk, rfl, q⟩
theorem call_isiG : CallR X (.builtin "isinstance") (fun xs H Q => ∃ (ea : Addr) (c : V) (cv : Value) (C : Addr) (dc : Option Addr) (k : Bool), xs = [.ref ea, c] ∧ (∀ u, RelV c u → u = cv) ∧ H ea = some (.ext (XGot ea C dc)) ∧ ExcCls X.K C ∧ kitOne X.K (.ref C) cv = some k ∧ Q (.bl k) H) := call_isiGK rfl
end
/-! ### try: z = f(..) except Y as n: suite -/
end L2


set_option Elab.async false
set_option linter.all false
set_option maxRecDepth 100000
set_option maxHeartbeats 4000000
namespace L2
open PySem PySem.Spec PySem.Calls PyProof.Rows PySem.W
/-! ### a function of the text, by its address -/
structure FunE (K : Frag) (x qual : Str) (st : Stmt) (f : Addr) : Prop where
  ex : ∃ fd : FuncData, Fun K x qual st f fd
theorem funE_mk {K : Frag} {x qual : Str} {st : Stmt} {f : Addr} {oc kV doc pm cdv ct : Value} {od an : Option Addr} {osl : Array (Option Value)} (l : K.lookup f = some ⟨oc, od, .func (fnOf x qual (defArgs st) (defBody st) (defScope st) .none kV doc pm an cdv ct), osl⟩)
    (c : codeIn K cdv qual = true) (k : keepIn K (.ref f) = true) : FunE K x qual st f := ⟨⟨_, fun_mk l c k⟩⟩
/-- the class's own facts in one -/
noncomputable def xfldIn (K : Frag) (C : Addr) : Bool := (clsIn K C).any fun cd => overV cd.mro && cd.hasDict
theorem xfld_mk {K : Frag} {C : Addr} (a : xfldIn K C = true) (s : findIn K (.ref C) "__setattr__" = some (some (.builtin "object.__setattr__"))) (e : ExcCls K C) : XFld K C := by
  refine ⟨?_, s, e⟩
  unfold xfldIn at a
  cases h : clsIn K C with
  | none => rw [h] at a; cases a
  | some cd =>
    rw [h] at a
    have z : (overV cd.mro && cd.hasDict) = true := a
    exact ⟨cd, rfl, (Bool.and_eq_true_iff.mp z).1, (Bool.and_eq_true_iff.mp z).2⟩
/-! ### an exception with the fields word and at, or at alone -/
/-- what an __init__ that puts fields leaves: the exception, its dict with the fields -/
noncomputable def Put (a C d : Addr) (fs : List (Str × V)) (H H' : Hp) : Prop := H d = none ∧ d ≠ a ∧ H' a = some (.ext (XNew a C (some d))) ∧ H' d = some (.ext (XDict d fs)) ∧ ∀ b, b ≠ a → b ≠ d → H' b = H b
theorem Put.del {a C d : Addr} {fs : List (Str × V)} {H H' : Hp} (n : H a = none) (p : Put a C d fs (upd H a (.ext (XNew a C none))) H') : del a H' = upd H d (.ext (XDict d fs)) ∧ H d = none := by
  obtain ⟨h1, h2, h3, h4, h5⟩ := p
  rw [upd_ne h2] at h1
  refine ⟨funext fun b => ?_, h1⟩
  by_cases z : b = a
  · subst z
    rw [del_same, upd_ne (Ne.symm h2)]
    exact n.symm
  · rw [del_ne z]
    by_cases y : b = d
    · subst y
      rw [upd_same]
      exact h4
    · rw [upd_ne y, h5 b z y, upd_ne z]
noncomputable def spInit1 (C : Addr) (f : Str) : Sp := fun vs H Q _ => ∃ a y, vs = [.ref a, y] ∧ H a = some (.ext (XNew a C none)) ∧ ∀ d H', Put a C d [(f, y)] H H' → Q .non H'
section
variable {P : Program} {w : World} {K : PySem.W.Frag} {mg : Str → Option Value} {base : Heap} {N : List Str} {qual : Str} {scope : Scope} {f : Addr} {cd : Value} {A : Around} {outer : List Env} {s : Shared} {H : Hp} {E : XK}
end
end L2


set_option Elab.async false
set_option linter.all false
set_option maxRecDepth 100000
set_option maxHeartbeats 4000000
namespace L2
open PySem PySem.Spec PySem.Calls PyProof.Rows PySem.W PySem.Builtin.Getset_descriptor
theorem ar0 {p : List Value → Prop} (h : p []) (us : List Value) (e : us.length = 0) : p us := by
  rw [List.eq_nil_of_length_eq_zero e]
  exact h
theorem arS {p : List Value → Prop} {n : Nat} (h : ∀ a us, us.length = n → p (a :: us)) (us : List Value) (e : us.length = n + 1) : p us := by
  cases us with
  | nil => exact absurd e.symm (Nat.succ_ne_zero n)
  | cons a t => exact h a t (Nat.succ.inj e)
theorem ar1 {p : List Value → Prop} (h : ∀ a, p [a]) : ∀ us : List Value, us.length = 1 → p us := arS fun a => ar0 (h a)
theorem ar2 {p : List Value → Prop} (h : ∀ a b, p [a, b]) : ∀ us : List Value, us.length = 2 → p us := arS fun a => ar1 (h a)
theorem ar3 {p : List Value → Prop} (h : ∀ a b c, p [a, b, c]) : ∀ us : List Value, us.length = 3 → p us := arS fun a => ar2 (h a)
theorem ar4 {p : List Value → Prop} (h : ∀ a b c d, p [a, b, c, d]) : ∀ us : List Value, us.length = 4 → p us := arS fun a => ar3 (h a)
theorem c3 {k : Nat} (h : k < 3) : k = 0 ∨ k = 1 ∨ k = 2 := by omega
theorem c4 {k : Nat} (h : k < 4) : k = 0 ∨ k = 1 ∨ k = 2 ∨ k = 3 := by omega
theorem c5 {k : Nat} (h : k < 5) : k = 0 ∨ k = 1 ∨ k = 2 ∨ k = 3 ∨ k = 4 := by omega
theorem c4i {k : Int} (h : 0 ≤ k) (g : k < 4) : k = 0 ∨ k = 1 ∨ k = 2 ∨ k = 3 := by omega
theorem c5i {k : Int} (h : 0 ≤ k) (g : k < 5) : k = 0 ∨ k = 1 ∨ k = 2 ∨ k = 3 ∨ k = 4 := by omega
/-- a class of exceptions with one field, by its name in the text -/
structure XC1 (P : Program) (w : World) (K : Frag) (mg : Str → Option Value) (base : Heap) (x : Str) (C : Addr) (f : Str) : Prop where
  m : mg x = some (.ref C)
  kc : keepIn K (.ref C) = true
  ex : ∃ (fI : Addr) (fd : FuncData) (ps : List Str), FnOk P w K mg base CX0 1 fI fd ps (spInit1 C f) ∧ Binds K fd ps [] ∧ excInI K C bmV "ValueError.__new__" fI = true
  fl : XFld K C
  n1 : NoAttr K C f
noncomputable def tRaise1 (C : Addr) (f : Str) (E : XK) (ta : TA) : TS := fun _ σ H => ta σ H fun vs H1 => ∃ y, vs = [y] ∧ ∀ d, H1 d = none → E (.ref C) (some d) (upd H1 d (.ext (XDict d [(f, y)])))
section
variable {P : Program} {w : World} {K : PySem.W.Frag} {mg : Str → Option Value} {base : Heap} {N : List Str} {qual : Str} {scope : Scope} {f : Addr} {cd : Value} {A : Around} {outer : List Env} {s : Shared} {H : Hp} {E : XK}
theorem ps_raise1 {C : Addr} {x f1 : Str} {e₀ : Expr} {es : List Expr} {ta : TA} {np cpos pos : Pos} (c : XC1 P w K mg base x C f1)
    (hr : Room 2 (cxOf (CXd P w) P w K mg base N qual scope f cd A outer s H E).A) (hg : Gl (cxOf (CXd P w) P w K mg base N qual scope f cd A outer s H E) x) (ha : PA (cxOf (CXd P w) P w K mg base N qual scope f cd A outer s H E) (e₀ :: es) ta)
    (hdb : (x == ("__debug__" : Str)) = false := by decide) (he : starEach (e₀ :: es) (envOfC qual scope s.heap.objs.size f cd) = (false, eval e₀ (envOfC qual scope s.heap.objs.size f cd)) :: starEach es (envOfC qual scope s.heap.objs.size f cd) := by rfl)
    (hpl : (backTo cpos (starEach es (envOfC qual scope s.heap.objs.size f cd))).any (·.1) = false := by rfl) :
    PS (cxOf (CXd P w) P w K mg base N qual scope f cd A outer s H E) (.Raise (some (.Call (.Name x np) (e₀ :: es) [] cpos)) none pos) (tRaise1 C f1 E ta) := by
  obtain ⟨fI, fd, ps, F, b, xi⟩ := c.ex
  intro pins s₁ σ H1 D I h
  refine x_raise (C := C) (bmB := bmV) (newId := "ValueError.__new__") (by decide) (I.ok.hd rfl) ?_
  refine wpAny_Call_Name_kw (ld_glob I hg c.m ?_ hdb)
  refine callWith_K (h₀ := base) I.ok.mod.kin c.kc (thn (ha cpos pins s₁ σ H1 _ I h) fun us s2 zz => ?_) he hpl
  obtain ⟨vs, H2, I2, r, y, ev, q⟩ := zz
  refine ⟨I2.kIn, ?_⟩
  subst ev
  have fr : H2 (s2.heap.objs.size + 1) = none := I2.hok.fresh (Nat.le_succ _)
  refine wpAny_mono (run_makeX0 (R := fun H3 => ∃ dc, H3 (s2.heap.objs.size + 1) = some (.ext (XNew (s2.heap.objs.size + 1) C dc)) ∧ E (.ref C) dc (del (s2.heap.objs.size + 1) H3)) F xi hr b I2 r (by show 1 ≤ 1000; decide) ⟨_, y, rfl, upd_same, fun d H3 p => ⟨rfl, some d, p.2.2.1, ?_⟩⟩) (fun v s3 t => ?_) fun _ _ t => t
  · obtain ⟨e1, e2⟩ := p.del fr
    rw [e1]
    exact q d e2
  · obtain ⟨rfl, H3, I3, dc, hx, hE⟩ := t
    have nw : s.heap.get? (s2.heap.objs.size + 1) = none := Heap.get?_none_of_le (Nat.le_trans I2.sz (Nat.le_succ _))
    exact ⟨_, dc, rfl, ⟨fI, xat_of I3.kIn xi⟩, (show ObjOk P w H3 s3.heap _ (.ext (XNew _ C dc)) from I3.hok _ _ hx).1, leaves_made I3 hx nw hE⟩
end
/-! ### try: f(..) except Y as n: suite -/
noncomputable def tTryH (K : Frag) (j : Nat) (Dc : Addr) (sp : Sp) (ta : TA) (ts : TS) : TS := fun D σ H => ta σ H fun vs H1 => sp vs H1 (fun _ H2 => D.nx σ H2) fun C dc H2 => ∃ Cn, C = .ref Cn ∧ mroIn K Cn (.ref Dc) = some true ∧
  ∀ ea, H2 ea = none → ts { nx := fun σ' H3 => D.nx (σ'.set j none) H3, rt := D.rt, bk := fun σ' H3 => D.bk (σ'.set j none) H3, ct := fun σ' H3 => D.ct (σ'.set j none) H3 } (σ.set j (some (.ref ea))) (upd H2 ea (.ext (XGot ea Cn dc)))
theorem ps_tryH {X : Cx} {m j : Nat} {x y n : Str} {ps : List Str} {sp : Sp} {e : Expr} {es : List Expr} {ta : TA} {ts : TS} {p pos pos' np hpos tpos : Pos} {b₀ : Stmt} {suite : List Stmt} {Dc : Addr}
    (hxe : X.xe = fun _ _ => False) (hstk : X.stack = X.env :: X.outer) (hfr : X.env.frame = some X.env.locals) (hex : X.ex = [])
    (Df : DefD X.prog X.w X.K X.mg X.base m x ps sp) (hr : Room m X.A) (hg : Gl X x) (ha : PA X (e :: es) ta) (hgy : Gl X y) (hmy : X.mg y = some (.ref Dc)) (cc : CatchCls X.K Dc)
    (hN : X.N.Nodup) (hj : X.N[j]? = some n) (hl : X.env.scope.names.lookup n = some .local) (hs : ∀ ea, PSs (X.mark ea) (b₀ :: suite) ts)
    (hdb : (x == ("__debug__" : Str)) = false := by decide) (hdy : (y == ("__debug__" : Str)) = false := by decide) (he : starEach (e :: es) X.env = (false, eval e X.env) :: starEach es X.env := by rfl)
    (hpl : (backTo pos (starEach es X.env)).any (·.1) = false := by rfl) (hsw : swapsWith (.Call (.Name x p) (e :: es) [] pos) none pos'.line X.env = pure false := by rfl) :
    PS X (.Try [.Expr (.Call (.Name x p) (e :: es) [] pos) pos'] [.ExceptHandler (some (.Name y np)) (some n) (b₀ :: suite) hpos] [] [] tpos) (tTryH X.K j Dc sp ta ts) := by
  intro pins s σ H D I h
  obtain ⟨f, fd, F, b, kp, mf⟩ := Df.ex
  refine wpAny_Try_except (wpAny_execs_cons (wpAny_Expr_any ?_ I.quiet hsw))
  refine wpAny_Call_Name_kw (ld_glob I hg mf ?_ hdb)
  refine callWith_K (h₀ := X.base) I.ok.mod.kin kp (wpAny_mono (ha pos pins s σ H _ I h) (fun us s1 z => ?_) (fun _ _ z => by rw [hxe] at z; exact z.elim)) he hpl
  obtain ⟨vs, H1, I1, r, q⟩ := z
  refine ⟨I1.kIn, ?_⟩
  have hlen : us.length = ps.length := by rw [← r.length]; exact F.len _ _ _ _ q
  have bnd : BindsTo s1 fd ⟨us, []⟩ (ps.zip us) := by
    have z := b s1 us I1.kIn (by rw [List.append_nil]; exact hlen)
    rw [List.append_nil] at z
    exact z
  refine wpAny_call (codeAny_mono (F.run X.A X.stack s1 H1 ⟨us, []⟩ us vs _ _ hr I1.env0 bnd r q) fun res s' hq => ?_)
  cases res with
  | ok fl =>
    cases fl with
    | ret u =>
      obtain ⟨v, H2, I2, rv, q2⟩ := I1.after hq
      exact wpAny_execs_nil (wpAny_execs_nil ⟨σ, H2, I2, q2⟩)
    | next => exact False.elim hq
    | brk => exact False.elim hq
    | cont => exact False.elim hq
  | error ex =>
    obtain ⟨ea, C, dc, H2, rfl, ⟨B, ho, hgn, un, hok, fl, h0, h1, cov⟩, Cn, rfl, hm, q3⟩ := hq
    have hfrm : X.A.frames = some (X.env :: X.outer) := by rw [← hstk]; exact I.ok.frames
    rw [hstk] at fl
    refine looked (L := X.env.locals) hfrm hfr fl fun h4 held up4 => ?_
    refine landed (s := { s' with heap := h4 }) held fun h5 fl5 up5' => ?_
    have up5 := up4.trans up5'
    have I5 : Inv X pins σ H2 { s' with heap := h5 } := I1.caught (C := .ref Cn) (ea := ea) (t := ea) (tk := s'.toks) ho hgn un hok cov fl5.1 up5
    refine wpAny_handleBy_cons (codeAny_handlers_test (ld_glob (X := X.mark ea) (I5.mark ea) hgy hmy ?_ hdy)) (by intro z; cases z)
    refine exc_matches (K := X.K) I5.kIn fl5.got.of cc hm ?_
    show codeAny _ _ (.handlers (.ref ea) [.ExceptHandler none (some n) (b₀ :: suite) hpos] X.env) _ _
    refine codeAny_handlers_suite_as ?_
    refine landed (s := { s' with heap := h5 }) fl5 fun h6 fl6 up6 => ?_
    have I6 : Inv X pins σ H2 { s' with heap := h6 } := I1.caught (C := .ref Cn) (ea := ea) (t := ea) (tk := s'.toks) ho hgn un hok cov fl6.1 (up5.trans up6)
    have new : X.s₀.heap.get? ea = none := by
      cases z : X.s₀.heap.get? ea with
      | none => rfl
      | some o => obtain ⟨o', e'⟩ := I1.base.there ea o z (by rw [hex]; simp); rw [h1] at e'; cases e'
    have nl : ea ≠ X.env.locals := fun z => by
      obtain ⟨mm, ⟨o, _, _, g, _⟩, _⟩ := I1.loc
      rw [← z, h1] at g; cases g
    have nc : ∀ z c, X.env.cells.lookup z = some c → c ≠ ea := fun z c k q => by
      obtain ⟨v, o, g, _⟩ := I1.cell z c k
      rw [q, h1] at g; cases g
    have np' : ∀ z ∈ X.pn ++ pins, z.1 ≠ ea := fun z hz q => by
      obtain ⟨g, _⟩ := I1.pin z hz
      rw [q, h1] at g; cases g
    have I7 := I6.track (a := ea) (φ := XGot ea Cn dc) h0 new nl nc np' fl6.got (let ⟨o, _, z, _⟩ := fl6.got; ⟨o, z⟩) fun _ _ z k => z.stay k
    refine store_ok (X := X.mark ea) (I7.mark ea) hN hj (.inl hl) (v := .ref ea) rfl (fun s7 I8 => ?_) (.inr hl)
    refine wpAny_mono (hs ea pins s7 _ _ _ I8 (q3 ea h0)) (fun fl8 s8 q8 => ?_) (fun ee ss z => by
      have z' : X.xe ee ss := z
      rw [hxe] at z'
      exact z'.elim)
    have hcls : (X.env.scope.kind == .class || (X.env.scope.kind == .module && X.env.locals != X.env.globals)) = false := by rw [I.ok.kind]; rfl
    cases fl8 with
    | next =>
      obtain ⟨σ8, H8, J, n8⟩ := q8
      have J' := J.unmark I.ok
      obtain ⟨mm, hn, _⟩ := id J'.loc
      exact wpAny_nameGoes_keeps hl hn hcls fun h9 v9 hn9 hs9 => ⟨_, H8, J'.unname hN hj hn hn9 hs9, n8⟩
    | brk =>
      obtain ⟨σ8, H8, J, n8⟩ := q8
      have J' := J.unmark I.ok
      obtain ⟨mm, hn, _⟩ := id J'.loc
      exact wpAny_nameGoes_keeps hl hn hcls fun h9 v9 hn9 hs9 => ⟨_, H8, J'.unname hN hj hn hn9 hs9, n8⟩
    | cont =>
      obtain ⟨σ8, H8, J, n8⟩ := q8
      have J' := J.unmark I.ok
      obtain ⟨mm, hn, _⟩ := id J'.loc
      exact wpAny_nameGoes_keeps hl hn hcls fun h9 v9 hn9 hs9 => ⟨_, H8, J'.unname hN hj hn hn9 hs9, n8⟩
    | ret u =>
      obtain ⟨v, σ8, H8, J, rv, n8⟩ := q8
      have J' := J.unmark I.ok
      obtain ⟨mm, hn, _⟩ := id J'.loc
      exact wpAny_nameGoes_keeps hl hn hcls fun h9 v9 hn9 hs9 => ⟨v, _, H8, J'.unname hN hj hn hn9 hs9, rv, n8⟩
end L2


set_option Elab.async false
set_option linter.all false
set_option maxRecDepth 100000
set_option maxHeartbeats 4000000

namespace Mine
open PySem L2
noncomputable def top (i : Nat) : Stmt := PySem.Challenge.pw_leansay_k43_rules_on_hulls.main.body.getD i (.Pass ⟨0, 0, 0, 0⟩)
noncomputable abbrev s_NoRows_init : Stmt := inClass (top 2) 0
noncomputable abbrev n_NoRows_init : List Str := ["self", "at"]
theorem sc_NoRows_init : FnScope n_NoRows_init ["self", "at"] (defScope s_NoRows_init) := ⟨rfl, rfl, rfl, by decide +kernel, rfl, by decide +kernel, by decide +kernel⟩
noncomputable abbrev s_told_by : Stmt := top 5
noncomputable abbrev n_told_by : List Str := ["rule", "point"]
theorem sc_told_by : FnScope n_told_by ["rule", "point"] (defScope s_told_by) := ⟨rfl, rfl, rfl, by decide +kernel, rfl, by decide +kernel, by decide +kernel⟩
noncomputable abbrev s_told_in_corners : Stmt := top 6
noncomputable abbrev n_told_in_corners : List Str := ["rule", "hull"]
theorem sc_told_in_corners : FnScope n_told_in_corners ["rule", "hull"] (defScope s_told_in_corners) := ⟨rfl, rfl, rfl, by decide +kernel, rfl, by decide +kernel, by decide +kernel⟩
noncomputable abbrev s_is_whole : Stmt := top 8
noncomputable abbrev n_is_whole : List Str := ["thing"]
theorem sc_is_whole : FnScope n_is_whole ["thing"] (defScope s_is_whole) := ⟨rfl, rfl, rfl, by decide +kernel, rfl, by decide +kernel, by decide +kernel⟩
noncomputable abbrev s_how_many_it_takes : Stmt := top 11
noncomputable abbrev n_how_many_it_takes : List Str := ["word"]
theorem sc_how_many_it_takes : FnScope n_how_many_it_takes ["word"] (defScope s_how_many_it_takes) := ⟨rfl, rfl, rfl, by decide +kernel, rfl, by decide +kernel, by decide +kernel⟩
noncomputable abbrev s_is_place_ahead : Stmt := top 14
noncomputable abbrev n_is_place_ahead : List Str := ["thing", "place"]
theorem sc_is_place_ahead : FnScope n_is_place_ahead ["thing", "place"] (defScope s_is_place_ahead) := ⟨rfl, rfl, rfl, by decide +kernel, rfl, by decide +kernel, by decide +kernel⟩
noncomputable abbrev s_is_row : Stmt := top 15
noncomputable abbrev n_is_row : List Str := ["thing", "place"]
theorem sc_is_row : FnScope n_is_row ["thing", "place"] (defScope s_is_row) := ⟨rfl, rfl, rfl, by decide +kernel, rfl, by decide +kernel, by decide +kernel⟩
noncomputable abbrev s_rows_fault : Stmt := top 16
noncomputable abbrev n_rows_fault : List Str := ["things", "place", "thing"]
theorem sc_rows_fault : FnScope n_rows_fault ["things"] (defScope s_rows_fault) := ⟨rfl, rfl, rfl, by decide +kernel, rfl, by decide +kernel, by decide +kernel⟩
noncomputable abbrev s_must_be_rows : Stmt := top 17
noncomputable abbrev n_must_be_rows : List Str := ["things", "at"]
theorem sc_must_be_rows : FnScope n_must_be_rows ["things"] (defScope s_must_be_rows) := ⟨rfl, rfl, rfl, by decide +kernel, rfl, by decide +kernel, by decide +kernel⟩
noncomputable abbrev s_both : Stmt := top 23
noncomputable abbrev n_both : List Str := ["one", "other"]
theorem sc_both : FnScope n_both ["one", "other"] (defScope s_both) := ⟨rfl, rfl, rfl, by decide +kernel, rfl, by decide +kernel, by decide +kernel⟩
noncomputable abbrev s_without : Stmt := top 24
noncomputable abbrev n_without : List Str := ["one", "other"]
theorem sc_without : FnScope n_without ["one", "other"] (defScope s_without) := ⟨rfl, rfl, rfl, by decide +kernel, rfl, by decide +kernel, by decide +kernel⟩
noncomputable abbrev s_leaf_rule : Stmt := top 25
noncomputable abbrev n_leaf_rule : List Str := ["word"]
theorem sc_leaf_rule : FnScope n_leaf_rule ["word"] (defScope s_leaf_rule) := ⟨rfl, rfl, rfl, by decide +kernel, rfl, by decide +kernel, by decide +kernel⟩
noncomputable abbrev s_fold_choice : Stmt := top 26
noncomputable abbrev n_fold_choice : List Str := ["word", "one", "other"]
theorem sc_fold_choice : FnScope n_fold_choice ["word", "one", "other"] (defScope s_fold_choice) := ⟨rfl, rfl, rfl, by decide +kernel, rfl, by decide +kernel, by decide +kernel⟩
noncomputable abbrev s_choice_of : Stmt := top 27
noncomputable abbrev n_choice_of : List Str := ["row", "rules", "rule"]
theorem sc_choice_of : FnScope n_choice_of ["row", "rules"] (defScope s_choice_of) := ⟨rfl, rfl, rfl, by decide +kernel, rfl, by decide +kernel, by decide +kernel⟩
noncomputable abbrev s_chosen_on : Stmt := top 28
noncomputable abbrev n_chosen_on : List Str := ["hull", "choice", "told"]
theorem sc_chosen_on : FnScope n_chosen_on ["hull", "choice"] (defScope s_chosen_on) := ⟨rfl, rfl, rfl, by decide +kernel, rfl, by decide +kernel, by decide +kernel⟩
noncomputable abbrev s_rules_of_rows : Stmt := top 29
noncomputable abbrev n_rules_of_rows : List Str := ["rows", "hull", "rules", "k", "row", "choice", "rule"]
theorem sc_rules_of_rows : FnScope n_rules_of_rows ["rows", "hull"] (defScope s_rules_of_rows) := ⟨rfl, rfl, rfl, by decide +kernel, rfl, by decide +kernel, by decide +kernel⟩
noncomputable abbrev s_rules_on : Stmt := top 30
noncomputable abbrev n_rules_on : List Str := ["rows", "hull"]
theorem sc_rules_on : FnScope n_rules_on ["rows", "hull"] (defScope s_rules_on) := ⟨rfl, rfl, rfl, by decide +kernel, rfl, by decide +kernel, by decide +kernel⟩
noncomputable abbrev s_l_cell_at : Stmt := top 32
noncomputable abbrev n_l_cell_at : List Str := ["_law_script", "_law_k"]
theorem sc_l_cell_at : FnScope n_l_cell_at ["_law_script", "_law_k"] (defScope s_l_cell_at) := ⟨rfl, rfl, rfl, by decide +kernel, rfl, by decide +kernel, by decide +kernel⟩
noncomputable abbrev s_l_drawn : Stmt := top 33
noncomputable abbrev n_l_drawn : List Str := ["_law_script", "_law_k", "_law_cell", "_law_found"]
theorem sc_l_drawn : FnScope n_l_drawn ["_law_script", "_law_k"] (defScope s_l_drawn) := ⟨rfl, rfl, rfl, by decide +kernel, rfl, by decide +kernel, by decide +kernel⟩
noncomputable abbrev s_l_whole : Stmt := top 34
noncomputable abbrev n_l_whole : List Str := ["_law_found"]
theorem sc_l_whole : FnScope n_l_whole ["_law_found"] (defScope s_l_whole) := ⟨rfl, rfl, rfl, by decide +kernel, rfl, by decide +kernel, by decide +kernel⟩
noncomputable abbrev s_l_three : Stmt := top 35
noncomputable abbrev n_l_three : List Str := ["_law_found"]
theorem sc_l_three : FnScope n_l_three ["_law_found"] (defScope s_l_three) := ⟨rfl, rfl, rfl, by decide +kernel, rfl, by decide +kernel, by decide +kernel⟩
noncomputable abbrev s_l_tells : Stmt := top 36
noncomputable abbrev n_l_tells : List Str := ["_law_rule", "_law_corner"]
theorem sc_l_tells : FnScope n_l_tells ["_law_rule", "_law_corner"] (defScope s_l_tells) := ⟨rfl, rfl, rfl, by decide +kernel, rfl, by decide +kernel, by decide +kernel⟩
noncomputable abbrev s_l_part : Stmt := top 37
noncomputable abbrev n_l_part : List Str := ["_law_one", "_law_other", "_law_rest"]
theorem sc_l_part : FnScope n_l_part ["_law_one", "_law_other"] (defScope s_l_part) := ⟨rfl, rfl, rfl, by decide +kernel, rfl, by decide +kernel, by decide +kernel⟩
noncomputable abbrev s_l_between : Stmt := top 38
noncomputable abbrev n_l_between : List Str := ["_law_one", "_law_other", "_law_near", "_law_far", "_law_found", "_law_part_here"]
theorem sc_l_between : FnScope n_l_between ["_law_one", "_law_other", "_law_near", "_law_far"] (defScope s_l_between) := ⟨rfl, rfl, rfl, by decide +kernel, rfl, by decide +kernel, by decide +kernel⟩
noncomputable abbrev s_l_cut : Stmt := top 39
noncomputable abbrev n_l_cut : List Str := ["_law_hull_here", "_law_rule", "_law_tells_here", "_law_parts", "_law_k", "_law_corner", "_law_after", "_law_middle_here"]
theorem sc_l_cut : FnScope n_l_cut ["_law_hull_here", "_law_rule"] (defScope s_l_cut) := ⟨rfl, rfl, rfl, by decide +kernel, rfl, by decide +kernel, by decide +kernel⟩
noncomputable abbrev s_l_rule_by : Stmt := top 40
noncomputable abbrev n_l_rule_by : List Str := ["_law_cell"]
theorem sc_l_rule_by : FnScope n_l_rule_by ["_law_cell"] (defScope s_l_rule_by) := ⟨rfl, rfl, rfl, by decide +kernel, rfl, by decide +kernel, by decide +kernel⟩
noncomputable abbrev s_l_square : Stmt := top 41
noncomputable abbrev n_l_square : List Str := []
theorem sc_l_square : FnScope n_l_square [] (defScope s_l_square) := ⟨rfl, rfl, rfl, by decide +kernel, rfl, by decide +kernel, by decide +kernel⟩
noncomputable abbrev s_l_hull : Stmt := top 42
noncomputable abbrev n_l_hull : List Str := ["_law_script", "_law_start", "_law_many", "_law_hull_here", "_law_k", "_law_cell", "_law_parts"]
theorem sc_l_hull : FnScope n_l_hull ["_law_script", "_law_start", "_law_many"] (defScope s_l_hull) := ⟨rfl, rfl, rfl, by decide +kernel, rfl, by decide +kernel, by decide +kernel⟩
noncomputable abbrev s_l_added : Stmt := top 43
noncomputable abbrev n_l_added : List Str := ["_law_one", "_law_other", "_law_sign"]
theorem sc_l_added : FnScope n_l_added ["_law_one", "_law_other", "_law_sign"] (defScope s_l_added) := ⟨rfl, rfl, rfl, by decide +kernel, rfl, by decide +kernel, by decide +kernel⟩
noncomputable abbrev s_l_fold : Stmt := top 44
noncomputable abbrev n_l_fold : List Str := ["_law_word", "_law_one", "_law_other", "_law_full", "_law_both", "_law_test"]
theorem sc_l_fold : FnScope n_l_fold ["_law_word", "_law_one", "_law_other"] (defScope s_l_fold) := ⟨rfl, rfl, rfl, by decide +kernel, rfl, by decide +kernel, by decide +kernel⟩
noncomputable abbrev s_l_rules : Stmt := top 45
noncomputable abbrev n_l_rules : List Str := ["_law_rows", "_law_hull_here", "_law_found", "_law_k", "_law_row", "_law_test", "_law_low", "_law_high", "_law_tells_here"]
theorem sc_l_rules : FnScope n_l_rules ["_law_rows", "_law_hull_here"] (defScope s_l_rules) := ⟨rfl, rfl, rfl, by decide +kernel, rfl, by decide +kernel, by decide +kernel⟩
noncomputable abbrev s_l_folded : Stmt := top 46
noncomputable abbrev n_l_folded : List Str := ["_law_word", "_law_n", "_law_x", "_law_y"]
theorem sc_l_folded : FnScope n_l_folded ["_law_word", "_law_n", "_law_x", "_law_y"] (defScope s_l_folded) := ⟨rfl, rfl, rfl, by decide +kernel, rfl, by decide +kernel, by decide +kernel⟩
noncomputable abbrev s_l_worths : Stmt := top 47
noncomputable abbrev n_l_worths : List Str := ["_law_rows", "_law_point", "_law_n", "_law_x", "_law_y", "_law_found", "_law_row"]
theorem sc_l_worths : FnScope n_l_worths ["_law_rows", "_law_point"] (defScope s_l_worths) := ⟨rfl, rfl, rfl, by decide +kernel, rfl, by decide +kernel, by decide +kernel⟩
noncomputable abbrev s_l_middle : Stmt := top 48
noncomputable abbrev n_l_middle : List Str := ["_law_corners"]
theorem sc_l_middle : FnScope n_l_middle ["_law_corners"] (defScope s_l_middle) := ⟨rfl, rfl, rfl, by decide +kernel, rfl, by decide +kernel, by decide +kernel⟩
noncomputable abbrev s_l_row_list : Stmt := top 49
noncomputable abbrev n_l_row_list : List Str := ["_law_script", "_law_start", "_law_many", "_law_rows", "_law_k", "_law_cell", "_law_first", "_law_second"]
theorem sc_l_row_list : FnScope n_l_row_list ["_law_script", "_law_start", "_law_many"] (defScope s_l_row_list) := ⟨rfl, rfl, rfl, by decide +kernel, rfl, by decide +kernel, by decide +kernel⟩
noncomputable abbrev s_l_refused : Stmt := top 50
noncomputable abbrev n_l_refused : List Str := ["_law_rows", "_law_hull_here", "_law_caught", "e"]
theorem sc_l_refused : FnScope n_l_refused ["_law_rows", "_law_hull_here"] (defScope s_l_refused) := ⟨rfl, rfl, rfl, by decide +kernel, rfl, by decide +kernel, by decide +kernel⟩
noncomputable abbrev s_l_worths_right : Stmt := top 51
noncomputable abbrev n_l_worths_right : List Str := ["_law_rows", "_law_hull_here", "_law_rules_here", "_law_points", "_law_k", "_law_point"]
theorem sc_l_worths_right : FnScope n_l_worths_right ["_law_rows", "_law_hull_here", "_law_rules_here"] (defScope s_l_worths_right) := ⟨rfl, rfl, rfl, by decide +kernel, rfl, by decide +kernel, by decide +kernel⟩
noncomputable abbrev s_law : Stmt := top 52
noncomputable abbrev n_law : List Str := ["_law_script", "_law_cell", "_law_hull_here", "_law_rows", "_law_handed", "_law_many", "_law_some", "_law_due", "_law_found"]
theorem sc_law : FnScope n_law ["_law_script"] (defScope s_law) := ⟨rfl, rfl, rfl, by decide +kernel, rfl, by decide +kernel, by decide +kernel⟩
end Mine

namespace Mine
open PySem L2
/-! ### triples, big numbers -/
noncomputable def t3D (p : T3) : PyData := .tuple [.int p.u, .int p.v, .int p.w]
section
variable {K : PySem.W.Frag} {H H' : Hp} {a : Addr} {v : V} {p : T3}
theorem t3_mk (g : SqT K H a [.int p.u, .int p.v, .int p.w]) : Dat K H (t3D p) (.ref a) := ⟨a, _, rfl, g, _, _, rfl, rfl, _, _, rfl, rfl, _, _, rfl, rfl, rfl⟩
theorem t3_el (g : Dat K H (t3D p) v) : ∃ a, v = .ref a ∧ SqT K H a [.int p.u, .int p.v, .int p.w] := by
  obtain ⟨a, xs, rfl, g, x, r, rfl, hx, y, t, rfl, hy, z, u, rfl, hz, hu⟩ := g
  cases (show x = V.int p.u from hx)
  cases (show y = V.int p.v from hy)
  cases (show z = V.int p.w from hz)
  cases (show u = [] from hu)
  exact ⟨a, rfl, g⟩
theorem t3_at {xs : List V} {h : List T3} (g : DatAll K H (h.map t3D) xs) {i : Nat} (e : h[i]? = some p) : ∃ x, xs[i]? = some x ∧ Dat K H (t3D p) x := g.get (by rw [List.getElem?_map, e]; rfl)
theorem t3_at' {xs : List V} {h : List T3} (g : DatAll K H (h.map t3D) xs) {i : Nat} {x : V} (e : xs[i]? = some x) : ∃ p, h[i]? = some p ∧ Dat K H (t3D p) x := by
  obtain ⟨d, e1, e2⟩ := g.get' e
  rw [List.getElem?_map] at e1
  cases z : h[i]? with
  | none => rw [z] at e1; cases e1
  | some s => rw [z] at e1; cases e1; exact ⟨s, rfl, e2⟩
theorem t3_len {xs : List V} {h : List T3} (g : DatAll K H (h.map t3D) xs) : xs.length = h.length := by rw [g.len, List.length_map]
end
theorem t3_lay (p : T3) : (t3D p).canLay0 = true := by simp [t3D, PyData.canLay0, PyData.canLayAll0]
theorem t3_depth (p : T3) : (t3D p).depth = 1 := by simp [t3D, PyData.depth, PyData.depthAll]
noncomputable def huD (h : List T3) : PyData := .list (h.map t3D)
theorem hu_lay (h : List T3) : (huD h).canLay0 = true := by simp only [huD, PyData.canLay0]; exact lay_map t3_lay h
theorem hu_depth (h : List T3) : (huD h).depth ≤ 2 := by
  have := depth_map (f := t3D) (n := 1) (fun s => by rw [t3_depth]; exact Nat.le_refl _) h
  simp only [huD, PyData.depth]
  omega
theorem hu_shaped (h : List T3) : SeqAt.shaped (huD h) = true := by
  have := hu_depth h
  simp only [SeqAt.shaped, hu_lay, Bool.true_and]
  exact decide_eq_true (by omega)
noncomputable def Bg (x : Int) : Prop := x.natAbs < 2 ^ 8000
theorem mulB {a b : Int} (ha : Bg a) (hb : Bg b) : IntMulOk a b := IntMulOk.of_le (m := 8000) (n := 8000) (bits_of ha) (bits_of hb) (by decide)
theorem bg_of {x : Int} {n : Nat} (h : x.natAbs < 2 ^ n) (hn : n ≤ 8000) : Bg x := Nat.lt_of_lt_of_le h (Nat.pow_le_pow_right (by decide) hn)
theorem divB {t x : Int} (h0 : x ≠ 0) (h : Bg x) : CDivK t x := ⟨h0, Nat.lt_of_lt_of_le ((Nat.log2_lt (by omega)).mpr h) (by decide)⟩
/-! ### what the defs promise -/
inductive SpFactor_ (vs : List V) (H : Hp) (Q : VK) : Prop where
  | mk (a b : Int) (z_0 : vs = [.int a, .int b]) (z_1 : Q (.int (Lo.gc a b)) H) : SpFactor_  vs H Q
inductive SpPart_ (vs : List V) (H : Hp) (Q : VK) : Prop where
  | mk (a b : Int) (z_0 : vs = [.int a, .int b]) (z_1 : 0 ≤ a) (z_2 : 0 ≤ b) (z_3 : Q (.int (Lo.gc a b)) H) : SpPart_  vs H Q
noncomputable def spPart : Sp := fun vs H Q _ => SpPart_  vs H Q
inductive SpTl_ (K : PySem.W.Frag) (vs : List V) (H : Hp) (Q : VK) : Prop where
  | mk (x y : V) (r p : T3) (z_0 : vs = [x, y]) (z_1 : Dat K H (t3D r) x) (z_2 : Dat K H (t3D p) y) (z_3 : Hu.R3 3000 r) (z_4 : Hu.R3 3000 p) (z_5 : Q (.int (Hu.tl r p)) H) : SpTl_ K vs H Q
noncomputable def spTl (K : PySem.W.Frag) : Sp := fun vs H Q _ => SpTl_ K vs H Q
inductive SpTic_ (K : PySem.W.Frag) (vs : List V) (H : Hp) (Q : VK) : Prop where
  | mk (x : V) (l : Addr) (us : List V) (r : T3) (h : List T3) (z_0 : vs = [x, .ref l]) (z_1 : Dat K H (t3D r) x) (z_2 : SqL K H l us) (z_3 : DatAll K H (h.map t3D) us) (z_4 : Hu.R3 3000 r) (z_5 : (∀ p ∈ h, Hu.R3 3000 p)) (z_6 : h.length ≤ 900) (z_7 : (∀ H', Same H H' → SqL K H' l us)) (z_8 : ∀ (d : Addr) (H' : Hp), Same H H' → H d = none → H' d = some (.lst ((h.map (Hu.tl r)).map V.int)) → Q (.ref d) H') : SpTic_ K vs H Q
noncomputable def spTic (K : PySem.W.Frag) : Sp := fun vs H Q _ => SpTic_ K vs H Q
inductive SpCB_ (K : PySem.W.Frag) (vs : List V) (H : Hp) (Q : VK) : Prop where
  | mk (x y : V) (p q : T3) (s t : Int) (z_0 : vs = [x, y, .int s, .int t]) (z_1 : Dat K H (t3D p) x) (z_2 : Dat K H (t3D q) y) (z_3 : Hu.P3 600 p) (z_4 : Hu.P3 600 q) (z_5 : s * t < 0) (z_6 : s.natAbs < 2 ^ 2000) (z_7 : t.natAbs < 2 ^ 2000) (z_8 : ∀ (v : V) (H' : Hp), Same H H' → Dat K H' (t3D (Hu.mid p q s t)) v → Q v H') : SpCB_ K vs H Q
noncomputable def spCB (K : PySem.W.Frag) : Sp := fun vs H Q _ => SpCB_ K vs H Q
theorem tNoIf_go {σ : St} {H : Hp} {A B : Hp → Prop} (h : A H) : tNoIf σ H fun b H4 => if b = true then A H4 else B H4 := by
  show if true = true then A H else B H
  rw [if_pos rfl]
  exact h
section
variable {P : Program} {w : World} {K : PySem.W.Frag} {mg : Str → Option Value} {base : Heap}
theorem ok_part (T : TopDef K mg "_law_part" s_l_part) : Def P w K mg base 1 "_law_part" ["_law_one", "_law_other"] spPart := by
  refine def_of T sc_l_part (fun _ _ _ _ _ _ => ar2 fun _ _ => rfl) (fun vs H Q E h => ?_) (fun f cdv A outer s H vs Q E hr h => ?_)
  · obtain ⟨a, b, rfl, _⟩ := h
    rfl
  obtain ⟨a, b, rfl, a0, b0, q⟩ := h
  have nd := sc_l_part.nd
  refine ⟨_, (pss_cons (ps_while PassesOwn.never (pt_cmpR op_gt (pv 1) pe_int (nomark _)) (pss_cons (ps_set (i := 2) nd rfl (Or.inl rfl) (pe_op op_modN (pv 0) (pv 1)))
    (pss_cons (ps_set (i := 0) nd rfl (Or.inl rfl) (pv 1))
    (pss_one (ps_set (i := 1) nd rfl (Or.inl rfl) (pv 2))))))
    (pss_one (ps_ret (pv 0)))), ?_⟩
  refine ⟨fun m σ H' => H' = H ∧ ∃ (g l : Int) (o : Option V), σ = [some (.int g), some (.int l), o] ∧ 0 ≤ g ∧ 0 ≤ l ∧ l.toNat = m ∧ Lo.gc g l = Lo.gc a b, ⟨_, rfl, _, _, _, rfl, a0, b0, rfl, rfl⟩, ?_⟩
  rintro m σ H' ⟨rfl, g, l, o, rfl, hg, hl, rfl, e⟩
  refine ⟨_, rfl, _, _, rfl, rfl, _, rfl, ?_⟩
  refine ite2 (fun c => ?_) (fun c => ?_)
  · have c2 : 0 < l := of_decide_eq_true c
    refine ⟨fun σ' H'' => H'' = H' ∧ σ' = [some (.int l), some (.int (g.fmod l)), some (.int (g.fmod l))], ?_, ?_⟩
    · rintro σ' H'' ⟨rfl, rfl⟩
      have z0 := Int.fmod_nonneg_of_pos g c2
      have z1 := Int.fmod_lt_of_pos g c2
      exact ⟨_, (show (g.fmod l).toNat < l.toNat by omega), rfl, l, g.fmod l, _, rfl, by omega, z0, rfl, by rw [Lo.gc_turn]; exact e⟩
    · exact ⟨_, rfl, _, rfl, _, _, rfl, rfl, (by omega), _, rfl, _, rfl, rfl, rfl⟩
  · have c2 : ¬ 0 < l := fun z => c (decide_eq_true z)
    have l0 : l = 0 := by omega
    subst l0
    rw [Lo.gc_zero hg] at e
    subst e
    exact ⟨_, rfl, q⟩
theorem r3b {r : T3} (h : Hu.R3 3000 r) : Bg r.u ∧ Bg r.v ∧ Bg r.w := ⟨bg_of h.a (by decide), bg_of h.b (by decide), bg_of h.c (by decide)⟩
theorem ok_told (T : TopDef K mg "told_by" s_told_by) : Def P w K mg base 1 "told_by" ["rule", "point"] (spTl K) := by
  refine def_of T sc_told_by (fun _ _ _ _ _ _ => ar2 fun _ _ => rfl) (fun vs H Q E h => ?_) (fun f cdv A outer s H vs Q E hr h => ?_)
  · obtain ⟨x, y, r, p, rfl, _⟩ := h
    rfl
  obtain ⟨x, y, r, p, rfl, dx, dy, br, bp, q⟩ := h
  obtain ⟨ar, rfl, sr⟩ := t3_el dx
  obtain ⟨ap, rfl, st⟩ := t3_el dy
  obtain ⟨r1, r2, r3⟩ := r3b br
  obtain ⟨p1, p2, p3⟩ := r3b bp
  have nd := sc_told_by.nd
  refine ⟨_, (pss_one (ps_ret (pe_op op_add (pe_op op_add (pe_op op_mulK (pe_ix ix_tup (pv 0) pe_int (fun _ _ => rfl)) (pe_ix ix_tup (pv 1) pe_int (fun _ _ => rfl))) (pe_op op_mulK (pe_ix ix_tup (pv 0) pe_int (fun _ _ => rfl)) (pe_ix ix_tup (pv 1) pe_int (fun _ _ => rfl)))) (pe_op op_mulK (pe_ix ix_tup (pv 0) pe_int (fun _ _ => rfl)) (pe_ix ix_tup (pv 1) pe_int (fun _ _ => rfl)))))), ?_⟩
  exact ⟨_, rfl, _, _, _, _, rfl, rfl, sr, rfl, _, rfl, _, _, _, _, rfl, rfl, st, rfl, _, _, rfl, rfl, mulB r1 p2, _, rfl, _, _, _, _, rfl, rfl, sr, rfl, _, rfl, _, _, _, _, rfl, rfl, st, rfl, _, _, rfl, rfl, mulB r2 p3, _, _, rfl, rfl, _, rfl, _, _, _, _, rfl, rfl, sr, rfl, _, rfl, _, _, _, _, rfl, rfl, st, rfl, _, _, rfl, rfl, mulB r3 p1, _, _, rfl, rfl, q⟩
theorem ok_tells (T : TopDef K mg "_law_tells" s_l_tells) : Def P w K mg base 1 "_law_tells" ["_law_rule", "_law_corner"] (spTl K) := by
  refine def_of T sc_l_tells (fun _ _ _ _ _ _ => ar2 fun _ _ => rfl) (fun vs H Q E h => ?_) (fun f cdv A outer s H vs Q E hr h => ?_)
  · obtain ⟨x, y, r, p, rfl, _⟩ := h
    rfl
  obtain ⟨x, y, r, p, rfl, dx, dy, br, bp, q⟩ := h
  obtain ⟨ar, rfl, sr⟩ := t3_el dx
  obtain ⟨ap, rfl, st⟩ := t3_el dy
  obtain ⟨r1, r2, r3⟩ := r3b br
  obtain ⟨p1, p2, p3⟩ := r3b bp
  have nd := sc_l_tells.nd
  refine ⟨_, (pss_one (ps_ret (pe_op op_add (pe_op op_add (pe_op op_mulK (pe_ix ix_tup (pv 0) pe_int (fun _ _ => rfl)) (pe_ix ix_tup (pv 1) pe_int (fun _ _ => rfl))) (pe_op op_mulK (pe_ix ix_tup (pv 0) pe_int (fun _ _ => rfl)) (pe_ix ix_tup (pv 1) pe_int (fun _ _ => rfl)))) (pe_op op_mulK (pe_ix ix_tup (pv 0) pe_int (fun _ _ => rfl)) (pe_ix ix_tup (pv 1) pe_int (fun _ _ => rfl)))))), ?_⟩
  exact ⟨_, rfl, _, _, _, _, rfl, rfl, sr, rfl, _, rfl, _, _, _, _, rfl, rfl, st, rfl, _, _, rfl, rfl, mulB r1 p2, _, rfl, _, _, _, _, rfl, rfl, sr, rfl, _, rfl, _, _, _, _, rfl, rfl, st, rfl, _, _, rfl, rfl, mulB r2 p3, _, _, rfl, rfl, _, rfl, _, _, _, _, rfl, rfl, sr, rfl, _, rfl, _, _, _, _, rfl, rfl, st, rfl, _, _, rfl, rfl, mulB r3 p1, _, _, rfl, rfl, q⟩
/-- what a list of what is told of corners needs, wherever it stands -/
theorem tic_loop {H1 : Hp} {l D : Addr} {us : List V} {r : T3} {h : List T3} {te : TE} {js : List Nat} {σ : St} {R : Hp → Prop} (hl : ∀ H', Same H1 H' → SqL K H' l us) (da : DatAll K H1 (h.map t3D) us) (few : h.length ≤ 900) (hD : H1 D = none)
    (step : ∀ (v : V) (p : T3) (H' : Hp) (k : VK), Same H1 H' → p ∈ h → Dat K H' (t3D p) v → k (.int (Hu.tl r p)) H' → te (some v :: cVals js σ) H' k)
    (fin : ∀ H', Same H1 H' → H' D = some (.lst ((h.map (Hu.tl r)).map V.int)) → R H') :
    ∃ W : Nat → Nat → Hp → Prop, (∃ m, W 0 m (upd H1 D (.lst []))) ∧ ∀ i m H2, W i m H2 → ((Itl K l).stop i H2 ∧ R H2) ∨
      ((Itl K l).go i H2 ∧ ∀ v H3, (Itl K l).yld i H2 v H3 → tNoIf (some v :: cVals js σ) H3 fun b H4 => if b = true then te (some v :: cVals js σ) H4 fun y H5 =>
        ∃ ys, H5 D = some (.lst ys) ∧ ys.length < sizeLine ∧ ∃ m', m' < m ∧ W (i + 1) m' (upd H5 D (.lst (ys ++ [y]))) else ∃ m', m' < m ∧ W (i + 1) m' H4) := by
  have lu := t3_len da
  refine ⟨fun i m H2 => m = us.length - i ∧ i ≤ us.length ∧ Same H1 H2 ∧ H2 D = some (.lst (((h.take i).map (Hu.tl r)).map V.int)), ⟨_, rfl, Nat.zero_le _, same_new hD _, upd_same⟩, ?_⟩
  rintro i m H2 ⟨rfl, hi, sm, hlD⟩
  by_cases hlt : i < us.length
  · refine .inr ⟨⟨us, _, hl _ sm, List.getElem?_eq_getElem hlt⟩, fun v H3 y => ?_⟩
    obtain ⟨rfl, y⟩ := y
    obtain ⟨p, hp, dp⟩ := t3_at' (da.ts sm.ts) (y us (hl _ sm))
    refine tNoIf_go ?_
    refine step v p _ _ sm (List.mem_of_getElem? hp) dp ?_
    refine ⟨_, hlD, small1000 (by simp; omega), us.length - (i + 1), by omega, rfl, hlt, same_mut sm hD _, ?_⟩
    rw [upd_same]
    have e : h.take (i + 1) = h.take i ++ [p] := by
      obtain ⟨q1, q2⟩ := List.getElem?_eq_some_iff.mp hp
      rw [List.take_succ_eq_append_getElem q1, q2]
    rw [e, List.map_append, List.map_append]
    rfl
  · have ei : i = us.length := by omega
    subst ei
    refine .inl ⟨⟨us, hl _ sm, Nat.le_refl _⟩, fin _ sm ?_⟩
    rw [hlD, lu, List.take_length]
theorem ok_tic (T : TopDef K mg "told_in_corners" s_told_in_corners) (D_told_by : Def P w K mg base 1 "told_by" ["rule", "point"] (spTl K)) : Def P w K mg base 2 "told_in_corners" ["rule", "hull"] (spTic K) := by
  refine def_of T sc_told_in_corners (fun _ _ _ _ _ _ => ar2 fun _ _ => rfl) (fun vs H Q E h => ?_) (fun f cdv A outer s H vs Q E hr h => ?_)
  · obtain ⟨x, l, us, r, h, rfl, _⟩ := h
    rfl
  obtain ⟨x, l, us, r, h, rfl, dx, sl, da, br, bp, few, hl, k⟩ := h
  have nd := sc_told_in_corners.nd
  refine ⟨_, (pss_one (ps_ret (pe_compF rfl (pi_list (pv 1)) rfl (by decide +kernel) (by decide +kernel) rfl (show ∀ p ∈ Scope.names _, p.2 = NameKind.free → List.lookup p.1 (defScope s_told_in_corners).names = some .cell ∨ List.lookup p.1 (defScope s_told_in_corners).names = some .free by decide +kernel) (fa_cons (j := 0) rfl (Or.inl rfl) (by decide +kernel) (Or.inl rfl) fa_nil) (show (["corner", "rule"] : List Str).Nodup by decide +kernel) (fun _ _ _ _ => pif_nil) (fun _ _ _ _ => (pe_def D_told_by (hr.mono (by decide)) rfl (pa_cons (pv 1) (pa_cons (pv 0) pa_nil))))))), ?_⟩
  refine ⟨_, rfl, l, rfl, ⟨us, sl⟩, fun D hD => ?_⟩
  exact tic_loop (r := r) hl da few hD (fun v p H' kk sm hp dp q => ⟨_, rfl, _, rfl, x, v, r, p, rfl, dx.ts sm.ts, dp, br, bp p hp, q⟩) fun H' sm e => k D H' sm hD e
end
end Mine



set_option Elab.async false
set_option linter.all false
set_option maxRecDepth 100000
set_option maxHeartbeats 4000000

namespace Mine
open PySem L2
theorem pg_tupK {X : Cx} {K : PySem.W.Frag} {es : List Expr} {k : Nat} {pos : Pos} {t : TGs} {n : Nat} (e : X.K = K) (hc : X.calm = true) (h : PGs X es t)
    (hn : (assignEach es X.env).length = n := by rfl) (hst : (assignEach es X.env).findIdx? (·.1) = none := by rfl) : PG X (.Tuple es k pos) (gTup K n t) := by
  subst e
  exact pg_tup hc h hn hst
theorem len2 {o : St} (h : o.length = 2) : ∃ a b, o = [a, b] := by
  cases o with
  | nil => cases h
  | cons a o =>
    cases o with
    | nil => cases h
    | cons b o =>
      cases o with
      | nil => exact ⟨a, b, rfl⟩
      | cons _ _ => cases h
section
variable {P : Program} {w : World} {K : PySem.W.Frag} {mg : Str → Option Value} {base : Heap}
/-- a list of three numbers, each divided -/
theorem div_loop {H1 : Hp} {l D : Addr} {a b c g : Int} {te : TE} {js : List Nat} {σ : St} {R : Hp → Prop} (hl : H1 l = some (.lst [.int a, .int b, .int c])) (hD : H1 D = none)
    (step : ∀ (n : Int) (H' : Hp) (k : VK), k (.int (n.fdiv g)) H' → te (some (.int n) :: cVals js σ) H' k)
    (fin : ∀ H', Same H1 H' → H' D = some (.lst [.int (a.fdiv g), .int (b.fdiv g), .int (c.fdiv g)]) → R H') :
    ∃ W : Nat → Nat → Hp → Prop, (∃ m, W 0 m (upd H1 D (.lst []))) ∧ ∀ i m H2, W i m H2 → ((Itl K l).stop i H2 ∧ R H2) ∨
      ((Itl K l).go i H2 ∧ ∀ v H3, (Itl K l).yld i H2 v H3 → tNoIf (some v :: cVals js σ) H3 fun b H4 => if b = true then te (some v :: cVals js σ) H4 fun y H5 =>
        ∃ ys, H5 D = some (.lst ys) ∧ ys.length < sizeLine ∧ ∃ m', m' < m ∧ W (i + 1) m' (upd H5 D (.lst (ys ++ [y]))) else ∃ m', m' < m ∧ W (i + 1) m' H4) := by
  refine ⟨fun i m H2 => m = 3 - i ∧ i ≤ 3 ∧ Same H1 H2 ∧ H2 D = some (.lst ([V.int (a.fdiv g), .int (b.fdiv g), .int (c.fdiv g)].take i)), ⟨_, rfl, Nat.zero_le _, same_new hD _, upd_same⟩, ?_⟩
  rintro i m H2 ⟨rfl, hi, sm, hlD⟩
  have sl : SqL K H2 l [.int a, .int b, .int c] := SqL.of (sm _ _ hl)
  by_cases hlt : i < 3
  · refine .inr ⟨⟨_, _, sl, List.getElem?_eq_getElem (show i < 3 from hlt)⟩, fun v H3 y => ?_⟩
    obtain ⟨rfl, y⟩ := y
    have z := y _ sl
    refine tNoIf_go ?_
    rcases (c3 (by assumption) : i = 0 ∨ i = 1 ∨ i = 2) with rfl | rfl | rfl
    · cases z
      exact step _ _ _ ⟨_, hlD, small1000 (by simp), 3 - 1, by omega, rfl, by omega, same_mut sm hD _, upd_same⟩
    · cases z
      exact step _ _ _ ⟨_, hlD, small1000 (by simp), 3 - 2, by omega, rfl, by omega, same_mut sm hD _, upd_same⟩
    · cases z
      exact step _ _ _ ⟨_, hlD, small1000 (by simp), 3 - 3, by omega, rfl, by omega, same_mut sm hD _, upd_same⟩
  · have ei : i = 3 := by omega
    subst ei
    exact .inl ⟨⟨_, sl, Nat.le_refl _⟩, fin _ sm hlD⟩
theorem nm_bg {p q s t : Int} {a b : T3} (p0 : 0 ≤ p) (q0 : 0 ≤ q) (p1 : p < 2 ^ 600) (q1 : q < 2 ^ 600) (hs : s.natAbs < 2 ^ 2000) (ht : t.natAbs < 2 ^ 2000) : 0 ≤ Hu.nm p q s t ∧ Bg (Hu.nm p q s t) := by
  obtain ⟨a, b⟩ := Hu.nm_b p0 q0 p1 q1 hs ht
  exact ⟨a, bg_of b (by decide)⟩
theorem gg_bg {U V W : Int} (h0 : 0 < U) (h : Bg U) : Hu.gg U V W ≠ 0 ∧ Bg (Hu.gg U V W) := by
  have g0 := Hu.gg_pos (V := V) (W := W) h0
  have g1 := Hu.gg_le (V := V) (W := W) h0
  exact ⟨by omega, Nat.lt_of_le_of_lt (by omega) h⟩
theorem ok_between (T : TopDef K mg "_law_between" s_l_between) (Z_range : mg "range" = none) (Z_abs : mg "abs" = none) (Z_tuple : mg "tuple" = none) (D__law_part : Def P w K mg base 1 "_law_part" ["_law_one", "_law_other"] spPart) : Def P w K mg base 2 "_law_between" ["_law_one", "_law_other", "_law_near", "_law_far"] (spCB K) := by
  refine def_of T sc_l_between (fun _ _ _ _ _ _ => ar4 fun _ _ _ _ => rfl) (fun vs H Q E h => ?_) (fun f cdv A outer s H vs Q E hr h => ?_)
  · obtain ⟨x, y, p, q, s, t, rfl, _⟩ := h
    rfl
  obtain ⟨x, y, p, q, s, t, rfl, dx, dy, hp, hq, st, hs, ht, k⟩ := h
  obtain ⟨ax, rfl, sx⟩ := t3_el dx
  obtain ⟨ay, rfl, sy⟩ := t3_el dy
  have nd := sc_l_between.nd
  obtain ⟨u0, ub⟩ := nm_bg (a := p) (b := p) (Int.le_of_lt hp.n0) (Int.le_of_lt hq.n0) hp.n1 hq.n1 hs ht
  obtain ⟨v0, vb⟩ := nm_bg (a := p) (b := p) hp.x0 hq.x0 hp.x1 hq.x1 hs ht
  obtain ⟨w0, wb⟩ := nm_bg (a := p) (b := p) hp.y0 hq.y0 hp.y1 hq.y1 hs ht
  have up := Hu.mid_num hp hq st
  obtain ⟨g0, gb⟩ := gg_bg (V := Hu.nm p.v q.v s t) (W := Hu.nm p.w q.w s t) up ub
  have bs : Bg (s.natAbs : Int) := bg_of (n := 2000) (by simpa using hs) (by decide)
  have bt : Bg (t.natAbs : Int) := bg_of (n := 2000) (by simpa using ht) (by decide)
  have pb := r3b (hp.r.mono (by decide))
  have qb := r3b (hq.r.mono (by decide))
  refine ⟨_, (pss_cons (ps_setF (i := 4) nd rfl (Or.inl rfl) (Or.inl rfl) rfl rfl (pi_range1 rfl Z_range (pa_ki pa_nil)) rfl (by decide +kernel) (by decide +kernel) rfl (show ∀ p ∈ Scope.names _, p.2 = NameKind.free → List.lookup p.1 (defScope s_l_between).names = some .cell ∨ List.lookup p.1 (defScope s_l_between).names = some .free by decide +kernel) (fa_cons (j := 3) rfl (Or.inl rfl) (by decide +kernel) (Or.inl rfl) (fa_cons (j := 0) rfl (Or.inl rfl) (by decide +kernel) (Or.inl rfl) (fa_cons (j := 2) rfl (Or.inl rfl) (by decide +kernel) (Or.inl rfl) (fa_cons (j := 1) rfl (Or.inl rfl) (by decide +kernel) (Or.inl rfl) fa_nil)))) (show (["_law_k", "_law_far", "_law_one", "_law_near", "_law_other"] : List Str).Nodup by decide +kernel) (fun _ _ _ _ => pif_nil) (fun _ _ _ _ => (pe_op op_add (pe_op op_mulK (pe_callB call_abs rfl Z_abs (by decide +kernel) (pa_cons (pv 1) pa_nil)) (pe_ix (ix_tupK (K := K) rfl) (pv 2) (pv 0) (fun _ _ => rfl))) (pe_op op_mulK (pe_callB call_abs rfl Z_abs (by decide +kernel) (pa_cons (pv 3) pa_nil)) (pe_ix (ix_tupK (K := K) rfl) (pv 4) (pv 0) (fun _ _ => rfl))))))
    (pss_cons (ps_set (i := 5) nd rfl (Or.inr rfl) (pe_def D__law_part (hr.mono (by decide)) rfl (pa_cons (pe_def D__law_part (hr.mono (by decide)) rfl (pa_cons (pe_ix ix_list (pv 4) pe_int (fun _ _ => rfl)) (pa_cons (pe_ix ix_list (pv 4) pe_int (fun _ _ => rfl)) pa_nil))) (pa_cons (pe_ix ix_list (pv 4) pe_int (fun _ _ => rfl)) pa_nil))))
    (pss_one (ps_ret (pe_callTy call_tuple_of rfl Z_tuple (by decide +kernel) (pa_cons (pe_compF rfl (pi_list (pv 4)) rfl (by decide +kernel) (by decide +kernel) rfl (show ∀ p ∈ Scope.names _, p.2 = NameKind.free → List.lookup p.1 (defScope s_l_between).names = some .cell ∨ List.lookup p.1 (defScope s_l_between).names = some .free by decide +kernel) (fa_cons (j := 5) rfl (Or.inl rfl) (by decide +kernel) (Or.inl rfl) fa_nil) (show (["_law_number", "_law_part_here"] : List Str).Nodup by decide +kernel) (fun _ _ _ _ => pif_nil) (fun _ _ _ _ => (pe_op op_fdivK (pv 0) (pv 1)))) pa_nil)))))), ?_⟩
  refine ⟨_, rfl, by decide, by decide, fun D hD => ?_⟩
  refine ⟨fun i m H2 => m = 3 - i ∧ i ≤ 3 ∧ Same H H2 ∧ H2 D = some (.lst ([V.int (Hu.nm p.u q.u s t), .int (Hu.nm p.v q.v s t), .int (Hu.nm p.w q.w s t)].take i)), ⟨_, rfl, Nat.zero_le _, same_new hD _, upd_same⟩, ?_⟩
  rintro i m H2 ⟨rfl, hi, sm, hlD⟩
  have sx2 := sx.ts sm.ts
  have sy2 := sy.ts sm.ts
  by_cases hlt : i < 3
  · refine .inr ⟨hlt, fun v H3 y => ?_⟩
    obtain ⟨rfl, rfl⟩ := y
    refine tNoIf_go ?_
    rcases (c3 (by assumption) : i = 0 ∨ i = 1 ∨ i = 2) with rfl | rfl | rfl
    · refine ⟨_, rfl, _, rfl, _, rfl, _, rfl, _, _, _, _, rfl, rfl, sx2, rfl, _, _, rfl, rfl, (by rw [abs_is]; exact mulB bt pb.1), _, rfl, _, rfl, _, rfl, _, rfl, _, _, _, _, rfl, rfl, sy2, rfl, _, _, rfl, rfl, (by rw [abs_is]; exact mulB bs qb.1), _, _, rfl, rfl, ?_⟩
      refine ⟨_, hlD, small1000 (by simp), 3 - 1, by omega, rfl, by omega, same_mut sm hD _, ?_⟩
      rw [upd_same, abs_is, abs_is]
      rfl
    · refine ⟨_, rfl, _, rfl, _, rfl, _, rfl, _, _, _, _, rfl, rfl, sx2, rfl, _, _, rfl, rfl, (by rw [abs_is]; exact mulB bt pb.2.1), _, rfl, _, rfl, _, rfl, _, rfl, _, _, _, _, rfl, rfl, sy2, rfl, _, _, rfl, rfl, (by rw [abs_is]; exact mulB bs qb.2.1), _, _, rfl, rfl, ?_⟩
      refine ⟨_, hlD, small1000 (by simp), 3 - 2, by omega, rfl, by omega, same_mut sm hD _, ?_⟩
      rw [upd_same, abs_is, abs_is]
      rfl
    · refine ⟨_, rfl, _, rfl, _, rfl, _, rfl, _, _, _, _, rfl, rfl, sx2, rfl, _, _, rfl, rfl, (by rw [abs_is]; exact mulB bt pb.2.2), _, rfl, _, rfl, _, rfl, _, rfl, _, _, _, _, rfl, rfl, sy2, rfl, _, _, rfl, rfl, (by rw [abs_is]; exact mulB bs qb.2.2), _, _, rfl, rfl, ?_⟩
      refine ⟨_, hlD, small1000 (by simp), 3 - 3, by omega, rfl, by omega, same_mut sm hD _, ?_⟩
      rw [upd_same, abs_is, abs_is]
      rfl
  have ei : i = 3 := by omega
  subst ei
  refine .inl ⟨Nat.le_refl _, ?_⟩
  have hl3 : H2 D = some (.lst [.int (Hu.nm p.u q.u s t), .int (Hu.nm p.v q.v s t), .int (Hu.nm p.w q.w s t)]) := hlD
  have sD : SqL K H2 D [.int (Hu.nm p.u q.u s t), .int (Hu.nm p.v q.v s t), .int (Hu.nm p.w q.w s t)] := SqL.of hl3
  refine ⟨_, rfl, _, _, _, _, rfl, rfl, sD, rfl, _, rfl, _, _, _, _, rfl, rfl, sD, rfl, _, _, rfl, u0, v0, _, rfl, _, _, _, _, rfl, rfl, sD, rfl, _, _, rfl, Lo.gc_nonneg _ _, w0, ?_⟩
  refine ⟨_, rfl, D, rfl, ⟨_, sD⟩, fun D2 hD2 => ?_⟩
  refine div_loop (K := K) (g := Hu.gg (Hu.nm p.u q.u s t) (Hu.nm p.v q.v s t) (Hu.nm p.w q.w s t)) hl3 hD2 ?step ?fin
  case step =>
    intro n H' kk q
    exact ⟨_, rfl, _, rfl, _, _, rfl, rfl, divB g0 gb, q⟩
  intro H' sm2 e2
  refine ⟨D2, _, rfl, .inl ⟨SqL.of e2, fun tt htt => ?_⟩⟩
  have u3 := same_new htt (.tup [.int ((Hu.nm p.u q.u s t).fdiv (Hu.gg (Hu.nm p.u q.u s t) (Hu.nm p.v q.v s t) (Hu.nm p.w q.w s t))), .int ((Hu.nm p.v q.v s t).fdiv (Hu.gg (Hu.nm p.u q.u s t) (Hu.nm p.v q.v s t) (Hu.nm p.w q.w s t))), .int ((Hu.nm p.w q.w s t).fdiv (Hu.gg (Hu.nm p.u q.u s t) (Hu.nm p.v q.v s t) (Hu.nm p.w q.w s t)))])
  exact k _ _ (sm.trans (sm2.trans u3)) (t3_mk (p := Hu.mid p q s t) (SqT.of upd_same))
end
end Mine



set_option Elab.async false
set_option linter.all false
set_option maxRecDepth 100000
set_option maxHeartbeats 4000000

namespace Mine
open PySem L2
noncomputable def forBody (s : Stmt) : List Stmt := match s with
  | .For _ _ b _ _ => b
  | _ => []
noncomputable def stAt (s : Stmt) (i : Nat) : Stmt := (defBody s).getD i (.Pass ⟨0, 0, 0, 0⟩)
noncomputable def CutR (K : PySem.W.Frag) (H H' : Hp) (r : T3) (h : List T3) (v : V) : Prop := ∃ (t a b : Addr) (us1 us2 : List V), v = .ref t ∧ H a = none ∧ H b = none ∧ SqT K H' t [.ref a, .ref b] ∧ H' a = some (.lst us1) ∧ H' b = some (.lst us2) ∧ DatAll K H' ((Hu.low r h).map t3D) us1 ∧ DatAll K H' ((Hu.high r h).map t3D) us2
inductive SpCut_ (K : PySem.W.Frag) (CN : Addr) (vs : List V) (H : Hp) (Q : VK) (E : XK) : Prop where
  | mk (l : Addr) (x : V) (us : List V) (h : List T3) (r : T3) (z_0 : vs = [.ref l, x]) (z_1 : H l = some (.lst us)) (z_2 : DatAll K H (h.map t3D) us) (z_3 : Dat K H (t3D r) x) (z_4 : Hu.Hull 600 256 h) (z_5 : Hu.R3 1200 r) (z_6 : (Hu.NoCut r h → ∀ H', Same H H' → E (.ref CN) none H')) (z_7 : (¬ Hu.NoCut r h → ∀ (v : V) (H' : Hp), Same H H' → CutR K H H' r h v → Q v H')) : SpCut_ K CN vs H Q E
inductive SpLCut_ (K : PySem.W.Frag) (vs : List V) (H : Hp) (Q : VK) : Prop where
  | mk (l : Addr) (x : V) (us : List V) (h : List T3) (r : T3) (z_0 : vs = [.ref l, x]) (z_1 : H l = some (.lst us)) (z_2 : DatAll K H (h.map t3D) us) (z_3 : Dat K H (t3D r) x) (z_4 : Hu.Hull 600 256 h) (z_5 : Hu.R3 1200 r) (z_6 : (Hu.NoCut r h → ∀ H', Same H H' → Q .non H')) (z_7 : (¬ Hu.NoCut r h → ∀ (v : V) (H' : Hp), Same H H' → CutR K H H' r h v → Q v H')) : SpLCut_ K vs H Q
noncomputable def spLCut (K : PySem.W.Frag) : Sp := fun vs H Q _ => SpLCut_ K vs H Q
structure MI (K : PySem.W.Frag) (H H' : Hp) (lo hi : Addr) (L1 L2 : List T3) : Prop where
  sm : Same H H'
  ex : ∃ us1 us2, H' lo = some (.lst us1) ∧ H' hi = some (.lst us2) ∧ DatAll K H' (L1.map t3D) us1 ∧ DatAll K H' (L2.map t3D) us2
section
variable {K : PySem.W.Frag} {H H' H'' : Hp} {lo hi : Addr} {L1 L2 : List T3} {p : T3} {v : V} {us : List V}
theorem MI.new (m : MI K H H' lo hi L1 L2) (s : Same H' H'') : MI K H H'' lo hi L1 L2 := by
  obtain ⟨u1, u2, e1, e2, d1, d2⟩ := m.ex
  exact ⟨m.sm.trans s, u1, u2, s _ _ e1, s _ _ e2, d1.ts s.ts, d2.ts s.ts⟩
theorem MI.app1 (m : MI K H H' lo hi L1 L2) (h0 : H lo = none) (ne : lo ≠ hi) (e : H' lo = some (.lst us)) (d : Dat K H' (t3D p) v) : MI K H (upd H' lo (.lst (us ++ [v]))) lo hi (L1 ++ [p]) L2 := by
  obtain ⟨u1, u2, e1, e2, d1, d2⟩ := m.ex
  rw [e] at e1
  cases e1
  have t : Tst H' (upd H' lo (.lst (us ++ [v]))) := ts_mut e
  refine ⟨same_mut m.sm h0 _, _, u2, upd_same, by rw [upd_ne (Ne.symm ne)]; exact e2, ?_, d2.ts t⟩
  rw [List.map_append]
  exact (d1.ts t).snoc (d.ts t)
theorem MI.app2 (m : MI K H H' lo hi L1 L2) (h0 : H hi = none) (ne : lo ≠ hi) (e : H' hi = some (.lst us)) (d : Dat K H' (t3D p) v) : MI K H (upd H' hi (.lst (us ++ [v]))) lo hi L1 (L2 ++ [p]) := by
  obtain ⟨u1, u2, e1, e2, d1, d2⟩ := m.ex
  rw [e] at e2
  cases e2
  have t : Tst H' (upd H' hi (.lst (us ++ [v]))) := ts_mut e
  refine ⟨same_mut m.sm h0 _, u1, _, by rw [upd_ne ne]; exact e1, upd_same, d1.ts t, ?_⟩
  rw [List.map_append]
  exact (d2.ts t).snoc (d.ts t)
theorem MI.len (m : MI K H H' lo hi L1 L2) (l1 : L1.length ≤ 990) (l2 : L2.length ≤ 990) : (∃ us, H' lo = some (.lst us) ∧ us.length ≤ 1000) ∧ ∃ us, H' hi = some (.lst us) ∧ us.length ≤ 1000 := by
  obtain ⟨u1, u2, e1, e2, d1, d2⟩ := m.ex
  exact ⟨⟨u1, e1, by rw [t3_len d1]; omega⟩, u2, e2, by rw [t3_len d2]; omega⟩
end
theorem told_at {r : T3} {h : List T3} {i : Nat} (hi : i < h.length) : atI ((h.map (Hu.tl r)).map V.int) ((i : Nat) : Int) = some (.int (Hu.tv r h i)) := by
  refine atI_nat ?_
  rw [List.getElem?_map, List.getElem?_map, Hu.cor_get hi]
  rfl
theorem nocut_of {r : T3} {h : List T3} (h1 : ¬ Hu.NoCut r h) : (∃ p ∈ h, Hu.tl r p < 0) ∧ ∃ p ∈ h, 0 < Hu.tl r p := by
  constructor
  · refine Classical.byContradiction fun z => h1 (.inl fun p hp => ?_)
    refine Classical.byContradiction fun y => z ⟨p, hp, by omega⟩
  · refine Classical.byContradiction fun z => h1 (.inr fun p hp => ?_)
    refine Classical.byContradiction fun y => z ⟨p, hp, by omega⟩
section
variable {P : Program} {w : World} {K : PySem.W.Frag} {mg : Str → Option Value} {base : Heap}
end
end Mine
namespace Mine
open PySem L2
section
variable {P : Program} {w : World} {K : PySem.W.Frag} {mg : Str → Option Value} {base : Heap}
theorem ok_lcut (T : TopDef K mg "_law_cut" s_l_cut) (Z_min : mg "min" = none) (Z_max : mg "max" = none) (Z_enumerate : mg "enumerate" = none) (Z_len : mg "len" = none)
    (D__law_tells : Def P w K mg base 1 "_law_tells" ["_law_rule", "_law_corner"] (spTl K)) (D__law_between : Def P w K mg base 2 "_law_between" ["_law_one", "_law_other", "_law_near", "_law_far"] (spCB K)) : Def P w K mg base 3 "_law_cut" ["_law_hull_here", "_law_rule"] (spLCut K) := by
  refine def_of T sc_l_cut (fun _ _ _ _ _ _ => ar2 fun _ _ => rfl) (fun vs H Q E h => ?_) (fun f cdv A outer s H vs Q E hr h => ?_)
  · obtain ⟨l, x, us, h, r, rfl, _⟩ := h
    rfl
  obtain ⟨l, x, us, h, r, rfl, hl, da, dx, hu, hr3, kn, kc⟩ := h
  have nd := sc_l_cut.nd
  have lu := t3_len da
  have hpos := hu.pos
  have hfew := hu.few
  have br : Hu.R3 3000 r := hr3.mono (by decide)
  have bp : ∀ p ∈ h, Hu.R3 3000 p := fun p hp => ((hu.ok p hp).r).mono (by decide)
  have tb : ∀ i, (Hu.tv r h i).natAbs < 2 ^ 2000 := fun i => Nat.lt_of_lt_of_le (Hu.tl_b hr3 (hu.ok _ (Hu.cor_mem hpos i)).r) (Nat.pow_le_pow_right (by decide) (by decide))
  have tB : ∀ i, Bg (Hu.tv r h i) := fun i => bg_of (tb i) (by decide)
  -- the third test of a turn
  have t3 : ∃ t, PSs (cxOf CX0 P w K mg base n_l_cut "_law_cut" (defScope s_l_cut) f cdv A outer s H E).nox ((forBody (stAt s_l_cut 3)).drop 3) t ∧
      ∀ (N B : St → Hp → Prop) (H1 H' : Hp) (d pt lo hi : Addr) (v : V) (i : Nat) (L1 L2 : List T3) (o8 : Option V), i < h.length → MI K H1 H' lo hi L1 L2 → H1 l = some (.lst us) → H1 d = some (.lst ((h.map (Hu.tl r)).map V.int)) → H1 lo = none → H1 hi = none → lo ≠ hi → SqT K H' pt [.ref lo, .ref hi] → DatAll K H1 (h.map t3D) us → Dat K H' (t3D (Hu.cor h i)) v → L1.length ≤ 900 → L2.length ≤ 900 →
        (∀ (H'' : Hp) (o8' : Option V), SqT K H'' pt [.ref lo, .ref hi] → MI K H1 H'' lo hi (L1 ++ (if Hu.tv r h i * Hu.tv r h (i + 1) < 0 then [Hu.mid (Hu.cor h i) (Hu.cor h (i + 1)) (Hu.tv r h i) (Hu.tv r h (i + 1))] else [])) (L2 ++ (if Hu.tv r h i * Hu.tv r h (i + 1) < 0 then [Hu.mid (Hu.cor h i) (Hu.cor h (i + 1)) (Hu.tv r h i) (Hu.tv r h (i + 1))] else [])) →
          N [some (.ref l), some x, some (.ref d), some (.ref pt), some (.int i), some v, some (.int (((i + 1) % h.length : Nat) : Int)), o8'] H'') →
        t { nx := N, ct := N, bk := B, rt := Q } [some (.ref l), some x, some (.ref d), some (.ref pt), some (.int i), some v, some (.int (((i + 1) % h.length : Nat) : Int)), o8] H' := by
    refine ⟨_, (pss_one (ps_if (pt_chain op_lt op_lt (pe_callB (call_min2 rfl) rfl Z_min (by decide +kernel) (pa_cons (pe_ix ix_list (pv 2) (pv 4) (fun _ _ => rfl)) (pa_cons (pe_ix ix_list (pv 2) (pv 6) (fun _ _ => rfl)) pa_nil))) pe_int (pe_callB (call_max2 rfl) rfl Z_max (by decide +kernel) (pa_cons (pe_ix ix_list (pv 2) (pv 4) (fun _ _ => rfl)) (pa_cons (pe_ix ix_list (pv 2) (pv 6) (fun _ _ => rfl)) pa_nil)))) (pss_cons (ps_set (i := 7) nd rfl (Or.inl rfl) (pe_def D__law_between (hr.mono (by decide)) rfl (pa_cons (pv 5) (pa_cons (pe_ix ix_list (pv 0) (pv 6) (fun _ _ => rfl)) (pa_cons (pe_ix ix_list (pv 2) (pv 4) (fun _ _ => rfl)) (pa_cons (pe_ix ix_list (pv 2) (pv 6) (fun _ _ => rfl)) pa_nil))))))
    (pss_cons (ps_expr (pe_bm PySem.F.plainAttrs_list PySem.F.slot_list_append PySem.F.type_list_append mt_append (pe_ix ix_tup (pv 3) pe_int (fun _ _ => rfl)) (pa_cons (pv 7) pa_nil)))
    (pss_one (ps_expr (pe_bm PySem.F.plainAttrs_list PySem.F.slot_list_append PySem.F.type_list_append mt_append (pe_ix ix_tup (pv 3) pe_int (fun _ _ => rfl)) (pa_cons (pv 7) pa_nil)))))) pss_nil)), ?_⟩
    intro N B H1 H' d pt lo hi v i L1 L2 o8 hi' mi hl1 hd1 hlo hhi ne sp da1 dv l1 l2 n
    have jl : (i + 1) % h.length < h.length := Nat.mod_lt _ hpos
    have sd : SqL K H' d ((h.map (Hu.tl r)).map V.int) := SqL.of (mi.sm _ _ hd1)
    have ai := told_at (r := r) hi'
    have aj := told_at (r := r) jl
    rw [Hu.tv_mod] at aj
    have cr := Hu.cross_iff (Hu.tv r h i) (Hu.tv r h (i + 1))
    refine ⟨_, rfl, _, rfl, _, _, _, _, rfl, rfl, sd, ai, _, rfl, _, rfl, _, _, _, _, rfl, rfl, sd, aj, _, _, rfl, ?_⟩
    refine ⟨_, _, rfl, rfl, _, rfl, ?_⟩
    refine ite2 (fun c1 => ?_) (fun c1 => ⟨_, rfl, iteF ?_⟩)
    · refine ⟨_, rfl, _, rfl, _, _, _, _, rfl, rfl, sd, ai, _, rfl, _, rfl, _, _, _, _, rfl, rfl, sd, aj, _, _, rfl, _, _, rfl, rfl, _, rfl, ?_⟩
      refine ite2 (fun c2 => ?_) (fun c2 => ?_)
      · have c' : Hu.tv r h i * Hu.tv r h (i + 1) < 0 := cr.mp ⟨of_decide_eq_true c1, of_decide_eq_true c2⟩
        rw [if_pos c'] at n
        obtain ⟨y, hy, dy⟩ := t3_at (da1.ts mi.sm.ts) (Hu.cor_get jl)
        rw [Hu.cor_mod] at dy
        have sl : SqL K H' l us := SqL.of (mi.sm _ _ hl1)
        refine ⟨_, rfl, _, rfl, _, rfl, _, _, _, _, rfl, rfl, sl, atI_nat hy, _, rfl, _, rfl, _, _, _, _, rfl, rfl, sd, ai, _, rfl, _, rfl, _, _, _, _, rfl, rfl, sd, aj, v, y, Hu.cor h i, Hu.cor h (i + 1), _, _, rfl, dv, dy, hu.ok _ (Hu.cor_mem hpos i), hu.ok _ (Hu.cor_mem hpos (i + 1)), c', tb _, tb _, fun m H2 s2 dm => ?_⟩
        have m2 := mi.new s2
        have sp1 := sp.ts s2.ts
        obtain ⟨⟨u1, e1, k1⟩, u2, e2, k2⟩ := m2.len (by omega) (by omega)
        refine ⟨_, rfl, _, _, _, _, rfl, rfl, sp1, rfl, .inl ⟨rfl, _, SqL.of e1⟩, _, rfl, lo, u1, _, rfl, rfl, e1, small1000 k1, ?_⟩
        have m3 := m2.app1 hlo ne e1 dm
        have e2' : (upd H2 lo (.lst (u1 ++ [m]))) hi = some (.lst u2) := by rw [upd_ne (Ne.symm ne)]; exact e2
        refine ⟨_, rfl, _, _, _, _, rfl, rfl, sp1.ts (ts_mut e1), rfl, .inl ⟨rfl, _, SqL.of e2'⟩, _, rfl, hi, u2, _, rfl, rfl, e2', small1000 k2, ?_⟩
        exact n _ _ ((sp1.ts (ts_mut e1)).ts (ts_mut e2')) (m3.app2 hhi ne e2' (dm.ts (ts_mut e1)))
      · have c' : ¬ Hu.tv r h i * Hu.tv r h (i + 1) < 0 := fun z => c2 (decide_eq_true (cr.mpr z).2)
        rw [if_neg c', List.append_nil, List.append_nil] at n
        exact n _ _ sp mi
    · have c' : ¬ Hu.tv r h i * Hu.tv r h (i + 1) < 0 := fun z => c1 (decide_eq_true (cr.mpr z).1)
      rw [if_neg c', List.append_nil, List.append_nil] at n
      exact n _ _ sp mi
  obtain ⟨t3, ht3, hq3⟩ := t3
  have t2 : ∃ t, PSs (cxOf CX0 P w K mg base n_l_cut "_law_cut" (defScope s_l_cut) f cdv A outer s H E).nox ((forBody (stAt s_l_cut 3)).drop 2) t ∧
      ∀ (N B : St → Hp → Prop) (H1 H' : Hp) (d pt lo hi : Addr) (v : V) (i : Nat) (L1 L2 : List T3) (o8 : Option V), i < h.length → MI K H1 H' lo hi L1 L2 → H1 l = some (.lst us) → H1 d = some (.lst ((h.map (Hu.tl r)).map V.int)) → H1 lo = none → H1 hi = none → lo ≠ hi → SqT K H' pt [.ref lo, .ref hi] → DatAll K H1 (h.map t3D) us → Dat K H' (t3D (Hu.cor h i)) v → L1.length ≤ 800 → L2.length ≤ 800 →
        (∀ (H'' : Hp) (o8' : Option V), SqT K H'' pt [.ref lo, .ref hi] → MI K H1 H'' lo hi (L1 ++ (if Hu.tv r h i * Hu.tv r h (i + 1) < 0 then [Hu.mid (Hu.cor h i) (Hu.cor h (i + 1)) (Hu.tv r h i) (Hu.tv r h (i + 1))] else [])) (L2 ++ Hu.stp h (Hu.tn r h) i) →
          N [some (.ref l), some x, some (.ref d), some (.ref pt), some (.int i), some v, some (.int (((i + 1) % h.length : Nat) : Int)), o8'] H'') →
        t { nx := N, ct := N, bk := B, rt := Q } [some (.ref l), some x, some (.ref d), some (.ref pt), some (.int i), some v, some (.int (((i + 1) % h.length : Nat) : Int)), o8] H' := by
    refine ⟨_, pss_cons (ps_if (pt_cmpR op_ge (pe_ix ix_list (pv 2) (pv 4) (fun _ _ => rfl)) pe_int (nomark _)) (pss_one (ps_expr (pe_bm PySem.F.plainAttrs_list PySem.F.slot_list_append PySem.F.type_list_append mt_append (pe_ix ix_tup (pv 3) pe_int (fun _ _ => rfl)) (pa_cons (pv 5) pa_nil)))) pss_nil) ht3, ?_⟩
    intro N B H1 H' d pt lo hi v i L1 L2 o8 hi' mi hl1 hd1 hlo hhi ne sp da1 dv l1 l2 n
    have sd : SqL K H' d ((h.map (Hu.tl r)).map V.int) := SqL.of (mi.sm _ _ hd1)
    have ai := told_at (r := r) hi'
    rw [Hu.stp_high] at n
    refine ⟨_, rfl, _, rfl, _, _, _, _, rfl, rfl, sd, ai, _, _, rfl, rfl, _, rfl, ?_⟩
    refine ite2 (fun c => ?_) (fun c => ?_)
    · have c' : 0 ≤ Hu.tv r h i := of_decide_eq_true c
      rw [if_pos c'] at n
      obtain ⟨_, u2, e2, k2⟩ := mi.len (by omega) (by omega)
      have sp1 := sp
      refine ⟨_, rfl, _, _, _, _, rfl, rfl, sp1, rfl, .inl ⟨rfl, _, SqL.of e2⟩, _, rfl, hi, u2, _, rfl, rfl, e2, small1000 k2, ?_⟩
      refine hq3 N B H1 _ d pt lo hi v i L1 (L2 ++ [Hu.cor h i]) o8 hi' (mi.app2 hhi ne e2 dv) hl1 hd1 hlo hhi ne (sp.ts (ts_mut e2)) da1 (dv.ts (ts_mut e2)) (by omega) (by simp; omega) fun H'' o' sp' m => n H'' o' sp' ?_
      rw [List.append_assoc] at m
      exact m
    · have c' : ¬ 0 ≤ Hu.tv r h i := fun z => c (decide_eq_true z)
      rw [if_neg c', List.nil_append] at n
      exact hq3 N B H1 _ d pt lo hi v i L1 L2 o8 hi' mi hl1 hd1 hlo hhi ne sp da1 dv (by omega) (by omega) n
  obtain ⟨t2, ht2, hq2⟩ := t2
  have t1 : ∃ t, PSs (cxOf CX0 P w K mg base n_l_cut "_law_cut" (defScope s_l_cut) f cdv A outer s H E).nox (forBody (stAt s_l_cut 3)) t ∧
      ∀ (N B : St → Hp → Prop) (H1 H' : Hp) (d pt lo hi : Addr) (v : V) (i : Nat) (L1 L2 : List T3) (o7 o8 : Option V), i < h.length → MI K H1 H' lo hi L1 L2 → H1 l = some (.lst us) → H1 d = some (.lst ((h.map (Hu.tl r)).map V.int)) → H1 lo = none → H1 hi = none → lo ≠ hi → SqT K H' pt [.ref lo, .ref hi] → DatAll K H1 (h.map t3D) us → Dat K H' (t3D (Hu.cor h i)) v → L1.length ≤ 700 → L2.length ≤ 700 →
        (∀ (H'' : Hp) (o7' o8' : Option V), SqT K H'' pt [.ref lo, .ref hi] → MI K H1 H'' lo hi (L1 ++ Hu.stp h (Hu.tv r h) i) (L2 ++ Hu.stp h (Hu.tn r h) i) →
          N [some (.ref l), some x, some (.ref d), some (.ref pt), some (.int i), some v, o7', o8'] H'') →
        t { nx := N, ct := N, bk := B, rt := Q } [some (.ref l), some x, some (.ref d), some (.ref pt), some (.int i), some v, o7, o8] H' := by
    refine ⟨_, pss_cons (ps_set (i := 6) nd rfl (Or.inl rfl) (pe_op op_modN (pe_op op_add (pv 4) pe_int) (pe_callB call_len rfl Z_len (by decide +kernel) (pa_cons (pv 0) pa_nil)))) (pss_cons (ps_if (pt_cmpR op_le (pe_ix ix_list (pv 2) (pv 4) (fun _ _ => rfl)) pe_int (nomark _)) (pss_one (ps_expr (pe_bm PySem.F.plainAttrs_list PySem.F.slot_list_append PySem.F.type_list_append mt_append (pe_ix ix_tup (pv 3) pe_int (fun _ _ => rfl)) (pa_cons (pv 5) pa_nil)))) pss_nil) ht2), ?_⟩
    intro N B H1 H' d pt lo hi v i L1 L2 o7 o8 hi' mi hl1 hd1 hlo hhi ne sp da1 dv l1 l2 n
    have sl : SqL K H' l us := SqL.of (mi.sm _ _ hl1)
    have sd : SqL K H' d ((h.map (Hu.tl r)).map V.int) := SqL.of (mi.sm _ _ hd1)
    have ai := told_at (r := r) hi'
    refine ⟨_, rfl, _, _, rfl, rfl, _, rfl, _, _, rfl, .inl ⟨_, sl, rfl⟩, _, _, rfl, rfl, (by rw [lu]; omega), ?_⟩
    rw [lu]
    dsimp only
    rw [Hu.fmod_nat]
    refine ⟨_, rfl, _, rfl, _, _, _, _, rfl, rfl, sd, ai, _, _, rfl, rfl, _, rfl, ?_⟩
    refine ite2 (fun c => ?_) (fun c => ?_)
    · have c' : Hu.tv r h i ≤ 0 := of_decide_eq_true c
      obtain ⟨⟨u1, e1, k1⟩, _⟩ := mi.len (by omega) (by omega)
      have sp1 := sp
      refine ⟨_, rfl, _, _, _, _, rfl, rfl, sp1, rfl, .inl ⟨rfl, _, SqL.of e1⟩, _, rfl, lo, u1, _, rfl, rfl, e1, small1000 k1, ?_⟩
      refine hq2 N B H1 _ d pt lo hi v i (L1 ++ [Hu.cor h i]) L2 o8 hi' (mi.app1 hlo ne e1 dv) hl1 hd1 hlo hhi ne (sp.ts (ts_mut e1)) da1 (dv.ts (ts_mut e1)) (by simp; omega) (by omega) fun H'' o' sp' m => n H'' _ o' sp' ?_
      rw [List.append_assoc] at m
      rw [show Hu.stp h (Hu.tv r h) i = [Hu.cor h i] ++ (if Hu.tv r h i * Hu.tv r h (i + 1) < 0 then [Hu.mid (Hu.cor h i) (Hu.cor h (i + 1)) (Hu.tv r h i) (Hu.tv r h (i + 1))] else []) by unfold Hu.stp; rw [if_pos c']]
      exact m
    · have c' : ¬ Hu.tv r h i ≤ 0 := fun z => c (decide_eq_true z)
      refine hq2 N B H1 _ d pt lo hi v i L1 L2 o8 hi' mi hl1 hd1 hlo hhi ne sp da1 dv (by omega) (by omega) fun H'' o' sp' m => n H'' _ o' sp' ?_
      rw [show Hu.stp h (Hu.tv r h) i = (if Hu.tv r h i * Hu.tv r h (i + 1) < 0 then [Hu.mid (Hu.cor h i) (Hu.cor h (i + 1)) (Hu.tv r h i) (Hu.tv r h (i + 1))] else []) by unfold Hu.stp; rw [if_neg c', List.nil_append]]
      exact m
  obtain ⟨t1, ht1, hq1⟩ := t1
  have t4 : ∃ t, PSs (cxOf CX0 P w K mg base n_l_cut "_law_cut" (defScope s_l_cut) f cdv A outer s H E).nox ((defBody s_l_cut).drop 2) t ∧
      ∀ (H1 : Hp) (d : Addr), ¬ Hu.NoCut r h → Same H H1 → H1 d = some (.lst ((h.map (Hu.tl r)).map V.int)) → t { nx := fun _ H' => Q .non H', rt := Q } [some (.ref l), some x, some (.ref d), none, none, none, none, none] H1 := by
    refine ⟨_, pss_cons (ps_set (i := 3) nd rfl (Or.inl rfl) (pe_tup (pa_cons (pe_lst pa_nil) (pa_cons (pe_lst pa_nil) pa_nil)))) (pss_cons (ps_for PassesOwn.never rfl (pi_enum rfl Z_enumerate (pv 0)) (pg_tup rfl (pgs_cons (pg_name (i := 4) nd rfl (Or.inl rfl)) (pgs_cons (pg_name (i := 5) nd rfl (Or.inl rfl)) pgs_nil))) ht1) (pss_one (ps_ret (pv 3)))), ?_⟩
    intro H1 d nc sm hd
    have hl1 := sm _ _ hl
    have da1 := da.ts sm.ts
    refine ⟨(by show 0 ≤ sizeLine; decide), fun lo hlo => ⟨(by show 0 ≤ sizeLine; decide), fun hi hhi => ⟨(by show 2 ≤ sizeLine; decide), fun pt hpt => ?_⟩⟩⟩
    have u1 := same_new hlo (.lst [])
    have u2 := same_new hhi (.lst [])
    have u3 := same_new hpt (.tup [.ref lo, .ref hi])
    have ne : lo ≠ hi := fun z => by subst z; rw [upd_same] at hhi; cases hhi
    have hhi1 : H1 hi = none := by rw [upd_ne (Ne.symm ne)] at hhi; exact hhi
    refine ⟨_, rfl, l, rfl, ⟨us, SqL.of ((u1.trans (u2.trans u3)) _ _ hl1)⟩, ?_⟩
    refine for_enum (xs := us) (fun i σ H' => i ≤ us.length ∧ SqT K H' pt [.ref lo, .ref hi] ∧ MI K H1 H' lo hi (Hu.fl (Hu.stp h (Hu.tv r h)) i) (Hu.fl (Hu.stp h (Hu.tn r h)) i) ∧ ∃ o5 o6 o7 o8, σ = [some (.ref l), some x, some (.ref d), some (.ref pt), o5, o6, o7, o8])
      ⟨Nat.zero_le _, SqT.of upd_same, ⟨u1.trans (u2.trans u3), [], [], (u2.trans u3) _ _ upd_same, u3 _ _ upd_same, rfl, rfl⟩, _, _, _, _, rfl⟩ (fun i σ H' _ z => SqL.of (z.2.2.1.sm _ _ hl1)) (fun i v T' σ H' hv z hT => ?_) (fun σ H' z => ?_)
    · obtain ⟨_, sp, mi, o5, o6, o7, o8, rfl⟩ := z
      have hi' : i < us.length := (List.getElem?_eq_some_iff.mp hv).1
      have uT := same_new hT (.tup [.int i, v])
      obtain ⟨p, hp, dp⟩ := t3_at' (da1.ts mi.sm.ts) hv
      have ep : p = Hu.cor h i := by rw [Hu.cor_get (by omega)] at hp; exact (Option.some.inj hp).symm
      subst ep
      have f1 := Hu.fl_len (Hu.stp_len h (Hu.tv r h)) i
      have f2 := Hu.fl_len (Hu.stp_len h (Hu.tn r h)) i
      refine ⟨T', _, rfl, SqT.of upd_same, rfl, _, _, rfl, _, _, rfl, rfl, ?_⟩
      refine hq1 _ _ H1 _ d pt lo hi v i _ _ o7 o8 (by omega) (mi.new uT) hl1 hd hlo hhi1 ne (sp.ts uT.ts) da1 (dp.ts uT.ts) (by omega) (by omega) fun H'' o7' o8' sp' m => ⟨hi', sp', ?_, _, _, _, _, rfl⟩
      rw [Hu.fl_succ, Hu.fl_succ]
      exact m
    · obtain ⟨_, sp, mi, o5, o6, o7, o8, rfl⟩ := z
      rw [lu] at mi
      obtain ⟨w1, w2, e1, e2, d1, d2⟩ := mi.ex
      exact ⟨_, rfl, kc nc _ _ (sm.trans mi.sm) ⟨pt, lo, hi, w1, w2, rfl, sm.free hlo, sm.free hhi1, sp, e1, e2, d1, d2⟩⟩
  obtain ⟨t4, ht4, hq4⟩ := t4
  refine ⟨_, pss_cons (ps_setF (i := 2) nd rfl (Or.inl rfl) (Or.inl rfl) rfl rfl (pi_list (pv 0)) rfl (by decide +kernel) (by decide +kernel) rfl (show ∀ p ∈ Scope.names _, p.2 = NameKind.free → List.lookup p.1 (defScope s_l_cut).names = some .cell ∨ List.lookup p.1 (defScope s_l_cut).names = some .free by decide +kernel) (fa_cons (j := 1) rfl (Or.inl rfl) (by decide +kernel) (Or.inl rfl) fa_nil) (show (["_law_corner", "_law_rule"] : List Str).Nodup by decide +kernel) (fun _ _ _ _ => pif_nil) (fun _ _ _ _ => (pe_def D__law_tells (hr.mono (by decide)) rfl (pa_cons (pv 1) (pa_cons (pv 0) pa_nil))))) (pss_cons (ps_if (PW.pt (pw_or (pt_cmpR op_ge (pe_callB (call_minL rfl) rfl Z_min (by decide +kernel) (pa_cons (pv 2) pa_nil)) pe_int (nomark _)) (pw_or1 (pt_cmpR op_le (pe_callB (call_maxL rfl) rfl Z_max (by decide +kernel) (pa_cons (pv 2) pa_nil)) pe_int (nomark _))))) (pss_one (ps_ret pe_non)) pss_nil) ht4), ?_⟩
  refine ⟨_, rfl, l, rfl, ⟨us, SqL.of hl⟩, fun d hd0 => ?_⟩
  refine tic_loop (K := K) (r := r) (fun H' s' => SqL.of (s' _ _ hl)) da (by omega) hd0 ?step ?fin
  case step =>
    intro v p H' kk sm hp dp q
    exact ⟨_, rfl, _, rfl, x, v, r, p, rfl, dx.ts sm.ts, dp, br, bp p hp, q⟩
  intro H1 s1 hd
  have hne : 0 < (h.map (Hu.tl r)).length := by rw [List.length_map]; exact hpos
  refine ⟨_, rfl, d, _, rfl, SqL.of hd, hne, fun M hM hmin => ?_⟩
  refine ⟨_, _, rfl, rfl, _, rfl, ?_⟩
  refine ite2 (fun c => ?_) (fun c => ?_)
  · have c' : 0 ≤ M := of_decide_eq_true c
    exact kn (.inl fun p hp => Int.le_trans c' (hmin _ (List.mem_map.mpr ⟨p, hp, rfl⟩))) _ s1
  have c1 : ¬ 0 ≤ M := fun z => c (decide_eq_true z)
  refine ⟨_, rfl, d, _, rfl, SqL.of hd, hne, fun M2 hM2 hmax => ?_⟩
  refine ⟨_, _, rfl, rfl, _, rfl, ?_⟩
  refine ite2 (fun c => ?_) (fun c => ?_)
  · have c' : M2 ≤ 0 := of_decide_eq_true c
    exact kn (.inr fun p hp => Int.le_trans (hmax _ (List.mem_map.mpr ⟨p, hp, rfl⟩)) c') _ s1
  have c2 : ¬ M2 ≤ 0 := fun z => c (decide_eq_true z)
  obtain ⟨p1, hp1, ep1⟩ := List.mem_map.mp hM
  obtain ⟨p2, hp2, ep2⟩ := List.mem_map.mp hM2
  refine hq4 H1 d (fun nc => ?_) s1 hd
  rcases nc with z | z
  · have := z p1 hp1; omega
  · have := z p2 hp2; omega
end
end Mine



set_option Elab.async false
set_option linter.all false
set_option maxRecDepth 100000
set_option maxHeartbeats 4000000

namespace Mine
open PySem L2
inductive SpCellA_ (K : PySem.W.Frag) (vs : List V) (H : Hp) (Q : VK) : Prop where
  | mk (a : Addr) (ns : List Int) (k : Int) (z_0 : vs = [.ref a, .int k]) (z_1 : Scr K H a ns) (z_2 : 0 ≤ k) (z_3 : ∀ v : Int, Q (.int v) H) : SpCellA_ K vs H Q
noncomputable def spCellA (K : PySem.W.Frag) : Sp := fun vs H Q _ => SpCellA_ K vs H Q
inductive SpDrawn_ (K : PySem.W.Frag) (vs : List V) (H : Hp) (Q : VK) : Prop where
  | mk (a : Addr) (ns : List Int) (k : Int) (z_0 : vs = [.ref a, .int k]) (z_1 : Scr K H a ns) (z_2 : 0 ≤ k) (z_3 : k ≤ 1000) (z_4 : ∀ (v : Int) (H' : Hp), 0 ≤ v → Same H H' → Q (.int v) H') : SpDrawn_ K vs H Q
noncomputable def spDrawn (K : PySem.W.Frag) : Sp := fun vs H Q _ => SpDrawn_ K vs H Q
section
variable {P : Program} {w : World} {K : PySem.W.Frag} {mg : Str → Option Value} {base : Heap}
theorem ok_cellA (T : TopDef K mg "_law_cell_at" s_l_cell_at) (Z_len : mg "len" = none) : Def P w K mg base 1 "_law_cell_at" ["_law_script", "_law_k"] (spCellA K) := by
  refine def_of T sc_l_cell_at (fun _ _ _ _ _ _ => ar2 fun _ _ => rfl) (fun vs H Q E h => ?_) (fun f cdv A outer s H vs Q E hr h => ?_)
  · obtain ⟨a, ns, k, rfl, _⟩ := h
    rfl
  obtain ⟨a, ns, k, rfl, S, h0, q⟩ := h
  have nd := sc_l_cell_at.nd
  have hl : (ns.map V.int).length = ns.length := List.length_map _
  refine ⟨_, (pss_cons (ps_if (pt_cmpR op_lt (pv 1) (pe_callB call_len rfl Z_len (by decide +kernel) (pa_cons (pv 0) pa_nil)) (nomark _)) (pss_one (ps_ret (pe_ix ix_list (pv 0) (pv 1) (fun _ _ => rfl)))) pss_nil)
    (pss_one (ps_ret pe_int))), ?_⟩
  refine ⟨_, rfl, _, rfl, _, _, rfl, .inl ⟨_, S.l, rfl⟩, _, _, rfl, rfl, _, rfl, ?_⟩
  refine ite2 (fun c => ?_) (fun c => ?_)
  · have c' : k < (((ns.map V.int).length : Nat) : Int) := of_decide_eq_true c
    rw [hl] at c'
    obtain ⟨u, hu, mu⟩ := at_script (ns := ns) h0 c'
    exact ⟨_, rfl, _, rfl, _, _, _, _, rfl, rfl, S.l, hu, q u⟩
  · exact q 0
theorem ok_drawn (T : TopDef K mg "_law_drawn" s_l_drawn) (Z_int : mg "int" = none) (D__law_cell_at : Def P w K mg base 1 "_law_cell_at" ["_law_script", "_law_k"] (spCellA K)) : Def P w K mg base 2 "_law_drawn" ["_law_script", "_law_k"] (spDrawn K) := by
  refine def_of T sc_l_drawn (fun _ _ _ _ _ _ => ar2 fun _ _ => rfl) (fun vs H Q E h => ?_) (fun f cdv A outer s H vs Q E hr h => ?_)
  · obtain ⟨a, ns, k, rfl, _⟩ := h
    rfl
  obtain ⟨a, ns, k, rfl, S, h0, h1, q⟩ := h
  have nd := sc_l_drawn.nd
  have t1 : ∃ t, PSs (cxOf CX0 P w K mg base n_l_drawn "_law_drawn" (defScope s_l_drawn) f cdv A outer s H E).nox ((defBody s_l_drawn).drop 1) t ∧
      ∀ c : Int, 0 ≤ c → c < 10 ^ 60 → t { nx := fun _ H' => Q .non H', rt := Q } [some (.ref a), some (.int k), some (.int c), none] H := by
    refine ⟨_, (pss_cons (ps_if (pt_cmpR op_eq (pe_op op_mod (pe_def D__law_cell_at (hr.mono (by decide)) rfl (pa_cons (pv 0) (pa_ki pa_nil))) pe_int) pe_int (nomark _)) (pss_one (ps_ret (pe_ix ix_list (pe_lst (pa_cons (pv 2) (pa_cons (pe_op op_fdiv (pv 2) pe_int) pa_nil))) (pe_callTy call_int1 rfl Z_int (by decide +kernel) (pa_cons (pe_cmpR op_eq (pv 1) pe_int (nomark _)) pa_nil)) (fun _ _ => rfl)))) pss_nil)
    (pss_cons (ps_set (i := 3) nd rfl (Or.inl rfl) (pe_op op_mod (pe_op op_mulK (pe_op op_add (pe_op op_add (pv 2) (pe_op op_mulK pe_int (pv 1))) pe_int) pe_int) pe_int))
    (pss_one (ps_ret (pe_op op_add (pe_op op_mulK (pv 2) pe_int) (pe_op op_mod (pe_op op_mulK (pv 3) pe_int) pe_int)))))), fun c v0 v2 => ?_⟩
    have sc : Sm c := Nat.lt_of_lt_of_le (m := 10 ^ 60) (by omega) (by decide)
    have sk : Sm k := sm_of (by omega)
    refine ⟨_, rfl, a, ns, 0, rfl, S, Int.le_refl 0, fun z => ?_⟩
    refine ⟨_, _, rfl, rfl, (show (0 : Int) < _ by decide), rfl, _, rfl, ?_⟩
    refine ite2 (fun _ => ?_) (fun _ => ?_)
    · refine ⟨_, rfl, _, rfl, _, _, rfl, rfl, ⟨by decide, by decide⟩, (by show 2 ≤ sizeLine; decide), fun l hl => ?_⟩
      have u1 := same_new hl (.lst [.int c, .int (c / 2)])
      refine ⟨_, rfl, rfl, ?_⟩
      refine .inr ⟨_, rfl, ?_⟩
      cases decide (V.int k = V.int 0) with
      | true => exact ⟨_, _, _, _, rfl, rfl, SqL.of upd_same, rfl, q _ _ (by omega) u1⟩
      | false => exact ⟨_, _, _, _, rfl, rfl, SqL.of upd_same, rfl, q _ _ v0 u1⟩
    · have m1 : (c + 7919 * k + 1).natAbs < 2 ^ 200 := Nat.lt_of_lt_of_le (m := 10 ^ 60 + 10 ^ 9) (by omega) (by decide)
      refine ⟨_, rfl, _, rfl, _, _, rfl, rfl, mulS (sm_of (by decide)) sk, _, _, rfl, rfl, _, _, rfl, rfl, _, _, rfl, rfl, mulS m1 (sm_of (by decide)), _, _, rfl, rfl, (show (0 : Int) < _ by decide), ?_⟩
      refine ⟨_, rfl, _, _, rfl, rfl, mulS sc (sm_of (by decide)), _, rfl, _, _, rfl, rfl, mulS (sm_mod (by decide) (by decide)) (sm_of (by decide)), _, _, rfl, rfl, (show (0 : Int) < _ by decide), _, _, rfl, rfl, ?_⟩
      refine q _ H ?_ (fun _ _ h => h)
      have := Int.emod_nonneg ((c + 7919 * k + 1) * 48271 % 2147483647 * 69621) (show (2147483647 : Int) ≠ 0 by decide)
      have := Int.mul_nonneg v0 (show (0 : Int) ≤ 2147483647 by decide)
      omega
  obtain ⟨t1, ht1, hq1⟩ := t1
  refine ⟨_, pss_cons (ps_set (i := 2) nd rfl (Or.inl rfl) (pe_op op_mod (pe_def D__law_cell_at (hr.mono (by decide)) rfl (pa_cons (pv 0) (pa_cons (pv 1) pa_nil))) (pe_op op_pow pe_int pe_int))) ht1, ?_⟩
  refine ⟨_, rfl, _, rfl, a, ns, k, rfl, S, h0, fun v => ?_⟩
  refine ⟨_, _, rfl, rfl, ⟨by decide, by decide, by decide⟩, _, _, rfl, rfl, (show (0 : Int) < _ by decide), ?_⟩
  exact hq1 _ (Int.emod_nonneg _ (by decide)) (Int.emod_lt_of_pos _ (by decide))
end
end Mine

namespace Mine
open PySem L2
inductive SpRuleBy_ (K : PySem.W.Frag) (vs : List V) (H : Hp) (Q : VK) : Prop where
  | mk (v : Int) (z_0 : vs = [.int v]) (z_1 : ∀ (t : Addr) (r : T3) (H' : Hp), Same H H' → Dat K H' (t3D r) (.ref t) → Hu.R3 5 r → Q (.ref t) H') : SpRuleBy_ K vs H Q
noncomputable def spRuleBy (K : PySem.W.Frag) : Sp := fun vs H Q _ => SpRuleBy_ K vs H Q
inductive SpLSq_ (K : PySem.W.Frag) (vs : List V) (H : Hp) (Q : VK) : Prop where
  | mk  (z_0 : vs = []) (z_1 : ∀ (l : Addr) (us : List V) (H' : Hp), Same H H' → H' l = some (.lst us) → DatAll K H' (Hu.sqH.map t3D) us → Q (.ref l) H') : SpLSq_ K vs H Q
noncomputable def spLSq (K : PySem.W.Frag) : Sp := fun vs H Q _ => SpLSq_ K vs H Q
inductive SpLHull_ (K : PySem.W.Frag) (vs : List V) (H : Hp) (Q : VK) : Prop where
  | mk (a : Addr) (ns : List Int) (m : Int) (z_0 : vs = [.ref a, .int 1, .int m]) (z_1 : Scr K H a ns) (z_2 : 0 ≤ m) (z_3 : m ≤ 5) (z_4 : ∀ (l : Addr) (us : List V) (h : List T3) (H' : Hp), Same H H' → H' l = some (.lst us) → DatAll K H' (h.map t3D) us → Hu.Hull 568 256 h → Q (.ref l) H') : SpLHull_ K vs H Q
noncomputable def spLHull (K : PySem.W.Frag) : Sp := fun vs H Q _ => SpLHull_ K vs H Q
inductive SpThr_ (K : PySem.W.Frag) (vs : List V) (H : Hp) (Q : VK) : Prop where
  | mk (x y : V) (p q : T3) (z_0 : vs = [x, y]) (z_1 : Dat K H (t3D p) x) (z_2 : Dat K H (t3D q) y) (z_3 : Hu.P3 568 p) (z_4 : Hu.P3 568 q) (z_5 : ∀ (t : Addr) (H' : Hp), Same H H' → Dat K H' (t3D (Hu.thr p q)) (.ref t) → Q (.ref t) H') : SpThr_ K vs H Q
inductive SpTouch_ (K : PySem.W.Frag) (vs : List V) (H : Hp) (Q : VK) : Prop where
  | mk (l : Addr) (us : List V) (h : List T3) (c : Int) (z_0 : vs = [.ref l, .int c]) (z_1 : H l = some (.lst us)) (z_2 : DatAll K H (h.map t3D) us) (z_3 : Hu.Hull 568 256 h) (z_4 : 0 ≤ c) (z_5 : ∀ (t : Addr) (r : T3) (H' : Hp), Same H H' → Dat K H' (t3D r) (.ref t) → Hu.R3 1138 r → Hu.NoCut r h → Q (.ref t) H') : SpTouch_ K vs H Q
inductive SpSaid_ (K : PySem.W.Frag) (vs : List V) (H : Hp) (Q : VK) : Prop where
  | mk (l : Addr) (x : V) (us : List V) (h : List T3) (r : T3) (z_0 : vs = [.ref l, x]) (z_1 : H l = some (.lst us)) (z_2 : DatAll K H (h.map t3D) us) (z_3 : Dat K H (t3D r) x) (z_4 : Hu.Hull 600 256 h) (z_5 : Hu.R3 1200 r) (z_6 : (Hu.NoCut r h → ∀ H', Same H H' → Q .non H')) (z_7 : (¬ Hu.NoCut r h → ∀ (v : V) (H' : Hp), Same H H' → CutR K H H' r h v → Q v H')) : SpSaid_ K vs H Q
theorem r3_of {a b c : Int} {n : Nat} (h1 : a.natAbs < 2 ^ n) (h2 : b.natAbs < 2 ^ n) (h3 : c.natAbs < 2 ^ n) : Hu.R3 n ⟨a, b, c⟩ := ⟨h1, h2, h3⟩
section
variable {P : Program} {w : World} {K : PySem.W.Frag} {mg : Str → Option Value} {base : Heap}
theorem ok_rule_by (T : TopDef K mg "_law_rule_by" s_l_rule_by) : Def P w K mg base 1 "_law_rule_by" ["_law_cell"] (spRuleBy K) := by
  refine def_of T sc_l_rule_by (fun _ _ _ _ _ _ => ar1 fun _ => rfl) (fun vs H Q E h => ?_) (fun f cdv A outer s H vs Q E hr h => ?_)
  · obtain ⟨v, rfl, _⟩ := h
    rfl
  obtain ⟨v, rfl, q⟩ := h
  have nd := sc_l_rule_by.nd
  refine ⟨_, (pss_cons (ps_if (pt_cmpR op_eq (pe_op op_mod (pv 0) pe_int) pe_int (nomark _)) (pss_one (ps_ret (pe_tup (pa_cons (pe_op op_sub (pe_op op_mod (pe_op op_fdiv (pv 0) pe_int) pe_int) pe_int) (pa_cons (pe_op op_sub (pe_op op_mod (pe_op op_fdiv (pv 0) pe_int) pe_int) pe_int) (pa_cons (pe_op op_sub (pe_op op_mod (pe_op op_fdiv (pv 0) pe_int) pe_int) pe_int) pa_nil)))))) pss_nil)
    (pss_one (ps_ret (pe_tup (pa_cons (pe_op op_sub (pe_op op_mod (pe_op op_fdiv (pv 0) pe_int) pe_int) pe_int) (pa_cons (pe_op op_sub (pe_op op_mod (pe_op op_fdiv (pv 0) pe_int) pe_int) pe_int) (pa_cons (pe_op op_sub (pe_op op_mod (pe_op op_fdiv (pv 0) pe_int) pe_int) pe_int) pa_nil))))))), ?_⟩
  refine ⟨_, rfl, _, _, rfl, rfl, (show (0 : Int) < _ by decide), rfl, _, rfl, ?_⟩
  refine ite2 (fun _ => ?_) (fun _ => ?_)
  · refine ⟨_, rfl, _, _, rfl, rfl, ⟨by decide, by decide⟩, _, _, rfl, rfl, (show (0 : Int) < _ by decide), _, _, rfl, rfl, _, rfl, _, _, rfl, rfl, ⟨by decide, by decide⟩, _, _, rfl, rfl, (show (0 : Int) < _ by decide), _, _, rfl, rfl, _, rfl, _, _, rfl, rfl, ⟨by decide, by decide⟩, _, _, rfl, rfl, (show (0 : Int) < _ by decide), _, _, rfl, rfl, (by show 3 ≤ sizeLine; decide), fun t ht => ?_⟩
    have u1 := same_new ht (.tup [.int (v / 5 % 41 - 20), .int (v / 205 % 41 - 20), .int (v / 8405 % 61 - 30)])
    exact q t ⟨v / 5 % 41 - 20, v / 205 % 41 - 20, v / 8405 % 61 - 30⟩ _ u1 (t3_mk (SqT.of upd_same)) (r3_of (by omega) (by omega) (by omega))
  · refine ⟨_, rfl, _, _, rfl, rfl, ⟨by decide, by decide⟩, _, _, rfl, rfl, (show (0 : Int) < _ by decide), _, _, rfl, rfl, _, rfl, _, _, rfl, rfl, ⟨by decide, by decide⟩, _, _, rfl, rfl, (show (0 : Int) < _ by decide), _, _, rfl, rfl, _, rfl, _, _, rfl, rfl, ⟨by decide, by decide⟩, _, _, rfl, rfl, (show (0 : Int) < _ by decide), _, _, rfl, rfl, (by show 3 ≤ sizeLine; decide), fun t ht => ?_⟩
    have u1 := same_new ht (.tup [.int (v / 5 % 7 - 3), .int (v / 35 % 7 - 3), .int (v / 245 % 7 - 3)])
    exact q t ⟨v / 5 % 7 - 3, v / 35 % 7 - 3, v / 245 % 7 - 3⟩ _ u1 (t3_mk (SqT.of upd_same)) (r3_of (by omega) (by omega) (by omega))
theorem ok_lsq (T : TopDef K mg "_law_square" s_l_square) : Def P w K mg base 1 "_law_square" [] (spLSq K) := by
  refine def_of T sc_l_square (fun _ _ _ _ _ _ => ar0 rfl) (fun vs H Q E h => ?_) (fun f cdv A outer s H vs Q E hr h => ?_)
  · obtain ⟨rfl, _⟩ := h
    rfl
  obtain ⟨rfl, q⟩ := h
  obtain ⟨e, p, he, eq⟩ : ∃ e p, IsSq e ∧ defBody s_l_square = [.Return (some e) p] := ⟨_, _, ⟨_, _, _, _, _, _, _, _, _, _, _, _, _, _, _, _, _, _, _, _, _, _, _, _, _, _, _, _, _, _, _, _, _, rfl⟩, rfl⟩
  rw [eq]
  refine ⟨_, pss_one (ps_ret (pe_sq he)), ?_⟩
  refine ⟨(by show 3 ≤ sizeLine; decide), fun t1 h1 => ⟨(by show 3 ≤ sizeLine; decide), fun t2 h2 => ⟨(by show 3 ≤ sizeLine; decide), fun t3 h3 => ⟨(by show 3 ≤ sizeLine; decide), fun t4 h4 => ⟨(by show 4 ≤ sizeLine; decide), fun l h5 => ?_⟩⟩⟩⟩⟩
  have u1 := same_new h1 (.tup [.int 1, .int 0, .int 0])
  have u2 := same_new h2 (.tup [.int 1, .int 1, .int 0])
  have u3 := same_new h3 (.tup [.int 1, .int 1, .int 1])
  have u4 := same_new h4 (.tup [.int 1, .int 0, .int 1])
  have u5 := same_new h5 (.lst [.ref t1, .ref t2, .ref t3, .ref t4])
  refine q l _ _ (u1.trans (u2.trans (u3.trans (u4.trans u5)))) upd_same ?_
  exact ⟨_, _, rfl, t3_mk (p := ⟨1, 0, 0⟩) (SqT.of ((u2.trans (u3.trans (u4.trans u5))) _ _ upd_same)), _, _, rfl, t3_mk (p := ⟨1, 1, 0⟩) (SqT.of ((u3.trans (u4.trans u5)) _ _ upd_same)), _, _, rfl, t3_mk (p := ⟨1, 1, 1⟩) (SqT.of ((u4.trans u5) _ _ upd_same)), _, _, rfl, t3_mk (p := ⟨1, 0, 1⟩) (SqT.of (u5 _ _ upd_same)), rfl⟩
theorem at2 {a b : V} {i : Int} (h0 : 0 ≤ i) (h1 : i < 2) : (i = 0 ∧ atI [a, b] i = some a) ∨ (i = 1 ∧ atI [a, b] i = some b) := by
  have : i = 0 ∨ i = 1 := by omega
  rcases this with rfl | rfl
  · exact .inl ⟨rfl, rfl⟩
  · exact .inr ⟨rfl, rfl⟩
theorem ok_lhull (T : TopDef K mg "_law_hull" s_l_hull) (Z_range : mg "range" = none) (D__law_square : Def P w K mg base 1 "_law_square" [] (spLSq K)) (D__law_drawn : Def P w K mg base 2 "_law_drawn" ["_law_script", "_law_k"] (spDrawn K))
    (D__law_rule_by : Def P w K mg base 1 "_law_rule_by" ["_law_cell"] (spRuleBy K)) (D__law_cut : Def P w K mg base 3 "_law_cut" ["_law_hull_here", "_law_rule"] (spLCut K)) : Def P w K mg base 4 "_law_hull" ["_law_script", "_law_start", "_law_many"] (spLHull K) := by
  refine def_of T sc_l_hull (fun _ _ _ _ _ _ => ar3 fun _ _ _ => rfl) (fun vs H Q E h => ?_) (fun f cdv A outer s H vs Q E hr h => ?_)
  · obtain ⟨a, ns, m, rfl, _⟩ := h
    rfl
  obtain ⟨a, ns, m, rfl, S, m0, m5, q⟩ := h
  have nd := sc_l_hull.nd
  refine ⟨_, (pss_cons (ps_set (i := 3) nd rfl (Or.inl rfl) (pe_def0 D__law_square (hr.mono (by decide)) rfl))
    (pss_cons (ps_for PassesOwn.never rfl (pi_range1 rfl Z_range (pa_cons (pv 2) pa_nil)) (pg_name (i := 4) nd rfl (Or.inl rfl)) (pss_cons (ps_set (i := 5) nd rfl (Or.inl rfl) (pe_def D__law_drawn (hr.mono (by decide)) rfl (pa_cons (pv 0) (pa_cons (pe_op op_add (pv 1) (pv 4)) pa_nil))))
    (pss_cons (ps_set (i := 6) nd rfl (Or.inl rfl) (pe_def D__law_cut (hr.mono (by decide)) rfl (pa_cons (pv 3) (pa_cons (pe_def D__law_rule_by (hr.mono (by decide)) rfl (pa_cons (pe_op op_fdiv (pv 5) pe_int) pa_nil)) pa_nil))))
    (pss_one (ps_if (pt_cmpR op_notN (pv 6) pe_non (nomark _)) (pss_one (ps_set (i := 3) nd rfl (Or.inl rfl) (pe_ix ix_tup (pv 6) (pe_op op_mod (pv 5) pe_int) (fun _ _ => rfl)))) pss_nil)))))
    (pss_one (ps_ret (pv 3))))), ?_⟩
  refine ⟨rfl, fun l0 us0 H0 s0 hl0 da0 => ?_⟩
  refine ⟨_, rfl, _, rfl, by omega, by omega, ?_⟩
  refine for_range (fun i σ H' => Same H H' ∧ i ≤ 6 ∧ ∃ (l : Addr) (us : List V) (h : List T3) (o4 o5 o6 : Option V), σ = [some (.ref a), some (.int 1), some (.int m), some (.ref l), o4, o5, o6] ∧ H' l = some (.lst us) ∧ DatAll K H' (h.map t3D) us ∧ Hu.Hull (Hu.bb i) (Hu.ll i) h)
    ⟨s0, by decide, l0, us0, Hu.sqH, _, _, _, rfl, hl0, da0, Hu.sq_hull⟩ (fun i σ H' hi z => ?_) (fun σ H' z => ?_)
  · obtain ⟨sm, _, l, us, h, o4, o5, o6, rfl, hl, da, hu⟩ := z
    have hi6 : i < 6 := by omega
    have bl := Hu.bb_le (show i ≤ 6 by omega)
    have hu6 : Hu.Hull 600 256 h := hu.mono (by omega) bl.2
    refine ⟨_, rfl, _, rfl, _, rfl, _, _, rfl, rfl, a, ns, _, rfl, S.ts sm.ts, by omega, by omega, fun v H1 v0 s1 => ?_⟩
    refine ⟨_, rfl, _, rfl, _, _, rfl, rfl, ⟨by decide, by decide⟩, _, rfl, fun t r H2 s2 dr br => ?_⟩
    have s12 := s1.trans s2
    refine ⟨l, .ref t, us, h, r, rfl, s12 _ _ hl, da.ts s12.ts, dr, hu6, br.mono (by decide), fun nc H3 s3 => ?_, fun nc v2 H3 s3 cr => ?_⟩
    · refine ⟨_, rfl, rfl, _, rfl, iteF ?_⟩
      have s13 := s12.trans s3
      refine ⟨sm.trans s13, by omega, l, us, h, _, _, _, rfl, s13 _ _ hl, da.ts s13.ts, hu.mono ?_ ?_⟩
      · show Hu.bb i ≤ 5 + Hu.bb i + 2 + Hu.bb i + 1
        omega
      · show Hu.ll i ≤ Hu.ll i * 2
        omega
    · obtain ⟨tt, a1, a2, w1, w2, rfl, _, _, stt, e1, e2, d1, d2⟩ := cr
      obtain ⟨⟨p1, hp1, ep1⟩, p2, hp2, ep2⟩ := nocut_of nc
      have hL := Hu.low_hull hu br hp1 (Int.le_of_lt ep1)
      have hH := Hu.high_hull hu br hp2 (Int.le_of_lt ep2)
      have s13 := s12.trans s3
      refine ⟨_, rfl, rfl, _, rfl, iteT ?_⟩
      rcases at2 (a := V.ref a1) (b := V.ref a2) (i := v % 2) (by omega) (by omega) with ⟨_, e⟩ | ⟨_, e⟩
      · exact ⟨_, rfl, _, rfl, _, _, rfl, rfl, (show (0 : Int) < _ by decide), _, _, _, _, rfl, rfl, stt, e, sm.trans s13, by omega, a1, w1, _, _, _, _, rfl, e1, d1, hL⟩
      · exact ⟨_, rfl, _, rfl, _, _, rfl, rfl, (show (0 : Int) < _ by decide), _, _, _, _, rfl, rfl, stt, e, sm.trans s13, by omega, a2, w2, _, _, _, _, rfl, e2, d2, hH⟩
  · obtain ⟨sm, i6, l, us, h, o4, o5, o6, rfl, hl, da, hu⟩ := z
    have bl := Hu.bb_le i6
    exact ⟨_, rfl, q l us h H' sm hl da (hu.mono bl.1 bl.2)⟩
end
end Mine



set_option Elab.async false
set_option linter.all false
set_option maxRecDepth 100000
set_option maxHeartbeats 4000000

namespace Mine
open PySem L2
/-! ### rows as data -/
noncomputable def lw (k : Nat) : Str := if k = 0 then "never" else if k = 1 then "always" else if k = 2 then "p" else "q"
noncomputable def fw (k : Nat) : Str := if k = 0 then "more" else if k = 1 then "less" else if k = 2 then "greater" else if k = 3 then "lesser" else "leads"
noncomputable def thOf : Hu.Row → Str × List Int
  | .lf k => (lw k, [])
  | .nt i => ("not", [i])
  | .fd k i j => (fw k, [i, j])
/-- a thing that may be a row: its word, its numbers -/
noncomputable def thD (t : Str × List Int) : PyData := .tuple (.str t.1 :: t.2.map PyData.int)
noncomputable def thV (t : Str × List Int) : List V := .str t.1 :: t.2.map V.int
noncomputable def rwX : Hu.Row → List V
  | .lf k => [.str (lw k)]
  | .nt i => [.str "not", .int i]
  | .fd k i j => [.str (fw k), .int i, .int j]
noncomputable def rowD (r : Hu.Row) : PyData := thD (thOf r)
noncomputable def RowsOk (rows : List Hu.Row) : Prop := ∀ (k : Nat) (r : Hu.Row), rows[k]? = some r → r.Ok k
noncomputable def TK : List (Str × Int) := [("never", 0), ("always", 0), ("p", 0), ("q", 0), ("not", 1), ("more", 2), ("less", 2), ("greater", 2), ("lesser", 2), ("leads", 2)]
noncomputable def TkOk (t : Str × List Int) : Prop := PyProof.Rows.KTD.datumAt t.1 TK = some (t.2.length : Int) ∧ t.2.length ≤ 2
noncomputable def gd (n : Nat) (t : Str × List Int) : Bool := (t.2.map fun i => decide (0 ≤ i ∧ i < (n : Int))).all id
theorem lw_at {k : Nat} (h : k < 4) : PyProof.Rows.KTD.datumAt (lw k) TK = some 0 := by
  rcases (c4 (by assumption) : k = 0 ∨ k = 1 ∨ k = 2 ∨ k = 3) with rfl | rfl | rfl | rfl <;> decide +kernel
theorem fw_at {k : Nat} (h : k < 5) : PyProof.Rows.KTD.datumAt (fw k) TK = some 2 := by
  rcases (c5 (by assumption) : k = 0 ∨ k = 1 ∨ k = 2 ∨ k = 3 ∨ k = 4) with rfl | rfl | rfl | rfl | rfl <;> decide +kernel
theorem tk_ok {n : Nat} {r : Hu.Row} (h : r.Ok n) : TkOk (thOf r) := by
  cases r with
  | lf k => exact ⟨lw_at h, Nat.zero_le 2⟩
  | nt i => exact ⟨(by decide +kernel : PyProof.Rows.KTD.datumAt ("not" : Str) TK = some 1), (by decide : 1 ≤ 2)⟩
  | fd k i j => exact ⟨fw_at h.1, Nat.le_refl 2⟩
theorem gd_ok {n : Nat} {r : Hu.Row} (h : r.Ok n) : gd n (thOf r) = true := by
  cases r with
  | lf k => rfl
  | nt i =>
    have h : i < n := h
    simp [gd, thOf, h]
  | fd k i j =>
    obtain ⟨_, h1, h2⟩ := h
    simp [gd, thOf, h1, h2]
section
variable {K : PySem.W.Frag} {H H' : Hp} {v : V} {r : Hu.Row} {t : Str × List Int}
theorem ints_el : ∀ {is : List Int} {xs : List V}, DatAll K H (is.map PyData.int) xs → xs = is.map V.int
  | [], _, h => h
  | i :: is, _, h => by
    obtain ⟨x, r, rfl, hx, hr⟩ := h
    cases (show x = V.int i from hx)
    rw [ints_el hr]
    rfl
theorem ints_mk : ∀ is : List Int, DatAll K H (is.map PyData.int) (is.map V.int)
  | [] => rfl
  | i :: is => ⟨_, _, rfl, rfl, ints_mk is⟩
theorem th_el (g : Dat K H (thD t) v) : ∃ a, v = .ref a ∧ SqT K H a (thV t) := by
  obtain ⟨a, xs, rfl, g, x, r, rfl, hx, hr⟩ := g
  cases (show x = V.str t.1 from hx)
  rw [ints_el hr] at g
  exact ⟨a, rfl, g⟩
theorem th_mk {a : Addr} (g : SqT K H a (thV t)) : Dat K H (thD t) (.ref a) := ⟨a, _, rfl, g, _, _, rfl, rfl, ints_mk t.2⟩
theorem row_el (g : Dat K H (rowD r) v) : ∃ a, v = .ref a ∧ SqT K H a (rwX r) := by cases r <;> exact th_el g
theorem row_mk {a : Addr} (g : SqT K H a (rwX r)) : Dat K H (rowD r) (.ref a) := by cases r <;> exact th_mk g
theorem th_at' {xs : List V} {ts : List (Str × List Int)} (g : DatAll K H (ts.map thD) xs) {i : Nat} {x : V} (e : xs[i]? = some x) : ∃ t, ts[i]? = some t ∧ Dat K H (thD t) x := by
  obtain ⟨d, e1, e2⟩ := g.get' e
  rw [List.getElem?_map] at e1
  cases z : ts[i]? with
  | none => rw [z] at e1; cases e1
  | some s => rw [z] at e1; cases e1; exact ⟨s, rfl, e2⟩
theorem row_at' {xs : List V} {rows : List Hu.Row} (g : DatAll K H (rows.map rowD) xs) {i : Nat} {x : V} (e : xs[i]? = some x) : ∃ r, rows[i]? = some r ∧ Dat K H (rowD r) x := by
  obtain ⟨d, e1, e2⟩ := g.get' e
  rw [List.getElem?_map] at e1
  cases z : rows[i]? with
  | none => rw [z] at e1; cases e1
  | some s => rw [z] at e1; cases e1; exact ⟨s, rfl, e2⟩
theorem row_len {xs : List V} {rows : List Hu.Row} (g : DatAll K H (rows.map rowD) xs) : xs.length = rows.length := by rw [g.len, List.length_map]
end
theorem kit_same {K : PySem.W.Frag} {t : Value} : PySem.W.kitOne K t t = some true := by unfold PySem.W.kitOne; rw [if_pos (beq_self_eq_true t)]
/-! ### what the defs of rows promise -/
inductive SpHow_ (vs : List V) (H : Hp) (Q : VK) : Prop where
  | mk (x : Str) (n : Int) (z_0 : vs = [.str x]) (z_1 : PyProof.Rows.KTD.datumAt x TK = some n) (z_2 : Q (.int n) H) : SpHow_  vs H Q
noncomputable def spHow : Sp := fun vs H Q _ => SpHow_  vs H Q
inductive SpWh_ (vs : List V) (H : Hp) (Q : VK) : Prop where
  | mk (i : Int) (z_0 : vs = [.int i]) (z_1 : Q (.bl true) H) : SpWh_  vs H Q
noncomputable def spWh : Sp := fun vs H Q _ => SpWh_  vs H Q
inductive SpAhead_ (vs : List V) (H : Hp) (Q : VK) : Prop where
  | mk (i p : Int) (z_0 : vs = [.int i, .int p]) (z_1 : Q (.bl (decide (0 ≤ i ∧ i < p))) H) : SpAhead_  vs H Q
noncomputable def spAhead : Sp := fun vs H Q _ => SpAhead_  vs H Q
inductive SpIsRow_ (K : PySem.W.Frag) (vs : List V) (H : Hp) (Q : VK) : Prop where
  | mk (x : V) (n : Nat) (t : Str × List Int) (z_0 : vs = [x, .int n]) (z_1 : Dat K H (thD t) x) (z_2 : TkOk t) (z_3 : n < 400) (z_4 : ∀ H', Same H H' → Q (.bl (gd n t)) H') : SpIsRow_ K vs H Q
noncomputable def spIsRow (K : PySem.W.Frag) : Sp := fun vs H Q _ => SpIsRow_ K vs H Q
/-- things of which but the last may be no row -/
noncomputable def Ths (ts : List (Str × List Int)) (b : Bool) : Prop := (∀ t ∈ ts, TkOk t) ∧ (∀ (k : Nat) (t : Str × List Int), ts[k]? = some t → gd k t = (b || decide (k + 1 < ts.length))) ∧ 0 < ts.length ∧ ts.length ≤ 100
inductive SpFault_ (K : PySem.W.Frag) (vs : List V) (H : Hp) (Q : VK) : Prop where
  | mk (l : Addr) (us : List V) (ts : List (Str × List Int)) (b : Bool) (z_0 : vs = [.ref l]) (z_1 : H l = some (.lst us)) (z_2 : DatAll K H (ts.map thD) us) (z_3 : Ths ts b) (z_4 : ∀ H', Same H H' → Q (if b = true then .non else .int ((ts.length : Int) - 1)) H') : SpFault_ K vs H Q
noncomputable def spFault (K : PySem.W.Frag) : Sp := fun vs H Q _ => SpFault_ K vs H Q
inductive SpMust_ (K : PySem.W.Frag) (C : Addr) (vs : List V) (H : Hp) (Q : VK) (E : XK) : Prop where
  | mk (l : Addr) (us : List V) (ts : List (Str × List Int)) (b : Bool) (z_0 : vs = [.ref l]) (z_1 : H l = some (.lst us)) (z_2 : DatAll K H (ts.map thD) us) (z_3 : Ths ts b) (z_4 : (b = true → ∀ H', Same H H' → Q .non H')) (z_5 : (b = false → ∀ (H' : Hp) (d : Addr), Same H H' → H' d = none → E (.ref C) (some d) (upd H' d (.ext (XDict d [("at", .int ((ts.length : Int) - 1))]))))) : SpMust_ K C vs H Q E
noncomputable def spMust (K : PySem.W.Frag) (C : Addr) : Sp := fun vs H Q E => SpMust_ K C vs H Q E
theorem cut1 {x : V} : ∀ {is : List Int}, is.length ≤ 2 → cutV (x :: is.map V.int) (some 1) none = is.map V.int
  | [], _ => rfl
  | [_], _ => rfl
  | [_, _], _ => rfl
  | _ :: _ :: _ :: _, h => absurd h (by simp)
theorem six1 {n : Nat} (h : n ≤ 2) : ¬ (HT.sIx (n + 1) 0 (some 1) = 0 ∧ HT.sIx (n + 1) (n + 1) none = n + 1) := by
  rcases (by omega : n = 0 ∨ n = 1 ∨ n = 2) with rfl | rfl | rfl <;> decide
section
variable {P : Program} {w : World} {K : PySem.W.Frag} {mg : Str → Option Value} {base : Heap}
theorem ok_how (T : TopDef K mg "how_many_it_takes" s_how_many_it_takes) (P_TAKEN : TopDict K mg "TAKEN" TK) : Def P w K mg base 1 "how_many_it_takes" ["word"] spHow := by
  refine def_of T sc_how_many_it_takes (fun _ _ _ _ _ _ => ar1 fun _ => rfl) (fun vs H Q E h => ?_) (fun f cdv A outer s H vs Q E hr h => ?_)
  · obtain ⟨r, n, rfl, _⟩ := h
    rfl
  obtain ⟨x, n, rfl, e, q⟩ := h
  have nd := sc_how_many_it_takes.nd
  refine ⟨_, (pss_one (ps_ret (pe_tget P_TAKEN rfl (pv 0) ⟨rfl, rfl, rfl, rfl⟩))), ?_⟩
  refine ⟨_, rfl, _, rfl, ?_⟩
  rw [e]
  exact q
theorem ok_is_whole (T : TopDef K mg "is_whole" s_is_whole) (Z_isinstance : mg "isinstance" = none) (Z_int : mg "int" = none) (Z_bool : mg "bool" = none) (kb : PySem.W.kitOne K (.type "int") (.type "bool") = some false) : Def P w K mg base 1 "is_whole" ["thing"] spWh := by
  refine def_of T sc_is_whole (fun _ _ _ _ _ _ => ar1 fun _ => rfl) (fun vs H Q E h => ?_) (fun f cdv A outer s H vs Q E hr h => ?_)
  · obtain ⟨i, rfl, _⟩ := h
    rfl
  obtain ⟨i, rfl, q⟩ := h
  have nd := sc_is_whole.nd
  refine ⟨_, (pss_one (ps_ret (pe_and (pe_callB call_isi rfl Z_isinstance (by decide +kernel) (pa_cons (pv 0) (pa_cons (pe_bltn (v := V.ty "int") rfl Z_int (by decide +kernel) rfl) pa_nil))) (pe_one (pe_not (pe_callB call_isi rfl Z_isinstance (by decide +kernel) (pa_cons (pv 0) (pa_cons (pe_bltn (v := V.ty "bool") rfl Z_bool (by decide +kernel) rfl) pa_nil)))))))), ?_⟩
  exact ⟨_, rfl, _, _, _, _, true, rfl, (fun _ h => h), TyOf.int _, kit_same, _, rfl, iteT ⟨_, rfl, _, _, _, _, false, rfl, (fun _ h => h), TyOf.int _, kb, _, rfl, q⟩⟩
theorem ok_ahead (T : TopDef K mg "is_place_ahead" s_is_place_ahead) (D_is_whole : Def P w K mg base 1 "is_whole" ["thing"] spWh) : Def P w K mg base 2 "is_place_ahead" ["thing", "place"] spAhead := by
  refine def_of T sc_is_place_ahead (fun _ _ _ _ _ _ => ar2 fun _ _ => rfl) (fun vs H Q E h => ?_) (fun f cdv A outer s H vs Q E hr h => ?_)
  · obtain ⟨i, p, rfl, _⟩ := h
    rfl
  obtain ⟨i, p, rfl, q⟩ := h
  have nd := sc_is_place_ahead.nd
  refine ⟨_, (pss_one (ps_ret (pe_and (pe_def D_is_whole (hr.mono (by decide)) rfl (pa_cons (pv 0) pa_nil)) (pe_one (pe_chain op_le op_lt pe_int (pv 0) (pv 1)))))), ?_⟩
  refine ⟨_, rfl, i, rfl, _, rfl, iteT ?_⟩
  refine ⟨_, rfl, _, _, rfl, rfl, _, rfl, ?_⟩
  by_cases h0 : 0 ≤ i
  · rw [if_pos (decide_eq_true h0)]
    refine ⟨_, rfl, _, _, rfl, rfl, ?_⟩
    have e : decide (0 ≤ i ∧ i < p) = decide (i < p) := by simp [h0]
    rw [e] at q
    exact q
  · rw [if_neg (fun z => h0 (of_decide_eq_true z))]
    have e : decide (0 ≤ i ∧ i < p) = false := by simp [h0]
    rw [e] at q
    exact q
theorem ok_is_row (T : TopDef K mg "is_row" s_is_row) (Z_isinstance : mg "isinstance" = none) (Z_tuple : mg "tuple" = none) (Z_len : mg "len" = none) (Z_str : mg "str" = none) (Z_all : mg "all" = none) {tm : Tok} (M_MOST_ROWS : mg "MOST_ROWS" = some (.int 400 tm))
    (D_how_many_it_takes : Def P w K mg base 1 "how_many_it_takes" ["word"] spHow) (D_is_place_ahead : Def P w K mg base 2 "is_place_ahead" ["thing", "place"] spAhead) : Def P w K mg base 3 "is_row" ["thing", "place"] (spIsRow K) := by
  refine def_of T sc_is_row (fun _ _ _ _ _ _ => ar2 fun _ _ => rfl) (fun vs H Q E h => ?_) (fun f cdv A outer s H vs Q E hr h => ?_)
  · obtain ⟨x, n, r, rfl, _⟩ := h
    rfl
  obtain ⟨x, n, ⟨wd, is⟩, rfl, dx, ⟨tk, l2⟩, few, q⟩ := h
  obtain ⟨a, rfl, sx⟩ := th_el dx
  have nd := sc_is_row.nd
  have lt : is.length ≤ 2 := l2
  have cv := cut1 (x := V.str wd) lt
  have li : (is.map V.int).length = is.length := List.length_map _
  have sl0 : ¬ (HT.sIx (V.str wd :: is.map V.int).length 0 (some 1) = 0 ∧ HT.sIx (V.str wd :: is.map V.int).length (V.str wd :: is.map V.int).length none = (V.str wd :: is.map V.int).length) := by
    rw [List.length_cons, li]
    exact six1 lt
  have sx : SqT K H a (V.str wd :: is.map V.int) := sx
  have a0 : atI (V.str wd :: is.map V.int) 0 = some (V.str wd) := atI_nat (show (V.str wd :: is.map V.int)[0]? = some (V.str wd) from rfl)
  refine ⟨_, (pss_cons (ps_if (PW.pt (pw_or (pt_cmpR op_ge (pv 1) (pe_glob (v := V.int 400) rfl M_MOST_ROWS ⟨_, rfl⟩) (nomark _)) (pw_or (pt_not (pt_val (pe_callB call_isiT rfl Z_isinstance (by decide +kernel) (pa_cons (pv 0) (pa_cons (pe_bltn (v := V.ty "tuple") rfl Z_tuple (by decide +kernel) rfl) pa_nil))))) (pw_or1 (pt_cmpR op_eq (pe_callB call_len rfl Z_len (by decide +kernel) (pa_cons (pv 0) pa_nil)) pe_int (nomark _)))))) (pss_one (ps_ret pe_bl)) pss_nil)
    (pss_cons (ps_if (PW.pt (pw_or (pt_not (pt_val (pe_callB call_isi rfl Z_isinstance (by decide +kernel) (pa_cons (pe_ix ix_tup (pv 0) pe_int (fun _ _ => rfl)) (pa_cons (pe_bltn (v := V.ty "str") rfl Z_str (by decide +kernel) rfl) pa_nil))))) (pw_or1 (pt_cmpR op_ne (pe_def D_how_many_it_takes (hr.mono (by decide)) rfl (pa_cons (pe_ix ix_tup (pv 0) pe_int (fun _ _ => rfl)) pa_nil)) (pe_op op_sub (pe_callB call_len rfl Z_len (by decide +kernel) (pa_cons (pv 0) pa_nil)) pe_int) (nomark _))))) (pss_one (ps_ret pe_bl)) pss_nil)
    (pss_one (ps_ret (pe_callB (call_all rfl) rfl Z_all (by decide +kernel) (pa_cons (pe_compF rfl (pi_tup (pe_slice sl_tup (pv 0) (po_some pe_int) po_none)) rfl (by decide +kernel) (by decide +kernel) rfl (show ∀ p ∈ Scope.names _, p.2 = NameKind.free → List.lookup p.1 (defScope s_is_row).names = some .cell ∨ List.lookup p.1 (defScope s_is_row).names = some .free by decide +kernel) (fa_cons (j := 1) rfl (Or.inl rfl) (by decide +kernel) (Or.inl rfl) fa_nil) (show (["index", "place"] : List Str).Nodup by decide +kernel) (fun _ _ _ _ => pif_nil) (fun _ _ _ _ => (pe_def D_is_place_ahead (hr.mono (by decide)) rfl (pa_cons (pv 0) (pa_cons (pv 1) pa_nil))))) pa_nil)))))), ?_⟩
  refine ⟨_, rfl, _, _, rfl, rfl, _, rfl, ?_⟩
  rw [decide_eq_false (show ¬ (400 : Int) ≤ n by omega)]
  refine iteF ?_
  refine ⟨_, rfl, a, _, _, _, true, rfl, (fun _ h => h), sx, kit_same, _, rfl, iteF ?_⟩
  refine ⟨_, rfl, _, _, rfl, .inr ⟨_, sx, rfl⟩, rfl, _, rfl, ?_⟩
  rw [decide_eq_false (show ¬ V.int (((V.str wd :: is.map V.int).length : Nat) : Int) = V.int 0 from fun z => by have := V.int.inj z; rw [List.length_cons] at this; omega)]
  refine iteF ?_
  refine ⟨_, rfl, _, _, _, _, rfl, rfl, sx, a0, _, _, _, _, true, rfl, (fun _ h => h), TyOf.str _, kit_same, _, rfl, iteF ?_⟩
  refine ⟨_, rfl, _, _, _, _, rfl, rfl, sx, a0, wd, _, rfl, tk, _, rfl, _, _, rfl, .inr ⟨_, sx, rfl⟩, _, _, rfl, rfl, rfl, _, rfl, ?_⟩
  refine iteNS (congrArg V.int (by rw [List.length_cons, li]; show (is.length : Int) = _; omega)) ?_
  refine ⟨_, rfl, _, rfl, a, _, rfl, sx, sl0, fun p hp => ?_⟩
  rw [cv]
  have up := same_new hp (.tup (is.map V.int))
  have sp : SqT K (upd H p (.tup (is.map V.int))) p (is.map V.int) := SqT.of upd_same
  generalize upd H p (.tup (is.map V.int)) = H1 at up sp ⊢
  refine ⟨p, rfl, ⟨_, sp⟩, fun D hD => ?_⟩
  refine ⟨fun i m H2 => m = is.length - i ∧ i ≤ is.length ∧ Same H1 H2 ∧ H2 D = some (.lst (((is.take i).map fun i => decide (0 ≤ i ∧ i < (n : Int))).map V.bl)), ⟨_, rfl, Nat.zero_le _, same_new hD _, upd_same⟩, ?_⟩
  rintro i m H2 ⟨rfl, hi, sm, hlD⟩
  have sa2 := sp.ts sm.ts
  by_cases hlt : i < is.length
  · refine .inr ⟨⟨_, _, sa2, List.getElem?_eq_getElem (by rw [li]; exact hlt)⟩, fun v H3 y => ?_⟩
    obtain ⟨rfl, y⟩ := y
    have y := y _ sa2
    rw [List.getElem?_map, List.getElem?_eq_getElem hlt] at y
    cases y
    refine tNoIf_go ?_
    refine ⟨_, rfl, _, rfl, is[i], n, rfl, ?_⟩
    refine ⟨_, hlD, small1000 (by simp; omega), is.length - (i + 1), by omega, rfl, hlt, same_mut sm hD _, ?_⟩
    rw [upd_same, List.take_succ_eq_append_getElem hlt, List.map_append, List.map_append]
    rfl
  · have e : i = is.length := by omega
    subst e
    rw [List.take_length] at hlD
    exact .inl ⟨⟨_, sa2, Nat.le_of_eq li⟩, D, _, rfl, SqL.of hlD, q _ (up.trans sm)⟩
theorem ok_fault (T : TopDef K mg "rows_fault" s_rows_fault) (Z_enumerate : mg "enumerate" = none) (Z_len : mg "len" = none) (D_is_row : Def P w K mg base 3 "is_row" ["thing", "place"] (spIsRow K)) : Def P w K mg base 4 "rows_fault" ["things"] (spFault K) := by
  refine def_of T sc_rows_fault (fun _ _ _ _ _ _ => ar1 fun _ => rfl) (fun vs H Q E h => ?_) (fun f cdv A outer s H vs Q E hr h => ?_)
  · obtain ⟨l, us, ts, b, rfl, _⟩ := h
    rfl
  obtain ⟨l, us, ts, b, rfl, hl, da, ⟨tk, ok, ne, few⟩, q⟩ := h
  have nd := sc_rows_fault.nd
  have lu : us.length = ts.length := by rw [da.len, List.length_map]
  refine ⟨_, (pss_cons (ps_for PassesOwn.never rfl (pi_enum rfl Z_enumerate (pv 0)) (pg_tup rfl (pgs_cons (pg_name (i := 1) nd rfl (Or.inl rfl)) (pgs_cons (pg_name (i := 2) nd rfl (Or.inl rfl)) pgs_nil))) (pss_one (ps_if (pt_not (pt_val (pe_def D_is_row (hr.mono (by decide)) rfl (pa_cons (pv 2) (pa_cons (pv 1) pa_nil))))) (pss_one (ps_ret (pv 1))) pss_nil)))
    (pss_one (ps_ret (pe_ifExp (pt_cmpR op_eq (pe_callB call_len rfl Z_len (by decide +kernel) (pa_cons (pv 0) pa_nil)) pe_int (nomark _)) pe_int pe_non)))), ?_⟩
  refine ⟨_, rfl, l, rfl, ⟨us, SqL.of hl⟩, ?_⟩
  refine for_enum (xs := us) (fun i σ H' => i ≤ us.length ∧ (i = us.length → b = true) ∧ Same H H' ∧ ∃ o1 o2, σ = [some (.ref l), o1, o2]) ⟨Nat.zero_le _, (fun z => by omega), fun _ _ z => z, _, _, rfl⟩ (fun i σ H' _ z => SqL.of (z.2.2.1 _ _ hl)) (fun i v T' σ H' hv z hT => ?_) (fun σ H' z => ?_)
  · obtain ⟨_, _, sm, o1, o2, rfl⟩ := z
    have uT := same_new hT (.tup [.int i, v])
    have s2 := sm.trans uT
    obtain ⟨t, ht, dt⟩ := th_at' (da.ts s2.ts) hv
    have hi : i < us.length := (List.getElem?_eq_some_iff.mp hv).1
    have g := ok i t ht
    refine ⟨T', _, rfl, SqT.of upd_same, rfl, _, _, rfl, _, _, rfl, rfl, ?_⟩
    refine ⟨_, rfl, _, rfl, v, i, t, rfl, dt, tk t (List.mem_of_getElem? ht), by omega, fun H3 s3 => ?_⟩
    rw [g]
    have s4 := s2.trans s3
    by_cases c : i + 1 < ts.length
    · rw [decide_eq_true c, Bool.or_true]
      exact ⟨_, rfl, iteF ⟨hi, (fun z => by omega), s4, _, _, rfl⟩⟩
    · rw [decide_eq_false c, Bool.or_false]
      cases b with
      | true => exact ⟨_, rfl, iteF ⟨hi, (fun _ => rfl), s4, _, _, rfl⟩⟩
      | false =>
        refine ⟨_, rfl, iteT ⟨_, rfl, ?_⟩⟩
        have z := q H3 s4
        rw [if_neg (by decide), show ((ts.length : Int) - 1) = (i : Int) by omega] at z
        exact z
  · obtain ⟨_, hb, sm, o1, o2, rfl⟩ := z
    have hb := hb rfl
    subst hb
    refine ⟨_, rfl, _, _, rfl, .inl ⟨_, SqL.of (sm _ _ hl), rfl⟩, rfl, _, rfl, ?_⟩
    rw [decide_eq_false (show ¬ V.int ((us.length : Nat) : Int) = V.int 0 from fun z => by have := V.int.inj z; omega)]
    exact iteF (q _ sm)
theorem ok_must {C : Addr} (T : TopDef K mg "must_be_rows" s_must_be_rows) (X_NoRows : XC1 P w K mg base "NoRows" C "at") (D_rows_fault : Def P w K mg base 4 "rows_fault" ["things"] (spFault K)) : DefD P w K mg base 5 "must_be_rows" ["things"] (spMust K C) := by
  refine defd_of T sc_must_be_rows (fun _ _ _ _ _ _ => ar1 fun _ => rfl) (fun vs H Q E h => ?_) (fun f cdv A outer s H vs Q E hr h => ?_)
  · obtain ⟨l, us, ts, b, rfl, _⟩ := h
    rfl
  obtain ⟨l, us, ts, b, rfl, hl, da, th, q1, q2⟩ := h
  have nd := sc_must_be_rows.nd
  refine ⟨_, (pss_cons (ps_set (i := 1) nd rfl (Or.inl rfl) (pe_def D_rows_fault (hr.mono (by decide)) rfl (pa_cons (pv 0) pa_nil)))
    (pss_one (ps_if (pt_cmpR op_notN (pv 1) pe_non (nomark _)) (pss_one (ps_raise1 X_NoRows (hr.mono (by decide)) rfl (pa_cons (pv 1) pa_nil))) pss_nil))), ?_⟩
  refine ⟨_, rfl, l, us, ts, b, rfl, hl, da, th, fun H' s' => ?_⟩
  cases b with
  | true => exact ⟨_, rfl, rfl, _, rfl, iteF (q1 rfl _ s')⟩
  | false => exact ⟨_, rfl, rfl, _, rfl, iteT ⟨_, rfl, _, rfl, fun d hd => q2 rfl H' d s' hd⟩⟩
end
end Mine



set_option Elab.async false
set_option linter.all false
set_option maxRecDepth 100000
set_option maxHeartbeats 4000000

namespace Mine
open PySem L2
inductive Sp2_ (K : PySem.W.Frag) (f : T3 → T3 → T3) (vs : List V) (H : Hp) (Q : VK) : Prop where
  | mk (x y : V) (p q : T3) (z_0 : vs = [x, y]) (z_1 : Dat K H (t3D p) x) (z_2 : Dat K H (t3D q) y) (z_3 : ∀ (t : Addr) (H' : Hp), Same H H' → Dat K H' (t3D (f p q)) (.ref t) → Q (.ref t) H') : Sp2_ K f vs H Q
noncomputable def sp2 (K : PySem.W.Frag) (f : T3 → T3 → T3) : Sp := fun vs H Q _ => Sp2_ K f vs H Q
/-- a choice on the heap -/
noncomputable def Ch (K : PySem.W.Frag) (H : Hp) (c : T3 × T3 × T3) (v : V) : Prop := ∃ (t : Addr) (x y z : V), v = .ref t ∧ SqT K H t [x, y, z] ∧ Dat K H (t3D c.1) x ∧ Dat K H (t3D c.2.1) y ∧ Dat K H (t3D c.2.2) z
inductive SpLeaf_ (K : PySem.W.Frag) (vs : List V) (H : Hp) (Q : VK) : Prop where
  | mk (k : Nat) (z_0 : vs = [.str (lw k)]) (z_1 : k < 4) (z_2 : ∀ v, Dat K H (t3D (Hu.lft k)) v → Q v H) : SpLeaf_ K vs H Q
noncomputable def spLeaf (K : PySem.W.Frag) : Sp := fun vs H Q _ => SpLeaf_ K vs H Q
inductive SpFold_ (K : PySem.W.Frag) (vs : List V) (H : Hp) (Q : VK) : Prop where
  | mk (k : Nat) (x y : V) (a b : T3) (z_0 : vs = [.str (fw k), x, y]) (z_1 : k < 5) (z_2 : Dat K H (t3D a) x) (z_3 : Dat K H (t3D b) y) (z_4 : ∀ (v : V) (H' : Hp), Same H H' → Ch K H' (Hu.fch k a b) v → Q v H') : SpFold_ K vs H Q
noncomputable def spFold (K : PySem.W.Frag) : Sp := fun vs H Q _ => SpFold_ K vs H Q
section
variable {P : Program} {w : World} {K : PySem.W.Frag} {mg : Str → Option Value} {base : Heap}
theorem ok_both (T : TopDef K mg "both" s_both) (Z_zip : mg "zip" = none) (Z_tuple : mg "tuple" = none) : Def P w K mg base 1 "both" ["one", "other"] (sp2 K Hu.pl) := by
  refine def_of T sc_both (fun _ _ _ _ _ _ => ar2 fun _ _ => rfl) (fun vs H Q E h => ?_) (fun f cdv A outer s H vs Q E hr h => ?_)
  · obtain ⟨x, y, p, q, rfl, _⟩ := h
    rfl
  obtain ⟨x, y, p, q, rfl, dx, dy, k⟩ := h
  obtain ⟨ax, rfl, sx⟩ := t3_el dx
  obtain ⟨ay, rfl, sy⟩ := t3_el dy
  have nd := sc_both.nd
  refine ⟨_, (pss_one (ps_ret (pe_callTy call_tuple_of rfl Z_tuple (by decide +kernel) (pa_cons (pe_compTF (xs := ["first", "second"]) rfl (pi_zipT rfl Z_zip (pv 0) (pv 1)) rfl (by decide +kernel) (by decide +kernel) (show ∀ p ∈ Scope.names _, p.2 = NameKind.free → List.lookup p.1 (defScope s_both).names = some .cell ∨ List.lookup p.1 (defScope s_both).names = some .free by decide +kernel) fa_nil (show (["first", "second"] : List Str).Nodup by decide +kernel) (fun _ _ _ _ => pg_tupK (K := K) (n := 2) rfl rfl (pgs_cons (pg_name (i := 0) (show (["first", "second"] : List Str).Nodup by decide +kernel) rfl (Or.inl rfl) (.inr rfl)) (pgs_cons (pg_name (i := 1) (show (["first", "second"] : List Str).Nodup by decide +kernel) rfl (Or.inl rfl) (.inr rfl)) pgs_nil))) (fun _ _ _ _ => (pe_op op_add (pv 0) (pv 1)))) pa_nil)))), ?_⟩
  refine ⟨_, rfl, _, rfl, ax, ay, _, _, rfl, rfl, sx, sy, fun D hD => ?_⟩
  refine ⟨fun i m H2 => m = 3 - i ∧ i ≤ 3 ∧ Same H H2 ∧ H2 D = some (.lst ([V.int (p.u + q.u), .int (p.v + q.v), .int (p.w + q.w)].take i)), ⟨_, rfl, Nat.zero_le _, same_new hD _, upd_same⟩, ?_⟩
  rintro i m H2 ⟨rfl, hi, sm, hlD⟩
  have sx2 := sx.ts sm.ts
  have sy2 := sy.ts sm.ts
  by_cases hlt : i < 3
  · refine .inr ⟨⟨_, _, sx2, sy2, hlt, Nat.le_refl _⟩, fun o ho v H3 y => ?_⟩
    obtain ⟨T', vs, nT, rfl, rfl, x, y, rfl, hx, hy⟩ := y
    have zx := hx _ sx2
    have zy := hy _ sy2
    obtain ⟨o1, o2, rfl⟩ := len2 ho
    have uT := same_new nT (.tup [x, y])
    refine ⟨T', _, rfl, SqT.of upd_same, rfl, _, _, rfl, _, _, rfl, rfl, [some x, some y], rfl, rfl, ?_⟩
    have hlD2 := uT _ _ hlD
    rcases (c3 (by assumption) : i = 0 ∨ i = 1 ∨ i = 2) with rfl | rfl | rfl
    · cases zx
      cases zy
      exact ⟨_, rfl, _, rfl, _, _, rfl, rfl, _, hlD2, small1000 (by simp), 3 - 1, by omega, rfl, by omega, same_mut (sm.trans uT) hD _, upd_same⟩
    · cases zx
      cases zy
      exact ⟨_, rfl, _, rfl, _, _, rfl, rfl, _, hlD2, small1000 (by simp), 3 - 2, by omega, rfl, by omega, same_mut (sm.trans uT) hD _, upd_same⟩
    · cases zx
      cases zy
      exact ⟨_, rfl, _, rfl, _, _, rfl, rfl, _, hlD2, small1000 (by simp), 3 - 3, by omega, rfl, by omega, same_mut (sm.trans uT) hD _, upd_same⟩
  have ei : i = 3 := by omega
  subst ei
  refine .inl ⟨⟨_, _, sx2, sy2, Nat.le_refl _, Nat.le_refl _⟩, ?_⟩
  refine ⟨D, _, rfl, .inl ⟨SqL.of hlD, fun tt htt => ?_⟩⟩
  exact k tt _ (sm.trans (same_new htt _)) (t3_mk (p := Hu.pl p q) (SqT.of upd_same))
theorem ok_without (T : TopDef K mg "without" s_without) (Z_zip : mg "zip" = none) (Z_tuple : mg "tuple" = none) : Def P w K mg base 1 "without" ["one", "other"] (sp2 K Hu.mi) := by
  refine def_of T sc_without (fun _ _ _ _ _ _ => ar2 fun _ _ => rfl) (fun vs H Q E h => ?_) (fun f cdv A outer s H vs Q E hr h => ?_)
  · obtain ⟨x, y, p, q, rfl, _⟩ := h
    rfl
  obtain ⟨x, y, p, q, rfl, dx, dy, k⟩ := h
  obtain ⟨ax, rfl, sx⟩ := t3_el dx
  obtain ⟨ay, rfl, sy⟩ := t3_el dy
  have nd := sc_without.nd
  refine ⟨_, (pss_one (ps_ret (pe_callTy call_tuple_of rfl Z_tuple (by decide +kernel) (pa_cons (pe_compTF (xs := ["first", "second"]) rfl (pi_zipT rfl Z_zip (pv 0) (pv 1)) rfl (by decide +kernel) (by decide +kernel) (show ∀ p ∈ Scope.names _, p.2 = NameKind.free → List.lookup p.1 (defScope s_without).names = some .cell ∨ List.lookup p.1 (defScope s_without).names = some .free by decide +kernel) fa_nil (show (["first", "second"] : List Str).Nodup by decide +kernel) (fun _ _ _ _ => pg_tupK (K := K) (n := 2) rfl rfl (pgs_cons (pg_name (i := 0) (show (["first", "second"] : List Str).Nodup by decide +kernel) rfl (Or.inl rfl) (.inr rfl)) (pgs_cons (pg_name (i := 1) (show (["first", "second"] : List Str).Nodup by decide +kernel) rfl (Or.inl rfl) (.inr rfl)) pgs_nil))) (fun _ _ _ _ => (pe_op op_sub (pv 0) (pv 1)))) pa_nil)))), ?_⟩
  refine ⟨_, rfl, _, rfl, ax, ay, _, _, rfl, rfl, sx, sy, fun D hD => ?_⟩
  refine ⟨fun i m H2 => m = 3 - i ∧ i ≤ 3 ∧ Same H H2 ∧ H2 D = some (.lst ([V.int (p.u - q.u), .int (p.v - q.v), .int (p.w - q.w)].take i)), ⟨_, rfl, Nat.zero_le _, same_new hD _, upd_same⟩, ?_⟩
  rintro i m H2 ⟨rfl, hi, sm, hlD⟩
  have sx2 := sx.ts sm.ts
  have sy2 := sy.ts sm.ts
  by_cases hlt : i < 3
  · refine .inr ⟨⟨_, _, sx2, sy2, hlt, Nat.le_refl _⟩, fun o ho v H3 y => ?_⟩
    obtain ⟨T', vs, nT, rfl, rfl, x, y, rfl, hx, hy⟩ := y
    have zx := hx _ sx2
    have zy := hy _ sy2
    obtain ⟨o1, o2, rfl⟩ := len2 ho
    have uT := same_new nT (.tup [x, y])
    refine ⟨T', _, rfl, SqT.of upd_same, rfl, _, _, rfl, _, _, rfl, rfl, [some x, some y], rfl, rfl, ?_⟩
    have hlD2 := uT _ _ hlD
    rcases (c3 (by assumption) : i = 0 ∨ i = 1 ∨ i = 2) with rfl | rfl | rfl
    · cases zx
      cases zy
      exact ⟨_, rfl, _, rfl, _, _, rfl, rfl, _, hlD2, small1000 (by simp), 3 - 1, by omega, rfl, by omega, same_mut (sm.trans uT) hD _, upd_same⟩
    · cases zx
      cases zy
      exact ⟨_, rfl, _, rfl, _, _, rfl, rfl, _, hlD2, small1000 (by simp), 3 - 2, by omega, rfl, by omega, same_mut (sm.trans uT) hD _, upd_same⟩
    · cases zx
      cases zy
      exact ⟨_, rfl, _, rfl, _, _, rfl, rfl, _, hlD2, small1000 (by simp), 3 - 3, by omega, rfl, by omega, same_mut (sm.trans uT) hD _, upd_same⟩
  have ei : i = 3 := by omega
  subst ei
  refine .inl ⟨⟨_, _, sx2, sy2, Nat.le_refl _, Nat.le_refl _⟩, ?_⟩
  refine ⟨D, _, rfl, .inl ⟨SqL.of hlD, fun tt htt => ?_⟩⟩
  exact k tt _ (sm.trans (same_new htt _)) (t3_mk (p := Hu.mi p q) (SqT.of upd_same))
theorem ok_leaf (T : TopDef K mg "leaf_rule" s_leaf_rule) (P_NEVER : TopTup K mg "NEVER" [0, 0, 0]) (P_ALWAYS : TopTup K mg "ALWAYS" [0, 0, 1]) (P_LETTER_P : TopTup K mg "LETTER_P" [1, 0, 0]) (P_LETTER_Q : TopTup K mg "LETTER_Q" [0, 1, 0]) : Def P w K mg base 1 "leaf_rule" ["word"] (spLeaf K) := by
  refine def_of T sc_leaf_rule (fun _ _ _ _ _ _ => ar1 fun _ => rfl) (fun vs H Q E h => ?_) (fun f cdv A outer s H vs Q E hr h => ?_)
  · obtain ⟨k, rfl, _⟩ := h
    rfl
  obtain ⟨k, rfl, hk, q⟩ := h
  obtain ⟨aNE, M_NEVER, sNE⟩ := P_NEVER.ex
  obtain ⟨aAL, M_ALWAYS, sAL⟩ := P_ALWAYS.ex
  obtain ⟨aLP, M_LETTER_P, sLP⟩ := P_LETTER_P.ex
  obtain ⟨aLQ, M_LETTER_Q, sLQ⟩ := P_LETTER_Q.ex
  have nd := sc_leaf_rule.nd
  refine ⟨_, (pss_cons (ps_if (pt_cmpR op_eq (pv 0) pe_str (nomark _)) (pss_one (ps_ret (pe_glob (v := V.ref aNE) rfl M_NEVER rfl))) pss_nil)
    (pss_cons (ps_if (pt_cmpR op_eq (pv 0) pe_str (nomark _)) (pss_one (ps_ret (pe_glob (v := V.ref aAL) rfl M_ALWAYS rfl))) pss_nil)
    (pss_one (ps_ret (pe_ifExp (pt_cmpR op_eq (pv 0) pe_str (nomark _)) (pe_glob (v := V.ref aLP) rfl M_LETTER_P rfl) (pe_glob (v := V.ref aLQ) rfl M_LETTER_Q rfl)))))), ?_⟩
  rcases (c4 (by assumption) : k = 0 ∨ k = 1 ∨ k = 2 ∨ k = 3) with rfl | rfl | rfl | rfl
  · refine ⟨_, rfl, rfl, _, rfl, ?_⟩
    rw [show decide (V.str (lw 0) = V.str "never") = true by decide +kernel]
    exact iteT (q _ (t3_mk (p := ⟨0, 0, 0⟩) (sNE H)))
  · refine ⟨_, rfl, rfl, _, rfl, ?_⟩
    rw [show decide (V.str (lw 1) = V.str "never") = false by decide +kernel]
    refine iteF ?_
    refine ⟨_, rfl, rfl, _, rfl, ?_⟩
    rw [show decide (V.str (lw 1) = V.str "always") = true by decide +kernel]
    exact iteT (q _ (t3_mk (p := ⟨0, 0, 1⟩) (sAL H)))
  · refine ⟨_, rfl, rfl, _, rfl, ?_⟩
    rw [show decide (V.str (lw 2) = V.str "never") = false by decide +kernel]
    refine iteF ?_
    refine ⟨_, rfl, rfl, _, rfl, ?_⟩
    rw [show decide (V.str (lw 2) = V.str "always") = false by decide +kernel]
    refine iteF ?_
    refine ⟨_, rfl, rfl, _, rfl, ?_⟩
    rw [show decide (V.str (lw 2) = V.str "p") = true by decide +kernel]
    exact iteT (q _ (t3_mk (p := ⟨1, 0, 0⟩) (sLP H)))
  · refine ⟨_, rfl, rfl, _, rfl, ?_⟩
    rw [show decide (V.str (lw 3) = V.str "never") = false by decide +kernel]
    refine iteF ?_
    refine ⟨_, rfl, rfl, _, rfl, ?_⟩
    rw [show decide (V.str (lw 3) = V.str "always") = false by decide +kernel]
    refine iteF ?_
    refine ⟨_, rfl, rfl, _, rfl, ?_⟩
    rw [show decide (V.str (lw 3) = V.str "p") = false by decide +kernel]
    exact iteF (q _ (t3_mk (p := ⟨0, 1, 0⟩) (sLQ H)))
theorem ok_fold (T : TopDef K mg "fold_choice" s_fold_choice) (P_NEVER : TopTup K mg "NEVER" [0, 0, 0]) (P_ALWAYS : TopTup K mg "ALWAYS" [0, 0, 1]) (D_both : Def P w K mg base 1 "both" ["one", "other"] (sp2 K Hu.pl)) (D_without : Def P w K mg base 1 "without" ["one", "other"] (sp2 K Hu.mi)) : Def P w K mg base 2 "fold_choice" ["word", "one", "other"] (spFold K) := by
  refine def_of T sc_fold_choice (fun _ _ _ _ _ _ => ar3 fun _ _ _ => rfl) (fun vs H Q E h => ?_) (fun f cdv A outer s H vs Q E hr h => ?_)
  · obtain ⟨k, x, y, a, b, rfl, _⟩ := h
    rfl
  obtain ⟨k, x, y, a, b, rfl, hk, dx, dy, q⟩ := h
  obtain ⟨aNE, M_NEVER, sNE⟩ := P_NEVER.ex
  obtain ⟨aAL, M_ALWAYS, sAL⟩ := P_ALWAYS.ex
  have dAL : ∀ H, Dat K H (t3D Hu.al) (.ref aAL) := fun H => t3_mk (p := Hu.al) (sAL H)
  have dNE : ∀ H, Dat K H (t3D Hu.z0) (.ref aNE) := fun H => t3_mk (p := Hu.z0) (sNE H)
  have nd := sc_fold_choice.nd
  refine ⟨_, (pss_cons (ps_if (pt_cmpR op_eq (pv 0) pe_str (nomark _)) (pss_one (ps_ret (pe_tup (pa_cons (pe_def D_without (hr.mono (by decide)) rfl (pa_cons (pe_def D_both (hr.mono (by decide)) rfl (pa_cons (pv 1) (pa_cons (pv 2) pa_nil))) (pa_cons (pe_glob (v := V.ref aAL) rfl M_ALWAYS rfl) pa_nil))) (pa_cons (pe_def D_both (hr.mono (by decide)) rfl (pa_cons (pv 1) (pa_cons (pv 2) pa_nil))) (pa_cons (pe_glob (v := V.ref aAL) rfl M_ALWAYS rfl) pa_nil)))))) pss_nil)
    (pss_cons (ps_if (pt_cmpR op_eq (pv 0) pe_str (nomark _)) (pss_one (ps_ret (pe_tup (pa_cons (pe_def D_without (hr.mono (by decide)) rfl (pa_cons (pe_def D_both (hr.mono (by decide)) rfl (pa_cons (pv 1) (pa_cons (pv 2) pa_nil))) (pa_cons (pe_glob (v := V.ref aAL) rfl M_ALWAYS rfl) pa_nil))) (pa_cons (pe_glob (v := V.ref aNE) rfl M_NEVER rfl) (pa_cons (pe_def D_without (hr.mono (by decide)) rfl (pa_cons (pe_def D_both (hr.mono (by decide)) rfl (pa_cons (pv 1) (pa_cons (pv 2) pa_nil))) (pa_cons (pe_glob (v := V.ref aAL) rfl M_ALWAYS rfl) pa_nil))) pa_nil)))))) pss_nil)
    (pss_cons (ps_if (pt_cmpR op_eq (pv 0) pe_str (nomark _)) (pss_one (ps_ret (pe_tup (pa_cons (pe_def D_without (hr.mono (by decide)) rfl (pa_cons (pv 1) (pa_cons (pv 2) pa_nil))) (pa_cons (pv 2) (pa_cons (pv 1) pa_nil)))))) pss_nil)
    (pss_cons (ps_if (pt_cmpR op_eq (pv 0) pe_str (nomark _)) (pss_one (ps_ret (pe_tup (pa_cons (pe_def D_without (hr.mono (by decide)) rfl (pa_cons (pv 1) (pa_cons (pv 2) pa_nil))) (pa_cons (pv 1) (pa_cons (pv 2) pa_nil)))))) pss_nil)
    (pss_one (ps_ret (pe_tup (pa_cons (pe_def D_without (hr.mono (by decide)) rfl (pa_cons (pv 2) (pa_cons (pv 1) pa_nil))) (pa_cons (pe_def D_both (hr.mono (by decide)) rfl (pa_cons (pe_glob (v := V.ref aAL) rfl M_ALWAYS rfl) (pa_cons (pe_def D_without (hr.mono (by decide)) rfl (pa_cons (pv 2) (pa_cons (pv 1) pa_nil))) pa_nil))) (pa_cons (pe_glob (v := V.ref aAL) rfl M_ALWAYS rfl) pa_nil)))))))))), ?_⟩
  have d2 : (2 : Nat) ≤ sizeLine := by decide
  have d3 : (3 : Nat) ≤ sizeLine := by decide
  rcases (c5 (by assumption) : k = 0 ∨ k = 1 ∨ k = 2 ∨ k = 3 ∨ k = 4) with rfl | rfl | rfl | rfl | rfl
  · refine ⟨_, rfl, rfl, _, rfl, ?_⟩
    rw [show decide (V.str (fw 0) = V.str "more") = true by decide +kernel]
    refine iteT ?_
    refine ⟨_, rfl, _, rfl, _, _, a, b, rfl, dx, dy, fun t1 H1 s1 e1 => ?_⟩
    refine ⟨_, _, _, _, rfl, e1, dAL H1, fun t2 H2 s2 e2 => ?_⟩
    have m2 := s1.trans s2
    refine ⟨_, rfl, _, rfl, _, _, a, b, rfl, dx.ts m2.ts, dy.ts m2.ts, fun t3 H3 s3 e3 => ⟨d3, fun t ht => ?_⟩⟩
    have u := same_new ht (.tup [.ref t2, .ref t3, .ref aAL])
    exact q _ _ (m2.trans (s3.trans u)) ⟨t, _, _, _, rfl, SqT.of upd_same, (e2.ts s3.ts).ts u.ts, e3.ts u.ts, dAL _⟩
  · refine ⟨_, rfl, rfl, _, rfl, ?_⟩
    rw [show decide (V.str (fw 1) = V.str "more") = false by decide +kernel]
    refine iteF ?_
    refine ⟨_, rfl, rfl, _, rfl, ?_⟩
    rw [show decide (V.str (fw 1) = V.str "less") = true by decide +kernel]
    refine iteT ?_
    refine ⟨_, rfl, _, rfl, _, _, a, b, rfl, dx, dy, fun t1 H1 s1 e1 => ?_⟩
    refine ⟨_, _, _, _, rfl, e1, dAL H1, fun t2 H2 s2 e2 => ?_⟩
    have m2 := s1.trans s2
    refine ⟨_, rfl, _, rfl, _, _, a, b, rfl, dx.ts m2.ts, dy.ts m2.ts, fun t3 H3 s3 e3 => ?_⟩
    refine ⟨_, _, _, _, rfl, e3, dAL H3, fun t4 H4 s4 e4 => ⟨d3, fun t ht => ?_⟩⟩
    have u := same_new ht (.tup [.ref t2, .ref aNE, .ref t4])
    exact q _ _ (m2.trans (s3.trans (s4.trans u))) ⟨t, _, _, _, rfl, SqT.of upd_same, ((e2.ts s3.ts).ts s4.ts).ts u.ts, dNE _, e4.ts u.ts⟩
  · refine ⟨_, rfl, rfl, _, rfl, ?_⟩
    rw [show decide (V.str (fw 2) = V.str "more") = false by decide +kernel]
    refine iteF ?_
    refine ⟨_, rfl, rfl, _, rfl, ?_⟩
    rw [show decide (V.str (fw 2) = V.str "less") = false by decide +kernel]
    refine iteF ?_
    refine ⟨_, rfl, rfl, _, rfl, ?_⟩
    rw [show decide (V.str (fw 2) = V.str "greater") = true by decide +kernel]
    refine iteT ?_
    refine ⟨_, rfl, _, rfl, _, _, a, b, rfl, dx, dy, fun t1 H1 s1 e1 => ?_⟩
    refine ⟨_, rfl, _, rfl, d3, fun t ht => ?_⟩
    have u := same_new ht (.tup [.ref t1, y, x])
    exact q _ _ (s1.trans u) ⟨t, _, _, _, rfl, SqT.of upd_same, e1.ts u.ts, (dy.ts s1.ts).ts u.ts, (dx.ts s1.ts).ts u.ts⟩
  · refine ⟨_, rfl, rfl, _, rfl, ?_⟩
    rw [show decide (V.str (fw 3) = V.str "more") = false by decide +kernel]
    refine iteF ?_
    refine ⟨_, rfl, rfl, _, rfl, ?_⟩
    rw [show decide (V.str (fw 3) = V.str "less") = false by decide +kernel]
    refine iteF ?_
    refine ⟨_, rfl, rfl, _, rfl, ?_⟩
    rw [show decide (V.str (fw 3) = V.str "greater") = false by decide +kernel]
    refine iteF ?_
    refine ⟨_, rfl, rfl, _, rfl, ?_⟩
    rw [show decide (V.str (fw 3) = V.str "lesser") = true by decide +kernel]
    refine iteT ?_
    refine ⟨_, rfl, _, rfl, _, _, a, b, rfl, dx, dy, fun t1 H1 s1 e1 => ?_⟩
    refine ⟨_, rfl, _, rfl, d3, fun t ht => ?_⟩
    have u := same_new ht (.tup [.ref t1, x, y])
    exact q _ _ (s1.trans u) ⟨t, _, _, _, rfl, SqT.of upd_same, e1.ts u.ts, (dx.ts s1.ts).ts u.ts, (dy.ts s1.ts).ts u.ts⟩
  · refine ⟨_, rfl, rfl, _, rfl, ?_⟩
    rw [show decide (V.str (fw 4) = V.str "more") = false by decide +kernel]
    refine iteF ?_
    refine ⟨_, rfl, rfl, _, rfl, ?_⟩
    rw [show decide (V.str (fw 4) = V.str "less") = false by decide +kernel]
    refine iteF ?_
    refine ⟨_, rfl, rfl, _, rfl, ?_⟩
    rw [show decide (V.str (fw 4) = V.str "greater") = false by decide +kernel]
    refine iteF ?_
    refine ⟨_, rfl, rfl, _, rfl, ?_⟩
    rw [show decide (V.str (fw 4) = V.str "lesser") = false by decide +kernel]
    refine iteF ?_
    refine ⟨_, rfl, _, rfl, _, _, b, a, rfl, dy, dx, fun t1 H1 s1 e1 => ?_⟩
    refine ⟨_, rfl, _, rfl, _, _, b, a, rfl, dy.ts s1.ts, dx.ts s1.ts, fun t2 H2 s2 e2 => ?_⟩
    refine ⟨_, _, _, _, rfl, dAL H2, e2, fun t3 H3 s3 e3 => ⟨d3, fun t ht => ?_⟩⟩
    have u := same_new ht (.tup [.ref t1, .ref t3, .ref aAL])
    exact q _ _ (s1.trans (s2.trans (s3.trans u))) ⟨t, _, _, _, rfl, SqT.of upd_same, ((e1.ts s2.ts).ts s3.ts).ts u.ts, e3.ts u.ts, dAL _⟩
end
end Mine



set_option Elab.async false
set_option linter.all false
set_option maxRecDepth 100000
set_option maxHeartbeats 4000000

namespace Mine
open PySem L2
inductive SpChoice_ (K : PySem.W.Frag) (vs : List V) (H : Hp) (Q : VK) : Prop where
  | mk (x : V) (lr : Addr) (ws : List V) (r : Hu.Row) (rs : List T3) (z_0 : vs = [x, .ref lr]) (z_1 : Dat K H (rowD r) x) (z_2 : H lr = some (.lst ws)) (z_3 : DatAll K H (rs.map t3D) ws) (z_4 : r.Ok rs.length) (z_5 : ∀ (v : V) (H' : Hp), Same H H' → Ch K H' (Hu.choice rs r) v → Q v H') : SpChoice_ K vs H Q
noncomputable def spChoice (K : PySem.W.Frag) : Sp := fun vs H Q _ => SpChoice_ K vs H Q
inductive SpChosen_ (K : PySem.W.Frag) (vs : List V) (H : Hp) (Q : VK) : Prop where
  | mk (l : Addr) (v : V) (us : List V) (h : List T3) (c : T3 × T3 × T3) (z_0 : vs = [.ref l, v]) (z_1 : H l = some (.lst us)) (z_2 : DatAll K H (h.map t3D) us) (z_3 : Ch K H c v) (z_4 : Hu.R3 3000 c.1) (z_5 : (∀ p ∈ h, Hu.R3 3000 p)) (z_6 : 0 < h.length) (z_7 : h.length ≤ 900) (z_8 : (∀ (x : T3) (u : V) (H' : Hp), Same H H' → Hu.chosen h c = some x → Dat K H' (t3D x) u → Q u H')) (z_9 : (Hu.chosen h c = none → ∀ H', Same H H' → Q .non H')) : SpChosen_ K vs H Q
noncomputable def spChosen (K : PySem.W.Frag) : Sp := fun vs H Q _ => SpChosen_ K vs H Q
/-- what came out, on the heap -/
noncomputable def OutD (K : PySem.W.Frag) (H H' : Hp) (rows : List Hu.Row) (o : Hu.Out) (v : V) : Prop := match o with
  | .rules rs => ∃ (t lr : Addr) (ws : List V), v = .ref t ∧ Hu.Rb rs ∧ rs.length = rows.length ∧ H lr = none ∧ SqT K H' t [.str "rules", .ref lr] ∧ H' lr = some (.lst ws) ∧ DatAll K H' (rs.map t3D) ws
  | .mixed k tt => ∃ (t : Addr) (x : V), v = .ref t ∧ SqT K H' t [.str "mixed", .int k, x] ∧ Dat K H' (t3D tt) x
theorem OutD.free {K : PySem.W.Frag} {H0 H H' : Hp} {rows : List Hu.Row} {o : Hu.Out} {v : V} (d : OutD K H H' rows o v) (s : Same H0 H) : OutD K H0 H' rows o v := by
  cases o with
  | rules rs => obtain ⟨t, lr, ws, a, b, c, n, r⟩ := d; exact ⟨t, lr, ws, a, b, c, s.free n, r⟩
  | mixed k tt => exact d
inductive SpRules_ (K : PySem.W.Frag) (vs : List V) (H : Hp) (Q : VK) : Prop where
  | mk (l lh : Addr) (us hs : List V) (rows : List Hu.Row) (h : List T3) (z_0 : vs = [.ref l, .ref lh]) (z_1 : H l = some (.lst us)) (z_2 : DatAll K H (rows.map rowD) us) (z_3 : RowsOk rows) (z_4 : 0 < rows.length) (z_5 : rows.length ≤ 100) (z_6 : H lh = some (.lst hs)) (z_7 : DatAll K H (h.map t3D) hs) (z_8 : (∀ p ∈ h, Hu.R3 3000 p)) (z_9 : 0 < h.length) (z_10 : h.length ≤ 900) (z_11 : ∀ (o : Hu.Out) (v : V) (H' : Hp), Same H H' → Hu.run h rows [] = o → OutD K H H' rows o v → Q v H') : SpRules_ K vs H Q
noncomputable def spRules (K : PySem.W.Frag) : Sp := fun vs H Q _ => SpRules_ K vs H Q
noncomputable def spOn (K : PySem.W.Frag) (C : Addr) : Sp := fun vs H Q E => spRules K vs H Q E ∨ ∃ (l lh : Addr) (us : List V) (ts : List (Str × List Int)), vs = [.ref l, .ref lh] ∧ H l = some (.lst us) ∧ DatAll K H (ts.map thD) us ∧ Ths ts false ∧ ∀ (H' : Hp) (d : Addr), Same H H' → H' d = none → E (.ref C) (some d) (upd H' d (.ext (XDict d [("at", .int ((ts.length : Int) - 1))])))
theorem rows_ths {rows : List Hu.Row} (ok : RowsOk rows) (ne : 0 < rows.length) (few : rows.length ≤ 100) : Ths (rows.map thOf) true := by
  have ln : (rows.map thOf).length = rows.length := List.length_map _
  refine ⟨fun t ht => ?_, fun k t e => ?_, by omega, by omega⟩
  · obtain ⟨r, hr, rfl⟩ := List.mem_map.mp ht
    obtain ⟨k, hk, e⟩ := List.mem_iff_getElem.mp hr
    exact tk_ok (ok k r (by rw [List.getElem?_eq_getElem hk, e]))
  · rw [List.getElem?_map] at e
    cases z : rows[k]? with
    | none => rw [z] at e; cases e
    | some r => rw [z] at e; cases e; exact gd_ok (ok k r z)
theorem getD_at {rs : List T3} {i : Nat} (hi : i < rs.length) : rs[i]? = some (rs.getD i Hu.z0) := by rw [List.getD_eq_getElem?_getD, List.getElem?_eq_getElem hi]; rfl
section
variable {P : Program} {w : World} {K : PySem.W.Frag} {mg : Str → Option Value} {base : Heap}
theorem ok_choice (T : TopDef K mg "choice_of" s_choice_of) (Z_len : mg "len" = none) (P_NEVER : TopTup K mg "NEVER" [0, 0, 0]) (P_ALWAYS : TopTup K mg "ALWAYS" [0, 0, 1]) (D_without : Def P w K mg base 1 "without" ["one", "other"] (sp2 K Hu.mi)) (D_leaf_rule : Def P w K mg base 1 "leaf_rule" ["word"] (spLeaf K))
    (D_fold_choice : Def P w K mg base 2 "fold_choice" ["word", "one", "other"] (spFold K)) : Def P w K mg base 3 "choice_of" ["row", "rules"] (spChoice K) := by
  refine def_of T sc_choice_of (fun _ _ _ _ _ _ => ar2 fun _ _ => rfl) (fun vs H Q E h => ?_) (fun f cdv A outer s H vs Q E hr h => ?_)
  · obtain ⟨x, lr, ws, r, rs, rfl, _⟩ := h
    rfl
  obtain ⟨x, lr, ws, r, rs, rfl, dx, hl, da, ok, q⟩ := h
  obtain ⟨aNE, M_NEVER, sNE⟩ := P_NEVER.ex
  obtain ⟨aAL, M_ALWAYS, sAL⟩ := P_ALWAYS.ex
  have dAL : ∀ H, Dat K H (t3D Hu.al) (.ref aAL) := fun H => t3_mk (p := Hu.al) (sAL H)
  have dNE : ∀ H, Dat K H (t3D Hu.z0) (.ref aNE) := fun H => t3_mk (p := Hu.z0) (sNE H)
  obtain ⟨a, rfl, sx⟩ := row_el dx
  have nd := sc_choice_of.nd
  have d3 : (3 : Nat) ≤ sizeLine := by decide
  have sl : SqL K H lr ws := SqL.of hl
  refine ⟨_, (pss_cons (ps_if (pt_cmpR op_eq (pe_callB call_len rfl Z_len (by decide +kernel) (pa_cons (pv 0) pa_nil)) pe_int (nomark _)) (pss_one (ps_ret (pe_def D_fold_choice (hr.mono (by decide)) rfl (pa_cons (pe_ix ix_tup (pv 0) pe_int (fun _ _ => rfl)) (pa_cons (pe_ix ix_list (pv 1) (pe_ix ix_tup (pv 0) pe_int (fun _ _ => rfl)) (fun _ _ => rfl)) (pa_cons (pe_ix ix_list (pv 1) (pe_ix ix_tup (pv 0) pe_int (fun _ _ => rfl)) (fun _ _ => rfl)) pa_nil)))))) pss_nil)
    (pss_cons (ps_set (i := 2) nd rfl (Or.inl rfl) (pe_ifExp (pt_cmpR op_eq (pe_callB call_len rfl Z_len (by decide +kernel) (pa_cons (pv 0) pa_nil)) pe_int (nomark _)) (pe_def D_leaf_rule (hr.mono (by decide)) rfl (pa_cons (pe_ix ix_tup (pv 0) pe_int (fun _ _ => rfl)) pa_nil)) (pe_def D_without (hr.mono (by decide)) rfl (pa_cons (pe_glob (v := V.ref aAL) rfl M_ALWAYS rfl) (pa_cons (pe_ix ix_list (pv 1) (pe_ix ix_tup (pv 0) pe_int (fun _ _ => rfl)) (fun _ _ => rfl)) pa_nil)))))
    (pss_one (ps_ret (pe_tup (pa_cons (pe_glob (v := V.ref aNE) rfl M_NEVER rfl) (pa_cons (pv 2) (pa_cons (pv 2) pa_nil)))))))), ?_⟩
  cases r with
  | fd k i j =>
    obtain ⟨hk, hi, hj⟩ := ok
    obtain ⟨y, hy, dy⟩ := t3_at da (getD_at hi)
    obtain ⟨z, hz, dz⟩ := t3_at da (getD_at hj)
    refine ⟨_, rfl, _, _, rfl, .inr ⟨_, sx, rfl⟩, rfl, _, rfl, iteT ?_⟩
    exact ⟨_, rfl, _, _, _, _, rfl, rfl, sx, rfl, _, rfl, _, rfl, _, _, _, _, rfl, rfl, sx, rfl, _, _, _, _, rfl, rfl, sl, atI_nat hy, _, rfl, _, rfl, _, _, _, _, rfl, rfl, sx, rfl, _, _, _, _, rfl, rfl, sl, atI_nat hz, k, _, _, _, _, rfl, hk, dy, dz, q⟩
  | lf k =>
    refine ⟨_, rfl, _, _, rfl, .inr ⟨_, sx, rfl⟩, rfl, _, rfl, iteF ?_⟩
    refine ⟨_, rfl, _, _, rfl, .inr ⟨_, sx, rfl⟩, rfl, _, rfl, iteT ?_⟩
    refine ⟨_, rfl, _, _, _, _, rfl, rfl, sx, rfl, k, rfl, ok, fun v dv => ?_⟩
    refine ⟨_, rfl, _, rfl, d3, fun t ht => ?_⟩
    have u := same_new ht (.tup [.ref aNE, v, v])
    exact q _ _ u ⟨t, _, _, _, rfl, SqT.of upd_same, dNE _, dv.ts u.ts, dv.ts u.ts⟩
  | nt i =>
    obtain ⟨y, hy, dy⟩ := t3_at da (getD_at (show i < rs.length from ok))
    refine ⟨_, rfl, _, _, rfl, .inr ⟨_, sx, rfl⟩, rfl, _, rfl, iteF ?_⟩
    refine ⟨_, rfl, _, _, rfl, .inr ⟨_, sx, rfl⟩, rfl, _, rfl, iteF ?_⟩
    refine ⟨_, rfl, _, rfl, _, _, _, _, rfl, rfl, sx, rfl, _, _, _, _, rfl, rfl, sl, atI_nat hy, _, _, _, _, rfl, dAL H, dy, fun t1 H1 s1 e1 => ?_⟩
    refine ⟨_, rfl, _, rfl, d3, fun t ht => ?_⟩
    have u := same_new ht (.tup [.ref aNE, .ref t1, .ref t1])
    exact q _ _ (s1.trans u) ⟨t, _, _, _, rfl, SqT.of upd_same, dNE _, e1.ts u.ts, e1.ts u.ts⟩
theorem ok_chosen (T : TopDef K mg "chosen_on" s_chosen_on) (Z_max : mg "max" = none) (Z_min : mg "min" = none) (D_told_in_corners : Def P w K mg base 2 "told_in_corners" ["rule", "hull"] (spTic K)) : Def P w K mg base 3 "chosen_on" ["hull", "choice"] (spChosen K) := by
  refine def_of T sc_chosen_on (fun _ _ _ _ _ _ => ar2 fun _ _ => rfl) (fun vs H Q E h => ?_) (fun f cdv A outer s H vs Q E hr h => ?_)
  · obtain ⟨l, v, us, h, c, rfl, _⟩ := h
    rfl
  obtain ⟨l, v, us, h, c, rfl, hl, da, ⟨t, x, y, z, rfl, st, d1, d2, d3⟩, br, bp, pos, few, qs, qn⟩ := h
  have nd := sc_chosen_on.nd
  refine ⟨_, (pss_cons (ps_set (i := 2) nd rfl (Or.inl rfl) (pe_def D_told_in_corners (hr.mono (by decide)) rfl (pa_cons (pe_ix ix_tup (pv 1) pe_int (fun _ _ => rfl)) (pa_cons (pv 0) pa_nil))))
    (pss_cons (ps_if (pt_cmpR op_le (pe_callB (call_maxL rfl) rfl Z_max (by decide +kernel) (pa_cons (pv 2) pa_nil)) pe_int (nomark _)) (pss_one (ps_ret (pe_ix ix_tup (pv 1) pe_int (fun _ _ => rfl)))) pss_nil)
    (pss_cons (ps_if (pt_cmpR op_ge (pe_callB (call_minL rfl) rfl Z_min (by decide +kernel) (pa_cons (pv 2) pa_nil)) pe_int (nomark _)) (pss_one (ps_ret (pe_ix ix_tup (pv 1) pe_int (fun _ _ => rfl)))) pss_nil)
    (pss_one (ps_ret pe_non))))), ?_⟩
  refine ⟨_, rfl, _, _, _, _, rfl, rfl, st, rfl, _, rfl, x, l, us, c.1, h, rfl, d1, SqL.of hl, da, br, bp, few, fun H' s' => SqL.of (s' _ _ hl), fun d H1 s1 _ hd => ?_⟩
  have hne : 0 < (h.map (Hu.tl c.1)).length := by rw [List.length_map]; exact pos
  have st1 := st.ts s1.ts
  refine ⟨_, rfl, d, _, rfl, SqL.of hd, hne, fun M hM hmax => ?_⟩
  refine ⟨_, _, rfl, rfl, _, rfl, ?_⟩
  obtain ⟨p1, hp1, ep1⟩ := List.mem_map.mp hM
  refine ite2 (fun cc => ?_) (fun cc => ?_)
  · have c' : M ≤ 0 := of_decide_eq_true cc
    have al : ∀ q ∈ h, Hu.tl c.1 q ≤ 0 := fun q hq => Int.le_trans (hmax _ (List.mem_map.mpr ⟨q, hq, rfl⟩)) c'
    exact ⟨_, rfl, _, _, _, _, rfl, rfl, st1, rfl, qs _ _ _ s1 (by unfold Hu.chosen; rw [if_pos al]) (d2.ts s1.ts)⟩
  have c1 : ¬ M ≤ 0 := fun z => cc (decide_eq_true z)
  have n1 : ¬ ∀ q ∈ h, Hu.tl c.1 q ≤ 0 := fun z => by have := z p1 hp1; omega
  refine ⟨_, rfl, d, _, rfl, SqL.of hd, hne, fun M2 hM2 hmin => ?_⟩
  refine ⟨_, _, rfl, rfl, _, rfl, ?_⟩
  obtain ⟨p2, hp2, ep2⟩ := List.mem_map.mp hM2
  refine ite2 (fun cc => ?_) (fun cc => ?_)
  · have c' : 0 ≤ M2 := of_decide_eq_true cc
    have al : ∀ q ∈ h, 0 ≤ Hu.tl c.1 q := fun q hq => Int.le_trans c' (hmin _ (List.mem_map.mpr ⟨q, hq, rfl⟩))
    exact ⟨_, rfl, _, _, _, _, rfl, rfl, st1, rfl, qs _ _ _ s1 (by unfold Hu.chosen; rw [if_neg n1, if_pos al]) (d3.ts s1.ts)⟩
  · have c2 : ¬ 0 ≤ M2 := fun z => cc (decide_eq_true z)
    have n2 : ¬ ∀ q ∈ h, 0 ≤ Hu.tl c.1 q := fun z => by have := z p2 hp2; omega
    exact qn (by unfold Hu.chosen; rw [if_neg n1, if_neg n2]) _ s1
theorem ok_rules (T : TopDef K mg "rules_of_rows" s_rules_of_rows) (Z_enumerate : mg "enumerate" = none) (D_choice_of : Def P w K mg base 3 "choice_of" ["row", "rules"] (spChoice K)) (D_chosen_on : Def P w K mg base 3 "chosen_on" ["hull", "choice"] (spChosen K)) : Def P w K mg base 4 "rules_of_rows" ["rows", "hull"] (spRules K) := by
  refine def_of T sc_rules_of_rows (fun _ _ _ _ _ _ => ar2 fun _ _ => rfl) (fun vs H Q E h => ?_) (fun f cdv A outer s H vs Q E hr h => ?_)
  · obtain ⟨l, lh, us, hs, rows, h, rfl, _⟩ := h
    rfl
  obtain ⟨l, lh, us, hs, rows, h, rfl, hl, da, ok, ne, few, hlh, dh, bp, pos, hfew, q⟩ := h
  have nd := sc_rules_of_rows.nd
  have lu := row_len da
  have d2 : (2 : Nat) ≤ sizeLine := by decide
  have d3 : (3 : Nat) ≤ sizeLine := by decide
  refine ⟨_, (pss_cons (ps_set (i := 2) nd rfl (Or.inl rfl) (pe_lst pa_nil))
    (pss_cons (ps_for PassesOwn.never rfl (pi_enum rfl Z_enumerate (pv 0)) (pg_tup rfl (pgs_cons (pg_name (i := 3) nd rfl (Or.inl rfl)) (pgs_cons (pg_name (i := 4) nd rfl (Or.inl rfl)) pgs_nil))) (pss_cons (ps_set (i := 5) nd rfl (Or.inl rfl) (pe_def D_choice_of (hr.mono (by decide)) rfl (pa_cons (pv 4) (pa_cons (pv 2) pa_nil))))
    (pss_cons (ps_set (i := 6) nd rfl (Or.inl rfl) (pe_def D_chosen_on (hr.mono (by decide)) rfl (pa_cons (pv 1) (pa_cons (pv 5) pa_nil))))
    (pss_cons (ps_if (pt_cmpR op_isN (pv 6) pe_non (nomark _)) (pss_one (ps_ret (pe_tup (pa_cons pe_str (pa_cons (pv 3) (pa_cons (pe_ix ix_tup (pv 5) pe_int (fun _ _ => rfl)) pa_nil)))))) pss_nil)
    (pss_one (ps_expr (pe_bm PySem.F.plainAttrs_list PySem.F.slot_list_append PySem.F.type_list_append mt_append (pv 2) (pa_cons (pv 6) pa_nil))))))))
    (pss_one (ps_ret (pe_tup (pa_cons pe_str (pa_cons (pv 2) pa_nil))))))), ?_⟩
  refine ⟨(by show 0 ≤ sizeLine; decide), fun lr hlr => ?_⟩
  have u0 := same_new hlr (.lst [])
  have nl : l ≠ lr := ne_of_none hl hlr
  refine ⟨_, rfl, l, rfl, ⟨us, SqL.of (u0 _ _ hl)⟩, ?_⟩
  refine for_enum (xs := us) (fun i σ H' => i ≤ us.length ∧ Same H H' ∧ ∃ (ws : List V) (rs : List T3) (o3 o4 o5 o6 : Option V), σ = [some (.ref l), some (.ref lh), some (.ref lr), o3, o4, o5, o6] ∧ H' lr = some (.lst ws) ∧ DatAll K H' (rs.map t3D) ws ∧ rs.length = i ∧ Hu.Rb rs ∧ Hu.run h rows [] = Hu.run h (rows.drop i) rs)
    ⟨Nat.zero_le _, u0, [], [], _, _, _, _, rfl, upd_same, rfl, rfl, (fun i x e => by simp at e), rfl⟩ (fun i σ H' _ z => SqL.of (z.2.1 _ _ hl)) (fun i v T' σ H' hv z hT => ?_) (fun σ H' z => ?_)
  · obtain ⟨_, sm, ws, rs, o3, o4, o5, o6, rfl, hr', dr, lrs, rb, er⟩ := z
    have hi : i < us.length := (List.getElem?_eq_some_iff.mp hv).1
    have uT := same_new hT (.tup [.int i, v])
    have s2 := sm.trans uT
    obtain ⟨r, er', dv⟩ := row_at' (da.ts s2.ts) hv
    have okr : r.Ok rs.length := by rw [lrs]; exact ok i r er'
    have dp : rows.drop i = r :: rows.drop (i + 1) := by
      obtain ⟨g1, g2⟩ := List.getElem?_eq_some_iff.mp er'
      rw [← g2]
      exact List.drop_eq_getElem_cons g1
    rw [dp] at er
    obtain ⟨cb, _, _⟩ := Hu.choice_b rb okr
    refine ⟨T', _, rfl, SqT.of upd_same, rfl, _, _, rfl, _, _, rfl, rfl, ?_⟩
    refine ⟨_, rfl, _, rfl, v, lr, ws, r, rs, rfl, dv, uT _ _ hr', dr.ts uT.ts, okr, fun c H3 s3 hc => ?_⟩
    have m3 := s2.trans s3
    have hr3 := s3 _ _ (uT _ _ hr')
    have dr3 := (dr.ts uT.ts).ts s3.ts
    refine ⟨_, rfl, _, rfl, lh, c, hs, h, Hu.choice rs r, rfl, m3 _ _ hlh, dh.ts m3.ts, hc, cb.mono (by omega), bp, pos, hfew, fun x u H4 s4 ex du => ?_, fun ex H4 s4 => ?_⟩
    · obtain ⟨ua, rfl, su⟩ := t3_el du
      refine ⟨_, rfl, rfl, _, rfl, iteF ?_⟩
      have m4 := m3.trans s4
      have hr4 := s4 _ _ hr3
      have lw := t3_len dr3
      refine ⟨_, rfl, .inl ⟨rfl, _, SqL.of hr4⟩, _, rfl, lr, ws, _, rfl, rfl, hr4, small1000 (by omega), ?_⟩
      have t5 : Tst H4 (upd H4 lr (.lst (ws ++ [.ref ua]))) := ts_mut hr4
      refine ⟨hi, same_mut m4 hlr _, ws ++ [.ref ua], rs ++ [x], _, _, _, _, rfl, upd_same, ?_, ?_, Hu.rb_snoc rb (Hu.chosen_b rb okr ex), ?_⟩
      · rw [List.map_append]
        exact ((dr3.ts s4.ts).ts t5).snoc (du.ts t5)
      · rw [List.length_append, lrs]; rfl
      · rw [er]
        show (match Hu.chosen h (Hu.choice rs r) with | some x => _ | none => _) = _
        rw [ex]
    · obtain ⟨t, x, y, z, rfl, st, e1, _, _⟩ := hc
      refine ⟨_, rfl, rfl, _, rfl, iteT ?_⟩
      refine ⟨_, rfl, _, rfl, _, _, _, _, rfl, rfl, st.ts s4.ts, rfl, d3, fun p hp => ?_⟩
      have u := same_new hp (.tup [.str "mixed", .int i, x])
      refine q (.mixed i (Hu.choice rs r).1) (.ref p) _ (m3.trans (s4.trans u)) ?_ ⟨p, x, rfl, SqT.of upd_same, (e1.ts s4.ts).ts u.ts⟩
      rw [er]
      show (match Hu.chosen h (Hu.choice rs r) with | some x => _ | none => _) = _
      rw [ex, lrs]
  · obtain ⟨_, sm, ws, rs, o3, o4, o5, o6, rfl, hr', dr, lrs, rb, er⟩ := z
    refine ⟨_, rfl, d2, fun p hp => ?_⟩
    have u := same_new hp (.tup [.str "rules", .ref lr])
    refine q (.rules rs) (.ref p) _ (sm.trans u) ?_ ⟨p, lr, ws, rfl, rb, lrs.trans lu, hlr, SqT.of upd_same, u _ _ hr', dr.ts u.ts⟩
    rw [er, List.drop_eq_nil_of_le (by omega)]
    rfl
theorem ok_on {C : Addr} (T : TopDef K mg "rules_on" s_rules_on) (D_must_be_rows : DefD P w K mg base 5 "must_be_rows" ["things"] (spMust K C)) (D_rules_of_rows : Def P w K mg base 4 "rules_of_rows" ["rows", "hull"] (spRules K)) : DefD P w K mg base 6 "rules_on" ["rows", "hull"] (spOn K C) := by
  refine defd_of T sc_rules_on (fun _ _ _ _ _ _ => ar2 fun _ _ => rfl) (fun vs H Q E h => ?_) (fun f cdv A outer s H vs Q E hr h => ?_)
  · rcases h with ⟨l, lh, us, hs, rows, h, rfl, _⟩ | ⟨l, lh, us, ts, rfl, _⟩ <;> rfl
  have nd := sc_rules_on.nd
  refine ⟨_, (pss_cons (ps_expr (pe_defP D_must_be_rows (hr.mono (by decide)) rfl (pa_cons (pv 0) pa_nil)))
    (pss_one (ps_ret (pe_def D_rules_of_rows (hr.mono (by decide)) rfl (pa_cons (pv 0) (pa_cons (pv 1) pa_nil)))))), ?_⟩
  rcases h with ⟨l, lh, us, hs, rows, h, rfl, hl, da, ok, ne, few, hlh, dh, bp, pos, hfew, q⟩ | ⟨l, lh, us, ts, rfl, hl, da, th, q⟩
  · refine ⟨_, rfl, l, us, rows.map thOf, true, rfl, hl, (by rw [List.map_map]; exact da), rows_ths ok ne few, (fun _ H1 s1 => ?_), (fun z => nomatch z)⟩
    refine ⟨_, rfl, _, rfl, l, lh, us, hs, rows, h, rfl, s1 _ _ hl, da.ts s1.ts, ok, ne, few, s1 _ _ hlh, dh.ts s1.ts, bp, pos, hfew, fun o v H2 s2 e d => q o v H2 (s1.trans s2) e (d.free s1)⟩
  · exact ⟨_, rfl, l, us, ts, false, rfl, hl, da, th, (fun z => nomatch z), fun _ H1 d s1 hd => q H1 d s1 hd⟩
end
end Mine



set_option Elab.async false
set_option linter.all false
set_option maxRecDepth 100000
set_option maxHeartbeats 4000000

namespace Mine
open PySem L2
inductive SpFolded_ (vs : List V) (H : Hp) (Q : VK) : Prop where
  | mk (k : Nat) (n a b : Int) (z_0 : vs = [.str (fw k), .int n, .int a, .int b]) (z_1 : k < 5) (z_2 : Q (.int (Hu.fld k n a b)) H) : SpFolded_  vs H Q
noncomputable def spFolded : Sp := fun vs H Q _ => SpFolded_  vs H Q
inductive SpWorths_ (K : PySem.W.Frag) (vs : List V) (H : Hp) (Q : VK) : Prop where
  | mk (l : Addr) (x : V) (us : List V) (rows : List Hu.Row) (p : T3) (z_0 : vs = [.ref l, x]) (z_1 : H l = some (.lst us)) (z_2 : DatAll K H (rows.map rowD) us) (z_3 : RowsOk rows) (z_4 : rows.length ≤ 100) (z_5 : Dat K H (t3D p) x) (z_6 : ∀ (d : Addr) (H' : Hp), Same H H' → H d = none → H' d = some (.lst ((Hu.worths p rows []).map V.int)) → Q (.ref d) H') : SpWorths_ K vs H Q
noncomputable def spWorths (K : PySem.W.Frag) : Sp := fun vs H Q _ => SpWorths_ K vs H Q
noncomputable def kN : Key := .inr "never"
noncomputable def kA : Key := .inr "always"
noncomputable def kP : Key := .inr "p"
noncomputable def kQ : Key := .inr "q"
theorem k_ne : kN ≠ kA ∧ kN ≠ kP ∧ kN ≠ kQ ∧ kA ≠ kP ∧ kA ≠ kQ ∧ kP ≠ kQ := by decide +kernel
theorem lw_key {k : Nat} (h : k < 4) : (Sum.inr (lw k) : Key) = if k = 0 then kN else if k = 1 then kA else if k = 2 then kP else kQ := by
  rcases (c4 (by assumption) : k = 0 ∨ k = 1 ∨ k = 2 ∨ k = 3) with rfl | rfl | rfl | rfl <;> rfl
theorem dv4 (a b c e : V) {k : Nat} (h : k < 4) : valV (mergeK [] [(kN, a), (kA, b), (kP, c), (kQ, e)]) (Sum.inr (lw k)) = some (if k = 0 then a else if k = 1 then b else if k = 2 then c else e) := by
  obtain ⟨h1, h2, h3, h4, h5, h6⟩ := k_ne
  have em : mergeK [] [(kN, a), (kA, b), (kP, c), (kQ, e)] = [(kN, a), (kA, b), (kP, c), (kQ, e)] := by simp [mergeK, putK, h1, h2, h3, h4, h5, h6]
  rw [em, lw_key h]
  rcases (c4 (by assumption) : k = 0 ∨ k = 1 ∨ k = 2 ∨ k = 3) with rfl | rfl | rfl | rfl <;> simp [valV, List.find?, h1, h2, h3, h4, h5, h6]
theorem in4 {k : Nat} (h : k < 4) : inV (V.str (lw k)) [V.str "never", V.str "always", V.str "p", V.str "q"] = true := by
  rcases (c4 (by assumption) : k = 0 ∨ k = 1 ∨ k = 2 ∨ k = 3) with rfl | rfl | rfl | rfl <;> decide +kernel
theorem out5 {k : Nat} (h : k < 5) : inV (V.str (fw k)) [V.str "never", V.str "always", V.str "p", V.str "q"] = false := by
  rcases (c5 (by assumption) : k = 0 ∨ k = 1 ∨ k = 2 ∨ k = 3 ∨ k = 4) with rfl | rfl | rfl | rfl | rfl <;> decide +kernel
theorem not5 {k : Nat} (h : k < 5) : decide (V.str (fw k) = V.str "not") = false := by
  rcases (c5 (by assumption) : k = 0 ∨ k = 1 ∨ k = 2 ∨ k = 3 ∨ k = 4) with rfl | rfl | rfl | rfl | rfl <;> decide +kernel
theorem int_at {ws : List Int} {i : Nat} (h : i < ws.length) : atI (ws.map V.int) ((i : Nat) : Int) = some (.int (ws.getD i 0)) := by
  refine atI_nat ?_
  rw [List.getElem?_map, List.getD_eq_getElem?_getD, List.getElem?_eq_getElem h]
  rfl
section
variable {P : Program} {w : World} {K : PySem.W.Frag} {mg : Str → Option Value} {base : Heap}
theorem ok_folded (T : TopDef K mg "_law_folded" s_l_folded) (Z_min : mg "min" = none) (Z_max : mg "max" = none) : Def P w K mg base 1 "_law_folded" ["_law_word", "_law_n", "_law_x", "_law_y"] spFolded := by
  refine def_of T sc_l_folded (fun _ _ _ _ _ _ => ar4 fun _ _ _ _ => rfl) (fun vs H Q E h => ?_) (fun f cdv A outer s H vs Q E hr h => ?_)
  · obtain ⟨k, n, a, b, rfl, _⟩ := h
    rfl
  obtain ⟨k, n, a, b, rfl, hk, q⟩ := h
  have nd := sc_l_folded.nd
  refine ⟨_, (pss_cons (ps_if (pt_cmpR op_eq (pv 0) pe_str (nomark _)) (pss_one (ps_ret (pe_callB (call_min2 rfl) rfl Z_min (by decide +kernel) (pa_cons (pv 1) (pa_cons (pe_op op_add (pv 2) (pv 3)) pa_nil))))) pss_nil)
    (pss_cons (ps_if (pt_cmpR op_eq (pv 0) pe_str (nomark _)) (pss_one (ps_ret (pe_callB (call_max2 rfl) rfl Z_max (by decide +kernel) (pa_ki (pa_cons (pe_op op_sub (pe_op op_add (pv 2) (pv 3)) (pv 1)) pa_nil))))) pss_nil)
    (pss_cons (ps_if (pt_cmpR op_eq (pv 0) pe_str (nomark _)) (pss_one (ps_ret (pe_callB (call_max2 rfl) rfl Z_max (by decide +kernel) (pa_cons (pv 2) (pa_cons (pv 3) pa_nil))))) pss_nil)
    (pss_cons (ps_if (pt_cmpR op_eq (pv 0) pe_str (nomark _)) (pss_one (ps_ret (pe_callB (call_min2 rfl) rfl Z_min (by decide +kernel) (pa_cons (pv 2) (pa_cons (pv 3) pa_nil))))) pss_nil)
    (pss_one (ps_ret (pe_callB (call_min2 rfl) rfl Z_min (by decide +kernel) (pa_cons (pv 1) (pa_cons (pe_op op_add (pe_op op_sub (pv 1) (pv 2)) (pv 3)) pa_nil))))))))), ?_⟩
  rcases (c5 (by assumption) : k = 0 ∨ k = 1 ∨ k = 2 ∨ k = 3 ∨ k = 4) with rfl | rfl | rfl | rfl | rfl
  · refine ⟨_, rfl, rfl, _, rfl, ?_⟩
    rw [show decide (V.str (fw 0) = V.str "more") = true by decide +kernel]
    exact iteT ⟨_, rfl, _, rfl, _, rfl, _, _, rfl, rfl, _, _, rfl, q⟩
  · refine ⟨_, rfl, rfl, _, rfl, ?_⟩
    rw [show decide (V.str (fw 1) = V.str "more") = false by decide +kernel]
    refine iteF ⟨_, rfl, rfl, _, rfl, ?_⟩
    rw [show decide (V.str (fw 1) = V.str "less") = true by decide +kernel]
    exact iteT ⟨_, rfl, _, rfl, _, _, rfl, rfl, _, rfl, _, _, rfl, rfl, _, _, rfl, q⟩
  · refine ⟨_, rfl, rfl, _, rfl, ?_⟩
    rw [show decide (V.str (fw 2) = V.str "more") = false by decide +kernel]
    refine iteF ⟨_, rfl, rfl, _, rfl, ?_⟩
    rw [show decide (V.str (fw 2) = V.str "less") = false by decide +kernel]
    refine iteF ⟨_, rfl, rfl, _, rfl, ?_⟩
    rw [show decide (V.str (fw 2) = V.str "greater") = true by decide +kernel]
    exact iteT ⟨_, rfl, _, rfl, _, _, rfl, q⟩
  · refine ⟨_, rfl, rfl, _, rfl, ?_⟩
    rw [show decide (V.str (fw 3) = V.str "more") = false by decide +kernel]
    refine iteF ⟨_, rfl, rfl, _, rfl, ?_⟩
    rw [show decide (V.str (fw 3) = V.str "less") = false by decide +kernel]
    refine iteF ⟨_, rfl, rfl, _, rfl, ?_⟩
    rw [show decide (V.str (fw 3) = V.str "greater") = false by decide +kernel]
    refine iteF ⟨_, rfl, rfl, _, rfl, ?_⟩
    rw [show decide (V.str (fw 3) = V.str "lesser") = true by decide +kernel]
    exact iteT ⟨_, rfl, _, rfl, _, _, rfl, q⟩
  · refine ⟨_, rfl, rfl, _, rfl, ?_⟩
    rw [show decide (V.str (fw 4) = V.str "more") = false by decide +kernel]
    refine iteF ⟨_, rfl, rfl, _, rfl, ?_⟩
    rw [show decide (V.str (fw 4) = V.str "less") = false by decide +kernel]
    refine iteF ⟨_, rfl, rfl, _, rfl, ?_⟩
    rw [show decide (V.str (fw 4) = V.str "greater") = false by decide +kernel]
    refine iteF ⟨_, rfl, rfl, _, rfl, ?_⟩
    rw [show decide (V.str (fw 4) = V.str "lesser") = false by decide +kernel]
    exact iteF ⟨_, rfl, _, rfl, _, rfl, _, _, rfl, rfl, _, rfl, _, _, rfl, rfl, _, _, rfl, q⟩
theorem ok_worths (T : TopDef K mg "_law_worths" s_l_worths) (D__law_folded : Def P w K mg base 1 "_law_folded" ["_law_word", "_law_n", "_law_x", "_law_y"] spFolded) : Def P w K mg base 2 "_law_worths" ["_law_rows", "_law_point"] (spWorths K) := by
  refine def_of T sc_l_worths (fun _ _ _ _ _ _ => ar2 fun _ _ => rfl) (fun vs H Q E h => ?_) (fun f cdv A outer s H vs Q E hr h => ?_)
  · obtain ⟨l, x, us, rows, p, rfl, _⟩ := h
    rfl
  obtain ⟨l, x, us, rows, p, rfl, hl, da, ok, few, dx, q⟩ := h
  obtain ⟨ax, rfl, sx⟩ := t3_el dx
  have nd := sc_l_worths.nd
  have hu := hr.units
  have lu := row_len da
  have d4 : (4 : Nat) ≤ sizeLine := by decide
  refine ⟨_, (pss_cons (ps_asg (pv 1) (pg_tup rfl (pgs_cons (pg_name (i := 2) nd rfl (Or.inl rfl)) (pgs_cons (pg_name (i := 3) nd rfl (Or.inl rfl)) (pgs_cons (pg_name (i := 4) nd rfl (Or.inl rfl)) pgs_nil)))))
    (pss_cons (ps_set (i := 5) nd rfl (Or.inl rfl) (pe_lst pa_nil))
    (pss_cons (ps_for PassesOwn.never rfl (pi_list (pv 0)) (pg_name (i := 6) nd rfl (Or.inl rfl)) (pss_one (ps_if (pt_cmpR op_in_seq (pe_ix ix_tup (pv 6) pe_int (fun _ _ => rfl)) (pe_tup (pa_cons pe_str (pa_cons pe_str (pa_cons pe_str (pa_cons pe_str pa_nil))))) rfl) (pss_one (ps_expr (pe_bm PySem.F.plainAttrs_list PySem.F.slot_list_append PySem.F.type_list_append mt_append (pv 5) (pa_cons (pe_dget (hu_of hr) (pe_disp (pps_cons pe_str pe_int (pps_cons pe_str (pv 2) (pps_cons pe_str (pv 3) (pps_cons pe_str (pv 4) pps_nil)))) rfl rfl (by intro z; cases z) (by decide)) (pe_ix ix_tup (pv 6) pe_int (fun _ _ => rfl)) (fun _ _ => rfl)) pa_nil)))) (pss_one (ps_if (pt_cmpR op_eq (pe_ix ix_tup (pv 6) pe_int (fun _ _ => rfl)) pe_str (nomark _)) (pss_one (ps_expr (pe_bm PySem.F.plainAttrs_list PySem.F.slot_list_append PySem.F.type_list_append mt_append (pv 5) (pa_cons (pe_op op_sub (pv 2) (pe_ix ix_list (pv 5) (pe_ix ix_tup (pv 6) pe_int (fun _ _ => rfl)) (fun _ _ => rfl))) pa_nil)))) (pss_one (ps_expr (pe_bm PySem.F.plainAttrs_list PySem.F.slot_list_append PySem.F.type_list_append mt_append (pv 5) (pa_cons (pe_def D__law_folded (hr.mono (by decide)) rfl (pa_cons (pe_ix ix_tup (pv 6) pe_int (fun _ _ => rfl)) (pa_cons (pv 2) (pa_cons (pe_ix ix_list (pv 5) (pe_ix ix_tup (pv 6) pe_int (fun _ _ => rfl)) (fun _ _ => rfl)) (pa_cons (pe_ix ix_list (pv 5) (pe_ix ix_tup (pv 6) pe_int (fun _ _ => rfl)) (fun _ _ => rfl)) pa_nil))))) pa_nil)))))))))
    (pss_one (ps_ret (pv 5)))))), ?_⟩
  refine ⟨_, rfl, ax, _, rfl, sx, rfl, _, _, rfl, _, _, rfl, _, _, rfl, rfl, ?_⟩
  refine ⟨(by show 0 ≤ sizeLine; decide), fun d hd => ?_⟩
  have u0 := same_new hd (.lst [])
  refine ⟨_, rfl, l, rfl, ⟨us, SqL.of (u0 _ _ hl)⟩, ?_⟩
  refine for_list (xs := us) (fun i σ H' => i ≤ us.length ∧ Same H H' ∧ ∃ (ws : List Int) (o6 : Option V), σ = [some (.ref l), some (.ref ax), some (.int p.u), some (.int p.v), some (.int p.w), some (.ref d), o6] ∧ H' d = some (.lst (ws.map V.int)) ∧ ws.length = i ∧ Hu.worths p rows [] = Hu.worths p (rows.drop i) ws)
    ⟨Nat.zero_le _, u0, [], _, rfl, upd_same, rfl, rfl⟩ (fun i σ H' _ z => SqL.of (z.2.1 _ _ hl)) (fun i v σ H' hv z => ?_) (fun σ H' z => ?_)
  · obtain ⟨_, sm, ws, o6, rfl, hd', lw', er⟩ := z
    have hi : i < us.length := (List.getElem?_eq_some_iff.mp hv).1
    obtain ⟨r, er', dv⟩ := row_at' (da.ts sm.ts) hv
    have okr : r.Ok i := ok i r er'
    have dp : rows.drop i = r :: rows.drop (i + 1) := by
      obtain ⟨g1, g2⟩ := List.getElem?_eq_some_iff.mp er'
      rw [← g2]
      exact List.drop_eq_getElem_cons g1
    rw [dp] at er
    obtain ⟨a, rfl, sa⟩ := row_el dv
    -- what is put behind
    have fin : ∀ (H2 : Hp), Same H' H2 → (upd H2 d (.lst (ws.map V.int ++ [.int (Hu.wof ws p r)]))) d = some (.lst ((ws ++ [Hu.wof ws p r]).map V.int)) ∧ Same H (upd H2 d (.lst (ws.map V.int ++ [.int (Hu.wof ws p r)]))) := fun H2 s2 => ⟨by rw [upd_same, List.map_append]; rfl, same_mut (sm.trans s2) hd _⟩
    have sml : (ws.map V.int).length ≤ 1000 := by rw [List.length_map]; omega
    have nxt : ∀ (H2 : Hp), Same H' H2 → (i + 1 ≤ us.length ∧ Same H (upd H2 d (.lst (ws.map V.int ++ [.int (Hu.wof ws p r)]))) ∧ ∃ (ws' : List Int) (o6' : Option V), [some (V.ref l), some (.ref ax), some (.int p.u), some (.int p.v), some (.int p.w), some (.ref d), some (.ref a)] = [some (V.ref l), some (.ref ax), some (.int p.u), some (.int p.v), some (.int p.w), some (.ref d), o6'] ∧ (upd H2 d (.lst (ws.map V.int ++ [.int (Hu.wof ws p r)]))) d = some (.lst (ws'.map V.int)) ∧ ws'.length = i + 1 ∧ Hu.worths p rows [] = Hu.worths p (rows.drop (i + 1)) ws') := fun H2 s2 =>
      ⟨hi, (fin H2 s2).2, ws ++ [Hu.wof ws p r], _, rfl, (fin H2 s2).1, by rw [List.length_append, lw']; rfl, er⟩
    cases r with
    | lf k =>
      have hk : k < 4 := okr
      refine ⟨_, rfl, _, _, _, _, rfl, rfl, sa, rfl, d4, fun pt hpt => ?_⟩
      have u1 := same_new hpt (.tup [V.str "never", V.str "always", V.str "p", V.str "q"])
      refine ⟨pt, _, rfl, .inr (SqT.of upd_same), rfl, rfl, _, rfl, ?_⟩
      rw [if_neg Bool.false_ne_true, in4 hk]
      refine iteT ?_
      have hd2 := u1 _ _ hd'
      have sa2 := sa.ts u1.ts
      generalize upd H' pt (.tup [V.str "never", V.str "always", V.str "p", V.str "q"]) = H2 at u1 hd2 sa2 ⊢
      refine ⟨_, rfl, .inl ⟨rfl, _, SqL.of hd2⟩, fun p2 hp2 => ?_⟩
      refine ⟨_, rfl, _, rfl, _, rfl, upd_same, [(kN, .int 0), (kA, .int p.u), (kP, .int p.v), (kQ, .int p.w)], rfl, (show (4 : Nat) ≤ 15 by decide), ?_⟩
      rw [upd_upd]
      have u3 := same_new hp2 (.dK (mergeK [] [(kN, .int 0), (kA, .int p.u), (kP, .int p.v), (kQ, .int p.w)]))
      have gd : DGet (upd H2 p2 (.dK (mergeK [] [(kN, .int 0), (kA, .int p.u), (kP, .int p.v), (kQ, .int p.w)]))) p2 (.str (lw k)) (some (.int (Hu.lfw k p))) := by
        have z := DGet.k (k := Sum.inr (lw k)) (upd_same (H := H2) (a := p2) (o := .dK (mergeK [] [(kN, .int 0), (kA, .int p.u), (kP, .int p.v), (kQ, .int p.w)])))
        rw [dv4 _ _ _ _ hk] at z
        have e : (if k = 0 then V.int 0 else if k = 1 then V.int p.u else if k = 2 then V.int p.v else V.int p.w) = V.int (Hu.lfw k p) := by
          unfold Hu.lfw
          split
          · rfl
          · split
            · rfl
            · split <;> rfl
        rw [e] at z
        exact z
      refine ⟨_, rfl, _, _, _, _, rfl, rfl, sa2.ts u3.ts, rfl, p2, _, rfl, gd, ?_⟩
      exact ⟨d, _, _, rfl, rfl, u3 _ _ hd2, small1000 sml, nxt _ (u1.trans u3)⟩
    | nt j =>
      have hj : j < ws.length := by rw [lw']; exact okr
      refine ⟨_, rfl, _, _, _, _, rfl, rfl, sa, rfl, d4, fun pt hpt => ?_⟩
      have u1 := same_new hpt (.tup [V.str "never", V.str "always", V.str "p", V.str "q"])
      refine ⟨pt, _, rfl, .inr (SqT.of upd_same), rfl, rfl, _, rfl, ?_⟩
      rw [if_neg Bool.false_ne_true, show inV (V.str "not") [V.str "never", V.str "always", V.str "p", V.str "q"] = false by decide +kernel]
      refine iteF ?_
      have hd2 := u1 _ _ hd'
      have sa2 := sa.ts u1.ts
      refine ⟨_, rfl, _, _, _, _, rfl, rfl, sa2, rfl, rfl, _, rfl, ?_⟩
      rw [decide_eq_true rfl]
      refine iteT ?_
      refine ⟨_, rfl, .inl ⟨rfl, _, SqL.of hd2⟩, _, rfl, _, rfl, _, rfl, _, _, _, _, rfl, rfl, sa2, rfl, _, _, _, _, rfl, rfl, SqL.of hd2, int_at hj, _, _, rfl, rfl, ?_⟩
      exact ⟨d, _, _, rfl, rfl, hd2, small1000 sml, nxt _ u1⟩
    | fd k j m =>
      obtain ⟨hk, hj, hm⟩ := okr
      have hj' : j < ws.length := by omega
      have hm' : m < ws.length := by omega
      refine ⟨_, rfl, _, _, _, _, rfl, rfl, sa, rfl, d4, fun pt hpt => ?_⟩
      have u1 := same_new hpt (.tup [V.str "never", V.str "always", V.str "p", V.str "q"])
      refine ⟨pt, _, rfl, .inr (SqT.of upd_same), rfl, rfl, _, rfl, ?_⟩
      rw [if_neg Bool.false_ne_true, out5 hk]
      refine iteF ?_
      have hd2 := u1 _ _ hd'
      have sa2 := sa.ts u1.ts
      have sd2 := SqL.of (K := K) hd2
      refine ⟨_, rfl, _, _, _, _, rfl, rfl, sa2, rfl, rfl, _, rfl, ?_⟩
      rw [not5 hk]
      refine iteF ?_
      refine ⟨_, rfl, .inl ⟨rfl, _, sd2⟩, _, rfl, _, _, _, _, rfl, rfl, sa2, rfl, _, rfl, _, rfl, _, rfl, _, _, _, _, rfl, rfl, sa2, rfl, _, _, _, _, rfl, rfl, sd2, int_at hj', _, rfl, _, rfl, _, _, _, _, rfl, rfl, sa2, rfl, _, _, _, _, rfl, rfl, sd2, int_at hm', k, _, _, _, rfl, hk, ?_⟩
      exact ⟨d, _, _, rfl, rfl, hd2, small1000 sml, nxt _ u1⟩
  · obtain ⟨_, sm, ws, o6, rfl, hd', lw', er⟩ := z
    refine ⟨_, rfl, q d H' sm hd ?_⟩
    rw [er, List.drop_eq_nil_of_le (by omega)]
    exact hd'
end
end Mine



set_option Elab.async false
set_option linter.all false
set_option maxRecDepth 100000
set_option maxHeartbeats 4000000

namespace Mine
open PySem L2
namespace Hu
noncomputable def sum3 (h : List T3) : T3 := ⟨(h.map T3.u).sum, (h.map T3.v).sum, (h.map T3.w).sum⟩
noncomputable def co (p : T3) (k : Nat) : Int := if k = 0 then p.u else if k = 1 then p.v else p.w
theorem sum3_co (h : List T3) (k : Nat) : co (sum3 h) k = (h.map fun p => co p k).sum := by
  unfold co sum3
  by_cases k0 : k = 0
  · simp [k0]
  · by_cases k1 : k = 1
    · simp [k1]
    · simp [k0, k1]
end Hu
noncomputable def retArg (s : Stmt) : Expr := match defBody s with
  | [.Return (some (.Call _ [a] _ _)) _] => a
  | _ => .Constant .none 0 ⟨0, 0, 0, 0⟩
noncomputable def cmpSc (e : Expr) : Scope := match e with
  | .ListComp _ _ sc _ => sc
  | _ => default
noncomputable def cmpElt (e : Expr) : Expr := match e with
  | .ListComp x _ _ _ => x
  | _ => e
theorem call_sumLK {X : Cx} {K : PySem.W.Frag} (e : X.K = K) (hc : X.calm = true) : CallR X (.builtin "sum") (fun xs H Q => ∃ (l : Addr) (ns : List Int), xs = [.ref l] ∧ SqL K H l (ns.map V.int) ∧ Q (.int ns.sum) H) := by
  subst e
  exact call_sumL hc
theorem pi_listK {X : Cx} {K : PySem.W.Frag} {tg e : Expr} {te : TE} (q : X.K = K) (he : PE X e te) : PI X tg e (iList K te) := by
  subst q
  exact pi_list he
inductive SpMid_ (K : PySem.W.Frag) (vs : List V) (H : Hp) (Q : VK) : Prop where
  | mk (l : Addr) (us : List V) (h : List T3) (z_0 : vs = [.ref l]) (z_1 : H l = some (.lst us)) (z_2 : DatAll K H (h.map t3D) us) (z_3 : h.length ≤ 900) (z_4 : ∀ (t : Addr) (H' : Hp), Same H H' → Dat K H' (t3D (Hu.sum3 h)) (.ref t) → Q (.ref t) H') : SpMid_ K vs H Q
noncomputable def spMid (K : PySem.W.Frag) : Sp := fun vs H Q _ => SpMid_ K vs H Q
theorem co_at {K : PySem.W.Frag} {H : Hp} {p : T3} {a : Addr} (s : SqT K H a [.int p.u, .int p.v, .int p.w]) {k : Nat} (hk : k < 3) : atI [V.int p.u, .int p.v, .int p.w] ((0 : Int) + (k : Nat)) = some (.int (Hu.co p k)) := by
  rcases (c3 (by assumption) : k = 0 ∨ k = 1 ∨ k = 2) with rfl | rfl | rfl <;> rfl
section
variable {P : Program} {w : World} {K : PySem.W.Frag} {mg : Str → Option Value} {base : Heap}
theorem ok_mid (T : TopDef K mg "_law_middle" s_l_middle) (Z_range : mg "range" = none) (Z_tuple : mg "tuple" = none) (Z_sum : mg "sum" = none) : Def P w K mg base 1 "_law_middle" ["_law_corners"] (spMid K) := by
  refine def_of T sc_l_middle (fun _ _ _ _ _ _ => ar1 fun _ => rfl) (fun vs H Q E h => ?_) (fun f cdv A outer s H vs Q E hr h => ?_)
  · obtain ⟨l, us, h, rfl, _⟩ := h
    rfl
  obtain ⟨l, us, h, rfl, hl, da, few, q⟩ := h
  have nd := sc_l_middle.nd
  have inn : ∃ te, (∀ cl s' H' fp, PE (cxCompC (cxOf CX0 P w K mg base n_l_middle "_law_middle" (defScope s_l_middle) f cdv A outer s H E).nox (cmpSc (retArg s_l_middle)) cl "_law_k" (cNames (cxOf CX0 P w K mg base n_l_middle "_law_middle" (defScope s_l_middle) f cdv A outer s H E).nox "_law_k" [0]) s' H' fp) (cmpElt (retArg s_l_middle)) te) ∧
      ∀ (H2 : Hp) (k : Nat) (kk : VK), k < 3 → Same H H2 → (∀ H3, Same H2 H3 → kk (.int (Hu.co (Hu.sum3 h) k)) H3) → te [some (.int ((0 : Int) + (k : Nat))), some (.ref l)] H2 kk := by
    refine ⟨_, (fun cl s' H' fp => (pe_callB (call_sumLK (K := K) rfl rfl) rfl Z_sum (by decide +kernel) (pa_cons (pe_compF rfl (pi_listK (K := K) rfl (pv 1)) rfl (by decide +kernel) (by decide +kernel) rfl
      (show ∀ p ∈ ([(".0", .local), ("_law_corner", .local), ("_law_k", .free)] : List (Str × NameKind)), p.2 = NameKind.free → List.lookup p.1 ([(".0", .local), ("_law_k", .cell), ("sum", .globalImplicit), ("_law_corners", .cell)] : List (Str × NameKind)) = some .cell ∨ List.lookup p.1 ([(".0", .local), ("_law_k", .cell), ("sum", .globalImplicit), ("_law_corners", .cell)] : List (Str × NameKind)) = some .free by decide +kernel)
      (fa_cons (j := 0) rfl (Or.inl rfl) (by decide +kernel) (Or.inl rfl) fa_nil) (show (["_law_corner", "_law_k"] : List Str).Nodup by decide +kernel) (fun _ _ _ _ => pif_nil) (fun _ _ _ _ => (pe_ix (ix_tupK (K := K) rfl) (pv 0) (pv 1) (fun _ _ => rfl)))) pa_nil))), ?_⟩
    intro H2 k kk hk s2 fin
    have da2 := da.ts s2.ts
    have hl2 := s2 _ _ hl
    have lu := t3_len da
    refine ⟨_, rfl, l, rfl, ⟨us, SqL.of hl2⟩, fun D hD => ?_⟩
    refine ⟨fun i m H3 => m = us.length - i ∧ i ≤ us.length ∧ Same H2 H3 ∧ H3 D = some (.lst (((h.take i).map fun p => Hu.co p k).map V.int)), ⟨_, rfl, Nat.zero_le _, same_new hD _, upd_same⟩, ?_⟩
    rintro i m H3 ⟨rfl, hi, sm, hlD⟩
    have sl3 : SqL K H3 l us := SqL.of (sm _ _ hl2)
    by_cases hlt : i < us.length
    · refine .inr ⟨⟨us, _, sl3, List.getElem?_eq_getElem hlt⟩, fun v H4 y => ?_⟩
      obtain ⟨rfl, y⟩ := y
      obtain ⟨p, hp, dp⟩ := t3_at' (da2.ts sm.ts) (y us sl3)
      obtain ⟨pa, rfl, sp⟩ := t3_el dp
      refine tNoIf_go ?_
      refine ⟨_, rfl, _, rfl, _, _, _, _, rfl, rfl, sp, co_at sp hk, ?_⟩
      refine ⟨_, hlD, small1000 (by simp; omega), us.length - (i + 1), by omega, rfl, hlt, same_mut sm hD _, ?_⟩
      rw [upd_same]
      have e : h.take (i + 1) = h.take i ++ [p] := by
        obtain ⟨q1, q2⟩ := List.getElem?_eq_some_iff.mp hp
        rw [List.take_succ_eq_append_getElem q1, q2]
      rw [e, List.map_append, List.map_append]
      rfl
    · have ei : i = us.length := by omega
      subst ei
      refine .inl ⟨⟨us, sl3, Nat.le_refl _⟩, ?_⟩
      rw [lu, List.take_length] at hlD
      refine ⟨D, _, rfl, SqL.of hlD, ?_⟩
      have z := fin H3 sm
      rw [Hu.sum3_co] at z
      exact z
  obtain ⟨te, hte, hin⟩ := inn
  refine ⟨_, (pss_one (ps_ret (pe_callTy call_tuple_of rfl Z_tuple (by decide +kernel) (pa_cons (pe_compC rfl (pi_range1 rfl Z_range (pa_ki pa_nil)) rfl (by decide +kernel) (by decide +kernel) rfl (show ∀ p ∈ Scope.names _, p.2 = NameKind.free → List.lookup p.1 (defScope s_l_middle).names = some .cell ∨ List.lookup p.1 (defScope s_l_middle).names = some .free by decide +kernel) (fa_cons (j := 0) rfl (Or.inl rfl) (by decide +kernel) (Or.inl rfl) fa_nil) (show (["_law_k", "_law_corners"] : List Str).Nodup by decide +kernel) (fun _ _ _ _ => pif_nil) hte) pa_nil)))), ?_⟩
  refine ⟨3, rfl, by decide, by decide, fun D hD => ?_⟩
  refine ⟨fun i m H2 => m = 3 - i ∧ i ≤ 3 ∧ Same H H2 ∧ H2 D = some (.lst ([V.int (Hu.sum3 h).u, .int (Hu.sum3 h).v, .int (Hu.sum3 h).w].take i)), ⟨_, rfl, Nat.zero_le _, same_new hD _, upd_same⟩, ?_⟩
  rintro i m H2 ⟨rfl, hi, sm, hlD⟩
  by_cases hlt : i < 3
  · refine .inr ⟨hlt, fun v H3 yy => ?_⟩
    obtain ⟨rfl, rfl⟩ := yy
    refine tNoIf_go ?_
    refine hin _ i _ hlt sm fun H4 s4 => ?_
    have hD4 := s4 _ _ hlD
    rcases (c3 (by assumption) : i = 0 ∨ i = 1 ∨ i = 2) with rfl | rfl | rfl
    · exact ⟨_, hD4, small1000 (by simp), 3 - 1, by omega, rfl, by omega, same_mut (sm.trans s4) hD _, upd_same⟩
    · exact ⟨_, hD4, small1000 (by simp), 3 - 2, by omega, rfl, by omega, same_mut (sm.trans s4) hD _, upd_same⟩
    · exact ⟨_, hD4, small1000 (by simp), 3 - 3, by omega, rfl, by omega, same_mut (sm.trans s4) hD _, upd_same⟩
  have ei : i = 3 := by omega
  subst ei
  refine .inl ⟨Nat.le_refl _, ?_⟩
  refine ⟨D, _, rfl, .inl ⟨SqL.of hlD, fun tt htt => ?_⟩⟩
  exact q tt _ (sm.trans (same_new htt _)) (t3_mk (p := Hu.sum3 h) (SqT.of upd_same))
end
end Mine



set_option Elab.async false
set_option linter.all false
set_option maxRecDepth 100000
set_option maxHeartbeats 4000000

namespace Mine
open PySem L2
inductive SpRowList_ (K : PySem.W.Frag) (vs : List V) (H : Hp) (Q : VK) : Prop where
  | mk (a : Addr) (ns : List Int) (m : Int) (z_0 : vs = [.ref a, .int 6, .int m]) (z_1 : Scr K H a ns) (z_2 : 1 ≤ m) (z_3 : m ≤ 14) (z_4 : ∀ (l : Addr) (us : List V) (rows : List Hu.Row) (H' : Hp), Same H H' → H l = none → H' l = some (.lst us) → DatAll K H' (rows.map rowD) us → RowsOk rows → 2 ≤ rows.length → rows.length ≤ 16 → Q (.ref l) H') : SpRowList_ K vs H Q
noncomputable def spRowList (K : PySem.W.Frag) : Sp := fun vs H Q _ => SpRowList_ K vs H Q
theorem rows_snoc {rows : List Hu.Row} {r : Hu.Row} (h : RowsOk rows) (hr : r.Ok rows.length) : RowsOk (rows ++ [r]) := fun k x e => by
  rcases Nat.lt_or_ge k rows.length with z | z
  · rw [List.getElem?_append_left z] at e
    exact h k x e
  · rw [List.getElem?_append_right z] at e
    have : k - rows.length = 0 := by
      rcases Nat.eq_zero_or_pos (k - rows.length) with q | q
      · exact q
      · rw [List.getElem?_eq_none (by simp; omega)] at e; cases e
    rw [this] at e
    cases e
    rw [show k = rows.length by omega]
    exact hr
theorem at4 {a b c d : V} {k : Int} (h0 : 0 ≤ k) (h1 : k < 4) : ∃ j : Nat, j < 4 ∧ k = j ∧ atI [a, b, c, d] k = some (if j = 0 then a else if j = 1 then b else if j = 2 then c else d) := by
  rcases (c4i h0 h1 : k = 0 ∨ k = 1 ∨ k = 2 ∨ k = 3) with rfl | rfl | rfl | rfl
  · exact ⟨0, by decide, rfl, rfl⟩
  · exact ⟨1, by decide, rfl, rfl⟩
  · exact ⟨2, by decide, rfl, rfl⟩
  · exact ⟨3, by decide, rfl, rfl⟩
theorem at5 {k : Int} (h0 : 0 ≤ k) (h1 : k < 5) : ∃ j : Nat, j < 5 ∧ atI [V.str "more", V.str "less", V.str "greater", V.str "lesser", V.str "leads"] k = some (V.str (fw j)) := by
  rcases (c5i h0 h1 : k = 0 ∨ k = 1 ∨ k = 2 ∨ k = 3 ∨ k = 4) with rfl | rfl | rfl | rfl | rfl
  · exact ⟨0, by decide, rfl⟩
  · exact ⟨1, by decide, rfl⟩
  · exact ⟨2, by decide, rfl⟩
  · exact ⟨3, by decide, rfl⟩
  · exact ⟨4, by decide, rfl⟩
section
variable {P : Program} {w : World} {K : PySem.W.Frag} {mg : Str → Option Value} {base : Heap}
theorem ok_row_list (T : TopDef K mg "_law_row_list" s_l_row_list) (Z_range : mg "range" = none) (Z_len : mg "len" = none) (D__law_drawn : Def P w K mg base 2 "_law_drawn" ["_law_script", "_law_k"] (spDrawn K)) : Def P w K mg base 3 "_law_row_list" ["_law_script", "_law_start", "_law_many"] (spRowList K) := by
  refine def_of T sc_l_row_list (fun _ _ _ _ _ _ => ar3 fun _ _ _ => rfl) (fun vs H Q E h => ?_) (fun f cdv A outer s H vs Q E hr h => ?_)
  · obtain ⟨a, ns, m, rfl, _⟩ := h
    rfl
  obtain ⟨a, ns, m, rfl, S, m1, m2, q⟩ := h
  have nd := sc_l_row_list.nd
  have d1 : (1 : Nat) ≤ sizeLine := by decide
  have d2 : (2 : Nat) ≤ sizeLine := by decide
  have d3 : (3 : Nat) ≤ sizeLine := by decide
  have d4 : (4 : Nat) ≤ sizeLine := by decide
  have d5 : (5 : Nat) ≤ sizeLine := by decide
  -- what is put behind
  have t4 : ∃ t, PSs (cxOf CX0 P w K mg base n_l_row_list "_law_row_list" (defScope s_l_row_list) f cdv A outer s H E).nox ((forBody (stAt s_l_row_list 1)).drop 4) t ∧
      ∀ (N B : St → Hp → Prop) (H1 H' : Hp) (lr : Addr) (us : List V) (rows : List Hu.Row) (v x y : Int) (o4 : Option V), H1 lr = none → Same H1 H' → H' lr = some (.lst us) → DatAll K H' (rows.map rowD) us → rows.length ≤ 100 → 0 ≤ v → 0 ≤ x → x < rows.length → 0 ≤ y → y < rows.length →
        (∀ (H'' : Hp) (us' : List V) (r : Hu.Row), Same H1 H'' → H'' lr = some (.lst us') → DatAll K H'' ((rows ++ [r]).map rowD) us' → r.Ok rows.length → N [some (.ref a), some (.int 6), some (.int m), some (.ref lr), o4, some (.int v), some (.int x), some (.int y)] H'') →
        t { nx := N, ct := N, bk := B, rt := Q } [some (.ref a), some (.int 6), some (.int m), some (.ref lr), o4, some (.int v), some (.int x), some (.int y)] H' := by
    refine ⟨_, (pss_one (ps_if (pt_cmpR op_eq (pe_op op_mod (pv 5) pe_int) pe_int (nomark _)) (pss_one (ps_expr (pe_bm PySem.F.plainAttrs_list PySem.F.slot_list_append PySem.F.type_list_append mt_append (pv 3) (pa_cons (pe_ix ix_list (pe_lst (pa_tu (pe_tup (pa_cons pe_str pa_nil)) (pa_tu (pe_tup (pa_cons pe_str pa_nil)) (pa_tu (pe_tup (pa_cons pe_str pa_nil)) (pa_tu (pe_tup (pa_cons pe_str pa_nil)) pa_nil))))) (pe_op op_mod (pe_op op_fdiv (pv 5) pe_int) pe_int) (fun _ _ => rfl)) pa_nil)))) (pss_one (ps_if (pt_cmpR op_lt (pe_op op_mod (pv 5) pe_int) pe_int (nomark _)) (pss_one (ps_expr (pe_bm PySem.F.plainAttrs_list PySem.F.slot_list_append PySem.F.type_list_append mt_append (pv 3) (pa_tu (pe_tup (pa_cons pe_str (pa_cons (pv 6) pa_nil))) pa_nil)))) (pss_one (ps_expr (pe_bm PySem.F.plainAttrs_list PySem.F.slot_list_append PySem.F.type_list_append mt_append (pv 3) (pa_tu (pe_tup (pa_cons (pe_ix ix_list (pe_lst (pa_cons pe_str (pa_cons pe_str (pa_cons pe_str (pa_cons pe_str (pa_cons pe_str pa_nil)))))) (pe_op op_mod (pe_op op_fdiv (pv 5) pe_int) pe_int) (fun _ _ => rfl)) (pa_cons (pv 6) (pa_cons (pv 7) pa_nil)))) pa_nil)))))))), ?_⟩
    intro N B H1 H' lr us rows v x y o4 n1 s1 hl da few v0 x0 x1 y0 y1 n
    have lu := row_len da
    have put : ∀ (H2 : Hp) (r : Hu.Row) (p : Addr), Same H' H2 → SqT K H2 p (rwX r) → r.Ok rows.length → N [some (.ref a), some (.int 6), some (.int m), some (.ref lr), o4, some (.int v), some (.int x), some (.int y)] (upd H2 lr (.lst (us ++ [.ref p]))) := fun H2 r p s2 sp ok => by
      have t2 : Tst H2 (upd H2 lr (.lst (us ++ [.ref p]))) := ts_mut (s2 _ _ hl)
      refine n _ (us ++ [.ref p]) r (same_mut (s1.trans s2) n1 _) upd_same ?_ ok
      rw [List.map_append]
      exact ((da.ts s2.ts).ts t2).snoc ((row_mk sp).ts t2)
    refine ⟨_, rfl, _, _, rfl, rfl, (show (0 : Int) < _ by decide), rfl, _, rfl, ?_⟩
    refine ite2 (fun _ => ?_) (fun _ => ?_)
    · refine ⟨_, rfl, .inl ⟨rfl, _, SqL.of hl⟩, d1, fun p1 hp1 => ⟨d1, fun p2 hp2 => ⟨d1, fun p3 hp3 => ⟨d1, fun p4 hp4 => ⟨d4, fun l2 hl2 => ?_⟩⟩⟩⟩⟩
      have u1 := same_new hp1 (.tup [.str "never"])
      have u2 := same_new hp2 (.tup [.str "always"])
      have u3 := same_new hp3 (.tup [.str "p"])
      have u4 := same_new hp4 (.tup [.str "q"])
      have u5 := same_new hl2 (.lst [.ref p1, .ref p2, .ref p3, .ref p4])
      have g1 := (u2.trans (u3.trans (u4.trans u5))) _ _ upd_same
      have g2 := (u3.trans (u4.trans u5)) _ _ (upd_same (H := upd H' p1 (.tup [.str "never"])) (a := p2) (o := .tup [.str "always"]))
      have g3 := (u4.trans u5) _ _ (upd_same (H := upd (upd H' p1 (.tup [.str "never"])) p2 (.tup [.str "always"])) (a := p3) (o := .tup [.str "p"]))
      have g4 := u5 _ _ (upd_same (H := upd (upd (upd H' p1 (.tup [.str "never"])) p2 (.tup [.str "always"])) p3 (.tup [.str "p"])) (a := p4) (o := .tup [.str "q"]))
      have g5 := upd_same (H := upd (upd (upd (upd H' p1 (.tup [.str "never"])) p2 (.tup [.str "always"])) p3 (.tup [.str "p"])) p4 (.tup [.str "q"])) (a := l2) (o := .lst [.ref p1, .ref p2, .ref p3, .ref p4])
      have s5 := u1.trans (u2.trans (u3.trans (u4.trans u5)))
      generalize upd (upd (upd (upd (upd H' p1 (.tup [.str "never"])) p2 (.tup [.str "always"])) p3 (.tup [.str "p"])) p4 (.tup [.str "q"])) l2 (.lst [.ref p1, .ref p2, .ref p3, .ref p4]) = H5 at g1 g2 g3 g4 g5 s5 ⊢
      obtain ⟨j, hj, ej, ea⟩ := at4 (a := V.ref p1) (b := V.ref p2) (c := V.ref p3) (d := V.ref p4) (k := v / 16 % 4) (by omega) (by omega)
      refine ⟨_, rfl, _, _, rfl, rfl, ⟨by decide, by decide⟩, _, _, rfl, rfl, (show (0 : Int) < _ by decide), _, _, _, _, rfl, rfl, SqL.of g5, ea, ?_⟩
      refine ⟨lr, us, _, rfl, rfl, s5 _ _ hl, small1000 (by omega), ?_⟩
      rcases (c4 (by assumption) : j = 0 ∨ j = 1 ∨ j = 2 ∨ j = 3) with rfl | rfl | rfl | rfl
      · exact put H5 (.lf 0) p1 s5 (SqT.of g1) (show 0 < 4 by decide)
      · exact put H5 (.lf 1) p2 s5 (SqT.of g2) (show 1 < 4 by decide)
      · exact put H5 (.lf 2) p3 s5 (SqT.of g3) (show 2 < 4 by decide)
      · exact put H5 (.lf 3) p4 s5 (SqT.of g4) (show 3 < 4 by decide)
    · refine ⟨_, rfl, _, _, rfl, rfl, (show (0 : Int) < _ by decide), _, _, rfl, rfl, _, rfl, ?_⟩
      obtain ⟨xi, ex⟩ : ∃ i : Nat, x = (i : Int) := ⟨x.toNat, by omega⟩
      obtain ⟨yi, ey⟩ : ∃ i : Nat, y = (i : Int) := ⟨y.toNat, by omega⟩
      refine ite2 (fun _ => ?_) (fun _ => ?_)
      · refine ⟨_, rfl, .inl ⟨rfl, _, SqL.of hl⟩, _, rfl, d2, fun p hp => ?_⟩
        have u1 := same_new hp (.tup [.str "not", .int x])
        refine ⟨lr, us, _, rfl, rfl, u1 _ _ hl, small1000 (by omega), ?_⟩
        exact put _ (.nt xi) p u1 (by show SqT K _ p [.str "not", .int (xi : Int)]; rw [← ex]; exact SqT.of upd_same) (show xi < rows.length by omega)
      · refine ⟨_, rfl, .inl ⟨rfl, _, SqL.of hl⟩, d5, fun l2 hl2 => ?_⟩
        have u1 := same_new hl2 (.lst [V.str "more", V.str "less", V.str "greater", V.str "lesser", V.str "leads"])
        obtain ⟨j, hj, ea⟩ := at5 (k := v / 160 % 5) (by omega) (by omega)
        refine ⟨_, rfl, _, _, rfl, rfl, ⟨by decide, by decide⟩, _, _, rfl, rfl, (show (0 : Int) < _ by decide), _, _, _, _, rfl, rfl, SqL.of upd_same, ea, _, rfl, _, rfl, d3, fun p hp => ?_⟩
        have u2 := same_new hp (.tup [.str (fw j), .int x, .int y])
        refine ⟨lr, us, _, rfl, rfl, (u1.trans u2) _ _ hl, small1000 (by omega), ?_⟩
        refine put _ (.fd j xi yi) p (u1.trans u2) ?_ ⟨hj, by omega, by omega⟩
        show SqT K _ p [.str (fw j), .int (xi : Int), .int (yi : Int)]
        rw [← ex, ← ey]
        exact SqT.of upd_same
  obtain ⟨t4, ht4, hq4⟩ := t4
  refine ⟨_, pss_cons (ps_set (i := 3) nd rfl (Or.inl rfl) (pe_lst (pa_tu (pe_tup (pa_cons pe_str pa_nil)) (pa_tu (pe_tup (pa_cons pe_str pa_nil)) pa_nil)))) (pss_cons (ps_for PassesOwn.never rfl (pi_range1 rfl Z_range (pa_cons (pv 2) pa_nil)) (pg_name (i := 4) nd rfl (Or.inl rfl)) (pss_cons (ps_set (i := 5) nd rfl (Or.inl rfl) (pe_def D__law_drawn (hr.mono (by decide)) rfl (pa_cons (pv 0) (pa_cons (pe_op op_add (pv 1) (pv 4)) pa_nil)))) (pss_cons (ps_set (i := 6) nd rfl (Or.inl rfl) (pe_op op_modN (pe_op op_fdiv (pv 5) pe_int) (pe_callB call_len rfl Z_len (by decide +kernel) (pa_cons (pv 3) pa_nil)))) (pss_cons (ps_set (i := 7) nd rfl (Or.inl rfl) (pe_op op_modN (pe_op op_fdiv (pv 5) pe_int) (pe_callB call_len rfl Z_len (by decide +kernel) (pa_cons (pv 3) pa_nil)))) (pss_cons (ps_if (pt_cmpR op_gt (pe_op op_mod (pe_op op_fdiv (pv 5) pe_int) pe_int) pe_int (nomark _)) (pss_one (ps_set (i := 7) nd rfl (Or.inl rfl) (pe_op op_sub (pe_callB call_len rfl Z_len (by decide +kernel) (pa_cons (pv 3) pa_nil)) pe_int))) pss_nil) ht4))))) (pss_one (ps_ret (pv 3)))), ?_⟩
  refine ⟨d1, fun p1 hp1 => ⟨d1, fun p2 hp2 => ⟨d2, fun lr hlr => ?_⟩⟩⟩
  have u1 := same_new hp1 (.tup [.str "p"])
  have u2 := same_new hp2 (.tup [.str "q"])
  have u3 := same_new hlr (.lst [.ref p1, .ref p2])
  have g1 := (u2.trans u3) _ _ upd_same
  have g2 := u3 _ _ (upd_same (H := upd H p1 (.tup [.str "p"])) (a := p2) (o := .tup [.str "q"]))
  have g3 := upd_same (H := upd (upd H p1 (.tup [.str "p"])) p2 (.tup [.str "q"])) (a := lr) (o := .lst [.ref p1, .ref p2])
  have n0 : H lr = none := (u1.trans u2).free hlr
  have s3 := u1.trans (u2.trans u3)
  generalize upd (upd (upd H p1 (.tup [.str "p"])) p2 (.tup [.str "q"])) lr (.lst [.ref p1, .ref p2]) = H3 at g1 g2 g3 s3 ⊢
  refine ⟨_, rfl, m, rfl, by omega, by omega, ?_⟩
  refine for_range (fun i σ H' => Same H H' ∧ ∃ (us : List V) (rows : List Hu.Row) (o4 o5 o6 o7 : Option V), σ = [some (.ref a), some (.int 6), some (.int m), some (.ref lr), o4, o5, o6, o7] ∧ H' lr = some (.lst us) ∧ DatAll K H' (rows.map rowD) us ∧ RowsOk rows ∧ rows.length = 2 + i)
    ⟨s3, [.ref p1, .ref p2], [.lf 2, .lf 3], _, _, _, _, rfl, g3, ⟨_, _, rfl, row_mk (r := .lf 2) (SqT.of g1), _, _, rfl, row_mk (r := .lf 3) (SqT.of g2), rfl⟩, (fun k r e => ?_), rfl⟩ (fun i σ H' hi z => ?_) (fun σ H' z => ?_)
  · match k, e with
    | 0, e => cases e; exact (show 2 < 4 by decide)
    | 1, e => cases e; exact (show 3 < 4 by decide)
    | k + 2, e => cases e
  · obtain ⟨sm, us, rows, o4, o5, o6, o7, rfl, hl, da, ok, ln⟩ := z
    have hi2 : i < 14 := by omega
    have lu := row_len da
    refine ⟨_, rfl, _, rfl, _, rfl, _, _, rfl, rfl, a, ns, _, rfl, S.ts sm.ts, by omega, by omega, fun v H2 v0 s2 => ?_⟩
    have hl2 := s2 _ _ hl
    have da2 := da.ts s2.ts
    have sl2 : SqL K H2 lr us := SqL.of hl2
    have pz : (0 : Int) < (us.length : Nat) := by omega
    have f1 := Int.fmod_nonneg_of_pos (v / 16) pz
    have f2 := Int.fmod_lt_of_pos (v / 16) pz
    have f3 := Int.fmod_nonneg_of_pos (v / 640) pz
    have f4 := Int.fmod_lt_of_pos (v / 640) pz
    refine ⟨_, rfl, _, _, rfl, rfl, ⟨by decide, by decide⟩, _, rfl, _, _, rfl, .inl ⟨_, sl2, rfl⟩, _, _, rfl, rfl, (by omega), ?_⟩
    refine ⟨_, rfl, _, _, rfl, rfl, ⟨by decide, by decide⟩, _, rfl, _, _, rfl, .inl ⟨_, sl2, rfl⟩, _, _, rfl, rfl, (by omega), ?_⟩
    refine ⟨_, rfl, _, _, rfl, rfl, ⟨by decide, by decide⟩, _, _, rfl, rfl, (show (0 : Int) < _ by decide), _, _, rfl, rfl, _, rfl, ?_⟩
    refine ite2 (fun _ => ?_) (fun _ => ?_)
    · refine ⟨_, rfl, _, _, rfl, .inl ⟨_, sl2, rfl⟩, _, _, rfl, rfl, ?_⟩
      refine hq4 _ _ H H2 lr us rows v _ _ _ n0 (sm.trans s2) hl2 da2 (by omega) v0 f1 (by omega) (by omega) (by omega) fun H'' us' r s'' h'' d'' ok'' => ?_
      exact ⟨s'', us', rows ++ [r], _, _, _, _, rfl, h'', d'', rows_snoc ok ok'', by rw [List.length_append, ln]; rfl⟩
    · refine hq4 _ _ H H2 lr us rows v _ _ _ n0 (sm.trans s2) hl2 da2 (by omega) v0 f1 (by omega) f3 (by omega) fun H'' us' r s'' h'' d'' ok'' => ?_
      exact ⟨s'', us', rows ++ [r], _, _, _, _, rfl, h'', d'', rows_snoc ok ok'', by rw [List.length_append, ln]; rfl⟩
  · obtain ⟨sm, us, rows, o4, o5, o6, o7, rfl, hl, da, ok, ln⟩ := z
    exact ⟨_, rfl, q lr us rows H' sm n0 hl da ok (by omega) (by omega)⟩
end
end Mine



set_option Elab.async false
set_option linter.all false
set_option maxRecDepth 100000
set_option maxHeartbeats 4000000

namespace Mine
open PySem L2
inductive SpWhole_ (vs : List V) (H : Hp) (Q : VK) : Prop where
  | mk (i : Int) (z_0 : vs = [.int i]) (z_1 : Q (.bl true) H) : SpWhole_  vs H Q
noncomputable def spWhole : Sp := fun vs H Q _ => SpWhole_  vs H Q
inductive SpThree_ (K : PySem.W.Frag) (vs : List V) (H : Hp) (Q : VK) : Prop where
  | mk (t : Addr) (a b c : Int) (z_0 : vs = [.ref t]) (z_1 : SqT K H t [.int a, .int b, .int c]) (z_2 : ∀ H', Same H H' → Q (.bl true) H') : SpThree_ K vs H Q
noncomputable def spThree (K : PySem.W.Frag) : Sp := fun vs H Q _ => SpThree_ K vs H Q
section
variable {P : Program} {w : World} {K : PySem.W.Frag} {mg : Str → Option Value} {base : Heap}
theorem ok_whole (T : TopDef K mg "_law_whole" s_l_whole) (Z_isinstance : mg "isinstance" = none) (Z_int : mg "int" = none) (Z_bool : mg "bool" = none) (kb : PySem.W.kitOne K (.type "int") (.type "bool") = some false) : Def P w K mg base 1 "_law_whole" ["_law_found"] spWhole := by
  refine def_of T sc_l_whole (fun _ _ _ _ _ _ => ar1 fun _ => rfl) (fun vs H Q E h => ?_) (fun f cdv A outer s H vs Q E hr h => ?_)
  · obtain ⟨i, rfl, _⟩ := h
    rfl
  obtain ⟨i, rfl, q⟩ := h
  have nd := sc_l_whole.nd
  refine ⟨_, (pss_one (ps_ret (pe_and (pe_callB call_isi rfl Z_isinstance (by decide +kernel) (pa_cons (pv 0) (pa_cons (pe_bltn (v := V.ty "int") rfl Z_int (by decide +kernel) rfl) pa_nil))) (pe_one (pe_not (pe_callB call_isi rfl Z_isinstance (by decide +kernel) (pa_cons (pv 0) (pa_cons (pe_bltn (v := V.ty "bool") rfl Z_bool (by decide +kernel) rfl) pa_nil)))))))), ?_⟩
  exact ⟨_, rfl, _, _, _, _, true, rfl, (fun _ h => h), TyOf.int _, kit_same, _, rfl, iteT ⟨_, rfl, _, _, _, _, false, rfl, (fun _ h => h), TyOf.int _, kb, _, rfl, q⟩⟩
theorem ok_three (T : TopDef K mg "_law_three" s_l_three) (Z_isinstance : mg "isinstance" = none) (Z_tuple : mg "tuple" = none) (Z_len : mg "len" = none) (Z_all : mg "all" = none) (D__law_whole : Def P w K mg base 1 "_law_whole" ["_law_found"] spWhole) : Def P w K mg base 2 "_law_three" ["_law_found"] (spThree K) := by
  refine def_of T sc_l_three (fun _ _ _ _ _ _ => ar1 fun _ => rfl) (fun vs H Q E h => ?_) (fun f cdv A outer s H vs Q E hr h => ?_)
  · obtain ⟨t, a, b, c, rfl, _⟩ := h
    rfl
  obtain ⟨t, a, b, c, rfl, st, q⟩ := h
  have nd := sc_l_three.nd
  refine ⟨_, (pss_one (ps_ret (pe_and (pe_callB call_isiT rfl Z_isinstance (by decide +kernel) (pa_cons (pv 0) (pa_cons (pe_bltn (v := V.ty "tuple") rfl Z_tuple (by decide +kernel) rfl) pa_nil))) (pe_and (pe_cmpR op_eq (pe_callB call_len rfl Z_len (by decide +kernel) (pa_cons (pv 0) pa_nil)) pe_int (nomark _)) (pe_one (pe_callB (call_all rfl) rfl Z_all (by decide +kernel) (pa_cons (pe_compF rfl (pi_tup (pv 0)) rfl (by decide +kernel) (by decide +kernel) rfl (show ∀ p ∈ Scope.names _, p.2 = NameKind.free → List.lookup p.1 (defScope s_l_three).names = some .cell ∨ List.lookup p.1 (defScope s_l_three).names = some .free by decide +kernel) fa_nil (show (["_law_one"] : List Str).Nodup by decide +kernel) (fun _ _ _ _ => pif_nil) (fun _ _ _ _ => (pe_def D__law_whole (hr.mono (by decide)) rfl (pa_cons (pv 0) pa_nil)))) pa_nil))))))), ?_⟩
  refine ⟨_, rfl, t, _, _, _, true, rfl, (fun _ h => h), st, kit_same, _, rfl, iteT ?_⟩
  refine ⟨_, rfl, _, _, rfl, .inr ⟨_, st, rfl⟩, rfl, _, rfl, ?_⟩
  refine iteT ?_
  refine ⟨_, rfl, t, rfl, ⟨_, st⟩, fun D hD => ?_⟩
  refine ⟨fun i m H2 => m = 3 - i ∧ i ≤ 3 ∧ Same H H2 ∧ H2 D = some (.lst ((List.replicate i true).map V.bl)), ⟨_, rfl, Nat.zero_le _, same_new hD _, upd_same⟩, ?_⟩
  rintro i m H2 ⟨rfl, hi, sm, hlD⟩
  have sa2 := st.ts sm.ts
  by_cases hlt : i < 3
  · refine .inr ⟨⟨_, _, sa2, List.getElem?_eq_getElem (show i < 3 from hlt)⟩, fun v H3 y => ?_⟩
    obtain ⟨rfl, y⟩ := y
    have hv : ∃ n : Int, v = .int n := by
      have z := y _ sa2
      match i, hlt with
      | 0, _ => exact ⟨a, (Option.some.inj z).symm⟩
      | 1, _ => exact ⟨b, (Option.some.inj z).symm⟩
      | 2, _ => exact ⟨c, (Option.some.inj z).symm⟩
    obtain ⟨n, rfl⟩ := hv
    refine tNoIf_go ?_
    refine ⟨_, rfl, n, rfl, ?_⟩
    refine ⟨_, hlD, small1000 (by simp; omega), 3 - (i + 1), by omega, rfl, hlt, same_mut sm hD _, ?_⟩
    rw [upd_same, List.replicate_succ', List.map_append]
    rfl
  · have e : i = 3 := by omega
    subst e
    refine .inl ⟨⟨_, sa2, Nat.le_refl _⟩, ?_⟩
    exact ⟨D, List.replicate 3 true, rfl, SqL.of hlD, q _ sm⟩
end
end Mine
namespace Mine
open PySem L2
noncomputable def sg (s : Int) (p q : T3) : T3 := ⟨p.u + s * q.u, p.v + s * q.v, p.w + s * q.w⟩
theorem sg_pl (p q : T3) : sg 1 p q = Hu.pl p q := by simp only [sg, Hu.pl, Int.one_mul]
theorem sg_mi (p q : T3) : sg (-1) p q = Hu.mi p q := by
  simp only [sg, Hu.mi, T3.mk.injEq]
  omega
theorem sg_co (s : Int) (p q : T3) (k : Nat) : Hu.co (sg s p q) k = Hu.co p k + s * Hu.co q k := by
  unfold Hu.co sg
  split
  · rfl
  · split <;> rfl
theorem r3co {q : T3} (h : Hu.R3 3000 q) (k : Nat) : Bg (Hu.co q k) := by
  obtain ⟨a, b, c⟩ := r3b h
  unfold Hu.co
  split
  · exact a
  · split
    · exact b
    · exact c
inductive SpAdd_ (K : PySem.W.Frag) (vs : List V) (H : Hp) (Q : VK) : Prop where
  | mk (x y : V) (p q : T3) (s : Int) (z_0 : vs = [x, y, .int s]) (z_1 : Dat K H (t3D p) x) (z_2 : Dat K H (t3D q) y) (z_3 : (s = 1 ∨ s = -1)) (z_4 : Hu.R3 3000 q) (z_5 : ∀ (t : Addr) (H' : Hp), Same H H' → Dat K H' (t3D (sg s p q)) (.ref t) → Q (.ref t) H') : SpAdd_ K vs H Q
noncomputable def spAdd (K : PySem.W.Frag) : Sp := fun vs H Q _ => SpAdd_ K vs H Q
inductive SpLFold_ (K : PySem.W.Frag) (vs : List V) (H : Hp) (Q : VK) : Prop where
  | mk (k : Nat) (x y : V) (a b : T3) (z_0 : vs = [.str (fw k), x, y]) (z_1 : k < 5) (z_2 : Dat K H (t3D a) x) (z_3 : Dat K H (t3D b) y) (z_4 : Hu.R3 2000 a) (z_5 : Hu.R3 2000 b) (z_6 : ∀ (v : V) (H' : Hp), Same H H' → Ch K H' (Hu.fch k a b) v → Q v H') : SpLFold_ K vs H Q
noncomputable def spLFold (K : PySem.W.Frag) : Sp := fun vs H Q _ => SpLFold_ K vs H Q
section
variable {P : Program} {w : World} {K : PySem.W.Frag} {mg : Str → Option Value} {base : Heap}
theorem ok_added (T : TopDef K mg "_law_added" s_l_added) (Z_range : mg "range" = none) (Z_tuple : mg "tuple" = none) : Def P w K mg base 1 "_law_added" ["_law_one", "_law_other", "_law_sign"] (spAdd K) := by
  refine def_of T sc_l_added (fun _ _ _ _ _ _ => ar3 fun _ _ _ => rfl) (fun vs H Q E h => ?_) (fun f cdv A outer s H vs Q E hr h => ?_)
  · obtain ⟨x, y, p, q, s, rfl, _⟩ := h
    rfl
  obtain ⟨x, y, p, q, sn, rfl, dx, dy, hs, bq, k⟩ := h
  obtain ⟨ax, rfl, sx⟩ := t3_el dx
  obtain ⟨ay, rfl, sy⟩ := t3_el dy
  have nd := sc_l_added.nd
  have bs : Bg sn := bg_of (n := 1) (by rcases hs with rfl | rfl <;> decide) (by decide)
  refine ⟨_, (pss_one (ps_ret (pe_callTy call_tuple_of rfl Z_tuple (by decide +kernel) (pa_cons (pe_compF rfl (pi_range1 rfl Z_range (pa_ki pa_nil)) rfl (by decide +kernel) (by decide +kernel) rfl (show ∀ p ∈ Scope.names _, p.2 = NameKind.free → List.lookup p.1 (defScope s_l_added).names = some .cell ∨ List.lookup p.1 (defScope s_l_added).names = some .free by decide +kernel) (fa_cons (j := 0) rfl (Or.inl rfl) (by decide +kernel) (Or.inl rfl) (fa_cons (j := 2) rfl (Or.inl rfl) (by decide +kernel) (Or.inl rfl) (fa_cons (j := 1) rfl (Or.inl rfl) (by decide +kernel) (Or.inl rfl) fa_nil))) (show (["_law_k", "_law_one", "_law_sign", "_law_other"] : List Str).Nodup by decide +kernel) (fun _ _ _ _ => pif_nil) (fun _ _ _ _ => (pe_op op_add (pe_ix (ix_tupK (K := K) rfl) (pv 1) (pv 0) (fun _ _ => rfl)) (pe_op op_mulK (pv 2) (pe_ix (ix_tupK (K := K) rfl) (pv 3) (pv 0) (fun _ _ => rfl)))))) pa_nil)))), ?_⟩
  refine ⟨_, rfl, by decide, by decide, fun D hD => ?_⟩
  refine ⟨fun i m H2 => m = 3 - i ∧ i ≤ 3 ∧ Same H H2 ∧ H2 D = some (.lst ((List.range i).map fun k => V.int (Hu.co (sg sn p q) k))), ⟨_, rfl, Nat.zero_le _, same_new hD _, upd_same⟩, ?_⟩
  rintro i m H2 ⟨rfl, hi, sm, hlD⟩
  have sx2 := sx.ts sm.ts
  have sy2 := sy.ts sm.ts
  by_cases hlt : i < 3
  · refine .inr ⟨hlt, fun v H3 y => ?_⟩
    obtain ⟨rfl, rfl⟩ := y
    refine tNoIf_go ?_
    refine ⟨_, rfl, _, rfl, _, _, _, _, rfl, rfl, sx2, co_at sx2 hlt, _, rfl, _, rfl, _, rfl, _, _, _, _, rfl, rfl, sy2, co_at sy2 hlt, _, _, rfl, rfl, mulB bs (r3co bq i), _, _, rfl, rfl, ?_⟩
    refine ⟨_, hlD, small1000 (by simp; omega), 3 - (i + 1), by omega, rfl, hlt, same_mut sm hD _, ?_⟩
    rw [upd_same, List.range_succ, List.map_append, List.map_singleton, sg_co]
  have ei : i = 3 := by omega
  subst ei
  refine .inl ⟨Nat.le_refl _, ?_⟩
  refine ⟨D, _, rfl, .inl ⟨SqL.of hlD, fun tt htt => ?_⟩⟩
  exact k tt _ (sm.trans (same_new htt _)) (t3_mk (p := sg sn p q) (SqT.of upd_same))
theorem ok_lfold (T : TopDef K mg "_law_fold" s_l_fold) (D__law_added : Def P w K mg base 1 "_law_added" ["_law_one", "_law_other", "_law_sign"] (spAdd K)) : Def P w K mg base 2 "_law_fold" ["_law_word", "_law_one", "_law_other"] (spLFold K) := by
  refine def_of T sc_l_fold (fun _ _ _ _ _ _ => ar3 fun _ _ _ => rfl) (fun vs H Q E h => ?_) (fun f cdv A outer s H vs Q E hr h => ?_)
  · obtain ⟨k, x, y, a, b, rfl, _⟩ := h
    rfl
  obtain ⟨k, x, y, a, b, rfl, hk, dx, dy, ba, bb, q⟩ := h
  have nd := sc_l_fold.nd
  have d3 : (3 : Nat) ≤ sizeLine := by decide
  refine ⟨_, (pss_cons (ps_set (i := 3) nd rfl (Or.inl rfl) (pe_tup (pa_ki (pa_ki (pa_ki pa_nil)))))
    (pss_cons (ps_if (PW.pt (pw_or (pt_cmpR op_eq (pv 0) pe_str (nomark _)) (pw_or1 (pt_cmpR op_eq (pv 0) pe_str (nomark _))))) (pss_cons (ps_set (i := 4) nd rfl (Or.inl rfl) (pe_def D__law_added (hr.mono (by decide)) rfl (pa_cons (pv 1) (pa_cons (pv 2) (pa_ki pa_nil)))))
    (pss_cons (ps_set (i := 5) nd rfl (Or.inl rfl) (pe_def D__law_added (hr.mono (by decide)) rfl (pa_cons (pv 4) (pa_cons (pv 3) (pa_cons (pe_un un_neg pe_int) pa_nil)))))
    (pss_cons (ps_if (pt_cmpR op_eq (pv 0) pe_str (nomark _)) (pss_one (ps_ret (pe_tup (pa_cons (pv 5) (pa_cons (pv 4) (pa_cons (pv 3) pa_nil)))))) pss_nil)
    (pss_one (ps_ret (pe_tup (pa_cons (pv 5) (pa_tu (pe_tup (pa_ki (pa_ki (pa_ki pa_nil)))) (pa_cons (pv 5) pa_nil))))))))) pss_nil)
    (pss_cons (ps_if (pt_cmpR op_eq (pv 0) pe_str (nomark _)) (pss_cons (ps_set (i := 5) nd rfl (Or.inl rfl) (pe_def D__law_added (hr.mono (by decide)) rfl (pa_cons (pv 2) (pa_cons (pv 1) (pa_cons (pe_un un_neg pe_int) pa_nil)))))
    (pss_one (ps_ret (pe_tup (pa_cons (pv 5) (pa_cons (pe_def D__law_added (hr.mono (by decide)) rfl (pa_cons (pv 3) (pa_cons (pv 5) (pa_ki pa_nil)))) (pa_cons (pv 3) pa_nil))))))) pss_nil)
    (pss_cons (ps_set (i := 5) nd rfl (Or.inl rfl) (pe_def D__law_added (hr.mono (by decide)) rfl (pa_cons (pv 1) (pa_cons (pv 2) (pa_cons (pe_un un_neg pe_int) pa_nil)))))
    (pss_cons (ps_if (pt_cmpR op_eq (pv 0) pe_str (nomark _)) (pss_one (ps_ret (pe_tup (pa_cons (pv 5) (pa_cons (pv 2) (pa_cons (pv 1) pa_nil)))))) pss_nil)
    (pss_one (ps_ret (pe_tup (pa_cons (pv 5) (pa_cons (pv 1) (pa_cons (pv 2) pa_nil))))))))))), ?_⟩
  refine ⟨d3, fun tf htf => ?_⟩
  have uf := same_new htf (.tup [.int 0, .int 0, .int 1])
  have df : Dat K (upd H tf (.tup [.int 0, .int 0, .int 1])) (t3D Hu.al) (.ref tf) := t3_mk (p := Hu.al) (SqT.of upd_same)
  have dx := dx.ts uf.ts
  have dy := dy.ts uf.ts
  have q : ∀ (v : V) (H' : Hp), Same (upd H tf (.tup [.int 0, .int 0, .int 1])) H' → Ch K H' (Hu.fch k a b) v → Q v H' := fun v H' s' => q v H' (uf.trans s')
  generalize upd H tf (.tup [.int 0, .int 0, .int 1]) = H0 at df dx dy q ⊢
  rcases (c5 (by assumption) : k = 0 ∨ k = 1 ∨ k = 2 ∨ k = 3 ∨ k = 4) with rfl | rfl | rfl | rfl | rfl
  · refine ⟨_, rfl, rfl, _, rfl, ?_⟩
    rw [show decide (V.str (fw 0) = V.str "more") = true by decide +kernel]
    refine iteT ?_
    refine ⟨_, rfl, _, rfl, _, _, a, b, 1, rfl, dx, dy, .inl rfl, bb.mono (by decide), fun t1 H1 s1 e1 => ?_⟩
    rw [sg_pl] at e1
    refine ⟨_, rfl, _, rfl, _, rfl, _, _, _, _, -1, rfl, e1, df.ts s1.ts, .inr rfl, (Hu.r3_one 0).mono (by decide), fun t2 H2 s2 e2 => ?_⟩
    rw [sg_mi] at e2
    have m2 := s1.trans s2
    refine ⟨_, rfl, rfl, _, rfl, ?_⟩
    rw [show decide (V.str (fw 0) = V.str "more") = true by decide +kernel]
    refine iteT ?_
    refine ⟨_, rfl, _, rfl, _, rfl, d3, fun t ht => ?_⟩
    have u := same_new ht (.tup [.ref t2, .ref t1, .ref tf])
    exact q _ _ (m2.trans u) ⟨t, _, _, _, rfl, SqT.of upd_same, e2.ts u.ts, (e1.ts s2.ts).ts u.ts, (df.ts m2.ts).ts u.ts⟩
  · refine ⟨_, rfl, rfl, _, rfl, ?_⟩
    rw [show decide (V.str (fw 1) = V.str "more") = false by decide +kernel]
    refine iteF ?_
    refine ⟨_, rfl, rfl, _, rfl, ?_⟩
    rw [show decide (V.str (fw 1) = V.str "less") = true by decide +kernel]
    refine iteT ?_
    refine ⟨_, rfl, _, rfl, _, _, a, b, 1, rfl, dx, dy, .inl rfl, bb.mono (by decide), fun t1 H1 s1 e1 => ?_⟩
    rw [sg_pl] at e1
    refine ⟨_, rfl, _, rfl, _, rfl, _, _, _, _, -1, rfl, e1, df.ts s1.ts, .inr rfl, (Hu.r3_one 0).mono (by decide), fun t2 H2 s2 e2 => ?_⟩
    rw [sg_mi] at e2
    have m2 := s1.trans s2
    refine ⟨_, rfl, rfl, _, rfl, ?_⟩
    rw [show decide (V.str (fw 1) = V.str "more") = false by decide +kernel]
    refine iteF ?_
    refine ⟨_, rfl, d3, fun tz htz => ?_⟩
    have uz := same_new htz (.tup [.int 0, .int 0, .int 0])
    have dz : Dat K (upd H2 tz (.tup [.int 0, .int 0, .int 0])) (t3D Hu.z0) (.ref tz) := t3_mk (p := Hu.z0) (SqT.of upd_same)
    refine ⟨_, rfl, d3, fun t ht => ?_⟩
    have u := same_new ht (.tup [.ref t2, .ref tz, .ref t2])
    exact q _ _ (m2.trans (uz.trans u)) ⟨t, _, _, _, rfl, SqT.of upd_same, (e2.ts uz.ts).ts u.ts, dz.ts u.ts, (e2.ts uz.ts).ts u.ts⟩
  · refine ⟨_, rfl, rfl, _, rfl, ?_⟩
    rw [show decide (V.str (fw 2) = V.str "more") = false by decide +kernel]
    refine iteF ?_
    refine ⟨_, rfl, rfl, _, rfl, ?_⟩
    rw [show decide (V.str (fw 2) = V.str "less") = false by decide +kernel]
    refine iteF ?_
    refine ⟨_, rfl, rfl, _, rfl, ?_⟩
    rw [show decide (V.str (fw 2) = V.str "leads") = false by decide +kernel]
    refine iteF ?_
    refine ⟨_, rfl, _, rfl, _, rfl, _, _, a, b, -1, rfl, dx, dy, .inr rfl, bb.mono (by decide), fun t1 H1 s1 e1 => ?_⟩
    rw [sg_mi] at e1
    refine ⟨_, rfl, rfl, _, rfl, ?_⟩
    rw [show decide (V.str (fw 2) = V.str "greater") = true by decide +kernel]
    refine iteT ?_
    refine ⟨_, rfl, _, rfl, _, rfl, d3, fun t ht => ?_⟩
    have u := same_new ht (.tup [.ref t1, y, x])
    exact q _ _ (s1.trans u) ⟨t, _, _, _, rfl, SqT.of upd_same, e1.ts u.ts, (dy.ts s1.ts).ts u.ts, (dx.ts s1.ts).ts u.ts⟩
  · refine ⟨_, rfl, rfl, _, rfl, ?_⟩
    rw [show decide (V.str (fw 3) = V.str "more") = false by decide +kernel]
    refine iteF ?_
    refine ⟨_, rfl, rfl, _, rfl, ?_⟩
    rw [show decide (V.str (fw 3) = V.str "less") = false by decide +kernel]
    refine iteF ?_
    refine ⟨_, rfl, rfl, _, rfl, ?_⟩
    rw [show decide (V.str (fw 3) = V.str "leads") = false by decide +kernel]
    refine iteF ?_
    refine ⟨_, rfl, _, rfl, _, rfl, _, _, a, b, -1, rfl, dx, dy, .inr rfl, bb.mono (by decide), fun t1 H1 s1 e1 => ?_⟩
    rw [sg_mi] at e1
    refine ⟨_, rfl, rfl, _, rfl, ?_⟩
    rw [show decide (V.str (fw 3) = V.str "greater") = false by decide +kernel]
    refine iteF ?_
    refine ⟨_, rfl, _, rfl, _, rfl, d3, fun t ht => ?_⟩
    have u := same_new ht (.tup [.ref t1, x, y])
    exact q _ _ (s1.trans u) ⟨t, _, _, _, rfl, SqT.of upd_same, e1.ts u.ts, (dx.ts s1.ts).ts u.ts, (dy.ts s1.ts).ts u.ts⟩
  · refine ⟨_, rfl, rfl, _, rfl, ?_⟩
    rw [show decide (V.str (fw 4) = V.str "more") = false by decide +kernel]
    refine iteF ?_
    refine ⟨_, rfl, rfl, _, rfl, ?_⟩
    rw [show decide (V.str (fw 4) = V.str "less") = false by decide +kernel]
    refine iteF ?_
    refine ⟨_, rfl, rfl, _, rfl, ?_⟩
    rw [show decide (V.str (fw 4) = V.str "leads") = true by decide +kernel]
    refine iteT ?_
    refine ⟨_, rfl, _, rfl, _, rfl, _, _, b, a, -1, rfl, dy, dx, .inr rfl, ba.mono (by decide), fun t1 H1 s1 e1 => ?_⟩
    rw [sg_mi] at e1
    refine ⟨_, rfl, _, rfl, _, rfl, _, _, _, _, 1, rfl, df.ts s1.ts, e1, .inl rfl, (Hu.r3_mi bb ba).mono (by decide), fun t2 H2 s2 e2 => ?_⟩
    rw [sg_pl] at e2
    have m2 := s1.trans s2
    refine ⟨_, rfl, d3, fun t ht => ?_⟩
    have u := same_new ht (.tup [.ref t1, .ref t2, .ref tf])
    exact q _ _ (m2.trans u) ⟨t, _, _, _, rfl, SqT.of upd_same, (e1.ts s2.ts).ts u.ts, e2.ts u.ts, (df.ts m2.ts).ts u.ts⟩
end
end Mine



set_option Elab.async false
set_option linter.all false
set_option maxRecDepth 100000
set_option maxHeartbeats 4000000

namespace Mine
open PySem L2
theorem chosen_z {h : List T3} {x : T3} : Hu.chosen h (Hu.z0, x, x) = some x := by
  unfold Hu.chosen
  rw [if_pos (fun q _ => Int.le_of_eq (Hu.tl_z0 q))]
theorem lf_dec {k : Nat} (h : k < 4) : (if decide (V.str (lw k) = V.str "p") = true then (1 : Int) else 0) = (Hu.lft k).u ∧ (if decide (V.str (lw k) = V.str "q") = true then (1 : Int) else 0) = (Hu.lft k).v ∧ (if decide (V.str (lw k) = V.str "always") = true then (1 : Int) else 0) = (Hu.lft k).w := by
  rcases (c4 (by assumption) : k = 0 ∨ k = 1 ∨ k = 2 ∨ k = 3) with rfl | rfl | rfl | rfl <;> decide +kernel
theorem mm_if {K : PySem.W.Frag} {i : Nat} {σ : St} {H : Hp} {t u : TS} {D : Ends} {d : Addr} {ns : List Int} (hi : σ[i]? = some (some (.ref d))) (hd : SqL K H d (ns.map V.int)) (ne : 0 < ns.length) (a : (∃ x ∈ ns, x < 0) → (∃ x ∈ ns, 0 < x) → t D σ H) (b : (∀ x ∈ ns, 0 ≤ x) ∨ (∀ x ∈ ns, x ≤ 0) → u D σ H) :
    tIfS (tTest (tChain (rI0 fun i j => .bl (decide (i < j))) (rI0 fun i j => .bl (decide (i < j))) (tCB (fun xs H Q => ∃ (l : Addr) (ns : List Int), xs = [.ref l] ∧ SqL K H l (ns.map V.int) ∧ 0 < ns.length ∧ ∀ M, M ∈ ns → (∀ a ∈ ns, M ≤ a) → Q (.int M) H) (tCons (tVar i) tNil)) (tC (.int 0))
      (tCB (fun xs H Q => ∃ (l : Addr) (ns : List Int), xs = [.ref l] ∧ SqL K H l (ns.map V.int) ∧ 0 < ns.length ∧ ∀ M, M ∈ ns → (∀ a ∈ ns, a ≤ M) → Q (.int M) H) (tCons (tVar i) tNil)))) t u D σ H := by
  refine ⟨_, hi, d, _, rfl, hd, ne, fun M hM hmin => ?_⟩
  refine ⟨_, _, rfl, rfl, _, rfl, ?_⟩
  refine ite2 (fun c1 => ?_) (fun c1 => ⟨_, rfl, iteF (b (.inl fun x hx => Int.le_trans (Int.not_lt.mp fun z => c1 (decide_eq_true z)) (hmin x hx)))⟩)
  refine ⟨_, hi, d, _, rfl, hd, ne, fun M2 hM2 hmax => ?_⟩
  refine ⟨_, _, rfl, rfl, _, rfl, ?_⟩
  exact ite2 (fun c2 => a ⟨M, hM, of_decide_eq_true c1⟩ ⟨M2, hM2, of_decide_eq_true c2⟩) (fun c2 => b (.inr fun x hx => Int.le_trans (hmax x hx) (Int.not_lt.mp fun z => c2 (decide_eq_true z))))
section
variable {P : Program} {w : World} {K : PySem.W.Frag} {mg : Str → Option Value} {base : Heap}
theorem ok_lrules (T : TopDef K mg "_law_rules" s_l_rules) (Z_enumerate : mg "enumerate" = none) (Z_int : mg "int" = none) (Z_min : mg "min" = none) (Z_max : mg "max" = none) (D__law_added : Def P w K mg base 1 "_law_added" ["_law_one", "_law_other", "_law_sign"] (spAdd K))
    (D__law_fold : Def P w K mg base 2 "_law_fold" ["_law_word", "_law_one", "_law_other"] (spLFold K)) (D__law_tells : Def P w K mg base 1 "_law_tells" ["_law_rule", "_law_corner"] (spTl K)) : Def P w K mg base 3 "_law_rules" ["_law_rows", "_law_hull_here"] (spRules K) := by
  refine def_of T sc_l_rules (fun _ _ _ _ _ _ => ar2 fun _ _ => rfl) (fun vs H Q E h => ?_) (fun f cdv A outer s H vs Q E hr h => ?_)
  · obtain ⟨l, lh, us, hs, rows, h, rfl, _⟩ := h
    rfl
  obtain ⟨l, lh, us, hs, rows, h, rfl, hl, da, ok, ne, few, hlh, dh, bp, pos, hfew, q⟩ := h
  have nd := sc_l_rules.nd
  have lu := row_len da
  have d2 : (2 : Nat) ≤ sizeLine := by decide
  have d3 : (3 : Nat) ≤ sizeLine := by decide
  have d4 : (4 : Nat) ≤ sizeLine := by decide
  refine ⟨_, (pss_cons (ps_set (i := 2) nd rfl (Or.inl rfl) (pe_lst pa_nil))
    (pss_cons (ps_for PassesOwn.never rfl (pi_enum rfl Z_enumerate (pv 0)) (pg_tup rfl (pgs_cons (pg_name (i := 3) nd rfl (Or.inl rfl)) (pgs_cons (pg_name (i := 4) nd rfl (Or.inl rfl)) pgs_nil))) (pss_one (ps_if (pt_cmpR op_in_seq (pe_ix ix_tup (pv 4) pe_int (fun _ _ => rfl)) (pe_tup (pa_cons pe_str (pa_cons pe_str (pa_cons pe_str (pa_cons pe_str pa_nil))))) rfl) (pss_one (ps_expr (pe_bm PySem.F.plainAttrs_list PySem.F.slot_list_append PySem.F.type_list_append mt_append (pv 2) (pa_tu (pe_tup (pa_cons (pe_callTy call_int1 rfl Z_int (by decide +kernel) (pa_cons (pe_cmpR op_eq (pe_ix ix_tup (pv 4) pe_int (fun _ _ => rfl)) pe_str (nomark _)) pa_nil)) (pa_cons (pe_callTy call_int1 rfl Z_int (by decide +kernel) (pa_cons (pe_cmpR op_eq (pe_ix ix_tup (pv 4) pe_int (fun _ _ => rfl)) pe_str (nomark _)) pa_nil)) (pa_cons (pe_callTy call_int1 rfl Z_int (by decide +kernel) (pa_cons (pe_cmpR op_eq (pe_ix ix_tup (pv 4) pe_int (fun _ _ => rfl)) pe_str (nomark _)) pa_nil)) pa_nil)))) pa_nil)))) (pss_one (ps_if (pt_cmpR op_eq (pe_ix ix_tup (pv 4) pe_int (fun _ _ => rfl)) pe_str (nomark _)) (pss_one (ps_expr (pe_bm PySem.F.plainAttrs_list PySem.F.slot_list_append PySem.F.type_list_append mt_append (pv 2) (pa_cons (pe_def D__law_added (hr.mono (by decide)) rfl (pa_tu (pe_tup (pa_ki (pa_ki (pa_ki pa_nil)))) (pa_cons (pe_ix ix_list (pv 2) (pe_ix ix_tup (pv 4) pe_int (fun _ _ => rfl)) (fun _ _ => rfl)) (pa_cons (pe_un un_neg pe_int) pa_nil)))) pa_nil)))) (pss_cons (ps_asg (pe_def D__law_fold (hr.mono (by decide)) rfl (pa_cons (pe_ix ix_tup (pv 4) pe_int (fun _ _ => rfl)) (pa_cons (pe_ix ix_list (pv 2) (pe_ix ix_tup (pv 4) pe_int (fun _ _ => rfl)) (fun _ _ => rfl)) (pa_cons (pe_ix ix_list (pv 2) (pe_ix ix_tup (pv 4) pe_int (fun _ _ => rfl)) (fun _ _ => rfl)) pa_nil)))) (pg_tup rfl (pgs_cons (pg_name (i := 5) nd rfl (Or.inr rfl)) (pgs_cons (pg_name (i := 6) nd rfl (Or.inl rfl)) (pgs_cons (pg_name (i := 7) nd rfl (Or.inl rfl)) pgs_nil)))))
    (pss_cons (ps_setF (i := 8) nd rfl (Or.inl rfl) (Or.inl rfl) rfl rfl (pi_list (pv 1)) rfl (by decide +kernel) (by decide +kernel) rfl (show ∀ p ∈ Scope.names _, p.2 = NameKind.free → List.lookup p.1 (defScope s_l_rules).names = some .cell ∨ List.lookup p.1 (defScope s_l_rules).names = some .free by decide +kernel) (fa_cons (j := 5) rfl (Or.inl rfl) (by decide +kernel) (Or.inl rfl) fa_nil) (show (["_law_corner", "_law_test"] : List Str).Nodup by decide +kernel) (fun _ _ _ _ => pif_nil) (fun _ _ _ _ => (pe_def D__law_tells (hr.mono (by decide)) rfl (pa_cons (pv 1) (pa_cons (pv 0) pa_nil)))))
    (pss_cons (ps_if (pt_chain op_lt op_lt (pe_callB (call_minL rfl) rfl Z_min (by decide +kernel) (pa_cons (pv 8) pa_nil)) pe_int (pe_callB (call_maxL rfl) rfl Z_max (by decide +kernel) (pa_cons (pv 8) pa_nil))) (pss_one (ps_ret (pe_tup (pa_cons pe_str (pa_cons (pv 3) (pa_cons (pv 5) pa_nil)))))) pss_nil)
    (pss_one (ps_if (pt_cmpR op_le (pe_callB (call_maxL rfl) rfl Z_max (by decide +kernel) (pa_cons (pv 8) pa_nil)) pe_int (nomark _)) (pss_one (ps_expr (pe_bm PySem.F.plainAttrs_list PySem.F.slot_list_append PySem.F.type_list_append mt_append (pv 2) (pa_cons (pv 6) pa_nil)))) (pss_one (ps_expr (pe_bm PySem.F.plainAttrs_list PySem.F.slot_list_append PySem.F.type_list_append mt_append (pv 2) (pa_cons (pv 7) pa_nil))))))))))))))
    (pss_one (ps_ret (pe_tup (pa_cons pe_str (pa_cons (pv 2) pa_nil))))))), ?_⟩
  refine ⟨(by show 0 ≤ sizeLine; decide), fun lr hlr => ?_⟩
  have u0 := same_new hlr (.lst [])
  refine ⟨_, rfl, l, rfl, ⟨us, SqL.of (u0 _ _ hl)⟩, ?_⟩
  refine for_enum (xs := us) (fun i σ H' => i ≤ us.length ∧ Same H H' ∧ ∃ (ws : List V) (rs : List T3) (o3 o4 o5 o6 o7 o8 : Option V), σ = [some (.ref l), some (.ref lh), some (.ref lr), o3, o4, o5, o6, o7, o8] ∧ H' lr = some (.lst ws) ∧ DatAll K H' (rs.map t3D) ws ∧ rs.length = i ∧ Hu.Rb rs ∧ Hu.run h rows [] = Hu.run h (rows.drop i) rs)
    ⟨Nat.zero_le _, u0, [], [], _, _, _, _, _, _, rfl, upd_same, rfl, rfl, (fun i x e => by simp at e), rfl⟩ (fun i σ H' _ z => SqL.of (z.2.1 _ _ hl)) (fun i v T' σ H' hv z hT => ?_) (fun σ H' z => ?_)
  · obtain ⟨_, sm, ws, rs, o3, o4, o5, o6, o7, o8, rfl, hr', dr, lrs, rb, er⟩ := z
    have hi : i < us.length := (List.getElem?_eq_some_iff.mp hv).1
    have uT := same_new hT (.tup [.int i, v])
    obtain ⟨r, er', dv⟩ := row_at' ((da.ts sm.ts).ts uT.ts) hv
    have okr : r.Ok rs.length := by rw [lrs]; exact ok i r er'
    have dp : rows.drop i = r :: rows.drop (i + 1) := by
      obtain ⟨g1, g2⟩ := List.getElem?_eq_some_iff.mp er'
      rw [← g2]
      exact List.drop_eq_getElem_cons g1
    rw [dp] at er
    obtain ⟨cb, _, _⟩ := Hu.choice_b rb okr
    have lw0 := t3_len dr
    obtain ⟨a, rfl, sa⟩ := row_el dv
    refine ⟨T', _, rfl, SqT.of upd_same, rfl, _, _, rfl, _, _, rfl, rfl, ?_⟩
    have s2 := sm.trans uT
    have hr2 := uT _ _ hr'
    have dr2 := dr.ts uT.ts
    clear hr' dr hT dv er'
    generalize upd H' T' (.tup [.int i, .ref a]) = H1 at s2 hr2 dr2 sa ⊢
    have put : ∀ (H2 : Hp) (x : T3) (u : V) (o5 o6 o7 o8 : Option V), Same H1 H2 → Hu.chosen h (Hu.choice rs r) = some x → Dat K H2 (t3D x) u →
        (i + 1 ≤ us.length ∧ Same H (upd H2 lr (.lst (ws ++ [u]))) ∧ ∃ (ws' : List V) (rs' : List T3) (o3' o4' o5' o6' o7' o8' : Option V), [some (V.ref l), some (.ref lh), some (.ref lr), some (.int i), some (.ref a), o5, o6, o7, o8] = [some (V.ref l), some (.ref lh), some (.ref lr), o3', o4', o5', o6', o7', o8'] ∧ (upd H2 lr (.lst (ws ++ [u]))) lr = some (.lst ws') ∧ DatAll K (upd H2 lr (.lst (ws ++ [u]))) (rs'.map t3D) ws' ∧ rs'.length = i + 1 ∧ Hu.Rb rs' ∧ Hu.run h rows [] = Hu.run h (rows.drop (i + 1)) rs') := fun H2 x u o5 o6 o7 o8 s3 ex du => by
      have t5 : Tst H2 (upd H2 lr (.lst (ws ++ [u]))) := ts_mut (s3 _ _ hr2)
      refine ⟨hi, same_mut (s2.trans s3) hlr _, ws ++ [u], rs ++ [x], _, _, _, _, _, _, rfl, upd_same, ?_, ?_, Hu.rb_snoc rb (Hu.chosen_b rb okr ex), ?_⟩
      · rw [List.map_append]
        exact ((dr2.ts s3.ts).ts t5).snoc (du.ts t5)
      · rw [List.length_append, lrs]; rfl
      · rw [er]
        show (match Hu.chosen h (Hu.choice rs r) with | some x => _ | none => _) = _
        rw [ex]
    cases r with
    | lf k =>
      have hk : k < 4 := okr
      refine ⟨_, rfl, _, _, _, _, rfl, rfl, sa, rfl, d4, fun pt hpt => ?_⟩
      have u1 := same_new hpt (.tup [V.str "never", V.str "always", V.str "p", V.str "q"])
      refine ⟨pt, _, rfl, .inr (SqT.of upd_same), rfl, rfl, _, rfl, ?_⟩
      rw [if_neg Bool.false_ne_true, in4 hk]
      refine iteT ?_
      have hr3 := u1 _ _ hr2
      have sa2 := sa.ts u1.ts
      generalize upd H1 pt (.tup [V.str "never", V.str "always", V.str "p", V.str "q"]) = H2 at u1 hr3 sa2 ⊢
      refine ⟨_, rfl, .inl ⟨rfl, _, SqL.of hr3⟩, _, rfl, _, _, _, _, rfl, rfl, sa2, rfl, rfl, .inr ⟨_, rfl, _, rfl, _, _, _, _, rfl, rfl, sa2, rfl, rfl, .inr ⟨_, rfl, _, rfl, _, _, _, _, rfl, rfl, sa2, rfl, rfl, .inr ⟨_, rfl, d3, fun p3 hp3 => ?_⟩⟩⟩⟩
      obtain ⟨f1, f2, f3⟩ := lf_dec hk
      rw [f1, f2, f3] at *
      have u3 := same_new hp3 (.tup [.int (Hu.lft k).u, .int (Hu.lft k).v, .int (Hu.lft k).w])
      exact ⟨lr, ws, _, rfl, rfl, u3 _ _ hr3, small1000 (by omega), put _ _ _ _ _ _ _ (u1.trans u3) chosen_z (t3_mk (p := Hu.lft k) (SqT.of upd_same))⟩
    | nt j =>
      obtain ⟨y, hy, dy⟩ := t3_at dr2 (getD_at (show j < rs.length from okr))
      refine ⟨_, rfl, _, _, _, _, rfl, rfl, sa, rfl, d4, fun pt hpt => ?_⟩
      have u1 := same_new hpt (.tup [V.str "never", V.str "always", V.str "p", V.str "q"])
      refine ⟨pt, _, rfl, .inr (SqT.of upd_same), rfl, rfl, _, rfl, ?_⟩
      rw [if_neg Bool.false_ne_true, show inV (V.str "not") [V.str "never", V.str "always", V.str "p", V.str "q"] = false by decide +kernel]
      refine iteF ?_
      have sa2 := sa.ts u1.ts
      refine ⟨_, rfl, _, _, _, _, rfl, rfl, sa2, rfl, rfl, _, rfl, ?_⟩
      rw [decide_eq_true rfl]
      refine iteT ?_
      refine ⟨_, rfl, .inl ⟨rfl, _, SqL.of (u1 _ _ hr2)⟩, d3, fun p0 hp0 => ?_⟩
      have u2 := same_new hp0 (.tup [.int 0, .int 0, .int 1])
      have d0 : Dat K (upd (upd H1 pt (.tup [V.str "never", V.str "always", V.str "p", V.str "q"])) p0 (.tup [.int 0, .int 0, .int 1])) (t3D Hu.al) (.ref p0) := t3_mk (p := Hu.al) (SqT.of upd_same)
      have m2 := u1.trans u2
      have sa3 := sa2.ts u2.ts
      generalize upd (upd H1 pt (.tup [V.str "never", V.str "always", V.str "p", V.str "q"])) p0 (.tup [.int 0, .int 0, .int 1]) = H2 at m2 d0 sa3 ⊢
      refine ⟨_, rfl, _, rfl, _, _, _, _, rfl, rfl, sa3, rfl, _, _, _, _, rfl, rfl, SqL.of (m2 _ _ hr2), atI_nat hy, _, rfl, _, y, Hu.al, rs.getD j Hu.z0, -1, rfl, d0, dy.ts m2.ts, .inr rfl, (Hu.rb_at rb (show j < rs.length from okr)).mono (by omega), fun t H3 s3 e3 => ?_⟩
      rw [sg_mi] at e3
      have m3 := m2.trans s3
      exact ⟨lr, ws, _, rfl, rfl, m3 _ _ hr2, small1000 (by omega), put H3 _ _ _ _ _ _ m3 chosen_z e3⟩
    | fd k j m =>
      obtain ⟨hk, hj, hm⟩ := okr
      obtain ⟨y, hy, dy⟩ := t3_at dr2 (getD_at hj)
      obtain ⟨z, hz, dz⟩ := t3_at dr2 (getD_at hm)
      refine ⟨_, rfl, _, _, _, _, rfl, rfl, sa, rfl, d4, fun pt hpt => ?_⟩
      have u1 := same_new hpt (.tup [V.str "never", V.str "always", V.str "p", V.str "q"])
      refine ⟨pt, _, rfl, .inr (SqT.of upd_same), rfl, rfl, _, rfl, ?_⟩
      rw [if_neg Bool.false_ne_true, out5 hk]
      refine iteF ?_
      have sa2 := sa.ts u1.ts
      have sr2 : SqL K (upd H1 pt (.tup [V.str "never", V.str "always", V.str "p", V.str "q"])) lr ws := SqL.of (u1 _ _ hr2)
      refine ⟨_, rfl, _, _, _, _, rfl, rfl, sa2, rfl, rfl, _, rfl, ?_⟩
      rw [not5 hk]
      refine iteF ?_
      obtain ⟨c0, ec0⟩ : ∃ c0, c0 = Hu.choice rs (.fd k j m) := ⟨_, rfl⟩
      refine ⟨_, rfl, _, _, _, _, rfl, rfl, sa2, rfl, _, rfl, _, rfl, _, _, _, _, rfl, rfl, sa2, rfl, _, _, _, _, rfl, rfl, sr2, atI_nat hy, _, rfl, _, rfl, _, _, _, _, rfl, rfl, sa2, rfl, _, _, _, _, rfl, rfl, sr2, atI_nat hz, k, y, z, _, _, rfl, hk, dy.ts u1.ts, dz.ts u1.ts, (Hu.rb_at rb hj).mono (by omega), (Hu.rb_at rb hm).mono (by omega), fun vc H3 s3 hc => ?_⟩
      have hc : Ch K H3 c0 vc := by rw [ec0]; exact hc
      rw [← ec0] at cb put
      obtain ⟨tc, x1, x2, x3, rfl, stc, e1, e2, e3⟩ := hc
      have m3 := u1.trans s3
      have mH := s2.trans m3
      refine ⟨tc, _, rfl, stc, rfl, _, _, rfl, _, _, rfl, _, _, rfl, rfl, ?_⟩
      refine ⟨_, rfl, lh, rfl, ⟨hs, SqL.of (mH _ _ hlh)⟩, fun D hD => ?_⟩
      refine tic_loop (K := K) (r := c0.1) (fun H' s' => SqL.of (s' _ _ (mH _ _ hlh))) (dh.ts mH.ts) hfew hD ?step ?fin
      case step =>
        intro v p H' kk s' hp dp q
        exact ⟨_, rfl, _, rfl, x1, v, c0.1, p, rfl, e1.ts s'.ts, dp, cb.mono (by omega), bp p hp, q⟩
      intro H4 s4 hD4
      have m4 := m3.trans s4
      have hr4 := m4 _ _ hr2
      have e24 := e2.ts s4.ts
      have e34 := e3.ts s4.ts
      have hne : 0 < (h.map (Hu.tl c0.1)).length := by rw [List.length_map]; exact pos
      refine mm_if (K := K) rfl (SqL.of hD4) hne (fun ⟨a1, ha1, b1⟩ ⟨a2, ha2, b2⟩ => ?_) (fun nc => ?_)
      · obtain ⟨p1, hp1, ep1⟩ := List.mem_map.mp ha1
        obtain ⟨p2, hp2, ep2⟩ := List.mem_map.mp ha2
        have ex : Hu.chosen h c0 = none := by
          unfold Hu.chosen
          rw [if_neg (fun z => Int.not_lt.mpr (z p2 hp2) (ep2 ▸ b2)), if_neg (fun z => Int.not_lt.mpr (z p1 hp1) (ep1 ▸ b1))]
        refine ⟨_, rfl, _, rfl, d3, fun pm hpm => ?_⟩
        have um := same_new hpm (.tup [.str "mixed", .int i, x1])
        refine q (.mixed i c0.1) (.ref pm) _ (s2.trans (m4.trans um)) ?_ ⟨pm, x1, rfl, SqT.of upd_same, (e1.ts s4.ts).ts um.ts⟩
        rw [er]
        show (match Hu.chosen h (Hu.choice rs (.fd k j m)) with | some x => _ | none => _) = _
        rw [← ec0, ex, lrs]
      · have NC : (¬ ∀ q ∈ h, Hu.tl c0.1 q ≤ 0) → ∀ q ∈ h, 0 ≤ Hu.tl c0.1 q := fun z q hq => by
          rcases nc with y | y
          · exact y _ (List.mem_map.mpr ⟨q, hq, rfl⟩)
          · exact absurd (fun q hq => y _ (List.mem_map.mpr ⟨q, hq, rfl⟩)) z
        refine ⟨_, rfl, D, _, rfl, SqL.of hD4, hne, fun M3 hM3 hmax3 => ?_⟩
        refine ⟨_, _, rfl, rfl, _, rfl, ?_⟩
        refine ite2 (fun c => ?_) (fun c => ?_)
        · have c' : M3 ≤ 0 := of_decide_eq_true c
          have al : ∀ q ∈ h, Hu.tl c0.1 q ≤ 0 := fun q hq => Int.le_trans (hmax3 _ (List.mem_map.mpr ⟨q, hq, rfl⟩)) c'
          exact ⟨_, rfl, .inl ⟨rfl, _, SqL.of hr4⟩, _, rfl, lr, ws, _, rfl, rfl, hr4, small1000 (by omega), put H4 _ _ _ _ _ _ m4 (by unfold Hu.chosen; rw [if_pos al]) e24⟩
        · have c' : ¬ M3 ≤ 0 := fun z => c (decide_eq_true z)
          obtain ⟨p3, hp3, ep3⟩ := List.mem_map.mp hM3
          have n1 : ¬ ∀ q ∈ h, Hu.tl c0.1 q ≤ 0 := fun z => by have := z p3 hp3; omega
          exact ⟨_, rfl, .inl ⟨rfl, _, SqL.of hr4⟩, _, rfl, lr, ws, _, rfl, rfl, hr4, small1000 (by omega), put H4 _ _ _ _ _ _ m4 (by unfold Hu.chosen; rw [if_neg n1, if_pos (NC n1)]) e34⟩
  · obtain ⟨_, sm, ws, rs, o3, o4, o5, o6, o7, o8, rfl, hr', dr, lrs, rb, er⟩ := z
    refine ⟨_, rfl, d2, fun p hp => ?_⟩
    have u := same_new hp (.tup [.str "rules", .ref lr])
    refine q (.rules rs) (.ref p) _ (sm.trans u) ?_ ⟨p, lr, ws, rfl, rb, lrs.trans lu, hlr, SqT.of upd_same, u _ _ hr', dr.ts u.ts⟩
    rw [er, List.drop_eq_nil_of_le (by omega)]
    rfl
end
end Mine



set_option Elab.async false
set_option linter.all false
set_option maxRecDepth 100000
set_option maxHeartbeats 4000000

namespace Mine
open PySem L2
namespace Hu
theorem tl_sum3 (f : T3) : ∀ h : List T3, tl f (sum3 h) = (h.map (tl f)).sum
  | [] => by simp [sum3, tl]
  | p :: h => by
    have ih := tl_sum3 f h
    rw [List.map_cons, List.sum_cons, ← ih]
    simp only [sum3, List.map_cons, List.sum_cons, tl]
    grind
theorem cone_sum (h : List T3) : Cone h (sum3 h) := fun f hf => by
  rw [tl_sum3]
  have all : ∀ x ∈ h.map (tl f), 0 ≤ x := fun x hx => by obtain ⟨p, hp, rfl⟩ := List.mem_map.mp hx; exact hf p hp
  generalize h.map (tl f) = l at all
  induction l with
  | nil => simp
  | cons a l ih =>
    rw [List.sum_cons]
    have := all a List.mem_cons_self
    have := ih fun x hx => all x (List.mem_cons_of_mem _ hx)
    omega
theorem sum_B {B : Nat} : ∀ (l : List Int), (∀ x ∈ l, x.natAbs < B) → l.sum.natAbs ≤ l.length * B
  | [], _ => by simp
  | a :: l, h => by
    have := h a List.mem_cons_self
    have := sum_B l fun x hx => h x (List.mem_cons_of_mem _ hx)
    rw [List.sum_cons, List.length_cons, Nat.succ_mul]
    omega
theorem r3_sumB {h : List T3} (hp : ∀ p ∈ h, R3 600 p) (few : h.length ≤ 256) : R3 3000 (sum3 h) := by
  have b : ∀ (f : T3 → Int), (∀ p ∈ h, (f p).natAbs < 2 ^ 600) → ((h.map f).sum).natAbs < 2 ^ 3000 := fun f hf => by
    have z := sum_B (h.map f) fun x hx => by
      obtain ⟨p, q, rfl⟩ := List.mem_map.mp hx
      exact hf p q
    rw [List.length_map] at z
    refine Nat.lt_of_le_of_lt (Nat.le_trans z (Nat.mul_le_mul_right _ (Nat.le_trans few (show 256 ≤ 2 ^ 8 by decide)))) ?_
    rw [← Nat.pow_add]
    exact Nat.pow_lt_pow_right (by decide) (by decide)
  exact ⟨b _ fun p q => (hp p q).a, b _ fun p q => (hp p q).b, b _ fun p q => (hp p q).c⟩
end Hu
noncomputable def intsD (ns : List Int) : PyData := .list (ns.map .int)
theorem ints_m {K : PySem.W.Frag} {H : Hp} {l : Addr} {ns : List Int} (g : SqL K H l (ns.map V.int)) : DatM K H (intsD ns) (.ref l) := by
  refine ⟨l, _, rfl, g, ?_⟩
  have : ∀ ns : List Int, DatMAll K H (ns.map PyData.int) (ns.map V.int) := by
    intro ns
    induction ns with
    | nil => rfl
    | cons n ns ih => exact ⟨_, _, rfl, rfl, ih⟩
  exact this ns
theorem ints_shaped (ns : List Int) : SeqAt.shaped (intsD ns) = true := by
  have h1 : (intsD ns).canLay0 = true := by simp only [intsD, PyData.canLay0]; exact lay_map (fun _ => rfl) ns
  have h2 := depth_map (f := PyData.int) (n := 0) (fun _ => Nat.le_refl _) ns
  simp only [SeqAt.shaped, h1, Bool.true_and]
  simp only [intsD, PyData.depth]
  exact decide_eq_true (by omega)
theorem at_prev {α : Type} {us : List α} {i : Nat} (hi : i < us.length) : ∃ k, k < us.length ∧ (k + 1) % us.length = i ∧ ∀ x, us[k]? = some x → atI us ((i : Int) - 1) = some x := by
  cases i with
  | zero =>
    refine ⟨us.length - 1, by omega, ?_, fun x hx => ?_⟩
    · rw [show us.length - 1 + 1 = us.length by omega, Nat.mod_self]
    · unfold atI ixN
      rw [if_neg (by omega), if_pos (by omega)]
      rw [show ((((0 : Nat) : Int) - 1) + (us.length : Int)).toNat = us.length - 1 by omega]
      exact hx
  | succ j =>
    refine ⟨j, by omega, Nat.mod_eq_of_lt hi, fun x hx => ?_⟩
    rw [show (((j + 1 : Nat) : Int) - 1) = ((j : Nat) : Int) by omega]
    exact atI_nat hx
inductive SpRef_ (K : PySem.W.Frag) (vs : List V) (H : Hp) (Q : VK) : Prop where
  | mk (l lh : Addr) (us : List V) (ts : List (Str × List Int)) (z_0 : vs = [.ref l, .ref lh]) (z_1 : H l = some (.lst us)) (z_2 : DatAll K H (ts.map thD) us) (z_3 : Ths ts false) (z_4 : ∀ H', Same H H' → Q (.bl true) H') : SpRef_ K vs H Q
noncomputable def spRef (K : PySem.W.Frag) : Sp := fun vs H Q _ => SpRef_ K vs H Q
inductive SpWR_ (K : PySem.W.Frag) (vs : List V) (H : Hp) (Q : VK) : Prop where
  | mk (l lh lr : Addr) (us hs ws : List V) (rows : List Hu.Row) (h rs : List T3) (z_0 : vs = [.ref l, .ref lh, .ref lr]) (z_1 : H l = some (.lst us)) (z_2 : DatAll K H (rows.map rowD) us) (z_3 : RowsOk rows) (z_4 : rows.length ≤ 100) (z_5 : H lh = some (.lst hs)) (z_6 : DatAll K H (h.map t3D) hs) (z_7 : (∀ p ∈ h, Hu.R3 600 p)) (z_8 : h.length ≤ 256) (z_9 : H lr = some (.lst ws)) (z_10 : DatAll K H (rs.map t3D) ws) (z_11 : rs.length ≤ 100) (z_12 : (∀ r ∈ rs, Hu.R3 3000 r)) (z_13 : (∀ p, Hu.Cone h p → Hu.tv2 rs p = Hu.worths p rows [])) (z_14 : ∀ H', Same H H' → Q (.bl true) H') : SpWR_ K vs H Q
noncomputable def spWR (K : PySem.W.Frag) : Sp := fun vs H Q _ => SpWR_ K vs H Q
section
variable {P : Program} {w : World} {K : PySem.W.Frag} {mg : Str → Option Value} {base : Heap}
theorem ok_refused {C_NoRows C_NoCut C_SayError : Addr} (T : TopDef K mg "_law_refused" s_l_refused) (Z_isinstance : mg "isinstance" = none) (Z_len : mg "len" = none) (X_NoRows : XC1 P w K mg base "NoRows" C_NoRows "at") (M_NoCut : mg "NoCut" = some (.ref C_NoCut)) (M_SayError : mg "SayError" = some (.ref C_SayError)) (CC_SayError : CatchCls K C_SayError)
    (sub : PySem.W.mroIn K C_NoRows (.ref C_SayError) = some true) (k1 : PySem.W.kitOne K (.ref C_NoRows) (.ref C_NoCut) = some false) (D_rules_on : DefD P w K mg base 6 "rules_on" ["rows", "hull"] (spOn K C_NoRows)) : Def P w K mg base 7 "_law_refused" ["_law_rows", "_law_hull_here"] (spRef K) := by
  refine def_of T sc_l_refused (fun _ _ _ _ _ _ => ar2 fun _ _ => rfl) (fun vs H Q E h => ?_) (fun f cdv A outer s H vs Q E hr h => ?_)
  · obtain ⟨l, lh, us, ts, rfl, _⟩ := h
    rfl
  obtain ⟨l, lh, us, ts, rfl, hl, da, th, k⟩ := h
  have nd := sc_l_refused.nd
  have M_NoRows := X_NoRows.m
  have ec := X_NoRows.fl.ec
  have lu : us.length = ts.length := by rw [da.len, List.length_map]
  refine ⟨_, (pss_cons (ps_set (i := 2) nd rfl (Or.inl rfl) pe_non)
    (pss_cons (ps_tryH (j := 3) rfl rfl rfl rfl D_rules_on (hr.mono (by decide)) rfl (pa_cons (pv 0) (pa_cons (pv 1) pa_nil)) rfl M_SayError CC_SayError nd rfl rfl (fun _ => (pss_one (ps_set (i := 2) nd rfl (Or.inl rfl) (pv 3)))))
    (pss_one (ps_ret (pe_and (pe_callB call_isiG rfl Z_isinstance (by decide +kernel) (pa_cons (pv 2) (pa_cons (pe_glob (v := V.ref C_NoRows) rfl M_NoRows rfl) pa_nil))) (pe_and (pe_not (pe_callB call_isiG rfl Z_isinstance (by decide +kernel) (pa_cons (pv 2) (pa_cons (pe_glob (v := V.ref C_NoCut) rfl M_NoCut rfl) pa_nil)))) (pe_one (pe_cmpR op_eq (pe_fldGK (K := K) rfl (pv 2) rfl) (pe_op op_sub (pe_callB call_len rfl Z_len (by decide +kernel) (pa_cons (pv 0) pa_nil)) pe_int) (nomark _))))))))), ?_⟩
  refine ⟨_, rfl, _, rfl, .inr ⟨l, lh, us, ts, rfl, hl, da, th, fun H1 d s1 hd => ⟨C_NoRows, rfl, sub, fun ea hea => ?_⟩⟩⟩
  have u1 := same_new hd (.ext (XDict d [("at", .int ((ts.length : Int) - 1))]))
  have u2 := same_new hea (.ext (XGot ea C_NoRows (some d)))
  have he : upd (upd H1 d (.ext (XDict d [("at", .int ((ts.length : Int) - 1))]))) ea (.ext (XGot ea C_NoRows (some d))) ea = some (.ext (XGot ea C_NoRows (some d))) := upd_same
  have hd2 := u2 _ _ (upd_same (H := H1) (a := d) (o := .ext (XDict d [("at", .int ((ts.length : Int) - 1))])))
  have m2 := s1.trans (u1.trans u2)
  generalize upd (upd H1 d (.ext (XDict d [("at", .int ((ts.length : Int) - 1))]))) ea (.ext (XGot ea C_NoRows (some d))) = H2 at he hd2 m2 ⊢
  refine ⟨_, rfl, ?_⟩
  refine ⟨_, rfl, ea, _, _, C_NoRows, _, true, rfl, (fun _ h => h), he, ec, kit_same, _, rfl, iteT ?_⟩
  refine ⟨_, rfl, ea, _, _, C_NoRows, _, false, rfl, (fun _ h => h), he, ec, k1, _, rfl, _, rfl, iteT ?_⟩
  refine ⟨_, rfl, ea, C_NoRows, d, _, _, rfl, he, hd2, X_NoRows.fl, X_NoRows.n1, rfl, _, rfl, _, _, rfl, .inl ⟨_, SqL.of (m2 _ _ hl), rfl⟩, _, _, rfl, rfl, rfl, ?_⟩
  have e : decide (V.int ((ts.length : Int) - 1) = V.int ((us.length : Int) - 1)) = true := decide_eq_true (by rw [lu])
  have z := k H2 m2
  rw [← e] at z
  exact z
theorem tr_loop {H1 : Hp} {l D : Addr} {us : List V} {p : T3} {rs : List T3} {te : TE} {js : List Nat} {σ : St} {R : Hp → Prop} (hl : ∀ H', Same H1 H' → SqL K H' l us) (da : DatAll K H1 (rs.map t3D) us) (few : rs.length ≤ 900) (hD : H1 D = none)
    (step : ∀ (v : V) (r : T3) (H' : Hp) (k : VK), Same H1 H' → r ∈ rs → Dat K H' (t3D r) v → k (.int (Hu.tl r p)) H' → te (some v :: cVals js σ) H' k)
    (fin : ∀ H', Same H1 H' → H' D = some (.lst ((Hu.tv2 rs p).map V.int)) → R H') :
    ∃ W : Nat → Nat → Hp → Prop, (∃ m, W 0 m (upd H1 D (.lst []))) ∧ ∀ i m H2, W i m H2 → ((Itl K l).stop i H2 ∧ R H2) ∨
      ((Itl K l).go i H2 ∧ ∀ v H3, (Itl K l).yld i H2 v H3 → tNoIf (some v :: cVals js σ) H3 fun b H4 => if b = true then te (some v :: cVals js σ) H4 fun y H5 =>
        ∃ ys, H5 D = some (.lst ys) ∧ ys.length < sizeLine ∧ ∃ m', m' < m ∧ W (i + 1) m' (upd H5 D (.lst (ys ++ [y]))) else ∃ m', m' < m ∧ W (i + 1) m' H4) := by
  have lu := t3_len da
  refine ⟨fun i m H2 => m = us.length - i ∧ i ≤ us.length ∧ Same H1 H2 ∧ H2 D = some (.lst ((Hu.tv2 (rs.take i) p).map V.int)), ⟨_, rfl, Nat.zero_le _, same_new hD _, upd_same⟩, ?_⟩
  rintro i m H2 ⟨rfl, hi, sm, hlD⟩
  by_cases hlt : i < us.length
  · refine .inr ⟨⟨us, _, hl _ sm, List.getElem?_eq_getElem hlt⟩, fun v H3 y => ?_⟩
    obtain ⟨rfl, y⟩ := y
    obtain ⟨r, hp, dp⟩ := t3_at' (da.ts sm.ts) (y us (hl _ sm))
    refine tNoIf_go ?_
    refine step v r _ _ sm (List.mem_of_getElem? hp) dp ?_
    refine ⟨_, hlD, small1000 (by simp [Hu.tv2]; omega), us.length - (i + 1), by omega, rfl, hlt, same_mut sm hD _, ?_⟩
    rw [upd_same]
    have e : rs.take (i + 1) = rs.take i ++ [r] := by
      obtain ⟨q1, q2⟩ := List.getElem?_eq_some_iff.mp hp
      rw [List.take_succ_eq_append_getElem q1, q2]
    rw [e, Hu.tv2_snoc, List.map_append]
    rfl
  · have ei : i = us.length := by omega
    subst ei
    refine .inl ⟨⟨us, hl _ sm, Nat.le_refl _⟩, fin _ sm ?_⟩
    rw [hlD, lu, List.take_length]
theorem ok_wright (T : TopDef K mg "_law_worths_right" s_l_worths_right) (Z_list : mg "list" = none) (Z_range : mg "range" = none) (Z_len : mg "len" = none) (D__law_middle : Def P w K mg base 1 "_law_middle" ["_law_corners"] (spMid K)) (D__law_tells : Def P w K mg base 1 "_law_tells" ["_law_rule", "_law_corner"] (spTl K))
    (D__law_worths : Def P w K mg base 2 "_law_worths" ["_law_rows", "_law_point"] (spWorths K)) : Def P w K mg base 3 "_law_worths_right" ["_law_rows", "_law_hull_here", "_law_rules_here"] (spWR K) := by
  refine def_of T sc_l_worths_right (fun _ _ _ _ _ _ => ar3 fun _ _ _ => rfl) (fun vs H Q E h => ?_) (fun f cdv A outer s H vs Q E hr h => ?_)
  · obtain ⟨l, lh, lr, us, hs, ws, rows, h, rs, rfl, _⟩ := h
    rfl
  obtain ⟨l, lh, lr, us, hs, ws, rows, h, rs, rfl, hl, da, ok, few, hlh, dh, bp, hfew, hlr, dr, frs, br, told, q⟩ := h
  have nd := sc_l_worths_right.nd
  have hu := hr.units
  have d1 : (1 : Nat) ≤ sizeLine := by decide
  have d2 : (2 : Nat) ≤ sizeLine := by decide
  have ln : hs.length = h.length := t3_len dh
  refine ⟨_, (pss_cons (ps_set (i := 3) nd rfl (Or.inl rfl) (pe_op op_cat (pe_callTy call_list_of rfl Z_list (by decide +kernel) (pa_cons (pv 1) pa_nil)) (pe_lst (pa_cons (pe_def D__law_middle (hr.mono (by decide)) rfl (pa_cons (pv 1) pa_nil)) pa_nil))))
    (pss_cons (ps_for PassesOwn.never rfl (pi_range1 rfl Z_range (pa_cons (pe_callB call_len rfl Z_len (by decide +kernel) (pa_cons (pv 1) pa_nil)) pa_nil)) (pg_name (i := 4) nd rfl (Or.inl rfl)) (pss_one (ps_expr (pe_bm PySem.F.plainAttrs_list PySem.F.slot_list_append PySem.F.type_list_append mt_append (pv 3) (pa_cons (pe_def D__law_middle (hr.mono (by decide)) rfl (pa_cons (pe_lst (pa_cons (pe_ix ix_list (pv 1) (pe_op op_sub (pv 4) pe_int) (fun _ _ => rfl)) (pa_cons (pe_ix ix_list (pv 1) (pv 4) (fun _ _ => rfl)) pa_nil))) pa_nil)) pa_nil)))))
    (pss_cons (ps_for PassesOwn.never rfl (pi_list (pv 3)) (pg_name (i := 5) nd rfl (Or.inr rfl)) (pss_one (ps_if (pt_cmpR (op_neM hu) (pe_compF rfl (pi_list (pv 2)) rfl (by decide +kernel) (by decide +kernel) rfl (show ∀ p ∈ Scope.names _, p.2 = NameKind.free → List.lookup p.1 (defScope s_l_worths_right).names = some .cell ∨ List.lookup p.1 (defScope s_l_worths_right).names = some .free by decide +kernel) (fa_cons (j := 5) rfl (Or.inl rfl) (by decide +kernel) (Or.inl rfl) fa_nil) (show (["_law_rule", "_law_point"] : List Str).Nodup by decide +kernel) (fun _ _ _ _ => pif_nil) (fun _ _ _ _ => (pe_def D__law_tells (hr.mono (by decide)) rfl (pa_cons (pv 0) (pa_cons (pv 1) pa_nil))))) (pe_def D__law_worths (hr.mono (by decide)) rfl (pa_cons (pv 0) (pa_cons (pv 5) pa_nil))) (nomark _)) (pss_one (ps_ret pe_bl)) pss_nil)))
    (pss_one (ps_ret pe_bl))))), ?_⟩
  refine ⟨_, rfl, lh, hs, rfl, .inl (SqL.of hlh), fun l2 hl2 => ?_⟩
  have u6 := same_new hl2 (.lst hs)
  refine ⟨_, rfl, lh, hs, h, rfl, u6 _ _ hlh, dh.ts u6.ts, by omega, fun tm H7 s7 dm => ⟨d1, fun l3 hl3 => ?_⟩⟩
  have u8 := same_new hl3 (.lst [.ref tm])
  refine ⟨l2, l3, hs, [.ref tm], rfl, rfl, (s7.trans u8) _ _ upd_same, upd_same, (by rw [sizeLine_eq, List.length_singleton]; omega), fun lp hlp => ?_⟩
  have u9 := same_new hlp (.lst (hs ++ [.ref tm]))
  have s69 := u6.trans (s7.trans (u8.trans u9))
  have np : H lp = none := (u6.trans (s7.trans u8)).free hlp
  have g4 := upd_same (H := upd H7 l3 (.lst [.ref tm])) (a := lp) (o := .lst (hs ++ [.ref tm]))
  have dpts : DatAll K (upd (upd H7 l3 (.lst [.ref tm])) lp (.lst (hs ++ [.ref tm]))) ((h ++ [Hu.sum3 h]).map t3D) (hs ++ [.ref tm]) := by
    rw [List.map_append]
    exact (dh.ts s69.ts).snoc (dm.ts (u8.trans u9).ts)
  generalize upd (upd H7 l3 (.lst [.ref tm])) lp (.lst (hs ++ [.ref tm])) = H9 at s69 g4 dpts ⊢
  have ok0 : ∀ p ∈ h ++ [Hu.sum3 h], Hu.Cone h p ∧ Hu.R3 3000 p := fun p hp => by
    rcases List.mem_append.mp hp with z | z
    · exact ⟨Hu.cone_mem z, (bp p z).mono (by decide)⟩
    · rw [List.mem_singleton.mp z]
      exact ⟨Hu.cone_sum h, Hu.r3_sumB bp hfew⟩
  refine ⟨_, rfl, _, _, rfl, .inl ⟨_, SqL.of (s69 _ _ hlh), rfl⟩, _, rfl, by omega, by omega, ?_⟩
  refine for_range (fun i σ H' => Same H H' ∧ ∃ (pv : List V) (pts : List T3) (o4 o5 : Option V), σ = [some (.ref l), some (.ref lh), some (.ref lr), some (.ref lp), o4, o5] ∧ H' lp = some (.lst pv) ∧ DatAll K H' (pts.map t3D) pv ∧ pts.length = h.length + 1 + i ∧ ∀ p ∈ pts, Hu.Cone h p ∧ Hu.R3 3000 p)
    ⟨s69, _, _, _, _, rfl, g4, dpts, by rw [List.length_append]; rfl, ok0⟩ (fun i σ H' hi z => ?_) (fun σ H' z => ?_)
  · obtain ⟨sm, pv, pts, o4, o5, rfl, hp, dp, lp', okp⟩ := z
    have hi' : i < hs.length := by omega
    obtain ⟨k, hk, _, ak⟩ := at_prev hi'
    obtain ⟨p1, e1, dq1⟩ := t3_at' (dh.ts sm.ts) (List.getElem?_eq_getElem hk)
    obtain ⟨p2, e2, dq2⟩ := t3_at' (dh.ts sm.ts) (List.getElem?_eq_getElem hi')
    have sl : SqL K H' lh hs := SqL.of (sm _ _ hlh)
    have e0 : (0 : Int) + (i : Int) = (i : Int) := by omega
    rw [e0]
    refine ⟨_, rfl, .inl ⟨rfl, _, SqL.of hp⟩, _, rfl, _, rfl, _, _, rfl, rfl, _, _, _, _, rfl, rfl, sl, ak _ (List.getElem?_eq_getElem hk), _, rfl, _, rfl, _, _, _, _, rfl, rfl, sl, atI_nat (List.getElem?_eq_getElem hi'), d2, fun l5 hl5 => ?_⟩
    have u5 := same_new hl5 (.lst [hs[k], hs[i]])
    refine ⟨l5, _, [p1, p2], rfl, upd_same, ⟨_, _, rfl, dq1.ts u5.ts, _, _, rfl, dq2.ts u5.ts, rfl⟩, (by decide : 2 ≤ 900), fun tq H3 s3 dq => ?_⟩
    have s5 := u5.trans s3
    have hp3 := s5 _ _ hp
    have lpv : pv.length = pts.length := t3_len dp
    refine ⟨lp, pv, _, rfl, rfl, hp3, small1000 (by omega), ?_⟩
    have t5 : Tst H3 (upd H3 lp (.lst (pv ++ [.ref tq]))) := ts_mut hp3
    have m1 : p1 ∈ h := List.mem_of_getElem? e1
    have m2 : p2 ∈ h := List.mem_of_getElem? e2
    refine ⟨same_mut (sm.trans s5) np _, pv ++ [.ref tq], pts ++ [Hu.sum3 [p1, p2]], _, _, rfl, upd_same, ?_, (by rw [List.length_append]; show pts.length + 1 = _; omega), fun p hpp => ?_⟩
    · rw [List.map_append]
      exact ((dp.ts s5.ts).ts t5).snoc (dq.ts t5)
    · have two : ∀ c ∈ [p1, p2], c ∈ h := fun c hc => by
        rcases List.mem_cons.mp hc with z | z
        · rw [z]; exact m1
        · rw [List.mem_singleton.mp z]; exact m2
      rcases List.mem_append.mp hpp with z | z
      · exact okp p z
      · rw [List.mem_singleton.mp z]
        exact ⟨Hu.Cone.sub (fun c hc => Hu.cone_mem (two c hc)) (Hu.cone_sum [p1, p2]), Hu.r3_sumB (fun c hc => bp c (two c hc)) (by show 2 ≤ 256; decide)⟩
  · obtain ⟨sm, pv, pts, o4, o5, rfl, hp, dp, lp', okp⟩ := z
    have lpv : pv.length = pts.length := t3_len dp
    refine ⟨_, rfl, lp, rfl, ⟨_, SqL.of hp⟩, ?_⟩
    refine for_list (xs := pv) (fun j σ H2 => Same H' H2 ∧ ∃ o4 o5, σ = [some (.ref l), some (.ref lh), some (.ref lr), some (.ref lp), o4, o5]) ⟨Same.refl H', _, _, rfl⟩ (fun j σ H2 _ z => SqL.of (z.1 _ _ hp)) (fun j y σ H2 hy z => ?_) (fun σ H2 z => ?_)
    · obtain ⟨s10, o4', o5', rfl⟩ := z
      obtain ⟨p, ep, dpp⟩ := t3_at' (dp.ts s10.ts) hy
      obtain ⟨cp, bpp⟩ := okp p (List.mem_of_getElem? ep)
      have mm := sm.trans s10
      have hlr2 := mm _ _ hlr
      refine ⟨_, rfl, lr, rfl, ⟨ws, SqL.of hlr2⟩, fun D hD => ?_⟩
      refine tr_loop (K := K) (p := p) (fun H3 s3 => SqL.of (s3 _ _ hlr2)) (dr.ts mm.ts) (by omega) hD ?step ?fin
      case step =>
        intro u r H3 kk s3 hr2 du z
        exact ⟨_, rfl, _, rfl, u, y, r, p, rfl, du, dpp.ts s3.ts, br r hr2, bpp, z⟩
      intro H3 s3 hD2
      have m3 := mm.trans s3
      refine ⟨_, rfl, _, rfl, l, y, us, rows, p, rfl, m3 _ _ hl, da.ts m3.ts, ok, few, dpp.ts s3.ts, fun d H4 s4 _ hd4 => ?_⟩
      refine ⟨intsD (Hu.tv2 rs p), intsD (Hu.worths p rows []), ints_m (SqL.of (s4 _ _ hD2)), ints_m (SqL.of hd4), ints_shaped _, ints_shaped _, _, rfl, ?_⟩
      rw [told p cp, eqv_shaped (ints_shaped _)]
      exact iteF ⟨s10.trans (s3.trans s4), _, _, rfl⟩
    · obtain ⟨s10, o4', o5', rfl⟩ := z
      exact q _ (sm.trans s10)
end
end Mine



set_option Elab.async false
set_option linter.all false
set_option maxRecDepth 100000
set_option maxHeartbeats 4000000

namespace Mine
open PySem L2
theorem lw_lay (k : Nat) : PyData.strOk (lw k) = true := by
  unfold lw
  split
  · decide +kernel
  · split
    · decide +kernel
    · split <;> decide +kernel
theorem fw_lay (k : Nat) : PyData.strOk (fw k) = true := by
  unfold fw
  split
  · decide +kernel
  · split
    · decide +kernel
    · split
      · decide +kernel
      · split <;> decide +kernel
theorem row_lay (r : Hu.Row) : (rowD r).canLay0 = true := by
  cases r with
  | lf k => simp [rowD, thOf, thD, PyData.canLay0, PyData.canLayAll0, lw_lay]
  | nt i =>
    have : PyData.strOk ("not" : Str) = true := by decide +kernel
    simp [rowD, thOf, thD, PyData.canLay0, PyData.canLayAll0, this]
  | fd k i j => simp [rowD, thOf, thD, PyData.canLay0, PyData.canLayAll0, fw_lay]
theorem th_depth (t : Str × List Int) : (thD t).depth ≤ 1 := by
  have := depth_map (f := PyData.int) (n := 0) (fun _ => Nat.le_refl _) t.2
  simp only [thD, PyData.depth, PyData.depthAll]
  omega
noncomputable def rulesD (rs : List T3) : PyData := .tuple [.str "rules", huD rs]
noncomputable def mixD (k : Nat) (t : T3) : PyData := .tuple [.str "mixed", .int k, t3D t]
noncomputable def hanD (rows : List Hu.Row) (h : List T3) : PyData := .list [.list (rows.map rowD), huD h]
theorem rules_shaped (rs : List T3) : SeqAt.shaped (rulesD rs) = true := by
  have := hu_depth rs
  have w : PyData.strOk ("rules" : Str) = true := by decide +kernel
  simp only [SeqAt.shaped, rulesD, PyData.canLay0, PyData.canLayAll0, hu_lay, w, Bool.true_and, PyData.depth, PyData.depthAll]
  exact decide_eq_true (by omega)
theorem mix_shaped (k : Nat) (t : T3) : SeqAt.shaped (mixD k t) = true := by
  have := t3_depth t
  have w : PyData.strOk ("mixed" : Str) = true := by decide +kernel
  simp only [SeqAt.shaped, mixD, PyData.canLay0, PyData.canLayAll0, t3_lay, w, Bool.true_and, PyData.depth, PyData.depthAll]
  exact decide_eq_true (by omega)
theorem han_shaped (rows : List Hu.Row) (h : List T3) : SeqAt.shaped (hanD rows h) = true := by
  have := hu_depth h
  have := depth_map (f := rowD) (n := 1) (fun r => th_depth (thOf r)) rows
  have l := lay_map (f := rowD) row_lay rows
  simp only [SeqAt.shaped, hanD, PyData.canLay0, PyData.canLayAll0, hu_lay, l, Bool.true_and, PyData.depth, PyData.depthAll]
  exact decide_eq_true (by omega)
section
variable {K : PySem.W.Frag} {H : Hp}
theorem rules_m {t lr : Addr} {ws : List V} {rs : List T3} (st : SqT K H t [.str "rules", .ref lr]) (g : H lr = some (.lst ws)) (d : DatAll K H (rs.map t3D) ws) : DatM K H (rulesD rs) (.ref t) := ⟨t, _, rfl, st, _, _, rfl, rfl, _, _, rfl, ⟨lr, ws, rfl, SqL.of g, d.m⟩, rfl⟩
theorem mix_m {t : Addr} {k : Nat} {v : V} {tt : T3} (st : SqT K H t [.str "mixed", .int k, v]) (d : Dat K H (t3D tt) v) : DatM K H (mixD k tt) (.ref t) := ⟨t, _, rfl, st, _, _, rfl, rfl, _, _, rfl, rfl, _, _, rfl, d.m, rfl⟩
theorem hu_m {l : Addr} {hs : List V} {h : List T3} (g : H l = some (.lst hs)) (d : DatAll K H (h.map t3D) hs) : DatM K H (huD h) (.ref l) := ⟨l, hs, rfl, SqL.of g, d.m⟩
theorem han_m {g l lh : Addr} {us hs : List V} {rows : List Hu.Row} {h : List T3} (e : H g = some (.lst [.ref l, .ref lh])) (hl : H l = some (.lst us)) (da : DatAll K H (rows.map rowD) us) (hlh : H lh = some (.lst hs)) (dh : DatAll K H (h.map t3D) hs) : DatM K H (hanD rows h) (.ref g) :=
  ⟨g, _, rfl, SqL.of e, _, _, rfl, ⟨l, us, rfl, SqL.of hl, da.m⟩, _, _, rfl, hu_m hlh dh, rfl⟩
end
noncomputable def outD : Hu.Out → PyData
  | .rules rs => rulesD rs
  | .mixed k t => mixD k t
theorem out_shaped (o : Hu.Out) : SeqAt.shaped (outD o) = true := by
  cases o with
  | rules rs => exact rules_shaped rs
  | mixed k t => exact mix_shaped k t
section
variable {K : PySem.W.Frag} {H0 H H' : Hp} {rows : List Hu.Row} {o : Hu.Out} {v : V}
theorem OutD.later (d : OutD K H0 H rows o v) (s : Same H H') : DatM K H' (outD o) v := by
  cases o with
  | rules rs => obtain ⟨t, lr, ws, rfl, _, _, _, st, g, d⟩ := d; exact rules_m (st.ts s.ts) (s _ _ g) (d.ts s.ts)
  | mixed k tt => obtain ⟨t, x, rfl, st, d⟩ := d; exact mix_m (st.ts s.ts) (d.ts s.ts)
theorem OutD.m (d : OutD K H0 H rows o v) : DatM K H (outD o) v := d.later (Same.refl H)
theorem OutD.tup (d : OutD K H0 H rows o v) : ∃ t xs, v = .ref t ∧ SqT K H t xs := by
  cases o with
  | rules rs => obtain ⟨t, lr, ws, e, _, _, _, st, _⟩ := d; exact ⟨t, _, e, st⟩
  | mixed k tt => obtain ⟨t, x, e, st, _⟩ := d; exact ⟨t, _, e, st⟩
end
/-- a row that is none -/
noncomputable def bad (j : Nat) (m : Int) : Str × List Int := if j = 0 then ("not", [m]) else if j = 1 then ("more", [0, m]) else if j = 2 then ("leads", [m + 3, 1]) else ("less", [-1, 0])
theorem bad_tk {j : Nat} (hj : j < 4) (m : Int) : TkOk (bad j m) := by
  rcases (c4 (by assumption) : j = 0 ∨ j = 1 ∨ j = 2 ∨ j = 3) with rfl | rfl | rfl | rfl
  · exact ⟨(by decide +kernel : PyProof.Rows.KTD.datumAt ("not" : Str) TK = some 1), (by decide : 1 ≤ 2)⟩
  · exact ⟨(by decide +kernel : PyProof.Rows.KTD.datumAt ("more" : Str) TK = some 2), (by decide : 2 ≤ 2)⟩
  · exact ⟨(by decide +kernel : PyProof.Rows.KTD.datumAt ("leads" : Str) TK = some 2), (by decide : 2 ≤ 2)⟩
  · exact ⟨(by decide +kernel : PyProof.Rows.KTD.datumAt ("less" : Str) TK = some 2), (by decide : 2 ≤ 2)⟩
theorem bad_gd {j : Nat} (hj : j < 4) (n : Nat) : gd n (bad j n) = false := by
  have a : ¬ (n : Int) < n := by omega
  have b : ¬ (n : Int) + 3 < n := by omega
  rcases (c4 (by assumption) : j = 0 ∨ j = 1 ∨ j = 2 ∨ j = 3) with rfl | rfl | rfl | rfl <;> simp [gd, bad, a, b]
theorem bad_ths {rows : List Hu.Row} (ok : RowsOk rows) (ne : 0 < rows.length) (few : rows.length ≤ 99) {j : Nat} (hj : j < 4) : Ths (rows.map thOf ++ [bad j rows.length]) false := by
  obtain ⟨a, b, _, _⟩ := rows_ths ok ne (by omega)
  have ln : (rows.map thOf).length = rows.length := List.length_map _
  have ln2 : (rows.map thOf ++ [bad j rows.length]).length = rows.length + 1 := by rw [List.length_append, ln]; rfl
  refine ⟨fun t ht => ?_, fun k t e => ?_, by omega, by omega⟩
  · rcases List.mem_append.mp ht with z | z
    · exact a t z
    · rw [List.mem_singleton.mp z]; exact bad_tk hj _
  · rw [ln2, Bool.false_or]
    rcases Nat.lt_or_ge k rows.length with z | z
    · rw [List.getElem?_append_left (by omega)] at e
      rw [b k t e, Bool.true_or, decide_eq_true (by omega)]
    · rw [List.getElem?_append_right (by omega)] at e
      have : k - (rows.map thOf).length = 0 := by
        rcases Nat.eq_zero_or_pos (k - (rows.map thOf).length) with q | q
        · exact q
        · rw [List.getElem?_eq_none (by simp only [List.length_singleton]; omega)] at e; cases e
      rw [this] at e
      cases e
      rw [show k = rows.length by omega, bad_gd hj, decide_eq_false (by omega)]
theorem ix0 {n : Nat} (h : 0 < n) : ixN n 0 = some 0 := by
  unfold ixN
  rw [if_pos (by omega), if_pos (by omega)]
  rfl
inductive SpLaw_ (K : PySem.W.Frag) (vs : List V) (H : Hp) (Q : VK) : Prop where
  | mk (a : Addr) (ns : List Int) (z_0 : vs = [.ref a]) (z_1 : Scr K H a ns) (z_2 : ∀ H', Q (.bl true) H') : SpLaw_ K vs H Q
noncomputable def spLaw (K : PySem.W.Frag) : Sp := fun vs H Q _ => SpLaw_ K vs H Q
section
variable {P : Program} {w : World} {K : PySem.W.Frag} {mg : Str → Option Value} {base : Heap}
theorem ok_law {f C : Addr} {fd : FuncData} (F : Fun K "law" "law" s_law f fd) (Z_list : mg "list" = none) (Z_len : mg "len" = none) (Z_isinstance : mg "isinstance" = none) (Z_tuple : mg "tuple" = none) (Z_all : mg "all" = none)
    (D__law_drawn : Def P w K mg base 2 "_law_drawn" ["_law_script", "_law_k"] (spDrawn K)) (D__law_hull : Def P w K mg base 4 "_law_hull" ["_law_script", "_law_start", "_law_many"] (spLHull K)) (D__law_row_list : Def P w K mg base 3 "_law_row_list" ["_law_script", "_law_start", "_law_many"] (spRowList K))
    (D__law_refused : Def P w K mg base 7 "_law_refused" ["_law_rows", "_law_hull_here"] (spRef K)) (D__law_rules : Def P w K mg base 3 "_law_rules" ["_law_rows", "_law_hull_here"] (spRules K)) (D_rules_on : DefD P w K mg base 6 "rules_on" ["rows", "hull"] (spOn K C)) (D__law_whole : Def P w K mg base 1 "_law_whole" ["_law_found"] spWhole)
    (D__law_three : Def P w K mg base 2 "_law_three" ["_law_found"] (spThree K)) (D__law_worths_right : Def P w K mg base 3 "_law_worths_right" ["_law_rows", "_law_hull_here", "_law_rules_here"] (spWR K)) : FnOk P w K mg base CX0 8 f fd ["_law_script"] (spLaw K) := by
  refine F.ok sc_law (fun vs H Q E h => ?_) (fun cdv A outer s H vs Q E hr h => ?_)
  · obtain ⟨a, ns, rfl, _⟩ := h
    rfl
  obtain ⟨a, ns, rfl, S, q⟩ := h
  have nd := sc_law.nd
  have hu := hr.units
  have d1 : (1 : Nat) ≤ sizeLine := by decide
  have d2 : (2 : Nat) ≤ sizeLine := by decide
  have d3 : (3 : Nat) ≤ sizeLine := by decide
  have d4 : (4 : Nat) ≤ sizeLine := by decide
  refine ⟨_, (pss_cons (ps_set (i := 1) nd rfl (Or.inl rfl) (pe_def D__law_drawn (hr.mono (by decide)) rfl (pa_cons (pv 0) (pa_ki pa_nil))))
    (pss_cons (ps_set (i := 2) nd rfl (Or.inl rfl) (pe_def D__law_hull (hr.mono (by decide)) rfl (pa_cons (pv 0) (pa_ki (pa_cons (pe_op op_mod (pv 1) pe_int) pa_nil)))))
    (pss_cons (ps_set (i := 3) nd rfl (Or.inl rfl) (pe_def D__law_row_list (hr.mono (by decide)) rfl (pa_cons (pv 0) (pa_ki (pa_cons (pe_op op_add pe_int (pe_op op_mod (pe_op op_fdiv (pv 1) pe_int) pe_int)) pa_nil)))))
    (pss_cons (ps_set (i := 4) nd rfl (Or.inl rfl) (pe_lst (pa_cons (pe_callTy call_list_of rfl Z_list (by decide +kernel) (pa_cons (pv 3) pa_nil)) (pa_cons (pe_callTy call_list_of rfl Z_list (by decide +kernel) (pa_cons (pv 2) pa_nil)) pa_nil))))
    (pss_cons (ps_if (pt_cmpR op_eq (pe_op op_mod (pe_op op_fdiv (pv 1) pe_int) pe_int) pe_int (nomark _)) (pss_cons (ps_set (i := 5) nd rfl (Or.inl rfl) (pe_callB call_len rfl Z_len (by decide +kernel) (pa_cons (pv 3) pa_nil)))
    (pss_cons (ps_set (i := 6) nd rfl (Or.inl rfl) (pe_lst (pa_tu (pe_tup (pa_cons pe_str (pa_cons (pv 5) pa_nil))) (pa_tu (pe_tup (pa_cons pe_str (pa_ki (pa_cons (pv 5) pa_nil)))) (pa_tu (pe_tup (pa_cons pe_str (pa_cons (pe_op op_add (pv 5) pe_int) (pa_ki pa_nil)))) (pa_tu (pe_tup (pa_cons pe_str (pa_cons (pe_un un_neg pe_int) (pa_ki pa_nil)))) pa_nil))))))
    (pss_one (ps_ret (pe_and (pe_def D__law_refused (hr.mono (by decide)) rfl (pa_cons (pe_op op_cat (pv 3) (pe_lst (pa_cons (pe_ix ix_list (pv 6) (pe_op op_mod (pe_op op_fdiv (pv 1) pe_int) pe_int) (fun _ _ => rfl)) pa_nil))) (pa_cons (pe_ix ix_list (pv 4) pe_int (fun _ _ => rfl)) pa_nil))) (pe_one (pe_cmpR (op_eqM hu) (pe_ix ix_list (pv 4) pe_int (fun _ _ => rfl)) (pv 2) (nomark _)))))))) pss_nil)
    (pss_cons (ps_set (i := 7) nd rfl (Or.inl rfl) (pe_def D__law_rules (hr.mono (by decide)) rfl (pa_cons (pv 3) (pa_cons (pv 2) pa_nil))))
    (pss_cons (ps_set (i := 8) nd rfl (Or.inl rfl) (pe_defD D_rules_on (hr.mono (by decide)) rfl (pa_cons (pe_ix ix_list (pv 4) pe_int (fun _ _ => rfl)) (pa_cons (pe_ix ix_list (pv 4) pe_int (fun _ _ => rfl)) pa_nil))))
    (pss_cons (ps_if (PW.pt (pw_or (pt_not (pt_val (pe_callB call_isiT rfl Z_isinstance (by decide +kernel) (pa_cons (pv 8) (pa_cons (pe_bltn (v := V.ty "tuple") rfl Z_tuple (by decide +kernel) rfl) pa_nil))))) (pw_or (pt_cmpR (op_neM hu) (pv 8) (pv 7) (nomark _)) (pw_or1 (pt_cmpR (op_neM hu) (pv 4) (pe_lst (pa_cons (pv 3) (pa_cons (pv 2) pa_nil))) (nomark _)))))) (pss_one (ps_ret pe_bl)) pss_nil)
    (pss_cons (ps_if (pt_cmpR op_eq (pe_ix ix_tup (pv 7) pe_int (fun _ _ => rfl)) pe_str (nomark _)) (pss_one (ps_ret (pe_and (pe_def D__law_whole (hr.mono (by decide)) rfl (pa_cons (pe_ix ix_tup (pv 8) pe_int (fun _ _ => rfl)) pa_nil)) (pe_one (pe_def D__law_three (hr.mono (by decide)) rfl (pa_cons (pe_ix ix_tup (pv 8) pe_int (fun _ _ => rfl)) pa_nil)))))) pss_nil)
    (pss_cons (ps_if (PW.pt (pw_or (pt_not (pt_val (pe_callB call_isiL rfl Z_isinstance (by decide +kernel) (pa_cons (pe_ix ix_tup (pv 8) pe_int (fun _ _ => rfl)) (pa_cons (pe_bltn (v := V.ty "list") rfl Z_list (by decide +kernel) rfl) pa_nil))))) (pw_or1 (pt_not (pt_val (pe_callB (call_all rfl) rfl Z_all (by decide +kernel) (pa_cons (pe_compF rfl (pi_list (pe_ix ix_tup (pv 8) pe_int (fun _ _ => rfl))) rfl (by decide +kernel) (by decide +kernel) rfl (show ∀ p ∈ Scope.names _, p.2 = NameKind.free → List.lookup p.1 (defScope s_law).names = some .cell ∨ List.lookup p.1 (defScope s_law).names = some .free by decide +kernel) fa_nil (show (["_law_rule"] : List Str).Nodup by decide +kernel) (fun _ _ _ _ => pif_nil) (fun _ _ _ _ => (pe_def D__law_three (hr.mono (by decide)) rfl (pa_cons (pv 0) pa_nil)))) pa_nil))))))) (pss_one (ps_ret pe_bl)) pss_nil)
    (pss_cons (ps_if (pt_not (pt_val (pe_def D__law_worths_right (hr.mono (by decide)) rfl (pa_cons (pv 3) (pa_cons (pv 2) (pa_cons (pe_ix ix_tup (pv 7) pe_int (fun _ _ => rfl)) pa_nil)))))) (pss_one (ps_ret pe_bl)) pss_nil)
    (pss_cons (ps_expr (pe_bm PySem.F.plainAttrs_list PySem.F.slot_list_append PySem.F.type_list_append mt_append (pe_ix ix_tup (pv 8) pe_int (fun _ _ => rfl)) (pa_tu (pe_tup (pa_ki (pa_ki (pa_ki pa_nil)))) pa_nil)))
    (pss_cons (ps_asg (pe_tup (pa_ki (pa_ki (pa_ki pa_nil)))) (pg_sub (pe_ix ix_tup (pv 8) pe_int (fun _ _ => rfl)) pe_int set_list))
    (pss_one (ps_ret (pe_cmpR (op_eqM hu) (pe_defD D_rules_on (hr.mono (by decide)) rfl (pa_cons (pe_ix ix_list (pv 4) pe_int (fun _ _ => rfl)) (pa_cons (pe_ix ix_list (pv 4) pe_int (fun _ _ => rfl)) pa_nil))) (pv 7) (nomark _))))))))))))))))), ?_⟩
  refine ⟨_, rfl, a, ns, 0, rfl, S, by decide, by decide, fun v H1 v0 s1 => ?_⟩
  have S1 := S.ts s1.ts
  refine ⟨_, rfl, _, rfl, _, _, rfl, rfl, (show (0 : Int) < _ by decide), a, ns, _, rfl, S1, by omega, by omega, fun lh hs h H2 s2 hlh dh hu0 => ?_⟩
  have S2 := S1.ts s2.ts
  refine ⟨_, rfl, _, rfl, _, _, rfl, rfl, ⟨by decide, by decide⟩, _, _, rfl, rfl, (show (0 : Int) < _ by decide), _, _, rfl, rfl, a, ns, _, rfl, S2, by omega, by omega, fun l us rows H3 s3 _ hl da ok two few => ?_⟩
  refine ⟨_, rfl, l, us, rfl, .inl (SqL.of hl), fun g1 hg1 => ?_⟩
  have u1 := same_new hg1 (.lst us)
  refine ⟨_, rfl, lh, hs, rfl, .inl (SqL.of ((s3.trans u1) _ _ hlh)), fun g2 hg2 => ⟨d2, fun g3 hg3 => ?_⟩⟩
  have u2 := same_new hg2 (.lst hs)
  have u3 := same_new hg3 (.lst [.ref g1, .ref g2])
  have e1 := (u2.trans u3) _ _ (upd_same (H := H3) (a := g1) (o := .lst us))
  have e2 := u3 _ _ (upd_same (H := upd H3 g1 (.lst us)) (a := g2) (o := .lst hs))
  have e3 := upd_same (H := upd (upd H3 g1 (.lst us)) g2 (.lst hs)) (a := g3) (o := .lst [.ref g1, .ref g2])
  have m3 := u1.trans (u2.trans u3)
  have hl := m3 _ _ hl
  have da := da.ts m3.ts
  have hlh := (s3.trans m3) _ _ hlh
  have dh := dh.ts (s3.trans m3).ts
  generalize upd (upd (upd H3 g1 (.lst us)) g2 (.lst hs)) g3 (.lst [.ref g1, .ref g2]) = H4 at e1 e2 e3 hl da hlh dh ⊢
  clear s1 S1 s2 S2 s3 hg1 u1 hg2 hg3 u2 u3 m3
  have bp : ∀ p ∈ h, Hu.R3 568 p := fun p hp => (hu0.ok p hp).r
  have bp6 : ∀ p ∈ h, Hu.R3 3000 p := fun p hp => (bp p hp).mono (by decide)
  have pos := hu0.pos
  have hfew := hu0.few
  have lu := row_len da
  have sg3 : SqL K H4 g3 [.ref g1, .ref g2] := SqL.of e3
  refine ⟨_, rfl, _, _, rfl, rfl, ⟨by decide, by decide⟩, _, _, rfl, rfl, (show (0 : Int) < _ by decide), rfl, _, rfl, ?_⟩
  refine ite2 (fun _ => ?_) (fun _ => ?_)
  · refine ⟨_, rfl, _, _, rfl, .inl ⟨_, SqL.of hl, rfl⟩, ?_⟩
    rw [lu]
    obtain ⟨m, em⟩ : ∃ m : Int, m = (rows.length : Nat) := ⟨_, rfl⟩
    rw [← em]
    refine ⟨_, rfl, d2, fun p1 hp1 => ?_⟩
    have w1 := same_new hp1 (.tup [.str "not", .int m])
    have f1 := upd_same (H := H4) (a := p1) (o := .tup [.str "not", .int m])
    generalize upd H4 p1 (.tup [.str "not", .int m]) = Ha at w1 f1 ⊢
    refine ⟨_, rfl, d3, fun p2 hp2 => ?_⟩
    have w2 := same_new hp2 (.tup [.str "more", .int 0, .int m])
    have f2 := upd_same (H := Ha) (a := p2) (o := .tup [.str "more", .int 0, .int m])
    generalize upd Ha p2 (.tup [.str "more", .int 0, .int m]) = Hb at w2 f2 ⊢
    refine ⟨_, rfl, _, _, rfl, rfl, d3, fun p3 hp3 => ?_⟩
    have w3 := same_new hp3 (.tup [.str "leads", .int (m + 3), .int 1])
    have f3 := upd_same (H := Hb) (a := p3) (o := .tup [.str "leads", .int (m + 3), .int 1])
    generalize upd Hb p3 (.tup [.str "leads", .int (m + 3), .int 1]) = Hc at w3 f3 ⊢
    refine ⟨_, rfl, d3, fun p4 hp4 => ⟨d4, fun l5 hl5 => ?_⟩⟩
    have w4 := same_new hp4 (.tup [.str "less", .int (-1), .int 0])
    have f4 := upd_same (H := Hc) (a := p4) (o := .tup [.str "less", .int (-1), .int 0])
    generalize upd Hc p4 (.tup [.str "less", .int (-1), .int 0]) = Hd at w4 f4 hl5 ⊢
    have w5 := same_new hl5 (.lst [.ref p1, .ref p2, .ref p3, .ref p4])
    have f5 := upd_same (H := Hd) (a := l5) (o := .lst [.ref p1, .ref p2, .ref p3, .ref p4])
    generalize upd Hd l5 (.lst [.ref p1, .ref p2, .ref p3, .ref p4]) = H5 at w5 f5 ⊢
    have f4 := w5 _ _ f4
    have f3 := (w4.trans w5) _ _ f3
    have f2 := (w3.trans (w4.trans w5)) _ _ f2
    have f1 := (w2.trans (w3.trans (w4.trans w5))) _ _ f1
    have m5 := w1.trans (w2.trans (w3.trans (w4.trans w5)))
    clear w1 w2 w3 w4 w5 hp1 hp2 hp3 hp4 hl5
    obtain ⟨j, hj, ej, ea⟩ := at4 (a := V.ref p1) (b := V.ref p2) (c := V.ref p3) (d := V.ref p4) (k := v / 672 % 4) (by omega) (by omega)
    have ex : ∃ p, atI [V.ref p1, .ref p2, .ref p3, .ref p4] (v / 672 % 4) = some (.ref p) ∧ SqT K H5 p (thV (bad j m)) := by
      rw [ea]
      rcases (c4 (by assumption) : j = 0 ∨ j = 1 ∨ j = 2 ∨ j = 3) with rfl | rfl | rfl | rfl
      · exact ⟨p1, rfl, SqT.of f1⟩
      · exact ⟨p2, rfl, SqT.of f2⟩
      · exact ⟨p3, rfl, SqT.of f3⟩
      · exact ⟨p4, rfl, SqT.of f4⟩
    obtain ⟨p, ep, sp⟩ := ex
    refine ⟨_, rfl, _, rfl, _, rfl, _, _, rfl, rfl, ⟨by decide, by decide⟩, _, _, rfl, rfl, (show (0 : Int) < _ by decide), _, _, _, _, rfl, rfl, SqL.of f5, ep, d1, fun l6 hl6 => ?_⟩
    have w6 := same_new hl6 (.lst [.ref p])
    refine ⟨l, l6, us, [.ref p], rfl, rfl, (m5.trans w6) _ _ hl, upd_same, (by rw [sizeLine_eq, List.length_singleton]; omega), fun l7 hl7 => ?_⟩
    have w7 := same_new hl7 (.lst (us ++ [.ref p]))
    have f7 := upd_same (H := upd H5 l6 (.lst [.ref p])) (a := l7) (o := .lst (us ++ [.ref p]))
    have m7 := m5.trans (w6.trans w7)
    have sp := (sp.ts w6.ts).ts w7.ts
    generalize upd (upd H5 l6 (.lst [.ref p])) l7 (.lst (us ++ [.ref p])) = H7 at f7 m7 sp ⊢
    have d7 : DatAll K H7 ((rows.map thOf ++ [bad j m]).map thD) (us ++ [.ref p]) := by
      rw [List.map_append, List.map_map]
      exact (da.ts m7.ts).snoc (th_mk sp)
    refine ⟨_, rfl, _, _, _, _, rfl, rfl, SqL.of (m7 _ _ e3), rfl, l7, g2, _, _, rfl, f7, d7, (by rw [em]; exact bad_ths ok (by omega) (by omega) hj), fun H8 s8 => ⟨_, rfl, iteT ?_⟩⟩
    have m8 := m7.trans s8
    refine ⟨_, rfl, _, _, _, _, rfl, rfl, SqL.of (m8 _ _ e3), rfl, _, rfl, huD h, huD h, hu_m (m8 _ _ e2) (dh.ts m8.ts), hu_m (m8 _ _ hlh) (dh.ts m8.ts), hu_shaped h, hu_shaped h, ?_⟩
    rw [eqv_shaped (hu_shaped h)]
    exact q _
  · refine ⟨_, rfl, _, rfl, l, lh, us, hs, rows, h, rfl, hl, da, ok, by omega, by omega, hlh, dh, bp6, pos, by omega, fun o v1 H5 s5 er od => ?_⟩
    have sg5 : SqL K H5 g3 [.ref g1, .ref g2] := SqL.of (s5 _ _ e3)
    refine ⟨_, rfl, _, _, _, _, rfl, rfl, sg5, rfl, _, rfl, _, _, _, _, rfl, rfl, sg5, rfl, .inl ⟨g1, g2, us, hs, rows, h, rfl, s5 _ _ e1, da.ts s5.ts, ok, by omega, by omega, s5 _ _ e2, dh.ts s5.ts, bp6, pos, by omega, fun o' v2 H6 s6 er' od2 => ?_⟩⟩
    rw [er] at er'
    subst er'
    have m6 := s5.trans s6
    obtain ⟨t2, xs2, ev2, stt⟩ := od2.tup
    subst ev2
    refine ⟨_, rfl, t2, _, _, _, true, rfl, (fun _ h => h), stt, kit_same, _, rfl, iteF ?_⟩
    refine ⟨_, rfl, _, rfl, outD o, outD o, od2.m, od.later s6, out_shaped o, out_shaped o, _, rfl, ?_⟩
    rw [eqv_shaped (out_shaped o)]
    refine iteF ?_
    refine ⟨_, rfl, _, rfl, _, rfl, d2, fun l9 hl9 => ?_⟩
    have u9 := same_new hl9 (.lst [.ref l, .ref lh])
    have f9 := upd_same (H := H6) (a := l9) (o := .lst [.ref l, .ref lh])
    generalize upd H6 l9 (.lst [.ref l, .ref lh]) = H7 at u9 f9 ⊢
    have m7 := m6.trans u9
    have s57 := s6.trans u9
    refine ⟨hanD rows h, hanD rows h, han_m (m7 _ _ e3) (m7 _ _ e1) (da.ts m7.ts) (m7 _ _ e2) (dh.ts m7.ts), han_m f9 (m7 _ _ hl) (da.ts m7.ts) (m7 _ _ hlh) (dh.ts m7.ts), han_shaped rows h, han_shaped rows h, _, rfl, ?_⟩
    rw [eqv_shaped (han_shaped rows h)]
    refine iteF ?_
    cases o with
    | mixed k tt =>
      obtain ⟨t, x, rfl, st, d⟩ := od
      obtain ⟨_, x2, e, st2, dd2⟩ := od2
      cases e
      refine ⟨_, rfl, _, _, _, _, rfl, rfl, st.ts s57.ts, rfl, rfl, _, rfl, ?_⟩
      rw [decide_eq_true rfl]
      refine iteT ?_
      have st7 := st2.ts u9.ts
      obtain ⟨av, rfl, sv⟩ := t3_el (dd2.ts u9.ts)
      exact ⟨_, rfl, _, _, _, _, rfl, rfl, st7, rfl, k, rfl, _, rfl, iteT ⟨_, rfl, _, _, _, _, rfl, rfl, st7, rfl, av, _, _, _, rfl, sv, fun H8 _ => q H8⟩⟩
    | rules rs =>
      obtain ⟨t, lr, ws, rfl, rb, rl, n0, st, g, d⟩ := od
      obtain ⟨_, lr2, ws2, e, _, _, n2, st2, c2, dd2⟩ := od2
      cases e
      have lw2 := t3_len dd2
      have st27 := st2.ts u9.ts
      have c27 := u9 _ _ c2
      have dd27 := dd2.ts u9.ts
      have st7 := st.ts s57.ts
      refine ⟨_, rfl, _, _, _, _, rfl, rfl, st7, rfl, rfl, _, rfl, ?_⟩
      rw [show decide (V.str "rules" = V.str "mixed") = false by decide +kernel]
      refine iteF ?_
      refine ⟨_, rfl, _, _, _, _, rfl, rfl, st27, rfl, lr2, _, _, _, true, rfl, (fun _ h => h), SqL.of c27, kit_same, _, rfl, iteF ?_⟩
      refine ⟨_, rfl, _, _, _, _, rfl, rfl, st27, rfl, lr2, rfl, ⟨_, SqL.of c27⟩, fun D hD => ?_⟩
      refine ⟨fun i m H2 => m = ws2.length - i ∧ i ≤ ws2.length ∧ Same H7 H2 ∧ H2 D = some (.lst ((List.replicate i true).map V.bl)), ⟨_, rfl, Nat.zero_le _, same_new hD _, upd_same⟩, ?_⟩
      rintro i m H8 ⟨rfl, hi, sm, hlD⟩
      have sl8 : SqL K H8 lr2 ws2 := SqL.of (sm _ _ c27)
      by_cases hlt : i < ws2.length
      · refine .inr ⟨⟨_, _, sl8, List.getElem?_eq_getElem hlt⟩, fun v H3 y => ?_⟩
        obtain ⟨rfl, y⟩ := y
        obtain ⟨p, _, dp⟩ := t3_at' (dd27.ts sm.ts) (y _ sl8)
        obtain ⟨ap, rfl, sp⟩ := t3_el dp
        refine tNoIf_go ?_
        refine ⟨_, rfl, ap, _, _, _, rfl, sp, fun H9 s9 => ?_⟩
        refine ⟨_, s9 _ _ hlD, small1000 (by simp; omega), ws2.length - (i + 1), by omega, rfl, hlt, same_mut (sm.trans s9) hD _, ?_⟩
        rw [upd_same, List.replicate_succ', List.map_append]
        rfl
      have e : i = ws2.length := by omega
      subst e
      refine .inl ⟨⟨_, sl8, Nat.le_refl _⟩, ?_⟩
      refine ⟨D, List.replicate ws2.length true, rfl, SqL.of hlD, ?_⟩
      have al : (List.replicate ws2.length true).all id = true := by simp
      rw [al]
      refine ⟨_, rfl, iteF ?_⟩
      have m8 := m7.trans sm
      have s58 := s57.trans sm
      have br : ∀ r ∈ rs, Hu.R3 3000 r := fun r hr' => by
        obtain ⟨j, hj, ej⟩ := List.mem_iff_getElem.mp hr'
        exact (rb j r (by rw [List.getElem?_eq_getElem hj, ej])).mono (by omega)
      refine ⟨_, rfl, _, rfl, _, rfl, _, _, _, _, rfl, rfl, st7.ts sm.ts, rfl, l, lh, lr, us, hs, ws, rows, h, rs, rfl, m8 _ _ hl, da.ts m8.ts, ok, by omega, m8 _ _ hlh, dh.ts m8.ts, (fun p hp => (bp p hp).mono (by decide)), hfew, s58 _ _ g, d.ts s58.ts, by omega, br, (fun p c => Hu.run_tells c rows [] rs er), fun H9 s9 => ⟨_, rfl, iteF ?_⟩⟩
      -- the list that was given back is changed
      have s59 := s58.trans s9
      have s69 := u9.trans (sm.trans s9)
      have st9 := st2.ts s69.ts
      have c9 := s69 _ _ c2
      refine ⟨_, rfl, _, _, _, _, rfl, rfl, st9, rfl, .inl ⟨rfl, _, SqL.of c9⟩, d3, fun pa hpa => ?_⟩
      have ua := same_new hpa (.tup [.int 1, .int 1, .int 1])
      generalize upd H9 pa (.tup [.int 1, .int 1, .int 1]) = Ha at ua ⊢
      have ca := ua _ _ c9
      refine ⟨lr2, ws2, _, rfl, rfl, ca, small1000 (by omega), ?_⟩
      have sb : Same H5 (upd Ha lr2 (.lst (ws2 ++ [.ref pa]))) := same_mut (s59.trans ua) n2 _
      have stb : SqT K (upd Ha lr2 (.lst (ws2 ++ [.ref pa]))) t2 [.str "rules", .ref lr2] := (st9.ts ua.ts).ts (ts_mut ca)
      have cb := upd_same (H := Ha) (a := lr2) (o := .lst (ws2 ++ [.ref pa]))
      generalize upd Ha lr2 (.lst (ws2 ++ [.ref pa])) = Hb at sb stb cb ⊢
      refine ⟨d3, fun pb hpb => ?_⟩
      have ub := same_new hpb (.tup [.int 7, .int 7, .int 7])
      generalize upd Hb pb (.tup [.int 7, .int 7, .int 7]) = Hc at ub ⊢
      have cc := ub _ _ cb
      refine ⟨_, rfl, _, _, _, _, rfl, rfl, stb.ts ub.ts, rfl, lr2, _, 0, 0, rfl, rfl, cc, ix0 (by simp), ?_⟩
      have sd : Same H5 (upd Hc lr2 (.lst ((ws2 ++ [V.ref pa]).set 0 (V.ref pb)))) := same_mut (sb.trans ub) n2 _
      generalize upd Hc lr2 (.lst ((ws2 ++ [V.ref pa]).set 0 (V.ref pb))) = Hd at sd ⊢
      have md := s5.trans sd
      have sgd : SqL K Hd g3 [.ref g1, .ref g2] := SqL.of (md _ _ e3)
      refine ⟨_, rfl, _, _, _, _, rfl, rfl, sgd, rfl, _, rfl, _, _, _, _, rfl, rfl, sgd, rfl, .inl ⟨g1, g2, us, hs, rows, h, rfl, md _ _ e1, da.ts md.ts, ok, by omega, by omega, md _ _ e2, dh.ts md.ts, bp6, pos, by omega, fun o' v3 He se er' od3 => ?_⟩⟩
      rw [er] at er'
      subst er'
      have sf := sd.trans se
      refine ⟨_, rfl, rulesD rs, rulesD rs, od3.m, rules_m (st.ts sf.ts) (sf _ _ g) (d.ts sf.ts), rules_shaped rs, rules_shaped rs, ?_⟩
      rw [eqv_shaped (rules_shaped rs)]
      exact q _
end
end Mine



set_option Elab.async false
set_option linter.all false
set_option maxRecDepth 100000
set_option maxHeartbeats 4000000

namespace Mine
open PySem L2
section
variable {P : Program} {w : World} {K : PySem.W.Frag} {mg : Str → Option Value} {base : Heap}
theorem ok_init {fI C : Addr} {fd : FuncData} (F : Fun K "__init__" "NoRows.__init__" s_NoRows_init fI fd) (c : XFld K C) (n1 : NoAttr K C "at") : FnOk P w K mg base CX0 1 fI fd ["self", "at"] (spInit1 C "at") := by
  refine F.ok sc_NoRows_init (fun vs H Q E h => ?_) (fun cdv Ar outer s H vs Q E hr h => ?_)
  · obtain ⟨a, y, rfl, _⟩ := h
    rfl
  obtain ⟨a, y, rfl, ea, q⟩ := h
  have nd := sc_NoRows_init.nd
  refine ⟨_, (pss_one (ps_fldX (pv 0) (pv 1) rfl)), ?_⟩
  refine ⟨_, rfl, _, rfl, a, C, rfl, c, n1, .inl ⟨ea, fun d hd => ?_⟩⟩
  have ne : d ≠ a := fun z => by rw [z, ea] at hd; cases hd
  refine q d _ ⟨hd, ne, ?_, upd_same, fun b h1 h2 => ?_⟩
  · rw [upd_ne (Ne.symm ne), upd_same]
  · rw [upd_ne h2, upd_ne h1]
end
end Mine



set_option Elab.async false
set_option linter.all false
set_option maxRecDepth 100000
set_option maxHeartbeats 4000000
open PySem PySem.W PyProof.Rows
structure Mine.Classes (K : Frag) (mg : Str → Option Value) (CS CN CP fI : Addr) : Prop where
  ms : mg "SayError" = some (.ref CS)
  mn : mg "NoRows" = some (.ref CN)
  mp : mg "NoCut" = some (.ref CP)
  fe : L2.FunE K "__init__" "NoRows.__init__" Mine.s_NoRows_init fI
  xi : L2.excInI K CN L2.bmV "ValueError.__new__" fI = true
  kc : keepIn K (.ref CN) = true
  fl : L2.XFld K CN
  n1 : L2.NoAttr K CN "at"
  cc : L2.CatchCls K CS
  su : mroIn K CN (.ref CS) = some true
  k1 : kitOne K (.ref CN) (.ref CP) = some false
  kb : kitOne K (.type "int") (.type "bool") = some false
  tk : L2.TopDict K mg "TAKEN" Mine.TK
theorem Mine.classes_mk {K : Frag} {h : Heap} {mg : Str → Option Value} {CS CN CP fI aT : Addr} {c1 c2 : ClassData} {es : Array DictEntry} {ep : Nat} (X : K.In h) (G : h.Ns mainGlobals mg)
    (mCS : nsIn K mainGlobals "SayError" = some (some (.ref CS)))
    (mCN : nsIn K mainGlobals "NoRows" = some (some (.ref CN)))
    (mCP : nsIn K mainGlobals "NoCut" = some (some (.ref CP)))
    (i0 : findIn K (.ref CN) "__init__" = some (some (.ref fI)))
    (fe : L2.FunE K "__init__" "NoRows.__init__" Mine.s_NoRows_init fI)
    (xi : L2.excInI K CN L2.bmV "ValueError.__new__" fI = true)
    (kc : keepIn K (.ref CN) = true)
    (xf : L2.xfldIn K CN = true)
    (sa : findIn K (.ref CN) "__setattr__" = some (some (.builtin "object.__setattr__")))
    (n1 : findIn K (.ref CN) "at" = some none)
    (e6 : clsIn K CN = some c1)
    (e8 : mroIn K CN (.type "BaseException") = some true)
    (e9 : findIn K (.ref CN) "__getattribute__" = some (some (.builtin "BaseException.__getattribute__")))
    (e10 : findIn K (.ref CN) "__getattr__" = some none)
    (e12 : findIn K (.ref CN) "__class__" = some (some (.builtin "object.__class__")))
    (e13 : specialIn K (.builtin "object.__class__") "__get__" = some (some (.builtin "getset_descriptor.__get__")))
    (e14 : takesIn K (.builtin "object.__class__") = some true)
    (e16 : mroIn K CN (.type "object") = some true)
    (s6 : clsIn K CS = some c2)
    (s7 : typeIn K (.ref CS) = some (.type "type"))
    (s8 : mroIn K CS (.type "BaseException") = some true)
    (su : mroIn K CN (.ref CS) = some true)
    (k1 : kitOne K (.ref CN) (.ref CP) = some false)
    (kb : kitOne K (.type "int") (.type "bool") = some false)
    (t1 : nsIn K mainGlobals "TAKEN" = some (some (.ref aT)))
    (t2 : K.lookup aT = some ⟨.type "dict", none, .dict es ep, #[]⟩)
    (t3 : (aT == sysModules) = false)
    (t4 : KTD.Rows (fun (n : Int) v => ∃ t, v = Value.int n t) es.toList Mine.TK) :
    ∃ CS CN CP fI, Mine.Classes K mg CS CN CP fI :=
  ⟨CS, CN, CP, fI, mg_of X G mCS, mg_of X G mCN, mg_of X G mCP, fe, xi, kc, L2.xfld_mk xf sa ⟨e9, e10, ⟨_, e6⟩, e12, e13, e14, e8, e16⟩, n1, ⟨⟨_, s6⟩, s7, s8⟩, su, k1, kb, L2.topdict_mk X G t1 t2 t3 t4⟩
set_option maxRecDepth 100000 in
set_option maxHeartbeats 0 in
theorem PySem.Challenge.cw_leansay_k43_rules_on_hulls_holds : PySem.Challenge.rw_leansay_k43_rules_on_hulls.Holds := by
  w_on; o_law; k_head; (case hw => w_witness2)
  k_fill
  refine L2.walk_bits (l := PySem.Challenge.rw_leansay_k43_rules_on_hulls) (n := 63) (k := 8) (x := "_law_script") (CX := L2.CX0) (sp := Mine.spLaw) rfl (by decide) rfl ⟨rfl, by decide, by decide⟩ (fun w h Y => PySem.W.kIn_of Y) ?F ?S ?C
  case F =>
    intro w mg fa h KX G hmg
    have T_told_by : L2.TopDef (L2.KOf KX) mg "told_by" Mine.s_told_by := by
      dsimp only [L2.KOf]
      refine' L2.top_mk KX G ?a ?l ?c ?k; (case a => k_is); (case l => k_is); (case c => k_is); (case k => k_is)
    have T_told_in_corners : L2.TopDef (L2.KOf KX) mg "told_in_corners" Mine.s_told_in_corners := by
      dsimp only [L2.KOf]
      refine' L2.top_mk KX G ?a ?l ?c ?k; (case a => k_is); (case l => k_is); (case c => k_is); (case k => k_is)
    have T_is_whole : L2.TopDef (L2.KOf KX) mg "is_whole" Mine.s_is_whole := by
      dsimp only [L2.KOf]
      refine' L2.top_mk KX G ?a ?l ?c ?k; (case a => k_is); (case l => k_is); (case c => k_is); (case k => k_is)
    have T_how_many_it_takes : L2.TopDef (L2.KOf KX) mg "how_many_it_takes" Mine.s_how_many_it_takes := by
      dsimp only [L2.KOf]
      refine' L2.top_mk KX G ?a ?l ?c ?k; (case a => k_is); (case l => k_is); (case c => k_is); (case k => k_is)
    have T_is_place_ahead : L2.TopDef (L2.KOf KX) mg "is_place_ahead" Mine.s_is_place_ahead := by
      dsimp only [L2.KOf]
      refine' L2.top_mk KX G ?a ?l ?c ?k; (case a => k_is); (case l => k_is); (case c => k_is); (case k => k_is)
    have T_is_row : L2.TopDef (L2.KOf KX) mg "is_row" Mine.s_is_row := by
      dsimp only [L2.KOf]
      refine' L2.top_mk KX G ?a ?l ?c ?k; (case a => k_is); (case l => k_is); (case c => k_is); (case k => k_is)
    have T_rows_fault : L2.TopDef (L2.KOf KX) mg "rows_fault" Mine.s_rows_fault := by
      dsimp only [L2.KOf]
      refine' L2.top_mk KX G ?a ?l ?c ?k; (case a => k_is); (case l => k_is); (case c => k_is); (case k => k_is)
    have T_must_be_rows : L2.TopDef (L2.KOf KX) mg "must_be_rows" Mine.s_must_be_rows := by
      dsimp only [L2.KOf]
      refine' L2.top_mk KX G ?a ?l ?c ?k; (case a => k_is); (case l => k_is); (case c => k_is); (case k => k_is)
    have T_both : L2.TopDef (L2.KOf KX) mg "both" Mine.s_both := by
      dsimp only [L2.KOf]
      refine' L2.top_mk KX G ?a ?l ?c ?k; (case a => k_is); (case l => k_is); (case c => k_is); (case k => k_is)
    have T_without : L2.TopDef (L2.KOf KX) mg "without" Mine.s_without := by
      dsimp only [L2.KOf]
      refine' L2.top_mk KX G ?a ?l ?c ?k; (case a => k_is); (case l => k_is); (case c => k_is); (case k => k_is)
    have T_leaf_rule : L2.TopDef (L2.KOf KX) mg "leaf_rule" Mine.s_leaf_rule := by
      dsimp only [L2.KOf]
      refine' L2.top_mk KX G ?a ?l ?c ?k; (case a => k_is); (case l => k_is); (case c => k_is); (case k => k_is)
    have T_fold_choice : L2.TopDef (L2.KOf KX) mg "fold_choice" Mine.s_fold_choice := by
      dsimp only [L2.KOf]
      refine' L2.top_mk KX G ?a ?l ?c ?k; (case a => k_is); (case l => k_is); (case c => k_is); (case k => k_is)
    have T_choice_of : L2.TopDef (L2.KOf KX) mg "choice_of" Mine.s_choice_of := by
      dsimp only [L2.KOf]
      refine' L2.top_mk KX G ?a ?l ?c ?k; (case a => k_is); (case l => k_is); (case c => k_is); (case k => k_is)
    have T_chosen_on : L2.TopDef (L2.KOf KX) mg "chosen_on" Mine.s_chosen_on := by
      dsimp only [L2.KOf]
      refine' L2.top_mk KX G ?a ?l ?c ?k; (case a => k_is); (case l => k_is); (case c => k_is); (case k => k_is)
    have T_rules_of_rows : L2.TopDef (L2.KOf KX) mg "rules_of_rows" Mine.s_rules_of_rows := by
      dsimp only [L2.KOf]
      refine' L2.top_mk KX G ?a ?l ?c ?k; (case a => k_is); (case l => k_is); (case c => k_is); (case k => k_is)
    have T_rules_on : L2.TopDef (L2.KOf KX) mg "rules_on" Mine.s_rules_on := by
      dsimp only [L2.KOf]
      refine' L2.top_mk KX G ?a ?l ?c ?k; (case a => k_is); (case l => k_is); (case c => k_is); (case k => k_is)
    have T_l_cell_at : L2.TopDef (L2.KOf KX) mg "_law_cell_at" Mine.s_l_cell_at := by
      dsimp only [L2.KOf]
      refine' L2.top_mk KX G ?a ?l ?c ?k; (case a => k_is); (case l => k_is); (case c => k_is); (case k => k_is)
    have T_l_drawn : L2.TopDef (L2.KOf KX) mg "_law_drawn" Mine.s_l_drawn := by
      dsimp only [L2.KOf]
      refine' L2.top_mk KX G ?a ?l ?c ?k; (case a => k_is); (case l => k_is); (case c => k_is); (case k => k_is)
    have T_l_whole : L2.TopDef (L2.KOf KX) mg "_law_whole" Mine.s_l_whole := by
      dsimp only [L2.KOf]
      refine' L2.top_mk KX G ?a ?l ?c ?k; (case a => k_is); (case l => k_is); (case c => k_is); (case k => k_is)
    have T_l_three : L2.TopDef (L2.KOf KX) mg "_law_three" Mine.s_l_three := by
      dsimp only [L2.KOf]
      refine' L2.top_mk KX G ?a ?l ?c ?k; (case a => k_is); (case l => k_is); (case c => k_is); (case k => k_is)
    have T_l_tells : L2.TopDef (L2.KOf KX) mg "_law_tells" Mine.s_l_tells := by
      dsimp only [L2.KOf]
      refine' L2.top_mk KX G ?a ?l ?c ?k; (case a => k_is); (case l => k_is); (case c => k_is); (case k => k_is)
    have T_l_part : L2.TopDef (L2.KOf KX) mg "_law_part" Mine.s_l_part := by
      dsimp only [L2.KOf]
      refine' L2.top_mk KX G ?a ?l ?c ?k; (case a => k_is); (case l => k_is); (case c => k_is); (case k => k_is)
    have T_l_between : L2.TopDef (L2.KOf KX) mg "_law_between" Mine.s_l_between := by
      dsimp only [L2.KOf]
      refine' L2.top_mk KX G ?a ?l ?c ?k; (case a => k_is); (case l => k_is); (case c => k_is); (case k => k_is)
    have T_l_cut : L2.TopDef (L2.KOf KX) mg "_law_cut" Mine.s_l_cut := by
      dsimp only [L2.KOf]
      refine' L2.top_mk KX G ?a ?l ?c ?k; (case a => k_is); (case l => k_is); (case c => k_is); (case k => k_is)
    have T_l_rule_by : L2.TopDef (L2.KOf KX) mg "_law_rule_by" Mine.s_l_rule_by := by
      dsimp only [L2.KOf]
      refine' L2.top_mk KX G ?a ?l ?c ?k; (case a => k_is); (case l => k_is); (case c => k_is); (case k => k_is)
    have T_l_square : L2.TopDef (L2.KOf KX) mg "_law_square" Mine.s_l_square := by
      dsimp only [L2.KOf]
      refine' L2.top_mk KX G ?a ?l ?c ?k; (case a => k_is); (case l => k_is); (case c => k_is); (case k => k_is)
    have T_l_hull : L2.TopDef (L2.KOf KX) mg "_law_hull" Mine.s_l_hull := by
      dsimp only [L2.KOf]
      refine' L2.top_mk KX G ?a ?l ?c ?k; (case a => k_is); (case l => k_is); (case c => k_is); (case k => k_is)
    have T_l_added : L2.TopDef (L2.KOf KX) mg "_law_added" Mine.s_l_added := by
      dsimp only [L2.KOf]
      refine' L2.top_mk KX G ?a ?l ?c ?k; (case a => k_is); (case l => k_is); (case c => k_is); (case k => k_is)
    have T_l_fold : L2.TopDef (L2.KOf KX) mg "_law_fold" Mine.s_l_fold := by
      dsimp only [L2.KOf]
      refine' L2.top_mk KX G ?a ?l ?c ?k; (case a => k_is); (case l => k_is); (case c => k_is); (case k => k_is)
    have T_l_rules : L2.TopDef (L2.KOf KX) mg "_law_rules" Mine.s_l_rules := by
      dsimp only [L2.KOf]
      refine' L2.top_mk KX G ?a ?l ?c ?k; (case a => k_is); (case l => k_is); (case c => k_is); (case k => k_is)
    have T_l_folded : L2.TopDef (L2.KOf KX) mg "_law_folded" Mine.s_l_folded := by
      dsimp only [L2.KOf]
      refine' L2.top_mk KX G ?a ?l ?c ?k; (case a => k_is); (case l => k_is); (case c => k_is); (case k => k_is)
    have T_l_worths : L2.TopDef (L2.KOf KX) mg "_law_worths" Mine.s_l_worths := by
      dsimp only [L2.KOf]
      refine' L2.top_mk KX G ?a ?l ?c ?k; (case a => k_is); (case l => k_is); (case c => k_is); (case k => k_is)
    have T_l_middle : L2.TopDef (L2.KOf KX) mg "_law_middle" Mine.s_l_middle := by
      dsimp only [L2.KOf]
      refine' L2.top_mk KX G ?a ?l ?c ?k; (case a => k_is); (case l => k_is); (case c => k_is); (case k => k_is)
    have T_l_row_list : L2.TopDef (L2.KOf KX) mg "_law_row_list" Mine.s_l_row_list := by
      dsimp only [L2.KOf]
      refine' L2.top_mk KX G ?a ?l ?c ?k; (case a => k_is); (case l => k_is); (case c => k_is); (case k => k_is)
    have T_l_refused : L2.TopDef (L2.KOf KX) mg "_law_refused" Mine.s_l_refused := by
      dsimp only [L2.KOf]
      refine' L2.top_mk KX G ?a ?l ?c ?k; (case a => k_is); (case l => k_is); (case c => k_is); (case k => k_is)
    have T_l_worths_right : L2.TopDef (L2.KOf KX) mg "_law_worths_right" Mine.s_l_worths_right := by
      dsimp only [L2.KOf]
      refine' L2.top_mk KX G ?a ?l ?c ?k; (case a => k_is); (case l => k_is); (case c => k_is); (case k => k_is)
    have T_law : L2.TopDef (L2.KOf KX) mg "law" Mine.s_law := by
      dsimp only [L2.KOf]
      refine' L2.top_mk KX G ?a ?l ?c ?k; (case a => k_is); (case l => k_is); (case c => k_is); (case k => k_is)
    have Z_len : mg "len" = none := by
      refine' PySem.W.mg_none_of KX G ?z; (case z => k_is)
    have Z_abs : mg "abs" = none := by
      refine' PySem.W.mg_none_of KX G ?z; (case z => k_is)
    have Z_min : mg "min" = none := by
      refine' PySem.W.mg_none_of KX G ?z; (case z => k_is)
    have Z_max : mg "max" = none := by
      refine' PySem.W.mg_none_of KX G ?z; (case z => k_is)
    have Z_range : mg "range" = none := by
      refine' PySem.W.mg_none_of KX G ?z; (case z => k_is)
    have Z_int : mg "int" = none := by
      refine' PySem.W.mg_none_of KX G ?z; (case z => k_is)
    have Z_bool : mg "bool" = none := by
      refine' PySem.W.mg_none_of KX G ?z; (case z => k_is)
    have Z_tuple : mg "tuple" = none := by
      refine' PySem.W.mg_none_of KX G ?z; (case z => k_is)
    have Z_list : mg "list" = none := by
      refine' PySem.W.mg_none_of KX G ?z; (case z => k_is)
    have Z_str : mg "str" = none := by
      refine' PySem.W.mg_none_of KX G ?z; (case z => k_is)
    have Z_enumerate : mg "enumerate" = none := by
      refine' PySem.W.mg_none_of KX G ?z; (case z => k_is)
    have Z_zip : mg "zip" = none := by
      refine' PySem.W.mg_none_of KX G ?z; (case z => k_is)
    have Z_isinstance : mg "isinstance" = none := by
      refine' PySem.W.mg_none_of KX G ?z; (case z => k_is)
    have Z_all : mg "all" = none := by
      refine' PySem.W.mg_none_of KX G ?z; (case z => k_is)
    have Z_sum : mg "sum" = none := by
      refine' PySem.W.mg_none_of KX G ?z; (case z => k_is)
    have P_NEVER : L2.TopTup (L2.KOf KX) mg "NEVER" [0, 0, 0] := by
      dsimp only [L2.KOf]
      refine' L2.toptup_mk (ns := [0, 0, 0]) KX G ?e ?l ?z ?v; (case e => k_is); (case l => k_is); (case z => decide); (case v => exact (.cons ⟨_, rfl⟩ (.cons ⟨_, rfl⟩ (.cons ⟨_, rfl⟩ .nil))))
    have P_ALWAYS : L2.TopTup (L2.KOf KX) mg "ALWAYS" [0, 0, 1] := by
      dsimp only [L2.KOf]
      refine' L2.toptup_mk (ns := [0, 0, 1]) KX G ?e ?l ?z ?v; (case e => k_is); (case l => k_is); (case z => decide); (case v => exact (.cons ⟨_, rfl⟩ (.cons ⟨_, rfl⟩ (.cons ⟨_, rfl⟩ .nil))))
    have P_LETTER_P : L2.TopTup (L2.KOf KX) mg "LETTER_P" [1, 0, 0] := by
      dsimp only [L2.KOf]
      refine' L2.toptup_mk (ns := [1, 0, 0]) KX G ?e ?l ?z ?v; (case e => k_is); (case l => k_is); (case z => decide); (case v => exact (.cons ⟨_, rfl⟩ (.cons ⟨_, rfl⟩ (.cons ⟨_, rfl⟩ .nil))))
    have P_LETTER_Q : L2.TopTup (L2.KOf KX) mg "LETTER_Q" [0, 1, 0] := by
      dsimp only [L2.KOf]
      refine' L2.toptup_mk (ns := [0, 1, 0]) KX G ?e ?l ?z ?v; (case e => k_is); (case l => k_is); (case z => decide); (case v => exact (.cons ⟨_, rfl⟩ (.cons ⟨_, rfl⟩ (.cons ⟨_, rfl⟩ .nil))))
    have I_MOST_ROWS : ∃ t, mg "MOST_ROWS" = some (.int 400 t) := by
      refine' L2.topint_mk KX G ?ie ?iq; (case ie => k_is); (case iq => exact ⟨_, rfl⟩)
    have CC : ∃ CS CN CP fI, Mine.Classes (L2.KOf KX) mg CS CN CP fI := by
      dsimp only [L2.KOf]
      refine' Mine.classes_mk KX G ?mCS ?mCN ?mCP ?i0 ?fe ?xi ?kc ?xf ?sa ?n1 ?e6 ?e8 ?e9 ?e10 ?e12 ?e13 ?e14 ?e16 ?s6 ?s7 ?s8 ?su ?k1 ?kb ?t1 ?t2 ?t3 ?t4
      (case mCS => k_is)
      (case mCN => k_is)
      (case mCP => k_is)
      (case i0 => k_is)
      (case fe => refine' L2.funE_mk ?fl ?fc ?fk; (case fl => k_is); (case fc => k_is); (case fk => k_is))
      (case xi => kernel_rfl)
      (case kc => k_is)
      (case xf => kernel_rfl)
      (case sa => k_is)
      (case n1 => k_is)
      (case e6 => k_is)
      (case e8 => k_is)
      (case e9 => k_is)
      (case e10 => k_is)
      (case e12 => k_is)
      (case e13 => k_is)
      (case e14 => k_is)
      (case e16 => k_is)
      (case s6 => k_is)
      (case s7 => k_is)
      (case s8 => k_is)
      (case su => k_is)
      (case k1 => first | k_is | kit_is)
      (case kb => first | k_is | kit_is)
      (case t1 => k_is)
      (case t2 => k_is)
      (case t3 => decide)
      (case t4 => exact (.cons rfl ⟨_, rfl⟩ (.cons rfl ⟨_, rfl⟩ (.cons rfl ⟨_, rfl⟩ (.cons rfl ⟨_, rfl⟩ (.cons rfl ⟨_, rfl⟩ (.cons rfl ⟨_, rfl⟩ (.cons rfl ⟨_, rfl⟩ (.cons rfl ⟨_, rfl⟩ (.cons rfl ⟨_, rfl⟩ (.cons rfl ⟨_, rfl⟩ .nil)))))))))))
    obtain ⟨CS, CN, CP, fI, Z⟩ := CC
    obtain ⟨f, fd, F, m⟩ := T_law.ex
    have e := hmg.symm.trans m
    cases e
    obtain ⟨oc, od, kV, doc, pm, an, cdv, ct, osl, hfd, lk, hcd⟩ := id F.ex
    subst hfd
    refine ⟨PySem.W.fnOf "law" "law" (L2.defArgs Mine.s_law) (L2.defBody Mine.s_law) (L2.defScope Mine.s_law) .none kV doc pm an cdv ct, fun s u => .of_eq rfl, fun base kb nb => ?_⟩
    obtain ⟨tm, M_MOST⟩ := I_MOST_ROWS
    obtain ⟨fdI, FI⟩ := Z.fe.ex
    have XN : L2.XC1 PySem.Challenge.rw_leansay_k43_rules_on_hulls.prog w (L2.KOf KX) mg base "NoRows" CN "at" := ⟨Z.mn, Z.kc, ⟨fI, fdI, _, Mine.ok_init FI Z.fl Z.n1, FI.binds (fun _ _ _ _ _ _ => L2.ar2 fun _ _ => rfl), Z.xi⟩, Z.fl, Z.n1⟩
    have D_told := Mine.ok_told (P := PySem.Challenge.rw_leansay_k43_rules_on_hulls.prog) (w := w) (base := base) T_told_by
    have D_tells := Mine.ok_tells (P := PySem.Challenge.rw_leansay_k43_rules_on_hulls.prog) (w := w) (base := base) T_l_tells
    have D_tic := Mine.ok_tic T_told_in_corners D_told
    have D_part := Mine.ok_part (P := PySem.Challenge.rw_leansay_k43_rules_on_hulls.prog) (w := w) (base := base) T_l_part
    have D_btw := Mine.ok_between T_l_between Z_range Z_abs Z_tuple D_part
    have D_cut := Mine.ok_lcut T_l_cut Z_min Z_max Z_enumerate Z_len D_tells D_btw
    have D_cell := Mine.ok_cellA (P := PySem.Challenge.rw_leansay_k43_rules_on_hulls.prog) (w := w) (base := base) T_l_cell_at Z_len
    have D_drawn := Mine.ok_drawn T_l_drawn Z_int D_cell
    have D_rb := Mine.ok_rule_by (P := PySem.Challenge.rw_leansay_k43_rules_on_hulls.prog) (w := w) (base := base) T_l_rule_by
    have D_sq := Mine.ok_lsq (P := PySem.Challenge.rw_leansay_k43_rules_on_hulls.prog) (w := w) (base := base) T_l_square
    have D_hull := Mine.ok_lhull T_l_hull Z_range D_sq D_drawn D_rb D_cut
    have D_how := Mine.ok_how (P := PySem.Challenge.rw_leansay_k43_rules_on_hulls.prog) (w := w) (base := base) T_how_many_it_takes Z.tk
    have D_iw := Mine.ok_is_whole (P := PySem.Challenge.rw_leansay_k43_rules_on_hulls.prog) (w := w) (base := base) T_is_whole Z_isinstance Z_int Z_bool Z.kb
    have D_ahead := Mine.ok_ahead T_is_place_ahead D_iw
    have D_row := Mine.ok_is_row T_is_row Z_isinstance Z_tuple Z_len Z_str Z_all M_MOST D_how D_ahead
    have D_fault := Mine.ok_fault T_rows_fault Z_enumerate Z_len D_row
    have D_must := Mine.ok_must T_must_be_rows XN D_fault
    have D_both := Mine.ok_both (P := PySem.Challenge.rw_leansay_k43_rules_on_hulls.prog) (w := w) (base := base) T_both Z_zip Z_tuple
    have D_without := Mine.ok_without (P := PySem.Challenge.rw_leansay_k43_rules_on_hulls.prog) (w := w) (base := base) T_without Z_zip Z_tuple
    have D_leaf := Mine.ok_leaf (P := PySem.Challenge.rw_leansay_k43_rules_on_hulls.prog) (w := w) (base := base) T_leaf_rule P_NEVER P_ALWAYS P_LETTER_P P_LETTER_Q
    have D_fold := Mine.ok_fold T_fold_choice P_NEVER P_ALWAYS D_both D_without
    have D_choice := Mine.ok_choice T_choice_of Z_len P_NEVER P_ALWAYS D_without D_leaf D_fold
    have D_chosen := Mine.ok_chosen T_chosen_on Z_max Z_min D_tic
    have D_rules := Mine.ok_rules T_rules_of_rows Z_enumerate D_choice D_chosen
    have D_on := Mine.ok_on T_rules_on D_must D_rules
    have D_folded := Mine.ok_folded (P := PySem.Challenge.rw_leansay_k43_rules_on_hulls.prog) (w := w) (base := base) T_l_folded Z_min Z_max
    have D_worths := Mine.ok_worths T_l_worths D_folded
    have D_mid := Mine.ok_mid (P := PySem.Challenge.rw_leansay_k43_rules_on_hulls.prog) (w := w) (base := base) T_l_middle Z_range Z_tuple Z_sum
    have D_rl := Mine.ok_row_list T_l_row_list Z_range Z_len D_drawn
    have D_whole := Mine.ok_whole (P := PySem.Challenge.rw_leansay_k43_rules_on_hulls.prog) (w := w) (base := base) T_l_whole Z_isinstance Z_int Z_bool Z.kb
    have D_three := Mine.ok_three T_l_three Z_isinstance Z_tuple Z_len Z_all D_whole
    have D_added := Mine.ok_added (P := PySem.Challenge.rw_leansay_k43_rules_on_hulls.prog) (w := w) (base := base) T_l_added Z_range Z_tuple
    have D_lfold := Mine.ok_lfold T_l_fold D_added
    have D_lrules := Mine.ok_lrules T_l_rules Z_enumerate Z_int Z_min Z_max D_added D_lfold D_tells
    have D_ref := Mine.ok_refused T_l_refused Z_isinstance Z_len XN Z.mp Z.ms Z.cc Z.su Z.k1 D_on
    have D_wr := Mine.ok_wright T_l_worths_right Z_list Z_range Z_len D_mid D_tells D_worths
    exact Mine.ok_law F Z_list Z_len Z_isinstance Z_tuple Z_all D_drawn D_hull D_rl D_ref D_lrules D_on D_whole D_three D_wr
  case S => exact fun K H a ns hl hb hO hS => ⟨a, ns, rfl, Mine.scr_of hO hS hl hb, fun _ => rfl⟩
  case C => exact fun _ _ _ _ z => z


