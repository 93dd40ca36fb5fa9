import PyProof.Rows.All
import Wide.All
import OpenK.AllK
import Wide.FinOn
import Lean
import PyProof.EqAt
import PyProof.EqKinds
import PyProof.TupleCall
import KE.KRevIter
import PyProof.ListNew
import PyProof.NeKinds
import PyProof.StrBlockL
import KE.LcSums
import PyProof.Rows.EqDataRows
import PyProof.Draws
import PyProof.EnumMake
import PyProof.ZipIter
import PyProof.WalksMore
import PyProof.P3In
import PyProof.IsRules
import KE.KTab
import PyProof.Rows.SumAny
import PyProof.ExcClass2
import PyProof.ExcInit
import PyProof.StationsW
import PyProof.InstStoreFacts
import PySem.Challenge.RW_leansay_k07_no_points
set_option Elab.async false
set_option linter.all false
set_option maxRecDepth 100000
/-! THE HAND LAYER, for ints, bools, texts, own classes, LISTS and tuples (index, slices, in, append, pop ..), calls, loops. Paste it whole ahead of your own text; what your proof does not reach may be deleted. -/
namespace L2
open PySem PySem.Spec PyProof.Rows

/-- a key: an int or a str -/
abbrev Key := Sum Int Str
def keyIs : Key → Value → Bool
  | .inl k, v => Value.isInt k v
  | .inr x, v => Value.isStrOf x v
def keyH (w : World) : Key → Int
  | .inl k => hashInt k
  | .inr x => hashStr w x
theorem keyIs_shape : ∀ {k : Key} {v : Value}, keyIs k v = true → (∃ i t, k = Sum.inl i ∧ v = Value.int i t) ∨ (∃ x t, k = Sum.inr x ∧ v = Value.str x t)
  | .inl i, v, h => by
    obtain ⟨t, e⟩ := Value.isInt_shape (k := i) (v := v) h
    exact .inl ⟨i, t, rfl, e⟩
  | .inr x, v, h => by
    obtain ⟨t, e⟩ := Value.isStrOf_shape (x := x) (v := v) h
    exact .inr ⟨x, t, rfl, e⟩
theorem keyIs_int (i : Int) (t : Tok) : keyIs (.inl i) (.int i t) = true := by simp [keyIs, Value.isInt]
theorem keyIs_str (x : Str) (t : Tok) : keyIs (.inr x) (.str x t) = true := by simp [keyIs, Value.isStrOf]
theorem key_ll (a b : Int) : decide ((Sum.inl a : Key) = Sum.inl b) = (a == b) := by
  by_cases e : a = b
  · subst e; simp
  · have h : ¬ (Sum.inl a : Key) = Sum.inl b := fun q => e (Sum.inl.inj q)
    rw [decide_eq_false h]
    exact (beq_eq_false_iff_ne.mpr e).symm
theorem key_rr (a b : Str) : decide ((Sum.inr a : Key) = Sum.inr b) = decide (a = b) := by
  by_cases e : a = b
  · subst e; simp
  · have h : ¬ (Sum.inr a : Key) = Sum.inr b := fun q => e (Sum.inr.inj q)
    rw [decide_eq_false h, decide_eq_false e]
theorem key_lr (a : Int) (b : Str) : decide ((Sum.inl a : Key) = Sum.inr b) = false := decide_eq_false (fun q => nomatch q)
theorem key_rl (a : Str) (b : Int) : decide ((Sum.inr a : Key) = Sum.inl b) = false := decide_eq_false (fun q => nomatch q)

def mixKind (prog : Program) (w : World) : PySem.KeyKind prog w Key where
  is := keyIs
  hash := keyH w
  inj := fun v a b ha hb => by
    rcases keyIs_shape ha with ⟨i, t, rfl, rfl⟩ | ⟨x, t, rfl, rfl⟩
    · rcases keyIs_shape hb with ⟨j, u, rfl, e⟩ | ⟨y, u, rfl, e⟩
      · injection e with e1 _; rw [e1]
      · exact nomatch e
    · rcases keyIs_shape hb with ⟨j, u, rfl, e⟩ | ⟨y, u, rfl, e⟩
      · exact nomatch e
      · injection e with e1 _; rw [e1]
  byValue := fun k v h => by
    rcases keyIs_shape h with ⟨i, t, rfl, rfl⟩ | ⟨x, t, rfl, rfl⟩ <;> rfl
  pyHash := fun hv h => by
    rcases keyIs_shape hv with ⟨i, t, rfl, rfl⟩ | ⟨x, t, rfl, rfl⟩
    · exact wpAny_pyHash_int h
    · exact wpAny_pyHash_str h
  eqBool := fun hu hv h => by
    rcases keyIs_shape hu with ⟨i, t, rfl, rfl⟩ | ⟨x, t, rfl, rfl⟩
    · rcases keyIs_shape hv with ⟨j, u, rfl, rfl⟩ | ⟨y, u, rfl, rfl⟩
      · rw [key_ll] at h; exact wpAny_eqBool_int h
      · rw [key_lr] at h; exact SeqAt.EqAt.int_str i t y u _ _ _ _ h
    · rcases keyIs_shape hv with ⟨j, u, rfl, rfl⟩ | ⟨y, u, rfl, rfl⟩
      · rw [key_rl] at h; exact SeqAt.EqAt.str_int x t j u _ _ _ _ h
      · rw [key_rr] at h; exact wpAny_eqBool_str h
  «strs» := fun k x t v h => by
    rcases keyIs_shape h with ⟨i, u, rfl, e⟩ | ⟨y, u, rfl, e⟩
    · exact nomatch e
    · injection e with e1 _
      subst e1
      cases v <;> rfl

theorem mixKind_int (prog : Program) (w : World) (i : Int) (t : Tok) : (mixKind prog w).is (.inl i) (.int i t) = true := keyIs_int i t
theorem mixKind_str (prog : Program) (w : World) (x : Str) (t : Tok) : (mixKind prog w).is (.inr x) (.str x t) = true := keyIs_str x t
end L2

namespace L2
open PySem PySem.Spec PyProof.Rows

/-- a value, without the heap -/
inductive V where
  | non | bl (b : Bool) | int (i : Int) | str (x : Str) | byt (b : Array UInt8) | flt (b : UInt64) | ref (a : Addr) | ty (n : String)
  deriving DecidableEq

def RelV : V → Value → Prop
  | .non, u => u = Value.none
  | .bl b, u => u = Value.bool b
  | .int i, u => ∃ t, u = Value.int i t
  | .str x, u => ∃ t, u = Value.str x t
  | .byt b, u => ∃ t, u = Value.bytes b t
  | .flt b, u => ∃ t, u = Value.float b t
  | .ref a, u => u = Value.ref a
  | .ty n, u => u = Value.type n

abbrev Vals : List V → List Value → Prop := Paired RelV
theorem Vals.length {xs : List V} {us : List Value} (r : Vals xs us) : xs.length = us.length := Paired.length r
theorem Vals.get : ∀ {xs : List V} {us : List Value} {i : Nat} {x : V}, Vals xs us → xs[i]? = some x → ∃ u, us[i]? = some u ∧ RelV x u
  | _, _, _, _, .nil, e => by simp at e
  | _, _, 0, _, .cons r _, e => by simp at e; subst e; exact ⟨_, rfl, r⟩
  | _, _, i + 1, x, .cons _ t, e => by
    obtain ⟨u, h1, h2⟩ := Vals.get (i := i) (x := x) t (by simpa using e)
    exact ⟨u, by simpa using h1, h2⟩
theorem Vals.set {x : V} {u : Value} (r : RelV x u) : ∀ {xs : List V} {us : List Value} (i : Nat), Vals xs us → Vals (xs.set i x) (us.set i u)
  | _, _, _, .nil => .nil
  | _, _, 0, .cons _ t => .cons r t
  | _, _, i + 1, .cons q t => .cons q (Vals.set r i t)
theorem Vals.append : ∀ {xs ys : List V} {us ws : List Value}, Vals xs us → Vals ys ws → Vals (xs ++ ys) (us ++ ws)
  | _, _, _, _, .nil, s => s
  | _, _, _, _, .cons r t, s => .cons r (Vals.append t s)
theorem Vals.take : ∀ {xs : List V} {us : List Value} (n : Nat), Vals xs us → Vals (xs.take n) (us.take n)
  | _, _, 0, _ => .nil
  | _, _, _ + 1, .nil => .nil
  | _, _, n + 1, .cons r t => .cons r (Vals.take n t)
theorem Vals.drop : ∀ {xs : List V} {us : List Value} (n : Nat), Vals xs us → Vals (xs.drop n) (us.drop n)
  | _, _, 0, r => r
  | _, _, _ + 1, .nil => .nil
  | _, _, n + 1, .cons _ t => Vals.drop n t

def RelO : Option V → Option Value → Prop
  | some v, some u => RelV v u
  | none, none => True
  | _, _ => False
def KV {κ : Type} : List (κ × V) → List (κ × Value) → Prop := Paired fun (p : κ × V) (q : κ × Value) => p.1 = q.1 ∧ RelV p.2 q.2

/-- a key of a dict (00_mix): an int or a text -/
def kV : Key → V
  | .inl i => .int i
  | .inr x => .str x

/-- what stands at a tracked address -/
inductive HO where
  /-- a list -/
  | lst (xs : List V)
  /-- a tuple (never changes) -/
  | tup (xs : List V)
  /-- a dict whose keys are ints and texts; one whose keys are tuples of ints and texts (the empty one is both) -/
  | dK (kvs : List (Key × V)) | dT (kvs : List (List Key × V))
  /-- a set of ints: its members, its size -/
  | set (S : Int → Bool) (n : Nat)
  /-- an instance of the class at C, its dict at dx, its attributes -/
  | ins (C dx : Addr) (fs : List (Str × V))
  /-- the dict of the instance at x -/
  | own (x : Addr)
  /-- the dict of an exception -/
  | xd (fs : List (Str × V))
  /-- a bound method, f of x -/
  | met (f x : Addr)
  /-- a range object lo, lo + 1, .. below hi -/
  | rng (lo hi : Int)
  /-- a thing that is known to the object (the script; a dict while a loop walks it): read, never written while it is so -/
  | frz (o : Obj) (u : HO)
  /-- a code object's table -/
  | tbl (ps : Array Value)
  /-- any other thing, by what is true of its one object (a def of one's own: SetO a S n := HO.ext fun h => ..) -/
  | ext (φ : Heap → Prop)

abbrev Hp := Addr → Option HO
def upd (H : Hp) (a : Addr) (o : HO) : Hp := fun b => if b = a then some o else H b
theorem upd_same {H : Hp} {a : Addr} {o : HO} : upd H a o a = some o := by unfold upd; rw [if_pos rfl]
theorem upd_ne {H : Hp} {a b : Addr} {o : HO} (h : b ≠ a) : upd H a o b = H b := by unfold upd; rw [if_neg h]
theorem upd_upd {H : Hp} {a : Addr} {o u : HO} : upd (upd H a o) a u = upd H a u := by
  funext b; unfold upd; split <;> rfl
/-- two objects of different content stand apart -/
theorem ne_of {H : Hp} {a b : Addr} {o u : HO} (h : H a = some o) (h' : H b = some u) (d : o ≠ u) : a ≠ b := by
  intro e; subst e; rw [h] at h'; exact d (Option.some.inj h')
theorem ne_of_none {H : Hp} {a b : Addr} {o : HO} (h : H a = some o) (h' : H b = none) : a ≠ b := by
  intro e; subst e; rw [h] at h'; cases h'

section
variable (P : Program) (w : World)
def ObjOk (H : Hp) (h : Heap) (a : Addr) : HO → Prop
  | .lst xs => xs.length ≤ sizeLine ∧ ∃ (its : List Value) (n : Nat), Vals xs its ∧ h.get? a = some { cls := .type "list", data := .seq its.toArray n }
  | .tup xs => xs.length ≤ sizeLine ∧ ∃ its : List Value, Vals xs its ∧ IsTup h a its.toArray
  | .dK kvs => kvs.length ≤ sizeLine ∧ (a == sysModules) = false ∧ ∃ vs, KV kvs vs ∧ h.DictOf (mixKind P w) a vs
  | .dT kvs => kvs.length ≤ sizeLine ∧ (a == sysModules) = false ∧ ∃ xs : List (List Key × Addr × Value),
      Paired (fun (p : List Key × V) (q : List Key × Addr × Value) => p.1 = q.1 ∧ H q.2.1 = some (.tup (p.1.map kV)) ∧ RelV p.2 q.2.2) kvs xs ∧
      ∃ o es ep, h.get? a = some o ∧ o.ExactDict ∧ o.data = .dict es ep ∧ es.toList = xs.map (entryOfKey (tupleKind (mixKind P w))) ∧ (xs.map (·.1)).Nodup
  | .set S n => h.SetOf (intKind P w) a S n
  | .ins C dx fs => H dx = some (.own a) ∧ fs.length ≤ 1000 ∧ dx ≠ a ∧ h.get? a = some (PySem.W.instObj C dx) ∧
      ∃ mA, h.Ns1 dx mA ∧ (∀ f, RelO (fs.lookup f) (mA f)) ∧ PySem.Within mA (fs.map (·.1))
  | .own _ => ∃ o, h.get? a = some o
  | .xd fs => ∃ mA, h.Ns1 a mA ∧ ∀ f, RelO (fs.lookup f) (mA f)
  | .rng lo hi => ∃ t u v, h.get? a = some { cls := .type "range", data := .fields #[.int lo t, .int hi u, .int 1 v] }
  | .frz o u => h.get? a = some o ∧ ObjOk H h a u
  | .tbl ps => h.get? a = some { cls := .none, data := .fields ps }
  | .met f x => h.get? a = some (PySem.W.methodObj (.ref f) (.ref x))
  | .ext φ => φ h ∧ (∃ o, h.get? a = some o) ∧ ∀ h1 h2 : Heap, φ h1 → (∀ o, h1.get? a = some o → h2.get? a = some o) → φ h2
/-- the abstract heap is held -/
def HOk (H : Hp) (h : Heap) : Prop := ∀ a o, H a = some o → ObjOk P w H h a o
end

section
variable {P : Program} {w : World} {H H' : Hp} {h h' : Heap} {a : Addr} {o : HO}
theorem ObjOk.lt (x : ObjOk P w H h a o) : a < h.objs.size := by
  cases o with
  | lst xs => obtain ⟨_, _, _, _, e⟩ := x; exact Heap.lt_size e
  | tup xs => obtain ⟨_, _, _, p⟩ := x; exact p.lt
  | dK kvs => obtain ⟨_, _, _, _, o, _, _, e, _⟩ := x; exact Heap.lt_size e
  | dT kvs => obtain ⟨_, _, _, _, o, _, _, e, _⟩ := x; exact Heap.lt_size e
  | set S n => obtain ⟨o, _, _, _, e, _⟩ := x; exact Heap.lt_size e
  | ins C dx fs => obtain ⟨_, _, _, e, _⟩ := x; exact Heap.lt_size e
  | own y => obtain ⟨_, e⟩ := x; exact Heap.lt_size e
  | xd fs => obtain ⟨_, ⟨_, _, _, e, _⟩, _⟩ := x; exact Heap.lt_size e
  | rng lo hi => obtain ⟨_, _, _, e⟩ := x; exact Heap.lt_size e
  | frz ob u => obtain ⟨e, _⟩ := x; exact Heap.lt_size e
  | tbl ps => exact Heap.lt_size (show h.get? a = some _ from x)
  | met f y => exact Heap.lt_size (show h.get? a = some _ from x)
  | ext φ => obtain ⟨_, ⟨_, e⟩, _⟩ := x; exact Heap.lt_size e
theorem Paired.mapP {α β : Type} {F G : α → β → Prop} : ∀ {l₁ : List α} {l₂ : List β}, Paired F l₁ l₂ → (∀ a b, F a b → G a b) → Paired G l₁ l₂
  | _, _, .nil, _ => .nil
  | _, _, .cons r t, f => .cons (f _ _ r) (Paired.mapP t f)
/-- what an object's description leans on: its own object, its own dict, the tuples -/
theorem ObjOk.stay (x : ObjOk P w H h a o) (k : ∀ b u, (b = a ∨ H b = some (.own a)) → h.get? b = some u → h'.get? b = some u)
    (ho : ∀ b, H b = some (.own a) → H' b = some (.own a)) (ht : ∀ b xs, H b = some (.tup xs) → H' b = some (.tup xs)) : ObjOk P w H' h' a o := by
  induction o with
  | lst xs => obtain ⟨z, its, n, r, e⟩ := x; exact ⟨z, its, n, r, k _ _ (.inl rfl) e⟩
  | tup xs => obtain ⟨z, its, r, ob, e, c⟩ := x; exact ⟨z, its, r, ob, k _ _ (.inl rfl) e, c⟩
  | dK kvs => obtain ⟨z, y, vs, r, ob, es, ep, e, c⟩ := x; exact ⟨z, y, vs, r, ob, es, ep, k _ _ (.inl rfl) e, c⟩
  | dT kvs =>
    obtain ⟨z, y, xs, r, ob, es, ep, e, c⟩ := x
    exact ⟨z, y, xs, Paired.mapP r fun p q z => ⟨z.1, ht _ _ z.2.1, z.2.2⟩, ob, es, ep, k _ _ (.inl rfl) e, c⟩
  | set S n => obtain ⟨ob, es, ep, t, e, c⟩ := x; exact ⟨ob, es, ep, t, k _ _ (.inl rfl) e, c⟩
  | ins C dx fs =>
    obtain ⟨d, z, ne, e, mA, ⟨od, es, ep, e2, c⟩, r⟩ := x
    exact ⟨ho _ d, z, ne, k _ _ (.inl rfl) e, mA, ⟨od, es, ep, k _ _ (.inr d) e2, c⟩, r⟩
  | own y => obtain ⟨ob, e⟩ := x; exact ⟨ob, k _ _ (.inl rfl) e⟩
  | xd fs => obtain ⟨mA, ⟨od, es, ep, e, c⟩, r⟩ := x; exact ⟨mA, ⟨od, es, ep, k _ _ (.inl rfl) e, c⟩, r⟩
  | rng lo hi => obtain ⟨t, u, v, e⟩ := x; exact ⟨t, u, v, k _ _ (.inl rfl) e⟩
  | frz ob u ih => obtain ⟨e, q⟩ := x; exact ⟨k _ _ (.inl rfl) e, ih q⟩
  | tbl ps =>
    have e : h.get? a = some { cls := .none, data := .fields ps } := x
    show h'.get? a = some { cls := .none, data := .fields ps }
    exact k a _ (.inl rfl) e
  | met f y =>
    have e : h.get? a = some (PySem.W.methodObj (.ref f) (.ref y)) := x
    show h'.get? a = some (PySem.W.methodObj (.ref f) (.ref y))
    exact k a _ (.inl rfl) e
  | ext φ => obtain ⟨p, ⟨o, e⟩, st⟩ := x; exact ⟨st _ _ p fun o q => k _ _ (.inl rfl) q, ⟨o, k _ _ (.inl rfl) e⟩, st⟩
theorem HOk.lt (x : HOk P w H h) (e : H a = some o) : a < h.objs.size := (x a o e).lt
theorem HOk.fresh (x : HOk P w H h) (e : h.objs.size ≤ a) : H a = none := by
  cases q : H a with
  | none => rfl
  | some u => exact absurd (Nat.lt_of_lt_of_le (x.lt q) e) (Nat.lt_irrefl _)
/-- every object of the heap is kept -/
theorem HOk.kept (x : HOk P w H h) (k : ∀ b u, h.get? b = some u → h'.get? b = some u) : HOk P w H h' := fun a o e =>
  (x a o e).stay (fun b u _ q => k b u q) (fun _ q => q) fun _ _ q => q
/-- a new object is laid and tracked -/
theorem HOk.laid (x : HOk P w H h) (k : ∀ b u, h.get? b = some u → h'.get? b = some u) (hp : h.objs.size ≤ a) (new : ObjOk P w (upd H a o) h' a o) : HOk P w (upd H a o) h' := fun b u e => by
  have hn := x.fresh hp
  by_cases hb : b = a
  · subst hb; rw [upd_same] at e; cases e; exact new
  · rw [upd_ne hb] at e
    exact (x b u e).stay (fun c v _ q => k c v q) (fun c q => by rw [upd_ne (ne_of_none q hn)]; exact q) fun c xs q => by rw [upd_ne (ne_of_none q hn)]; exact q
end

/-- what may be read as u: it is u, or a known u -/
def Rd (H : Hp) (a : Addr) (u : HO) : Prop := H a = some u ∨ ∃ o, H a = some (.frz o u)
theorem Rd.ok {P : Program} {w : World} {H : Hp} {h : Heap} {a : Addr} {u : HO} (r : Rd H a u) (x : HOk P w H h) : ObjOk P w H h a u := by
  rcases r with r | ⟨o, r⟩
  · exact x a u r
  · obtain ⟨_, q⟩ := x a _ r
    exact q
/-- what may be written -/
def Mut : Option HO → Prop
  | some (.lst _) => True
  | some (.dK _) => True
  | some (.dT _) => True
  | some (.set _ _) => True
  | some (.ins _ _ _) => True
  | some (.ext _) => True
  | _ => False
section
variable {P : Program} {w : World} {H : Hp} {h h' : Heap} {x e : Addr} {o' : HO}
/-- the object at e is changed: x itself, or the dict of the instance x -/
theorem HOk.write (ok : HOk P w H h) (mu : Mut (H x)) (he : e = x ∨ H e = some (.own x)) (k : ∀ b u, b ≠ e → h.get? b = some u → h'.get? b = some u) (heo : ∃ u, h'.get? e = some u)
    (new : ObjOk P w (upd H x o') h' x o') : HOk P w (upd H x o') h' := fun b u q => by
  have nown : ∀ c y, H c = some (.own y) → c ≠ x := fun c y r z => by subst z; rw [r] at mu; exact mu
  have ntup : ∀ c xs, H c = some (.tup xs) → c ≠ x := fun c xs r z => by subst z; rw [r] at mu; exact mu
  by_cases hb : b = x
  · subst hb; rw [upd_same] at q; cases q; exact new
  · rw [upd_ne hb] at q
    by_cases hbe : b = e
    · have q' : H b = some (.own x) := by
        rcases he with z | z
        · exact absurd (hbe.trans z) hb
        · rw [hbe]; exact z
      rw [q] at q'; cases q'
      obtain ⟨v, hv⟩ := heo
      exact ⟨v, by rw [hbe]; exact hv⟩
    · refine (ok b u q).stay (fun c v hc r => k c v ?_ r) (fun c r => by rw [upd_ne (nown c b r)]; exact r) fun c xs r => by rw [upd_ne (ntup c xs r)]; exact r
      rcases hc with rfl | hc
      · exact hbe
      · rintro rfl
        rcases he with z | z
        · exact nown c b hc z
        · rw [hc] at z; cases z; exact hb rfl
end

/-! ### kept unless tracked; of the frames at fs (the callers') the slots may change (an exception that passes writes there); of the records at ex (iterators) nothing is said -/
structure Un (fs ex : List Addr) (H H' : Hp) (h h' : Heap) : Prop where
  keep : ∀ b o, h.get? b = some o → H b = none → b ∉ fs → b ∉ ex → h'.get? b = some o
  slot : ∀ b o, h.get? b = some o → H b = none → b ∈ fs → b ∉ ex → ∃ sl, h'.get? b = some { o with slots := sl }
  free : ∀ b o, h.get? b = some o → H b = none → b ∉ ex → H' b = none
  there : ∀ b o, h.get? b = some o → b ∉ ex → ∃ o', h'.get? b = some o'
  tups : ∀ b xs, H b = some (.tup xs) → H' b = some (.tup xs)
  frzs : ∀ b o u, H b = some (.frz o u) → H' b = some (.frz o u)
  tbls : ∀ b ps, H b = some (.tbl ps) → ∃ more, H' b = some (.tbl (ps ++ more))
section
variable {fs fs' ex ex' : List Addr} {H H1 H2 : Hp} {h h1 h2 h' : Heap} {a x e : Addr} {o : HO}
theorem Un.any (u : Un fs ex H H1 h h1) {b : Addr} {ob : Obj} (q : h.get? b = some ob) (n : H b = none) (hx : b ∉ ex) : ∃ sl, h1.get? b = some { ob with slots := sl } := by
  by_cases hb : b ∈ fs
  · exact u.slot b ob q n hb hx
  · exact ⟨ob.slots, u.keep b ob q n hb hx⟩
theorem Un.kept (k : ∀ b u, h.get? b = some u → h'.get? b = some u) : Un fs ex H H h h' :=
  ⟨fun b ob q _ _ _ => k b ob q, fun b ob q _ _ _ => ⟨ob.slots, k b ob q⟩, fun _ _ _ n _ => n, fun b ob q _ => ⟨ob, k b ob q⟩, fun _ _ q => q, fun _ _ _ q => q, fun _ ps q => ⟨#[], by rw [q]; simp⟩⟩
theorem Un.refl : Un fs ex H H h h := Un.kept fun _ _ q => q
theorem Un.laid (k : ∀ b u, h.get? b = some u → h'.get? b = some u) (hp : h.objs.size ≤ a) (hn : H a = none) : Un fs ex H (upd H a o) h h' where
  keep := fun b u q _ _ _ => k b u q
  slot := fun b u q _ _ _ => ⟨u.slots, k b u q⟩
  free := fun b u q n _ => by rw [upd_ne (Nat.ne_of_lt (Nat.lt_of_lt_of_le (Heap.lt_size q) hp))]; exact n
  there := fun b u q _ => ⟨u, k b u q⟩
  tups := fun b xs q => by rw [upd_ne (ne_of_none q hn)]; exact q
  frzs := fun b u xs q => by rw [upd_ne (ne_of_none q hn)]; exact q
  tbls := fun b ps q => ⟨#[], by rw [upd_ne (ne_of_none q hn), q]; simp⟩
theorem Un.write (mu : Mut (H x)) (he : e = x ∨ H e = some (.own x)) (k : ∀ b u, b ≠ e → h.get? b = some u → h'.get? b = some u) (heo : ∃ u, h'.get? e = some u) : Un fs ex H (upd H x o) h h' := by
  have hx : ∀ b, H b = none → b ≠ x := fun b n z => by subst z; rw [n] at mu; exact mu
  have hb : ∀ b, H b = none → b ≠ e := fun b n z => by
    subst z
    rcases he with r | r
    · exact hx b n r
    · rw [n] at r; cases r
  have hm : ∀ b u, H b = some u → ¬ Mut (some u) → b ≠ x := fun b u q nm z => by subst z; rw [q] at mu; exact nm mu
  refine ⟨fun b u q n _ _ => k b u (hb b n) q, fun b u q n _ _ => ⟨u.slots, k b u (hb b n) q⟩, fun b u q n _ => by rw [upd_ne (hx b n)]; exact n, fun b u q _ => ?_,
    fun b xs q => by rw [upd_ne (hm b _ q fun z => z)]; exact q, fun b u xs q => by rw [upd_ne (hm b _ q fun z => z)]; exact q, fun b ps q => ⟨#[], by rw [upd_ne (hm b _ q fun z => z), q]; simp⟩⟩
  by_cases hbe : b = e
  · subst hbe; exact heo
  · exact ⟨u, k b u hbe q⟩
end

/-! ### the heap without what is tracked -/
def trk (h : Heap) (H : Hp) : List Addr := (List.range h.objs.size).filter fun a => (H a).isSome
def hidT (h : Heap) (H : Hp) : Heap := PySem.W.hideAll h (trk h H)
theorem hidT_size (h : Heap) (H : Hp) : (hidT h H).objs.size = h.objs.size := PySem.W.hideAll_size _ _
theorem hidT_get {h : Heap} {H : Hp} {b : Addr} {o : Obj} (e : h.get? b = some o) (n : H b = none) : (hidT h H).get? b = some o :=
  PySem.W.hideAll_get _ e fun hm => by
    have q : (H b).isSome = true := (List.mem_filter.mp hm).2
    rw [n] at q; simp at q
theorem of_hidT {h : Heap} {H : Hp} {b : Addr} {o : Obj} (e : (hidT h H).get? b = some o) : h.get? b = some o ∧ H b = none := by
  have e' : h.get? b = some o := PySem.W.of_hideAll (trk h H) e
  refine ⟨e', ?_⟩
  cases q : H b with
  | none => rfl
  | some x =>
    have hm : b ∈ trk h H := List.mem_filter.mpr ⟨List.mem_range.mpr (Heap.lt_size e'), by simp [q]⟩
    have z : (hidT h H).get? b = none := PySem.W.hideAll_none (trk h H) hm
    rw [z] at e; cases e

/-! ### OpenK's ledger, filled with every new object but one -/
end L2

namespace L2
open PySem PySem.Spec PyProof.Rows

/-- the module's facts, over the base: the heap at the law's entry without what is tracked there -/
structure Mod (K : PySem.W.Frag) (mg : Str → Option Value) (base : Heap) : Prop where
  kin : K.In base
  glob : base.Ns mainGlobals mg
  blt : ∃ mb, base.Ns builtinsNs mb ∧ ∀ x : Str, x ≠ "__name__" → mb x = bootBuiltins x
  nolimit : base.NoLimit

/-- the context: a def's body (or a comprehension's block) running. base: fixed through the whole law; s₀, H₀: the entry; outer: the frames whose slots others may change (a def's callers); stack: all frames that run;
   ex: iterators that were made ahead of the entry and are walked here (a comprehension's); fn: the names whose cells were made at the entry (a def: all; a comprehension's block: its own); calm: not within an except suite; pn: pins that every state bears; xe: what is wanted of an exception that leaves the code -/
structure Cx where
  prog : Program
  w : World
  K : PySem.W.Frag
  mg : Str → Option Value
  base : Heap
  A : Around
  N : List Str
  s₀ : Shared
  H₀ : Hp
  env : Env
  outer : List Env
  stack : List Env
  ex : List Addr
  fn : Str → Bool
  calm : Bool
  pn : List (Addr × Obj)
  xe : Value → Shared → Prop
/-- the callers' frames -/
def frs (l : List Env) : List Addr := l.filterMap (·.frame)
abbrev Cx.fs (X : Cx) : List Addr := frs X.outer

def Vis (sc : Scope) (x : Str) : Prop := sc.names.lookup x = some .local ∨ sc.names.lookup x = some .cell ∨ sc.names.lookup x = some .free
def Loc (sc : Scope) (x : Str) : Prop := sc.names.lookup x = some .local ∨ sc.names.lookup x = some .cell
def Look (env : Env) (h : Heap) (m : Str → Option Value) (x : Str) (u : Value) : Prop :=
  (env.kindOf x = some .local ∧ m x = some u) ∨ ((env.kindOf x = some .cell ∨ env.kindOf x = some .free) ∧ ∃ c, env.cells.lookup x = some c ∧ h.IsCell c (some u))

structure Cx.Ok (X : Cx) : Prop where
  mod : Mod X.K X.mg X.base
  kind : X.env.scope.kind = .function
  glob : X.env.globals = mainGlobals
  blt : X.env.builtins = builtinsNs
  above : X.s₀.heap.objs.size ≤ X.env.locals
  inj : ∀ x y c, X.env.cells.lookup x = some c → X.env.cells.lookup y = some c → x = y
  has : ∀ x, (X.env.kindOf x = some .cell ∨ X.env.kindOf x = some .free) → ∃ c, X.env.cells.lookup x = some c
  cab : ∀ x c, X.fn x = true → X.env.cells.lookup x = some c → X.s₀.heap.objs.size ≤ c
  hd : X.calm = true → X.A.handled = none
  frames : X.A.frames = some X.stack
  stk : X.stack = X.outer ∨ (X.stack = X.env :: X.outer ∧ X.env.frame = some X.env.locals)
  exf : ∀ b ∈ X.ex, b ≠ X.env.locals ∧ ∀ x c, X.env.cells.lookup x = some c → c ≠ b
  bs : ∀ b o, X.base.get? b = some o → X.s₀.heap.get? b = some o ∧ X.H₀ b = none
  bsz : X.base.objs.size ≤ X.s₀.heap.objs.size
  noex : ∀ b o, X.base.get? b = some o → b ∉ X.ex
  exfs : ∀ b ∈ X.ex, b ∉ X.fs
  funs : X.s₀.heap.FunFrames X.base X.outer
  frf : ∀ b ∈ X.fs, X.H₀ b = none

structure Inv (X : Cx) (pins : List (Addr × Obj)) (σ : List (Option V)) (H : Hp) (s : Shared) : Prop where
  ok : X.Ok
  os : s.os = X.s₀.os
  bare : AllBare s.gens
  base : Un X.fs X.ex X.H₀ H X.s₀.heap s.heap
  loc : ∃ m, s.heap.Ns X.env.locals m ∧ ∀ (i : Nat) (x : Str) (v : V), X.N[i]? = some x → σ[i]? = some (some v) → Vis X.env.scope x → ∃ u, RelV v u ∧ Look X.env s.heap m x u
  cell : ∀ x c, X.env.cells.lookup x = some c → ∃ v, s.heap.IsCell c v
  free : H X.env.locals = none
  freeC : ∀ x c, X.env.cells.lookup x = some c → H c = none
  pin : ∀ p ∈ X.pn ++ pins, s.heap.get? p.1 = some p.2 ∧ H p.1 = none ∧ p.1 ≠ X.env.locals ∧ p.1 ∉ X.fs ∧ ∀ v, p.2.data ≠ .cell v
  hok : HOk X.prog X.w H s.heap
  len : σ.length = X.N.length

section
variable {X : Cx} {pins : List (Addr × Obj)} {σ : List (Option V)} {H H' : Hp} {s : Shared} {h' : Heap}

theorem Cx.Ok.nofr (ok : X.Ok) {b : Addr} {o : Obj} (e : X.base.get? b = some o) : b ∉ X.fs := fun hb => by
  have := (ok.funs.mem hb).1
  rw [e] at this; cases this
theorem Inv.bs (I : Inv X pins σ H s) : ∀ b o, X.base.get? b = some o → s.heap.get? b = some o ∧ H b = none := fun b o e =>
  ⟨I.base.keep b o (I.ok.bs b o e).1 (I.ok.bs b o e).2 (I.ok.nofr e) (I.ok.noex b o e), I.base.free b o (I.ok.bs b o e).1 (I.ok.bs b o e).2 (I.ok.noex b o e)⟩
theorem Inv.bk (I : Inv X pins σ H s) : ∀ b o, X.base.get? b = some o → s.heap.get? b = some o := fun b o e => (I.bs b o e).1
theorem Inv.mod (I : Inv X pins σ H s) : Mod X.K X.mg X.base := I.ok.mod
theorem Inv.kIn (I : Inv X pins σ H s) : X.K.In s.heap := I.ok.mod.kin.keeps I.bk
theorem Inv.lt (I : Inv X pins σ H s) : X.env.locals < s.heap.objs.size := let ⟨_, hn, _⟩ := I.loc; hn.lt
theorem Inv.sz (I : Inv X pins σ H s) : X.s₀.heap.objs.size ≤ s.heap.objs.size := Nat.le_trans I.ok.above (Nat.le_of_lt I.lt)
theorem Inv.nofs (I : Inv X pins σ H s) {a : Addr} (h : s.heap.objs.size ≤ a) : a ∉ X.fs := fun hb => by
  obtain ⟨_, o, ho, _⟩ := I.ok.funs.mem hb
  exact absurd (Nat.lt_of_lt_of_le (Heap.lt_size ho) (Nat.le_trans I.sz h)) (Nat.lt_irrefl _)
theorem Inv.cne (I : Inv X pins σ H s) : ∀ x c, X.env.cells.lookup x = some c → c ≠ X.env.locals := fun x c e z => by
  obtain ⟨v, o, ho, hd⟩ := I.cell x c e
  obtain ⟨m, ⟨o', es, ep, ho', hd', _⟩, _⟩ := I.loc
  rw [z, ho'] at ho; cases ho; rw [hd'] at hd; cases hd
theorem Inv.funs (I : Inv X pins σ H s) : s.heap.FunFrames X.base X.outer := by
  have all : ∀ (l : List Env), (∀ b ∈ frs l, b ∈ X.fs) → X.s₀.heap.FunFrames X.base l → s.heap.FunFrames X.base l := by
    intro l
    induction l with
    | nil => intro _ _; trivial
    | cons env r ih =>
      intro hs hl
      obtain ⟨hk, ⟨L, o, hf, hn, ho, hd⟩, hr⟩ := hl
      have hL : L ∈ X.fs := hs L (by unfold frs; rw [List.filterMap_cons, hf]; exact List.mem_cons_self)
      obtain ⟨sl, e⟩ := I.base.slot L o ho (I.ok.frf L hL) hL fun z => I.ok.exfs L z hL
      exact ⟨hk, ⟨L, _, hf, hn, e, hd⟩, ih (fun b hb => hs b (by unfold frs; rw [List.filterMap_cons, hf]; exact List.mem_cons_of_mem _ hb)) hr⟩
  exact all X.outer (fun _ hb => hb) I.ok.funs

/-- the frames that run, for a call -/
theorem Inv.stack (I : Inv X pins σ H s) : s.heap.FunFrames X.base X.stack := by
  rcases I.ok.stk with e | ⟨e, hf⟩
  · rw [e]; exact I.funs
  · rw [e]
    obtain ⟨m, hn, _⟩ := I.loc
    refine .cons (by rw [I.ok.kind]; decide) hf hn ?_ I.funs
    exact Heap.get?_none_of_le (Nat.le_trans I.ok.bsz I.ok.above)
theorem Inv.stkSub (I : Inv X pins σ H s) : ∀ b ∈ frs X.stack, b ∈ X.env.locals :: X.fs := fun b hb => by
  rcases I.ok.stk with e | ⟨e, hf⟩
  · rw [e] at hb; exact List.mem_cons_of_mem _ hb
  · rw [e] at hb
    unfold frs at hb
    rw [List.filterMap_cons, hf] at hb
    exact hb
theorem Inv.stkFree (I : Inv X pins σ H s) : ∀ b ∈ frs X.stack, H b = none := fun b hb => by
  rcases List.mem_cons.mp (I.stkSub b hb) with e | hb
  · rw [e]; exact I.free
  · obtain ⟨_, o, ho, _⟩ := I.ok.funs.mem hb
    exact I.base.free b o ho (I.ok.frf b hb) fun z => I.ok.exfs b z hb

/-- THE STEP: the untracked objects but the frame and the records at ch are kept (the callers' frames up to slots), the frame's map is kept, the new abstract heap is held -/
theorem Inv.step {g' : Array GenState} {t' : Nat} {d' : Drawn} {ch : List Addr} (I : Inv X pins σ H s)
    (hch : ∀ b ∈ ch, (b ∈ X.ex ∨ X.s₀.heap.objs.size ≤ b) ∧ b ≠ X.env.locals ∧ (∀ x c, X.env.cells.lookup x = some c → c ≠ b) ∧ ∀ p ∈ X.pn ++ pins, p.1 ≠ b)
    (keep : ∀ b o, b ≠ X.env.locals → b ∉ X.fs → b ∉ ch → s.heap.get? b = some o → H b = none → h'.get? b = some o)
    (slot : ∀ b o, b ≠ X.env.locals → b ∈ X.fs → b ∉ ch → s.heap.get? b = some o → H b = none → ∃ sl, h'.get? b = some { o with slots := sl }) (free : ∀ b o, b ∉ ch → s.heap.get? b = some o → H b = none → H' b = none)
    (there : ∀ b o, b ∉ ch → s.heap.get? b = some o → ∃ o', h'.get? b = some o')
    (tups : ∀ b xs, H b = some (.tup xs) → H' b = some (.tup xs)) (frzs : ∀ b o u, H b = some (.frz o u) → H' b = some (.frz o u)) (tbls : ∀ b ps, H b = some (.tbl ps) → ∃ more, H' b = some (.tbl (ps ++ more)))
    (ns : ∀ m, s.heap.Ns X.env.locals m → h'.Ns X.env.locals m) (hok : HOk X.prog X.w H' h') (hg : AllBare g') :
    Inv X pins σ H' { s with heap := h', gens := g', drawn := d', toks := t' } := by
  have neL : ∀ b o, X.s₀.heap.get? b = some o → b ≠ X.env.locals := fun b o e => Nat.ne_of_lt (Nat.lt_of_lt_of_le (Heap.lt_size e) I.ok.above)
  have neC : ∀ b o, X.s₀.heap.get? b = some o → b ∉ X.ex → b ∉ ch := fun b o e hx hb => by
    rcases (hch b hb).1 with z | z
    · exact hx z
    · exact absurd (Nat.lt_of_lt_of_le (Heap.lt_size e) z) (Nat.lt_irrefl _)
  have cellK : ∀ x c, X.env.cells.lookup x = some c → ∀ v, s.heap.IsCell c v → h'.IsCell c v := fun x c e v ⟨o, ho, hd⟩ => by
    have nch : c ∉ ch := fun z => (hch c z).2.2.1 x c e rfl
    by_cases hc : c ∈ X.fs
    · obtain ⟨sl, q⟩ := slot c o (I.cne x c e) hc nch ho (I.freeC x c e)
      exact ⟨_, q, hd⟩
    · exact ⟨o, keep c o (I.cne x c e) hc nch ho (I.freeC x c e), hd⟩
  refine ⟨I.ok, I.os, hg, ⟨fun b o e n hb hx => ?_, fun b o e n hb hx => ?_, fun b o e n hx => ?_, fun b o e hx => ?_, fun b xs e => tups b xs (I.base.tups b xs e), fun b o xs e => frzs b o xs (I.base.frzs b o xs e), fun b ps e => ?_⟩, ?_, fun x c e => ?_, ?_, fun x c e => ?_, fun p hp => ?_, hok, I.len⟩
  · exact keep b o (neL b o e) hb (neC b o e hx) (I.base.keep b o e n hb hx) (I.base.free b o e n hx)
  · obtain ⟨sl, e1⟩ := I.base.slot b o e n hb hx
    obtain ⟨sl', e2⟩ := slot b _ (neL b o e) hb (neC b o e hx) e1 (I.base.free b o e n hx)
    exact ⟨sl', e2⟩
  · obtain ⟨o', e1⟩ := I.base.there b o e hx
    exact free b o' (neC b o e hx) e1 (I.base.free b o e n hx)
  · obtain ⟨o', e1⟩ := I.base.there b o e hx
    exact there b o' (neC b o e hx) e1
  · obtain ⟨m1, e1⟩ := I.base.tbls b ps e
    obtain ⟨m2, e2⟩ := tbls b _ e1
    exact ⟨m1 ++ m2, by rw [e2, Array.append_assoc]⟩
  · obtain ⟨m, hn, hl⟩ := I.loc
    refine ⟨m, ns m hn, fun i x v e1 e2 e3 => ?_⟩
    obtain ⟨u, r, l⟩ := hl i x v e1 e2 e3
    refine ⟨u, r, ?_⟩
    rcases l with l | ⟨k, c, e, z⟩
    · exact .inl l
    · exact .inr ⟨k, c, e, cellK x c e _ z⟩
  · obtain ⟨v, z⟩ := I.cell x c e
    exact ⟨v, cellK x c e v z⟩
  · obtain ⟨m, ⟨o, _, _, ho, _⟩, _⟩ := I.loc
    exact free _ o (fun z => (hch _ z).2.1 rfl) ho I.free
  · obtain ⟨v, o, ho, hd⟩ := I.cell x c e
    exact free c o (fun z => (hch c z).2.2.1 x c e rfl) ho (I.freeC x c e)
  · obtain ⟨e, n, ne, nf, d⟩ := I.pin p hp
    have nch : p.1 ∉ ch := fun z => (hch p.1 z).2.2.2 p hp rfl
    exact ⟨keep p.1 p.2 ne nf nch e n, free p.1 p.2 nch e n, ne, nf, d⟩
/-- .. where the frame's own object is kept too -/
theorem Inv.un {t' : Nat} (I : Inv X pins σ H s) (u : Un X.fs [] H H' s.heap h') (hok : HOk X.prog X.w H' h') : Inv X pins σ H' { s with heap := h', toks := t' } := by
  obtain ⟨m, ⟨o, es, ep, ho, r⟩, _⟩ := id I.loc
  obtain ⟨sl, hL⟩ := u.any ho I.free (by simp)
  exact I.step (g' := s.gens) (d' := s.drawn) (ch := []) (fun _ z => nomatch z) (fun b o _ hb _ e n => u.keep b o e n hb (by simp)) (fun b o _ hb _ e n => u.slot b o e n hb (by simp)) (fun b o _ e n => u.free b o e n (by simp)) (fun b o _ e => u.there b o e (by simp)) u.tups u.frzs u.tbls (fun m' hm => by
    obtain ⟨o', es', ep', ho', r'⟩ := hm
    rw [ho] at ho'; cases ho'
    exact ⟨_, es', ep', hL, r'⟩) hok I.bare
/-- behind a call (or a comprehension's block): the slots of this frame may have changed too, the records at ch may have turned -/
theorem Inv.call {g' : Array GenState} {t' : Nat} {d' : Drawn} {ch : List Addr} (I : Inv X pins σ H s) (u : Un (frs X.stack) ch H H' s.heap h') (hok : HOk X.prog X.w H' h') (hg : AllBare g')
    (hch : ∀ b ∈ ch, (b ∈ X.ex ∨ X.s₀.heap.objs.size ≤ b) ∧ b ≠ X.env.locals ∧ (∀ x c, X.env.cells.lookup x = some c → c ≠ b) ∧ ∀ p ∈ X.pn ++ pins, p.1 ≠ b) :
    Inv X pins σ H' { s with heap := h', gens := g', drawn := d', toks := t' } := by
  obtain ⟨m, ⟨o, es, ep, ho, r⟩, _⟩ := id I.loc
  obtain ⟨sl, hL⟩ := u.any ho I.free fun z => (hch _ z).2.1 rfl
  exact I.step (ch := ch) hch (fun b o hL hb hc e n => u.keep b o e n (fun z => (List.mem_cons.mp (I.stkSub b z)).elim hL hb) hc) (fun b o _ _ hc e n => u.any e n hc) (fun b o hc e n => u.free b o e n hc) (fun b o hc e => u.there b o e hc) u.tups u.frzs u.tbls (fun m' hm => by
    obtain ⟨o', es', ep', ho', r'⟩ := hm
    rw [ho] at ho'; cases ho'
    exact ⟨_, es', ep', hL, r'⟩) hok hg
/-- an untracked record of ours (an iterator) has turned -/
theorem Inv.turned {t' : Nat} {it : Addr} (I : Inv X pins σ H s) (k : ∀ b o, b ≠ it → s.heap.get? b = some o → h'.get? b = some o) (hn : H it = none) (hL : it ≠ X.env.locals)
    (h1 : it ∈ X.ex ∨ X.s₀.heap.objs.size ≤ it) (h2 : ∀ x c, X.env.cells.lookup x = some c → c ≠ it) (h3 : ∀ p ∈ X.pn ++ pins, p.1 ≠ it) : Inv X pins σ H { s with heap := h', toks := t' } := by
  have nit : ∀ b u, H b = some u → b ≠ it := fun b u e z => by rw [z, hn] at e; cases e
  refine I.step (g' := s.gens) (d' := s.drawn) (ch := [it]) (fun b hb => ?_) (fun b o _ _ hc e _ => k b o (fun z => hc (by simp [z])) e) (fun b o _ _ hc e _ => ⟨o.slots, k b o (fun z => hc (by simp [z])) e⟩) (fun _ _ _ _ n => n)
    (fun b o hc e => ⟨o, k b o (fun z => hc (by simp [z])) e⟩) (fun _ _ e => e) (fun _ _ _ e => e) (fun b ps e => ⟨#[], by rw [e]; simp⟩) (fun m hm => ?_) (fun b u e => ?_) I.bare
  · have e : b = it := by simpa using hb
    subst e
    exact ⟨h1, hL, h2, h3⟩
  · obtain ⟨o, es, ep, ho, r⟩ := hm
    exact ⟨o, es, ep, k _ o (Ne.symm hL) ho, r⟩
  · refine (I.hok b u e).stay (fun c v hc q => k c v ?_ q) (fun _ q => q) fun _ _ q => q
    rcases hc with z | z
    · rw [z]; exact nit b u e
    · exact nit c _ z
theorem Inv.tok (I : Inv X pins σ H s) (t : Nat) : Inv X pins σ H { s with toks := t } := I.un (h' := s.heap) (t' := t) Un.refl I.hok
/-- all objects kept -/
theorem Inv.kept {t' : Nat} (I : Inv X pins σ H s) (k : ∀ b u, s.heap.get? b = some u → h'.get? b = some u) : Inv X pins σ H { s with heap := h', toks := t' } := I.un (Un.kept k) (I.hok.kept k)
/-- a new object laid and tracked -/
theorem Inv.laid {a : Addr} {o : HO} {t' : Nat} (I : Inv X pins σ H s) (k : ∀ b u, s.heap.get? b = some u → h'.get? b = some u) (hp : s.heap.objs.size ≤ a) (new : ObjOk X.prog X.w (upd H a o) h' a o) :
    Inv X pins σ (upd H a o) { s with heap := h', toks := t' } := I.un (Un.laid k hp (I.hok.fresh hp)) (I.hok.laid k hp new)
/-- an object written -/
theorem Inv.write {x e : Addr} {o : HO} {t' : Nat} (I : Inv X pins σ H s) (mu : Mut (H x)) (he : e = x ∨ H e = some (.own x)) (k : ∀ b u, b ≠ e → s.heap.get? b = some u → h'.get? b = some u) (heo : ∃ u, h'.get? e = some u)
    (new : ObjOk X.prog X.w (upd H x o) h' x o) : Inv X pins σ (upd H x o) { s with heap := h', toks := t' } := I.un (Un.write mu he k heo) (I.hok.write mu he k heo new)
theorem Inv.pins_of {pins' : List (Addr × Obj)} (I : Inv X pins σ H s) (h : ∀ p ∈ pins', s.heap.get? p.1 = some p.2 ∧ H p.1 = none ∧ p.1 ≠ X.env.locals ∧ p.1 ∉ X.fs ∧ ∀ v, p.2.data ≠ .cell v) : Inv X pins' σ H s :=
  ⟨I.ok, I.os, I.bare, I.base, I.loc, I.cell, I.free, I.freeC, fun p hp => (List.mem_append.mp hp).elim (fun z => I.pin p (List.mem_append_left _ z)) (h p), I.hok, I.len⟩

theorem nodup_ix {N : List Str} (hN : N.Nodup) {i j : Nat} {x : Str} (a : N[i]? = some x) (b : N[j]? = some x) : i = j := by
  obtain ⟨h1, e1⟩ := List.getElem?_eq_some_iff.mp a
  obtain ⟨h2, e2⟩ := List.getElem?_eq_some_iff.mp b
  exact (List.getElem_inj hN).mp (e1.trans e2.symm)

/-- a name is stored; what changed -/
theorem store_ok2 {M : Model} {A : Around} {E : Value → Shared → Prop} {i : Nat} {x : Str} {v : V} {u : Value} {Q : Unit → Shared → Prop} (I : Inv X pins σ H s) (hN : X.N.Nodup) (hi : X.N[i]? = some x) (hx : Loc X.env.scope x) (r : RelV v u)
    (h : ∀ s', Inv X pins (σ.set i (some v)) H s' → (∃ a, Heap.SameBut a s.heap s'.heap ∧ (a = X.env.locals ∨ X.env.cells.lookup x = some a)) → Q () s') (hf : X.fn x = true ∨ X.env.scope.names.lookup x = some .local := by first | exact .inl rfl | exact .inr rfl | assumption) : wpAny M A (storeName X.env x u) Q E s := by
  obtain ⟨m, hn, hl⟩ := id I.loc
  have hcls : (X.env.scope.kind == .class || (X.env.scope.kind == .module && X.env.locals != X.env.globals)) = false := by rw [I.ok.kind]; rfl
  have hiσ : i < σ.length := by rw [I.len]; exact (List.getElem?_eq_some_iff.mp hi).1
  have cne := I.cne
  have tracked : ∀ {a : Addr} {h' : Heap}, (∃ o, s.heap.get? a = some o ∧ H a = none) → Heap.SameBut a s.heap h' → HOk X.prog X.w H h' := fun {a h'} ha hs b ob e => by
    obtain ⟨_, _, hfree⟩ := ha
    refine (I.hok b ob e).stay (fun c w' hc q => (hs.2 c ?_).trans q) (fun _ q => q) fun _ _ q => q
    rintro rfl
    rcases hc with rfl | hc
    · rw [hfree] at e; cases e
    · rw [hfree] at hc; cases hc
  rcases hx with hk | hk
  · refine wpAny_storeName_local hk hn (fun h' hn' hs => ?_) hcls
    obtain ⟨oL, _, _, hoL, _⟩ := id hn
    refine h _ ⟨I.ok, I.os, I.bare, ⟨fun b o e n hb hx => ?_, fun b o e n hb hx => ?_, I.base.free, fun b o e hx => ?_, I.base.tups, I.base.frzs, I.base.tbls⟩, ⟨_, hn', fun j y v' e1 e2 e3 => ?_⟩, fun y c e => ?_, I.free, I.freeC, fun p hp => ?_, tracked ⟨oL, hoL, I.free⟩ hs, by simpa using I.len⟩ ⟨_, hs, .inl rfl⟩
    · exact (hs.2 b (Nat.ne_of_lt (Nat.lt_of_lt_of_le (Heap.lt_size e) I.ok.above))).trans (I.base.keep b o e n hb hx)
    · obtain ⟨sl, e1⟩ := I.base.slot b o e n hb hx
      exact ⟨sl, (hs.2 b (Nat.ne_of_lt (Nat.lt_of_lt_of_le (Heap.lt_size e) I.ok.above))).trans e1⟩
    · obtain ⟨o', e1⟩ := I.base.there b o e hx
      exact ⟨o', (hs.2 b (Nat.ne_of_lt (Nat.lt_of_lt_of_le (Heap.lt_size e) I.ok.above))).trans e1⟩
    · by_cases hj : j = i
      · subst hj
        rw [hi] at e1; cases e1
        rw [List.getElem?_set_self hiσ] at e2
        cases e2
        exact ⟨u, r, .inl ⟨hk, by simp⟩⟩
      · rw [List.getElem?_set_ne (Ne.symm hj)] at e2
        obtain ⟨u', r', q⟩ := hl j y v' e1 e2 e3
        refine ⟨u', r', ?_⟩
        rcases q with ⟨k, e⟩ | ⟨k, c, e, z⟩
        · refine .inl ⟨k, ?_⟩
          have : y ≠ x := fun e => hj (nodup_ix hN e1 (e ▸ hi))
          simp [this, e]
        · exact .inr ⟨k, c, e, z.sameBut hs (cne y c e)⟩
    · obtain ⟨w', z⟩ := I.cell y c e
      exact ⟨w', z.sameBut hs (cne y c e)⟩
    · obtain ⟨e, n, ne, nf, d⟩ := I.pin p hp
      exact ⟨(hs.2 p.1 ne).trans e, n, ne, nf, d⟩
  · have hfn : X.fn x = true := by
      rcases hf with z | z
      · exact z
      · rw [z] at hk; cases hk
    obtain ⟨c, hc⟩ := I.ok.has x (.inl hk)
    obtain ⟨w', z⟩ := I.cell x c hc
    refine wpAny_storeName_cell I.ok.kind hk hc z (fun h' hc' hs => ?_)
    obtain ⟨oc, hoc, hocd⟩ := id z
    refine h { s with heap := h' } ⟨I.ok, I.os, I.bare, ⟨fun b o e n hb hx => ?_, fun b o e n hb hx => ?_, I.base.free, fun b o e hx => ?_, I.base.tups, I.base.frzs, I.base.tbls⟩, ⟨m, hn.sameBut hs (Ne.symm (cne x c hc)), fun j y v' e1 e2 e3 => ?_⟩, fun y c' e => ?_, I.free, I.freeC, fun p hp => ?_, tracked ⟨oc, hoc, I.freeC x c hc⟩ hs, by simpa using I.len⟩ ⟨c, hs, .inr hc⟩
    · exact (hs.2 b (Nat.ne_of_lt (Nat.lt_of_lt_of_le (Heap.lt_size e) (I.ok.cab x c hfn hc)))).trans (I.base.keep b o e n hb hx)
    · obtain ⟨sl, e1⟩ := I.base.slot b o e n hb hx
      exact ⟨sl, (hs.2 b (Nat.ne_of_lt (Nat.lt_of_lt_of_le (Heap.lt_size e) (I.ok.cab x c hfn hc)))).trans e1⟩
    · obtain ⟨o', e1⟩ := I.base.there b o e hx
      exact ⟨o', (hs.2 b (Nat.ne_of_lt (Nat.lt_of_lt_of_le (Heap.lt_size e) (I.ok.cab x c hfn hc)))).trans e1⟩
    · by_cases hj : j = i
      · subst hj
        rw [hi] at e1; cases e1
        rw [List.getElem?_set_self hiσ] at e2
        cases e2
        exact ⟨u, r, .inr ⟨.inl hk, c, hc, hc'⟩⟩
      · rw [List.getElem?_set_ne (Ne.symm hj)] at e2
        obtain ⟨u', r', q⟩ := hl j y v' e1 e2 e3
        refine ⟨u', r', ?_⟩
        rcases q with q | ⟨k, c', e, z'⟩
        · exact .inl q
        · refine .inr ⟨k, c', e, z'.sameBut hs ?_⟩
          rintro rfl
          exact hj (nodup_ix hN e1 (I.ok.inj _ _ _ e hc ▸ hi))
    · by_cases hcc : c' = c
      · subst hcc; exact ⟨_, hc'⟩
      · obtain ⟨w2, z2⟩ := I.cell y c' e
        exact ⟨w2, z2.sameBut hs hcc⟩
    · obtain ⟨e, n, ne, nf, d⟩ := I.pin p hp
      refine ⟨(hs.2 p.1 ?_).trans e, n, ne, nf, d⟩
      intro q
      rw [q, hoc] at e
      have q' : oc = p.2 := Option.some.inj e
      exact d w' (by rw [← q']; exact hocd)
theorem store_ok {M : Model} {A : Around} {E : Value → Shared → Prop} {i : Nat} {x : Str} {v : V} {u : Value} {Q : Unit → Shared → Prop} (I : Inv X pins σ H s) (hN : X.N.Nodup) (hi : X.N[i]? = some x) (hx : Loc X.env.scope x) (r : RelV v u)
    (h : ∀ s', Inv X pins (σ.set i (some v)) H s' → Q () s') (hf : X.fn x = true ∨ X.env.scope.names.lookup x = some .local := by first | exact .inl rfl | exact .inr rfl | assumption) : wpAny M A (storeName X.env x u) Q E s :=
  store_ok2 I hN hi hx r (fun s' I' _ => h s' I') hf
/-- behind a call or a block, the state as it is -/
theorem Inv.call' {s' : Shared} {ch : List Addr} (I : Inv X pins σ H s) (ho : s'.os = s.os) (u : Un (frs X.stack) ch H H' s.heap s'.heap) (hok : HOk X.prog X.w H' s'.heap) (hg : AllBare s'.gens)
    (hch : ∀ b ∈ ch, (b ∈ X.ex ∨ X.s₀.heap.objs.size ≤ b) ∧ b ≠ X.env.locals ∧ (∀ x c, X.env.cells.lookup x = some c → c ≠ b) ∧ ∀ p ∈ X.pn ++ pins, p.1 ≠ b) : Inv X pins σ H' s' := by
  obtain ⟨h', g', d', t', o'⟩ := s'
  have e : o' = s.os := ho
  subst e
  exact I.call (g' := g') (t' := t') (d' := d') u hok hg hch
end

/-! ### the judgements -/
/-- an exception: its class, its own dict's address (where it has one), the abstract heap behind it -/
abbrev XK := Value → Option Addr → Hp → Prop
abbrev St := List (Option V)
abbrev VK := V → Hp → Prop
/-- an expression's reading; a test's; an argument list's -/
abbrev TE := St → Hp → VK → Prop
abbrev TT := St → Hp → (Bool → Hp → Prop) → Prop
abbrev TA := St → Hp → (List V → Hp → Prop) → Prop
/-- what is wanted behind a statement -/
structure Ends where
  nx : St → Hp → Prop
  rt : VK
  bk : St → Hp → Prop := fun _ _ => False
  ct : St → Hp → Prop := fun _ _ => False
abbrev TS := Ends → St → Hp → Prop

def EP (X : Cx) (pins : List (Addr × Obj)) (σ : St) (Q : VK) (u : Value) (s' : Shared) : Prop := ∃ v H', Inv X pins σ H' s' ∧ RelV v u ∧ Q v H'
def TP (X : Cx) (pins : List (Addr × Obj)) (σ : St) (Q : Bool → Hp → Prop) (b : Bool) (s' : Shared) : Prop := ∃ H', Inv X pins σ H' s' ∧ Q b H'
def AP (X : Cx) (pins : List (Addr × Obj)) (σ : St) (Q : List V → Hp → Prop) (us : List Value) (s' : Shared) : Prop := ∃ vs H', Inv X pins σ H' s' ∧ Vals vs us ∧ Q vs H'
def SP (X : Cx) (pins : List (Addr × Obj)) (D : Ends) (f : Flow) (s' : Shared) : Prop :=
  match f with
  | .next => ∃ σ' H', Inv X pins σ' H' s' ∧ D.nx σ' H'
  | .brk => ∃ σ' H', Inv X pins σ' H' s' ∧ D.bk σ' H'
  | .cont => ∃ σ' H', Inv X pins σ' H' s' ∧ D.ct σ' H'
  | .ret u => ∃ v σ' H', Inv X pins σ' H' s' ∧ RelV v u ∧ D.rt v H'

def PE (X : Cx) (e : Expr) (t : TE) : Prop :=
  ∀ (pins : List (Addr × Obj)) (s : Shared) (σ : St) (H : Hp) (Q : VK), Inv X pins σ H s → t σ H Q → wpAny (model X.prog X.w) X.A (eval e X.env) (EP X pins σ Q) X.xe s
def PT (X : Cx) (e : Expr) (t : TT) : Prop :=
  ∀ (pins : List (Addr × Obj)) (s : Shared) (σ : St) (H : Hp) (Q : Bool → Hp → Prop), Inv X pins σ H s → t σ H Q → wpAny (model X.prog X.w) X.A (isTrue e X.env (eval e X.env)) (TP X pins σ Q) X.xe s
/-- a test whatever its 'whole' is (and, or) -/
def PW (X : Cx) (e : Expr) (t : TT) : Prop :=
  ∀ (whole : Sem Value) (pins : List (Addr × Obj)) (s : Shared) (σ : St) (H : Hp) (Q : Bool → Hp → Prop), Inv X pins σ H s → t σ H Q → wpAny (model X.prog X.w) X.A (isTrue e X.env whole) (TP X pins σ Q) X.xe s
theorem PW.pt {X : Cx} {e : Expr} {t : TT} (h : PW X e t) : PT X e t := h _
/-- an argument list (no star), from the left -/
def PA (X : Cx) (es : List Expr) (t : TA) : Prop :=
  ∀ (pos : Pos) (pins : List (Addr × Obj)) (s : Shared) (σ : St) (H : Hp) (Q : List V → Hp → Prop), Inv X pins σ H s → t σ H Q → wpAny (model X.prog X.w) X.A (spliced (backTo pos (starEach es X.env))) (AP X pins σ Q) X.xe s
def PS (X : Cx) (st : Stmt) (t : TS) : Prop :=
  ∀ (pins : List (Addr × Obj)) (s : Shared) (σ : St) (H : Hp) (D : Ends), Inv X pins σ H s → t D σ H → wpAny (model X.prog X.w) X.A (exec st X.env) (SP X pins D) X.xe s
def PSs (X : Cx) (st : List Stmt) (t : TS) : Prop :=
  ∀ (pins : List (Addr × Obj)) (s : Shared) (σ : St) (H : Hp) (D : Ends), Inv X pins σ H s → t D σ H → wpAny (model X.prog X.w) X.A (execs st X.env) (SP X pins D) X.xe s
/-- weaken the end -/
theorem thn {α : Type} {t : Sem α} {Q Q' : α → Shared → Prop} {M : Model} {A : Around} {E : Value → Shared → Prop} {s : Shared} (h : wpAny M A t Q E s) (hQ : ∀ a s, Q a s → Q' a s) : wpAny M A t Q' E s := wpAny_mono h hQ fun _ _ x => x
end L2

namespace L2
open PySem PySem.Spec PyProof.Rows
section
variable {X : Cx}

/-- two expressions in a row -/
theorem bin {a b : Expr} {ta tb : TE} (ha : PE X a ta) (hb : PE X b tb) {pins : List (Addr × Obj)} {s : Shared} {σ : St} {H : Hp} {R : V → V → Hp → Prop} (I : Inv X pins σ H s) (h : ta σ H fun x H1 => tb σ H1 fun y H2 => R x y H2)
    {α : Type} {Q : α → Shared → Prop} {f : Value → Value → Sem α}
    (hf : ∀ v u s2 x y H2, Inv X pins σ H2 s2 → RelV x v → RelV y u → R x y H2 → wpAny (model X.prog X.w) X.A (f v u) Q X.xe s2) :
    wpAny (model X.prog X.w) X.A (eval a X.env) (fun v s₁ => wpAny (model X.prog X.w) X.A (eval b X.env) (fun u s₂ => wpAny (model X.prog X.w) X.A (f v u) Q X.xe s₂) X.xe s₁) X.xe s := by
  refine thn (ha pins s σ H _ I h) fun v s1 ⟨x, H1, I1, r1, q1⟩ => ?_
  refine thn (hb pins s1 σ H1 _ I1 q1) fun u s2 ⟨y, H2, I2, r2, q2⟩ => ?_
  exact hf v u s2 x y H2 I2 r1 r2 q2

/-! ### names and constants -/
def tVar (i : Nat) : TE := fun σ H Q => ∃ v, σ[i]? = some (some v) ∧ Q v H
def tC (v : V) : TE := fun _ H Q => Q v H
theorem pe_var {i : Nat} {x : Str} {pos : Pos} (hN : X.N[i]? = some x) (hv : Vis X.env.scope x) (hd : (x == ("__debug__" : Str)) = false := by decide) (hcd : (x == ("__classdict__" : Str)) = false := by decide) : PE X (.Name x pos) (tVar i) := by
  intro pins s σ H Q I h
  obtain ⟨v, e, h⟩ := h
  obtain ⟨m, hn, hl⟩ := I.loc
  obtain ⟨u, r, l⟩ := hl i x v hN e hv
  have fin : EP X pins σ Q u s := ⟨v, H, I, r, h⟩
  rcases l with ⟨hk, hm⟩ | ⟨hk, c, hc, hcell⟩
  · exact wpAny_Name (wpAny_loadName_local I.ok.kind hk hn hm fin) hd
  · rcases hk with hk | hk
    · exact wpAny_Name (wpAny_loadName_cell I.ok.kind hk hc hcell fin) hd
    · exact wpAny_Name (wpAny_loadName_free I.ok.kind hk hc hcell fin hcd) hd
theorem pe_int {i j pos} : PE X (.Constant (.int i) j pos) (tC (.int i)) := fun _ _ _ H _ I h => wpAny_Constant_int ⟨.int i, H, I.tok _, ⟨_, rfl⟩, h⟩
theorem pe_bl {b j pos} : PE X (.Constant (.bool b) j pos) (tC (.bl b)) := fun _ _ _ H _ I h => Constant_bool ⟨.bl b, H, I, rfl, h⟩
theorem pe_non {j pos} : PE X (.Constant .none j pos) (tC .non) := fun _ _ _ H _ I h => Constant_none ⟨.non, H, I, rfl, h⟩
theorem pe_str {x j pos} : PE X (.Constant (.str x) j pos) (tC (.str x)) := fun _ _ _ H _ I h => Calls.Constant_str ⟨.str x, H, I.tok _, ⟨_, rfl⟩, h⟩

/-- a global name of the def -/
def Gl (X : Cx) (x : Str) : Prop := X.env.kindOf x = some .globalImplicit
theorem ld_glob {E : Value → Shared → Prop} {pins : List (Addr × Obj)} {s : Shared} {σ : St} {H : Hp} {x : Str} {u : Value} {pos : Pos} {Q : Value → Shared → Prop} (I : Inv X pins σ H s) (hg : Gl X x) (hm : X.mg x = some u) (h : Q u s)
    (hd : (x == ("__debug__" : Str)) = false := by decide) : wpAny (model X.prog X.w) X.A (eval (.Name x pos) X.env) Q E s :=
  Calls.Name_function_global I.ok.kind hg (Calls.loadGlobal_global (by rw [I.ok.glob]; exact I.mod.glob.keeps I.bk) hm h) hd
theorem ld_blt {E : Value → Shared → Prop} {pins : List (Addr × Obj)} {s : Shared} {σ : St} {H : Hp} {x : Str} {u : Value} {pos : Pos} {Q : Value → Shared → Prop} (I : Inv X pins σ H s) (hg : Gl X x) (hm : X.mg x = none) (hv : bootBuiltins x = some u) (h : Q u s)
    (hn : x ≠ "__name__" := by decide) (hd : (x == ("__debug__" : Str)) = false := by decide) : wpAny (model X.prog X.w) X.A (eval (.Name x pos) X.env) Q E s := by
  obtain ⟨mb, h1, h2⟩ := I.mod.blt
  exact Calls.Name_function_global I.ok.kind hg (Calls.loadGlobal_builtin (by rw [I.ok.glob]; exact I.mod.glob.keeps I.bk) hm (by rw [I.ok.blt]; exact h1.keeps I.bk) ((h2 x hn).trans hv) h) hd
/-- a module's constant, a class, a function, as a value -/
theorem pe_glob {x : Str} {v : V} {u : Value} {pos : Pos} (hg : Gl X x) (hm : X.mg x = some u) (r : RelV v u) (hd : (x == ("__debug__" : Str)) = false := by decide) : PE X (.Name x pos) (tC v) :=
  fun _ _ _ H _ I h => ld_glob I hg hm ⟨v, H, I, r, h⟩ hd
theorem pe_bltn {x : Str} {v : V} {u : Value} {pos : Pos} (hg : Gl X x) (hm : X.mg x = none) (hv : bootBuiltins x = some u) (r : RelV v u) (hn : x ≠ "__name__" := by decide) (hd : (x == ("__debug__" : Str)) = false := by decide) : PE X (.Name x pos) (tC v) :=
  fun _ _ _ H _ I h => ld_blt I hg hm hv ⟨v, H, I, r, h⟩ hn hd

/-! ### arithmetic -/
variable {a b : Expr} {ta tb : TE} {pos : Pos}

/-! ### comparisons -/
def PC (X : Cx) (op : CmpOp) (a b : Expr) (t : TE) : Prop :=
  ∀ (pins : List (Addr × Obj)) (s : Shared) (σ : St) (H : Hp) (Q : VK), Inv X pins σ H s → t σ H Q →
    wpAny (model X.prog X.w) X.A (eval a X.env) (fun v s₁ => wpAny (model X.prog X.w) X.A (eval b X.env) (fun u s₂ => wpAny (model X.prog X.w) X.A (compareOp op v u) (EP X pins σ Q) X.xe s₂) X.xe s₁) X.xe s
/-- a comparison as a value, as a test -/
def tB (t : TE) : TT := fun σ H Q => t σ H fun x H1 => ∃ c, x = .bl c ∧ Q c H1
theorem pt_cmp {op : CmpOp} {t : TE} (h : PC X op a b t) (h1 : behindInMarks op b = false := by first | exact nobehind _ (by decide) (by decide) | rfl) : PT X (.Compare a [op] [b] pos) (tB t) := by
  intro pins s σ H Q I hw
  refine wpAny_isTrue_Compare1 (thn (h pins s σ H _ I hw) fun v s1 h1 => thn h1 fun u s2 h2 => thn h2 fun c s3 ⟨x, H1, I1, r1, q1⟩ => ?_) h1
  obtain ⟨d, rfl, q⟩ := q1
  cases r1
  exact wpAny_truthy_bool ⟨H1, I1, q⟩
/-- an expression whose value is a bool, as a test -/
theorem pt_val {e : Expr} {t : TE} (h : PE X e t) (he : ∀ whole, isTrue e X.env whole = (do let v ← whole; standAt e.pos; holding [v] (truthy v)) := by intro _; rfl) : PT X e (tB t) := by
  intro pins s σ H Q I hw
  refine isTrue_plain (thn (h pins s σ H _ I hw) fun v s1 ⟨x, H1, I1, r1, q1⟩ => ?_) (he _)
  obtain ⟨d, rfl, q⟩ := q1
  cases r1
  exact wpAny_truthy_bool ⟨H1, I1, q⟩

/-! ### and, or, not -/
variable {tA tB' : TT} {rest : List Expr}
def tAnd (t u : TT) : TT := fun σ H Q => t σ H fun c H1 => if c = true then u σ H1 Q else Q false H1
def tOr (t u : TT) : TT := fun σ H Q => t σ H fun c H1 => if c = true then Q true H1 else u σ H1 Q
def tNot (t : TT) : TT := fun σ H Q => t σ H fun c H1 => Q (!c) H1
theorem pw_and1 (ha : PT X a tA) : PW X (.BoolOp .And [a] pos) tA := by
  intro wh pins s σ H Q I h
  refine isTrue_and (thn (ha pins s σ H Q I h) fun c s1 e => ?_)
  cases c with
  | true => exact isTrue_and_nil e
  | false => exact e
theorem pw_or1 (ha : PT X a tA) : PW X (.BoolOp .Or [a] pos) tA := by
  intro wh pins s σ H Q I h
  refine isTrue_or (thn (ha pins s σ H Q I h) fun c s1 e => ?_)
  cases c with
  | false => exact isTrue_or_nil e
  | true => exact e
theorem pw_and (ha : PT X a tA) (hb : PW X (.BoolOp .And (b :: rest) pos) tB') : PW X (.BoolOp .And (a :: b :: rest) pos) (tAnd tA tB') := by
  intro wh pins s σ H Q I h
  refine isTrue_and (thn (ha pins s σ H _ I h) fun c s1 ⟨H1, I1, q1⟩ => ?_)
  cases c with
  | true => exact hb wh pins s1 σ H1 Q I1 q1
  | false => exact ⟨H1, I1, q1⟩
theorem pw_or (ha : PT X a tA) (hb : PW X (.BoolOp .Or (b :: rest) pos) tB') : PW X (.BoolOp .Or (a :: b :: rest) pos) (tOr tA tB') := by
  intro wh pins s σ H Q I h
  refine isTrue_or (thn (ha pins s σ H _ I h) fun c s1 ⟨H1, I1, q1⟩ => ?_)
  cases c with
  | true => exact ⟨H1, I1, q1⟩
  | false => exact hb wh pins s1 σ H1 Q I1 q1
theorem pt_not (ha : PT X a tA) : PT X (.UnaryOp .Not a pos) (tNot tA) := by
  intro pins s σ H Q I h
  exact isTrue_not (ha pins s σ H (fun c H1 => Q (!c) H1) I h)
/-- .. as values (bools) -/
def tAndV (ta tb : TE) : TE := fun σ H Q => ta σ H fun x H1 => ∃ c, x = .bl c ∧ if c = true then tb σ H1 Q else Q (.bl false) H1
def tNotV (ta : TE) : TE := fun σ H Q => ta σ H fun x H1 => ∃ c, x = .bl c ∧ Q (.bl (!c)) H1
theorem pe_one {op} {t : TE} (h : PE X a t) : PE X (.BoolOp op [a] pos) t := fun pins s σ H Q I hw => BoolOp_one (h pins s σ H Q I hw)
theorem pe_and (ha : PE X a ta) (hb : PE X (.BoolOp .And (b :: rest) pos) tb) : PE X (.BoolOp .And (a :: b :: rest) pos) (tAndV ta tb) := by
  intro pins s σ H Q I h
  refine BoolOp_and (thn (ha pins s σ H _ I h) fun v s1 ⟨x, H1, I1, r1, q1⟩ => ?_)
  obtain ⟨c, rfl, q1⟩ := q1
  cases r1
  refine wpAny_truthy_bool ?_
  cases c with
  | true => exact hb pins s1 σ H1 Q I1 q1
  | false => exact ⟨.bl false, H1, I1, rfl, q1⟩
theorem pe_not (ha : PE X a ta) : PE X (.UnaryOp .Not a pos) (tNotV ta) := by
  intro pins s σ H Q I h
  refine UnaryOp_ (thn (ha pins s σ H _ I h) fun v s1 ⟨x, H1, I1, r1, q1⟩ => ?_)
  obtain ⟨c, rfl, q1⟩ := q1
  cases r1
  exact not_of (wpAny_truthy_bool ⟨.bl (!c), H1, I1, rfl, q1⟩)
/-- a if t else b -/
def tIf (t : TT) (ta tb : TE) : TE := fun σ H Q => t σ H fun c H1 => if c = true then ta σ H1 Q else tb σ H1 Q
theorem pe_ifExp {c : Expr} (hc : PT X c tA) (ha : PE X a ta) (hb : PE X b tb) : PE X (.IfExp c a b pos) (tIf tA ta tb) := by
  intro pins s σ H Q I h
  refine wpAny_IfExp (thn (hc pins s σ H _ I h) fun d s1 ⟨H1, I1, q1⟩ => ?_)
  cases d with
  | true => exact ha pins s1 σ H1 Q I1 q1
  | false => exact hb pins s1 σ H1 Q I1 q1
end
end L2

namespace L2
open PySem PySem.Spec PyProof.Rows

/-! ### a list, a tuple that is read: tracked, frozen, or an object of the module -/
def SqL (K : PySem.W.Frag) (H : Hp) (a : Addr) (xs : List V) : Prop :=
  Rd H a (.lst xs) ∨
    ∃ (o : Obj) (its : Array Value) (n : Nat), K.lookup a = some o ∧ o.cls = .type "list" ∧ o.dict = none ∧ o.data = .seq its n ∧ its.size ≤ sizeLine ∧ Vals xs its.toList
def SqT (K : PySem.W.Frag) (H : Hp) (a : Addr) (xs : List V) : Prop :=
  Rd H a (.tup xs) ∨
    ∃ (o : Obj) (its : Array Value) (n : Nat), K.lookup a = some o ∧ o.cls = .type "tuple" ∧ o.data = .seq its n ∧ its.size ≤ sizeLine ∧ Vals xs its.toList
def absV : Value → Option V
  | .none => some .non
  | .bool b => some (.bl b)
  | .int i _ => some (.int i)
  | .str x _ => some (.str x)
  | .bytes b _ => some (.byt b)
  | .float b _ => some (.flt b)
  | .ref a => some (.ref a)
  | .type n => some (.ty n)
  | _ => none
theorem RelV.abs {x : V} {u : Value} (r : RelV x u) : absV u = some x := by
  cases x with
  | non => cases r; rfl
  | bl _ => cases r; rfl
  | int _ => obtain ⟨t, rfl⟩ := r; rfl
  | str _ => obtain ⟨t, rfl⟩ := r; rfl
  | byt _ => obtain ⟨t, rfl⟩ := r; rfl
  | flt _ => obtain ⟨t, rfl⟩ := r; rfl
  | ref _ => cases r; rfl
  | ty _ => cases r; rfl
theorem RelV.inj {x y : V} {u : Value} (r : RelV x u) (q : RelV y u) : x = y := Option.some.inj (r.abs.symm.trans q.abs)
theorem Vals.inj : ∀ {xs ys : List V} {us : List Value}, Vals xs us → Vals ys us → xs = ys
  | _, _, _, .nil, .nil => rfl
  | _, _, _, .cons r t, .cons r' t' => by rw [r.inj r', Vals.inj t t']
section
variable {X : Cx} {pins : List (Addr × Obj)} {σ : St} {H : Hp} {s : Shared} {a : Addr} {xs ys : List V}
theorem SqL.of {K : PySem.W.Frag} (h : H a = some (.lst xs)) : SqL K H a xs := .inl (.inl h)
theorem SqT.of {K : PySem.W.Frag} (h : H a = some (.tup xs)) : SqT K H a xs := .inl (.inl h)
theorem Inv.list (I : Inv X pins σ H s) (h : SqL X.K H a xs) : ∃ its : List Value, Vals xs its ∧ PlainL s.heap a its.toArray ∧ xs.length ≤ sizeLine := by
  rcases h with h | ⟨o, its, n, hk, hc, hd, hs, hz, r⟩
  · obtain ⟨z, its, n, r, e⟩ := h.ok I.hok
    exact ⟨its, r, ⟨_, n, e, rfl, rfl, rfl⟩, z⟩
  · refine ⟨its.toList, r, ⟨o, n, I.kIn a o hk, hc, hd, by simpa using hs⟩, ?_⟩
    have e := r.length
    simp only [Array.length_toList] at e
    omega
theorem Inv.tuple (I : Inv X pins σ H s) (h : SqT X.K H a xs) : ∃ its : List Value, Vals xs its ∧ IsTup s.heap a its.toArray ∧ xs.length ≤ sizeLine := by
  rcases h with h | ⟨o, its, n, hk, hc, hs, hz, r⟩
  · obtain ⟨z, its, r, p⟩ := h.ok I.hok
    exact ⟨its, r, p, z⟩
  · refine ⟨its.toList, r, ⟨o, I.kIn a o hk, hc, n, by simpa using hs⟩, ?_⟩
    have e := r.length
    simp only [Array.length_toList] at e
    omega
theorem Inv.list_inj (I : Inv X pins σ H s) (h : SqL X.K H a xs) (h' : SqL X.K H a ys) : xs = ys := by
  obtain ⟨its, r, ⟨o, n, e, _, _, d⟩, _⟩ := I.list h
  obtain ⟨its', r', ⟨o', n', e', _, _, d'⟩, _⟩ := I.list h'
  rw [e] at e'; cases e'
  rw [d] at d'
  injection d' with d1 _
  have : its = its' := by simpa using congrArg Array.toList d1
  subst this
  exact r.inj r'
theorem Inv.tuple_inj (I : Inv X pins σ H s) (h : SqT X.K H a xs) (h' : SqT X.K H a ys) : xs = ys := by
  obtain ⟨its, r, ⟨o, e, _, n, d⟩, _⟩ := I.tuple h
  obtain ⟨its', r', ⟨o', e', _, n', d'⟩, _⟩ := I.tuple h'
  rw [e] at e'; cases e'
  rw [d] at d'
  injection d' with d1 _
  have : its = its' := by simpa using congrArg Array.toList d1
  subst this
  exact r.inj r'
end

/-! ### another wish about exceptions -/
abbrev Cx.wish (X : Cx) (E : Value → Shared → Prop) : Cx := { X with xe := E }
/-- no exception leaves -/
abbrev Cx.nox (X : Cx) : Cx := X.wish fun _ _ => False
theorem Cx.Ok.wish {X : Cx} (ok : X.Ok) (E : Value → Shared → Prop) : (X.wish E).Ok :=
  ⟨ok.mod, ok.kind, ok.glob, ok.blt, ok.above, ok.inj, ok.has, ok.cab, ok.hd, ok.frames, ok.stk, ok.exf, ok.bs, ok.bsz, ok.noex, ok.exfs, ok.funs, ok.frf⟩
theorem Cx.Ok.unwish {X : Cx} {E : Value → Shared → Prop} (ok : (X.wish E).Ok) : X.Ok :=
  ⟨ok.mod, ok.kind, ok.glob, ok.blt, ok.above, ok.inj, ok.has, ok.cab, ok.hd, ok.frames, ok.stk, ok.exf, ok.bs, ok.bsz, ok.noex, ok.exfs, ok.funs, ok.frf⟩
section
variable {X : Cx} {pins : List (Addr × Obj)} {σ : St} {H : Hp} {s : Shared} {E : Value → Shared → Prop}
theorem Inv.wish (I : Inv X pins σ H s) (E : Value → Shared → Prop) : Inv (X.wish E) pins σ H s := ⟨I.ok.wish E, I.os, I.bare, I.base, I.loc, I.cell, I.free, I.freeC, I.pin, I.hok, I.len⟩
theorem Inv.unwish (I : Inv (X.wish E) pins σ H s) : Inv X pins σ H s := ⟨I.ok.unwish, I.os, I.bare, I.base, I.loc, I.cell, I.free, I.freeC, I.pin, I.hok, I.len⟩
theorem SP.unwish {D : Ends} {f : Flow} {s' : Shared} (h : SP (X.wish E) pins D f s') : SP X pins D f s' := by
  cases f with
  | next => obtain ⟨σ', H', I, q⟩ := h; exact ⟨σ', H', I.unwish, q⟩
  | brk => obtain ⟨σ', H', I, q⟩ := h; exact ⟨σ', H', I.unwish, q⟩
  | cont => obtain ⟨σ', H', I, q⟩ := h; exact ⟨σ', H', I.unwish, q⟩
  | ret u => obtain ⟨v, σ', H', I, r, q⟩ := h; exact ⟨v, σ', H', I.unwish, r, q⟩
theorem PSs.nox {st : List Stmt} {t : TS} (h : PSs X.nox st t) : PSs X st t := fun pins s σ H D I hw =>
  wpAny_mono (h pins s σ H D (I.wish _) hw) (fun _ _ q => q.unwish) fun _ _ z => False.elim z
end

/-! ### blocks and small statements -/
section
variable {X : Cx} {st : Stmt} {rest : List Stmt} {t u : TS} {e : Expr} {te : TE} {pos : Pos}
def tNext : TS := fun D σ H => D.nx σ H
def tSeq (t u : TS) : TS := fun D σ H => t { D with nx := u D } σ H
theorem pss_nil : PSs X [] tNext := fun _ _ σ H _ I h => wpAny_execs_nil ⟨σ, H, I, h⟩
theorem pss_cons (h1 : PS X st t) (h2 : PSs X rest u) : PSs X (st :: rest) (tSeq t u) := by
  intro pins s σ H D I h
  refine wpAny_execs_cons (thn (h1 pins s σ H { D with nx := u D } I h) fun f s1 q => ?_)
  cases f with
  | next =>
    obtain ⟨σ', H', I', q⟩ := q
    exact h2 pins s1 σ' H' D I' q
  | ret v => exact q
  | brk => exact q
  | cont => exact q
theorem pss_one (h1 : PS X st t) : PSs X [st] t := by
  intro pins s σ H D I h
  refine wpAny_execs_cons (thn (h1 pins s σ H D I h) fun f s1 q => ?_)
  cases f with
  | next => exact wpAny_execs_nil q
  | ret v => exact q
  | brk => exact q
  | cont => exact q
/-- in a def's body nothing is shown -/
theorem Inv.quiet {pins : List (Addr × Obj)} {σ : St} {H : Hp} {s : Shared} (I : Inv X pins σ H s) : interactive X.env = false := by simp [interactive, I.ok.kind]
/-- an expression whose value is dropped -/
def tDrop (te : TE) : TS := fun D σ H => te σ H fun _ H1 => D.nx σ H1
theorem ps_expr (he : PE X e te) (hs : swapsWith e none pos.line X.env = pure false := by rfl) : PS X (.Expr e pos) (tDrop te) := by
  intro pins s σ H D I h
  exact wpAny_Expr_any (thn (he pins s σ H _ I h) fun v s1 ⟨x, H1, I1, r1, q1⟩ => ⟨σ, H1, I1, q1⟩) I.quiet hs
def tRet (te : TE) : TS := fun D σ H => te σ H D.rt
theorem ps_ret (he : PE X e te) : PS X (.Return (some e) pos) (tRet te) := by
  intro pins s σ H D I h
  exact wpAny_Return_some (thn (he pins s σ H _ I h) fun v s1 ⟨x, H1, I1, r1, q1⟩ => ⟨x, σ, H1, I1, r1, q1⟩)
def tIfS (c : TT) (t u : TS) : TS := fun D σ H => c σ H fun b H1 => if b = true then t D σ H1 else u D σ H1
theorem ps_if {c : Expr} {a b : List Stmt} {tc : TT} (hc : PT X c tc) (ha : PSs X a t) (hb : PSs X b u) : PS X (.If c a b pos) (tIfS tc t u) := by
  intro pins s σ H D I h
  refine wpAny_If (thn (hc pins s σ H _ I h) fun d s1 ⟨H1, I1, q1⟩ => ?_)
  cases d with
  | true => exact ha pins s1 σ H1 D I1 q1
  | false => exact hb pins s1 σ H1 D I1 q1
end

/-! ### targets -/
abbrev TG := V → St → Hp → (St → Hp → Prop) → Prop
abbrev TGs := List V → St → Hp → (St → Hp → Prop) → Prop
def PG (X : Cx) (target : Expr) (t : TG) : Prop :=
  ∀ (pins : List (Addr × Obj)) (s : Shared) (σ : St) (H : Hp) (v : V) (u : Value) (Q : St → Hp → Prop), Inv X pins σ H s → RelV v u → t v σ H Q →
    wpAny (model X.prog X.w) X.A (assign target X.env u) (fun _ s' => ∃ σ' H', Inv X pins σ' H' s' ∧ Q σ' H') X.xe s
/-- several targets, one after another -/
def PGs (X : Cx) (ts : List Expr) (t : TGs) : Prop :=
  ∀ (pins : List (Addr × Obj)) (s : Shared) (σ : St) (H : Hp) (vs : List V) (us : List Value) (Q : St → Hp → Prop), Inv X pins σ H s → Vals vs us → t vs σ H Q →
    wpAny (model X.prog X.w) X.A (assignInOrder ((assignEach ts X.env).map (·.2)) us) (fun _ s' => ∃ σ' H', Inv X pins σ' H' s' ∧ Q σ' H') X.xe s
section
variable {X : Cx} {pos : Pos}
def gName (i : Nat) : TG := fun v σ H Q => Q (σ.set i (some v)) H
theorem pg_name {i : Nat} {x : Str} (hN : X.N.Nodup) (hi : X.N[i]? = some x) (hx : Loc X.env.scope x) (hf : X.fn x = true ∨ X.env.scope.names.lookup x = some .local := by first | exact .inl rfl | exact .inr rfl | assumption) : PG X (.Name x pos) (gName i) := by
  intro pins s σ H v u Q I r h
  exact wpAny_assign_Name (store_ok I hN hi hx r (fun s' I' => ⟨_, H, I', h⟩) hf)
def gNil : TGs := fun vs σ H Q => vs = [] ∧ Q σ H
def gCons (t : TG) (u : TGs) : TGs := fun vs σ H Q => ∃ v r, vs = v :: r ∧ t v σ H fun σ' H' => u r σ' H' Q
theorem pgs_nil : PGs X [] gNil := by
  intro pins s σ H vs us Q I r h
  obtain ⟨e, h⟩ := h
  subst e
  cases r
  exact assignInOrder_nil ⟨σ, H, I, h⟩
theorem pgs_cons {e : Expr} {es : List Expr} {t : TG} {u : TGs} (h1 : PG X e t) (h2 : PGs X es u)
    (hs : (assignEach (e :: es) X.env).map (·.2) = assign e X.env :: (assignEach es X.env).map (·.2) := by rfl) : PGs X (e :: es) (gCons t u) := by
  intro pins s σ H vs us Q I r h
  obtain ⟨v, vr, e1, h⟩ := h
  subst e1
  cases r with
  | cons r rr =>
    rw [hs]
    refine assignInOrder_cons (thn (h1 pins s σ H _ _ _ I r h) fun _ s1 ⟨σ1, H1, I1, q1⟩ => ?_)
    exact h2 pins s1 σ1 H1 _ _ Q I1 rr q1
/-- (a, b, ..) = a tuple of that length -/
def gTup (K : PySem.W.Frag) (n : Nat) (t : TGs) : TG := fun v σ H Q => ∃ a xs, v = .ref a ∧ SqT K H a xs ∧ xs.length = n ∧ t xs σ H Q
theorem pg_tup {es : List Expr} {k : Nat} {t : TGs} {n : Nat} (hc : X.calm = true) (h : PGs X es t)
    (hn : (assignEach es X.env).length = n := by rfl) (hst : (assignEach es X.env).findIdx? (·.1) = none := by rfl) : PG X (.Tuple es k pos) (gTup X.K n t) := by
  intro pins s σ H v u Q I r hw
  obtain ⟨a, xs, e1, hq, hl, hw⟩ := hw
  subst e1
  cases r
  obtain ⟨its, rv, ht, hz⟩ := I.tuple hq
  refine assign_Tuple_tuple (I.ok.hd hc) ht (by simp [hn, ← hl, rv.length]) hst fun h' hx => ?_
  have I1 : Inv X pins σ H { s with heap := h' } := I.kept (t' := s.toks) fun b o e => hx b o (Nat.ne_of_lt (Heap.lt_size e)) e
  exact h pins _ σ H xs _ Q I1 (by simpa using rv) hw
/-- target = value -/
def tAsg (te : TE) (g : TG) : TS := fun D σ H => te σ H fun x H1 => g x σ H1 D.nx
theorem ps_asg {tg e : Expr} {te : TE} {g : TG} (he : PE X e te) (hg : PG X tg g) (hs : swapsWithSole [tg] e pos.line X.env = pure false := by rfl) (hw : swappedStores [tg] e X.env = pure none := by rfl)
    (h1 : (assignEach [tg] X.env).map (·.2) = [assign tg X.env] := by rfl) : PS X (.Assign [tg] e pos) (tAsg te g) := by
  intro pins s σ H D I h
  refine wpAny_Assign_stores (thn (he pins s σ H _ I h) fun v s1 ⟨x, H1, I1, r1, q1⟩ => ?_) hs hw
  rw [h1]
  exact thn (hg pins s1 σ H1 x v _ I1 r1 q1) fun _ s2 q => q
/-- name = value -/
theorem ps_set {i : Nat} {x : Str} {e : Expr} {te : TE} {pos' : Pos} (hN : X.N.Nodup) (hi : X.N[i]? = some x) (hx : Loc X.env.scope x) (he : PE X e te) (hs : swapsWith e (some (.Name x pos')) pos.line X.env = pure false := by rfl) (hf : X.fn x = true ∨ X.env.scope.names.lookup x = some .local := by first | exact .inl rfl | exact .inr rfl | assumption) :
    PS X (.Assign [.Name x pos'] e pos) (tAsg te (gName i)) := by
  intro pins s σ H D I h
  refine wpAny_Assign_Name (thn (he pins s σ H _ I h) fun v s1 ⟨y, H1, I1, r1, q1⟩ => ?_) hs
  exact store_ok I1 hN hi hx r1 (fun s2 I2 => ⟨_, H1, I2, q1⟩) hf
end

/-! ### while -/
section
variable {X : Cx} {pos : Pos}
/-- the invariant W with its measure -/
def tWhile (c : TT) (tb : TS) : TS := fun D σ H => ∃ W : Nat → St → Hp → Prop, (∃ m, W m σ H) ∧ ∀ m σ H, W m σ H →
  c σ H fun b H1 => if b = true then ∃ N : St → Hp → Prop, (∀ σ' H', N σ' H' → ∃ m', m' < m ∧ W m' σ' H') ∧ tb { D with nx := N, ct := N, bk := D.nx } σ H1 else D.nx σ H1
theorem ps_while {c : Expr} {body : List Stmt} {tc : TT} {tb : TS} (hp : PassesOwn (model X.prog X.w) X.A X.env X.xe) (hc : PT X c tc) (hb : PSs X body tb) : PS X (.While c body [] pos) (tWhile tc tb) := by
  intro pins s σ H D I h
  obtain ⟨W, ⟨m0, w0⟩, turn⟩ := h
  refine wpAny_While (codeAny_whileLoop (fun n s' => ∃ σ' H', Inv X pins σ' H' s' ∧ W n σ' H') ?_ m0 ⟨σ, H, I, w0⟩)
  rintro n s1 ⟨σ1, H1, I1, w1⟩
  refine wpAny_passesOwn hp (thn (hc pins s1 σ1 H1 _ I1 (turn n σ1 H1 w1)) fun b s2 ⟨H2, I2, q2⟩ => ?_)
  cases b with
  | true =>
    obtain ⟨N, hN, q2⟩ := q2
    rw [if_pos rfl]
    refine wpAny_passesOwn hp (thn (hb pins s2 σ1 H2 _ I2 q2) fun f s3 q3 => ?_)
    cases f with
    | next =>
      obtain ⟨σ3, H3, I3, n3⟩ := q3
      obtain ⟨m', hm, w3⟩ := hN σ3 H3 n3
      exact ⟨m', hm, σ3, H3, I3, w3⟩
    | cont =>
      obtain ⟨σ3, H3, I3, n3⟩ := q3
      obtain ⟨m', hm, w3⟩ := hN σ3 H3 n3
      exact ⟨m', hm, σ3, H3, I3, w3⟩
    | brk => exact q3
    | ret v => exact q3
  | false =>
    rw [if_neg Bool.false_ne_true]
    exact wpAny_execs_nil ⟨σ1, H2, I2, q2⟩
end

/-! ### what a loop or a comprehension walks -/
/-- at turn i: it yields x (the heap may grow), or it stops -/
structure It where
  go : Nat → Hp → Prop
  yld : Nat → Hp → V → Hp → Prop
  stop : Nat → Hp → Prop
/-- the iterator's own objects may turn: they are not the frame's, not pinned, younger than the entry (or a comprehension's own) -/
def FpOk (X : Cx) (pins : List (Addr × Obj)) (H : Hp) (b : Addr) : Prop :=
  H b = none ∧ b ≠ X.env.locals ∧ b ∉ X.fs ∧ (b ∈ X.ex ∨ X.s₀.heap.objs.size ≤ b) ∧ (∀ x c, X.env.cells.lookup x = some c → c ≠ b) ∧ ∀ p ∈ X.pn ++ pins, p.1 ≠ b
theorem Inv.fpOk {X : Cx} {pins : List (Addr × Obj)} {σ : St} {H H' : Hp} {s : Shared} {b : Addr} (I : Inv X pins σ H s) (hb : s.heap.objs.size ≤ b) (hn : H' b = none) : FpOk X pins H' b := by
  refine ⟨hn, Nat.ne_of_gt (Nat.lt_of_lt_of_le I.lt hb), I.nofs hb, .inr (Nat.le_trans I.sz hb), fun x c e z => ?_, fun p hp z => ?_⟩
  · obtain ⟨v, q⟩ := I.cell x c e
    exact absurd (Nat.lt_of_lt_of_le q.lt (by rw [z]; exact hb)) (Nat.lt_irrefl _)
  · exact absurd (Nat.lt_of_lt_of_le (Heap.lt_size (I.pin p hp).1) (by rw [z]; exact hb)) (Nat.lt_irrefl _)
structure Turn (P : Program) (w : World) (K : PySem.W.Frag) (tg : Expr) (J : It) (fp : List Addr) (it : Addr) (tn : Nat → Heap → Prop) : Prop where
  mem : it ∈ fp
  obj : ∀ i h, tn i h → ∀ b ∈ fp, ∃ o, h.get? b = some o ∧ ∀ v, o.data ≠ .cell v
  keep : ∀ i h h', tn i h → (∀ b ∈ fp, ∀ o, h.get? b = some o → h'.get? b = some o) → tn i h'
  item : ∀ (X : Cx), X.prog = P → X.w = w → X.K = K → X.calm = true → ∀ (i : Nat) (pins : List (Addr × Obj)) (s : Shared) (σ : St) (H : Hp) (E : Value → Shared → Prop), Inv X pins σ H s → (∀ b ∈ fp, FpOk X pins H b) → tn i s.heap → J.go i H →
    wpAny (model P w) X.A (pyNext (.ref it)) (fun r s1 => ∃ u, r = some u ∧
      wpAny (model P w) X.A (letOwnedTupleGo tg (.ref it) u) (fun _ s2 => ∃ x H', Inv X pins σ H' s2 ∧ RelV x u ∧ J.yld i H x H' ∧ tn (i + 1) s2.heap ∧ ∀ b ∈ fp, H' b = none) E s1) E s
  done : ∀ (X : Cx), X.prog = P → X.w = w → X.K = K → X.calm = true → ∀ (i : Nat) (pins : List (Addr × Obj)) (s : Shared) (σ : St) (H : Hp) (E : Value → Shared → Prop), Inv X pins σ H s → (∀ b ∈ fp, FpOk X pins H b) → tn i s.heap → J.stop i H →
    wpAny (model P w) X.A (pyNext (.ref it)) (fun r s1 => r = none ∧ Inv X pins σ H s1) E s
  self : ∀ (A : Around) (i : Nat) (s : Shared) (Q : Value → Shared → Prop) (E : Value → Shared → Prop), tn i s.heap → Q (.ref it) s → wpAny (model P w) A (pyIter (.ref it)) Q E s
abbrev TI := St → Hp → (It → Hp → Prop) → Prop
/-- an iterator has come -/
def PIE (X : Cx) (pins : List (Addr × Obj)) (σ : St) (tg : Expr) (R : It → Hp → Prop) (itv : Value) (s2 : Shared) : Prop :=
  ∃ (it : Addr) (fp : List Addr) (tn : Nat → Heap → Prop) (J : It) (H' : Hp), itv = .ref it ∧ Inv X pins σ H' s2 ∧ Turn X.prog X.w X.K tg J fp it tn ∧ tn 0 s2.heap ∧ (∀ b ∈ fp, FpOk X pins H' b) ∧ R J H'
def PI (X : Cx) (tg iter : Expr) (wi : TI) : Prop :=
  ∀ (pins : List (Addr × Obj)) (s : Shared) (σ : St) (H : Hp) (R : It → Hp → Prop), Inv X pins σ H s → wi σ H R →
    wpAny (model X.prog X.w) X.A (eval iter X.env) (fun v s1 => wpAny (model X.prog X.w) X.A (pyIter v) (PIE X pins σ tg R) X.xe s1) X.xe s

/-- the step ahead of the store is nothing for an iterator that keeps no tuple -/
theorem go_of {M : Model} {A : Around} {E : Value → Shared → Prop} {s : Shared} {tg : Expr} {it : Addr} {u : Value} {o : Obj} {n : String} {vs : Array Value} {Q : Unit → Shared → Prop} (ho : s.heap.get? it = some o) (hc : o.cls = .type n) (hd : o.data = .fields vs)
    (hn : ["enumerate", "zip", "dict_itemiterator", "dict_reverseitemiterator", "odict_iterator", "itertools.zip_longest", "itertools.pairwise"].contains n = false) (hQ : Q () s) : wpAny M A (letOwnedTupleGo tg (.ref it) u) Q E s := by
  unfold letOwnedTupleGo
  cases tg <;> first
    | exact wpAny_pure hQ
    | (cases u <;> first
        | exact wpAny_pure hQ
        | (refine wpAny_bind (wpAny_load ho ?_)
           rw [hc, hd]
           show wpAny M A (if (["enumerate", "zip", "dict_itemiterator", "dict_reverseitemiterator", "odict_iterator", "itertools.zip_longest", "itertools.pairwise"].contains n && vs[0]? == some (rawInt _)) = true then _ else _) Q E s
           rw [if_neg (by intro h; rw [hn, Bool.false_and] at h; cases h)]
           exact wpAny_pure hQ))

/-- the list at a, as it stands at each turn (a loop may append to it) -/
def Itl (K : PySem.W.Frag) (a : Addr) : It :=
  ⟨fun i H => ∃ xs x, SqL K H a xs ∧ xs[i]? = some x, fun i H x H' => H' = H ∧ ∀ xs, SqL K H a xs → xs[i]? = some x, fun i H => ∃ xs, SqL K H a xs ∧ xs.length ≤ i⟩
def Itt (K : PySem.W.Frag) (a : Addr) : It :=
  ⟨fun i H => ∃ xs x, SqT K H a xs ∧ xs[i]? = some x, fun i H x H' => H' = H ∧ ∀ xs, SqT K H a xs → xs[i]? = some x, fun i H => ∃ xs, SqT K H a xs ∧ xs.length ≤ i⟩
/-- lo, lo + 1, .. (n of them) -/
def Itr (lo : Int) (n : Nat) : It := ⟨fun i _ => i < n, fun i H x H' => H' = H ∧ x = .int (lo + i), fun i _ => n ≤ i⟩
theorem turn_list {P : Program} {w : World} {K : PySem.W.Frag} {tg : Expr} (a it : Addr) : Turn P w K tg (Itl K a) [it] it (fun i h => h.IsListIter it a i) where
  mem := by simp
  obj := fun i h st b hb => by
    have e : b = it := by simpa using hb
    subst e
    obtain ⟨o, e, c, d⟩ := st
    exact ⟨o, e, fun v z => by rw [d] at z; cases z⟩
  keep := fun i h h' st k => st.at fun o e => k it (by simp) o e
  item := by
    intro X hP hw hK hc i pins s σ H E I hf st hg
    subst hP hw hK
    obtain ⟨xs, x, hq, hx⟩ := hg
    obtain ⟨its, rv, p, hz⟩ := I.list hq
    obtain ⟨u, hu, ru⟩ := rv.get hx
    obtain ⟨f0, f1, f2, f3, f4, f5⟩ := hf it (by simp)
    refine wpAny_pyNext_list_item st p.isList (x := u) (by simpa using hu) fun h' st' sb => ?_
    have I1 : Inv X pins σ H { s with heap := h' } := I.turned (t' := s.toks) (fun b o hb e => (sb.2 b hb).trans e) f0 f1 f3 f4 f5
    obtain ⟨o, e, c, d⟩ := id st'
    exact ⟨u, rfl, go_of (s := { s with heap := h' }) e c d (by decide) ⟨x, H, I1, ru, ⟨rfl, fun ys hy => by rw [I.list_inj hy hq]; exact hx⟩, st', fun b hb => (hf b hb).1⟩⟩
  done := by
    intro X hP hw hK hc i pins s σ H E I hf st hg
    subst hP hw hK
    obtain ⟨xs, hq, hx⟩ := hg
    obtain ⟨its, rv, p, hz⟩ := I.list hq
    obtain ⟨f0, f1, f2, f3, f4, f5⟩ := hf it (by simp)
    have hl := rv.length
    exact wpAny_pyNext_list_end (I.ok.hd hc) st p.isList (by simp; omega) fun h' eb => ⟨rfl, I.turned (t' := s.toks) (fun b o hb e => eb b o hb e) f0 f1 f3 f4 f5⟩
  self := fun _ _ _ _ _ st h => wpAny_pyIter_listiter st h
theorem turn_tuple {P : Program} {w : World} {K : PySem.W.Frag} {tg : Expr} (a it : Addr) : Turn P w K tg (Itt K a) [it] it (fun i h => h.IsTupleIter it a i) where
  mem := by simp
  obj := fun i h st b hb => by
    have e : b = it := by simpa using hb
    subst e
    obtain ⟨o, e, c, d⟩ := st
    exact ⟨o, e, fun v z => by rw [d] at z; cases z⟩
  keep := fun i h h' st k => st.at fun o e => k it (by simp) o e
  item := by
    intro X hP hw hK hc i pins s σ H E I hf st hg
    subst hP hw hK
    obtain ⟨xs, x, hq, hx⟩ := hg
    obtain ⟨its, rv, p, hz⟩ := I.tuple hq
    obtain ⟨u, hu, ru⟩ := rv.get hx
    obtain ⟨f0, f1, f2, f3, f4, f5⟩ := hf it (by simp)
    refine wpAny_pyNext_tuple_item st (show s.heap.IsTuple a its.toArray from p) (x := u) (by simpa using hu) fun h' st' sb => ?_
    have I1 : Inv X pins σ H { s with heap := h' } := I.turned (t' := s.toks) (fun b o hb e => (sb.2 b hb).trans e) f0 f1 f3 f4 f5
    obtain ⟨o, e, c, d⟩ := id st'
    exact ⟨u, rfl, go_of (s := { s with heap := h' }) e c d (by decide) ⟨x, H, I1, ru, ⟨rfl, fun ys hy => by rw [I.tuple_inj hy hq]; exact hx⟩, st', fun b hb => (hf b hb).1⟩⟩
  done := by
    intro X hP hw hK hc i pins s σ H E I hf st hg
    subst hP hw hK
    obtain ⟨xs, hq, hx⟩ := hg
    obtain ⟨its, rv, p, hz⟩ := I.tuple hq
    obtain ⟨f0, f1, f2, f3, f4, f5⟩ := hf it (by simp)
    have hl := rv.length
    exact wpAny_pyNext_tuple_end (I.ok.hd hc) st (show s.heap.IsTuple a its.toArray from p) (by simp; omega) fun h' eb => ⟨rfl, I.turned (t' := s.toks) (fun b o hb e => eb b o hb e) f0 f1 f3 f4 f5⟩
  self := fun _ _ _ _ _ st h => wpAny_pyIter_tupleiter st h
theorem turn_range {P : Program} {w : World} {K : PySem.W.Frag} {tg : Expr} (it : Addr) (lo : Int) (n : Nat) : Turn P w K tg (Itr lo n) [it] it (fun i h => IsRangeIter h it (lo + (i : Nat) * 1) ((n : Int) - (i : Nat)) 1) where
  mem := by simp
  obj := fun i h st b hb => by
    have e : b = it := by simpa using hb
    subst e
    exact ⟨_, st, fun v z => by
      have z' : Data.fields _ = Data.cell v := z
      cases z'⟩
  keep := fun i h h' st k => k it (by simp) _ st
  item := by
    intro X hP hw hK hc i pins s σ H E I hf st hg
    subst hP hw hK
    obtain ⟨f0, f1, f2, f3, f4, f5⟩ := hf it (by simp)
    have W := Walks.range (prog := X.prog) (w := X.w) (I.ok.hd hc) it lo 1 n
    refine W.item i s _ _ hg st fun v h' tk hv st' kk => ?_
    obtain ⟨t, rfl⟩ := hv
    have I1 : Inv X pins σ H { s with heap := h', toks := tk } := I.turned (fun b o hb e => kk b o (by simpa using hb) e) f0 f1 f3 f4 f5
    refine ⟨_, rfl, go_of (s := { s with heap := h', toks := tk }) (n := "range_iterator") st' rfl rfl (by decide) ⟨.int (lo + i), H, I1, ⟨t, ?_⟩, ⟨rfl, rfl⟩, st', fun b hb => (hf b hb).1⟩⟩
    rw [Int.mul_one]
  done := by
    intro X hP hw hK hc i pins s σ H E I hf st hg
    subst hP hw hK
    obtain ⟨f0, f1, f2, f3, f4, f5⟩ := hf it (by simp)
    exact wpAny_pyNext_range_end (I.ok.hd hc) st (by have : n ≤ i := hg; omega) fun h' eb => ⟨rfl, I.turned (t' := s.toks) (fun b o hb e => eb b o hb e) f0 f1 f3 f4 f5⟩
  self := fun _ _ _ _ _ st h => wpAny_pyIter_rangeiter st h
end L2

namespace L2
open PySem PySem.Spec PyProof.Rows
section
variable {X : Cx} {tg : Expr}
def iList (K : PySem.W.Frag) (tl : TE) : TI := fun σ H R => tl σ H fun x H1 => ∃ a, x = .ref a ∧ (∃ xs, SqL K H1 a xs) ∧ R (Itl K a) H1
def iTup (K : PySem.W.Frag) (tl : TE) : TI := fun σ H R => tl σ H fun x H1 => ∃ a, x = .ref a ∧ (∃ xs, SqT K H1 a xs) ∧ R (Itt K a) H1
theorem pi_list {l : Expr} {tl : TE} (hl : PE X l tl) : PI X tg l (iList X.K tl) := by
  intro pins s σ H R I h
  refine thn (hl pins s σ H _ I h) fun v s1 ⟨x, H1, I1, r1, q1⟩ => ?_
  obtain ⟨a, e, ⟨xs, hq⟩, q⟩ := q1
  subst e
  cases r1
  obtain ⟨its, rv, p, hz⟩ := I1.list hq
  refine wpAny_pyIter_list p.isList ?_
  refine ⟨s1.heap.objs.size, [s1.heap.objs.size], _, _, H1, rfl, I1.kept (t' := s1.toks) fun b o e => Heap.get?_push_of_some _ e, turn_list a _, ⟨_, Heap.get?_push_size _ rfl, rfl, rfl⟩, fun b hb => ?_, q⟩
  have e : b = s1.heap.objs.size := by simpa using hb
  subst e
  exact I1.fpOk (Nat.le_refl _) (I1.hok.fresh (Nat.le_refl _))
theorem pi_tup {l : Expr} {tl : TE} (hl : PE X l tl) : PI X tg l (iTup X.K tl) := by
  intro pins s σ H R I h
  refine thn (hl pins s σ H _ I h) fun v s1 ⟨x, H1, I1, r1, q1⟩ => ?_
  obtain ⟨a, e, ⟨xs, hq⟩, q⟩ := q1
  subst e
  cases r1
  obtain ⟨its, rv, p, hz⟩ := I1.tuple hq
  refine wpAny_pyIter_tuple (show s1.heap.IsTuple a its.toArray from p) ?_
  refine ⟨s1.heap.objs.size, [s1.heap.objs.size], _, _, H1, rfl, I1.kept (t' := s1.toks) fun b o e => Heap.get?_push_of_some _ e, turn_tuple a _, ⟨_, Heap.get?_push_size _ rfl, rfl, rfl⟩, fun b hb => ?_, q⟩
  have e : b = s1.heap.objs.size := by simpa using hb
  subst e
  exact I1.fpOk (Nat.le_refl _) (I1.hok.fresh (Nat.le_refl _))
/-- a range object just made, walked -/
theorem range_it {pins : List (Addr × Obj)} {σ : St} {H : Hp} {s : Shared} {R : It → Hp → Prop} {E : Value → Shared → Prop} {lo hi : Int} {t u v : Tok} {tk : Nat} (I : Inv X pins σ H s) (h1 : -(2 ^ 62) ≤ lo) (h2 : lo < 2 ^ 62) (h3 : -(2 ^ 62) ≤ hi) (h4 : hi < 2 ^ 62)
    (q : R (Itr lo (hi - lo).toNat) H) : wpAny (model X.prog X.w) X.A (pyIter (.ref s.heap.objs.size)) (PIE X pins σ tg R) E { s with heap := s.heap.push { cls := .type "range", data := .fields #[.int lo t, .int hi u, .int 1 v] }, toks := tk } := by
  refine wpAny_pyIter_range (IsRange.new ..) (small_one h1 h2 h3 h4) ?_
  have I1 : Inv X pins σ H { s with heap := s.heap.push { cls := .type "range", data := .fields #[.int lo t, .int hi u, .int 1 v] }, toks := tk } := I.kept fun b o e => Heap.get?_push_of_some _ e
  refine ⟨(s.heap.push { cls := .type "range", data := .fields #[.int lo t, .int hi u, .int 1 v] }).objs.size, [(s.heap.push { cls := .type "range", data := .fields #[.int lo t, .int hi u, .int 1 v] }).objs.size], _, _, H, rfl,
    I1.kept (t' := tk) fun b o e => Heap.get?_push_of_some _ e, turn_range _ lo (hi - lo).toNat, ?_, fun b hb => ?_, q⟩
  · have e1 : lo + ((0 : Nat) : Int) * 1 = lo := by simp
    have e2 : (((hi - lo).toNat : Nat) : Int) - ((0 : Nat) : Int) = Builtin.Range.rangeSize lo hi 1 := by rw [rangeSize_one]; split <;> omega
    show IsRangeIter _ _ (lo + ((0 : Nat) : Int) * 1) ((((hi - lo).toNat : Nat) : Int) - ((0 : Nat) : Int)) 1
    rw [e1, e2]
    exact Heap.get?_push_size _ rfl
  · have e : b = (s.heap.push { cls := .type "range", data := .fields #[.int lo t, .int hi u, .int 1 v] }).objs.size := by simpa using hb
    subst e
    exact I1.fpOk (Nat.le_refl _) (I1.hok.fresh (Nat.le_refl _))
def iRng1 (ta : TA) : TI := fun σ H R => ta σ H fun vs H1 => ∃ j : Int, vs = [.int j] ∧ -(2 ^ 62) ≤ j ∧ j < 2 ^ 62 ∧ R (Itr 0 j.toNat) H1
theorem pi_range1 {a : Expr} {ta : TA} {p pos : Pos} (hg : Gl X "range") (hm : X.mg "range" = none) (ha : PA X [a] ta) (hs : starEach [a] X.env = [(false, eval a X.env)] := by rfl) : PI X tg (.Call (.Name "range" p) [a] [] pos) (iRng1 ta) := by
  intro pins s σ H R I h
  refine Call_ (ld_blt I hg hm boot_range (PyProof.Rows.callWith_type1 (thn (ha pos pins s σ H _ I h) fun us s1 ⟨vs, H1, I1, r1, q1⟩ => ?_) hs rfl))
  obtain ⟨j, e, q1, q2, q⟩ := q1
  subst e
  cases r1 with
  | cons r rr =>
    cases rr
    obtain ⟨t, rfl⟩ := r
    exact call_range_1 (range_it I1 (by omega) (by omega) q1 q2 (by simpa using q))

/-! ### for -/
/-- W: the invariant by the turn and a measure; N: what the body is to reach -/
def tFor (wi : TI) (g : TG) (tb : TS) : TS := fun D σ H => wi σ H fun J H1 => ∃ W : Nat → Nat → St → Hp → Prop, (∃ m, W 0 m σ H1) ∧ ∀ i m σ H, W i m σ H →
  (J.stop i H ∧ D.nx σ H) ∨ (J.go i H ∧ ∃ N : St → Hp → Prop, (∀ σ' H', N σ' H' → ∃ m', m' < m ∧ W (i + 1) m' σ' H') ∧ ∀ x H', J.yld i H x H' → g x σ H' fun σ2 H2 => tb { D with nx := N, ct := N, bk := D.nx } σ2 H2)
/-- the records at fp as they stand -/
def pinsAt (fp : List Addr) (h : Heap) : List (Addr × Obj) := fp.filterMap fun b => (h.get? b).map fun o => (b, o)
theorem mem_pinsAt {fp : List Addr} {h : Heap} {b : Addr} {o : Obj} (hb : b ∈ fp) (e : h.get? b = some o) : (b, o) ∈ pinsAt fp h := List.mem_filterMap.mpr ⟨b, hb, by rw [e]; rfl⟩
theorem of_pinsAt {fp : List Addr} {h : Heap} {p : Addr × Obj} (hp : p ∈ pinsAt fp h) : p.1 ∈ fp ∧ h.get? p.1 = some p.2 := by
  obtain ⟨b, hb, e⟩ := List.mem_filterMap.mp hp
  cases q : h.get? b with
  | none => rw [q] at e; cases e
  | some o =>
    rw [q] at e
    have e' : (b, o) = p := Option.some.inj e
    subst e'
    exact ⟨hb, q⟩
theorem Inv.pinned {pins : List (Addr × Obj)} {σ : St} {H : Hp} {s : Shared} {fp : List Addr} (I : Inv X pins σ H s) (hf : ∀ b ∈ fp, FpOk X pins H b) (ho : ∀ b ∈ fp, ∃ o, s.heap.get? b = some o ∧ ∀ v, o.data ≠ .cell v) : Inv X (pins ++ pinsAt fp s.heap) σ H s :=
  I.pins_of fun p hp => (List.mem_append.mp hp).elim (fun z => I.pin p (List.mem_append_right _ z)) fun z => by
    obtain ⟨hb, e⟩ := of_pinsAt z
    obtain ⟨f0, f1, f2, _⟩ := hf p.1 hb
    obtain ⟨o, e', d⟩ := ho p.1 hb
    rw [e] at e'; cases e'
    exact ⟨e, f0, f1, f2, d⟩
theorem Inv.unpinned {pins pl : List (Addr × Obj)} {σ : St} {H : Hp} {s : Shared} (I : Inv X (pins ++ pl) σ H s) : Inv X pins σ H s := I.pins_of fun p hp => I.pin p (List.mem_append_right _ (List.mem_append_left _ hp))
theorem ps_for {iter : Expr} {body : List Stmt} {wi : TI} {g : TG} {tb : TS} {pos : Pos} (hp : PassesOwn (model X.prog X.w) X.A X.env X.xe) (hc : X.calm = true) (hi : PI X tg iter wi) (hg : PG X tg g) (hb : PSs X body tb)
    (hs : ∀ x, foldedSetIterable iter X.env x = pure x := by intro _; rfl) : PS X (.For tg iter body [] pos) (tFor wi g tb) := by
  intro pins s σ H D I h
  refine wpAny_For (thn (hi pins s σ H _ I h) fun v s1 h1 => thn h1 fun itv s2 h2 => ?_) hs
  obtain ⟨it, fp, tn, J, H2, e, I2, T, st2, f2, W, ⟨m0, w0⟩, turn⟩ := h2
  subst e
  -- what stays true of the iterator's objects through the loop
  have stat : ∀ {H' : Hp}, (∀ b ∈ fp, H' b = none) → ∀ b ∈ fp, FpOk X pins H' b := fun hn b hb => ⟨hn b hb, (f2 b hb).2⟩
  refine codeAny_forLoop_any (fun n s' => ∃ i σ' H', Inv X pins σ' H' s' ∧ tn i s'.heap ∧ (∀ b ∈ fp, H' b = none) ∧ W i n σ' H') ?_ m0 ⟨0, σ, H2, I2, st2, fun b hb => (f2 b hb).1, w0⟩
  rintro n s3 ⟨i, σ3, H3, I3, st3, fr3, w3⟩
  rcases turn i n σ3 H3 w3 with ⟨stop, qn⟩ | ⟨go, N, hN, step⟩
  · refine wpAny_passesOwn hp (thn (T.done X rfl rfl rfl hc i pins s3 σ3 H3 X.xe I3 (stat fr3) st3 stop) fun r s4 ⟨hr, I4⟩ => ?_)
    subst hr
    exact wpAny_execs_nil ⟨σ3, H3, I4, qn⟩
  · refine wpAny_passesOwn hp (thn (T.item X rfl rfl rfl hc i pins s3 σ3 H3 X.xe I3 (stat fr3) st3 go) fun r s4 ⟨u, hr, h4⟩ => ?_)
    subst hr
    refine wpAny_passesOwn hp (thn h4 fun _ s5 ⟨x, H5, I5, r5, y5, st5, fr5⟩ => ?_)
    have I5' := I5.pinned (stat fr5) (T.obj _ _ st5)
    refine wpAny_passesOwn hp (thn (hg _ s5 σ3 H5 x u _ I5' r5 (step x H5 y5)) fun _ s6 ⟨σ6, H6, I6, q6⟩ => ?_)
    refine wpAny_passesOwn hp (thn (hb _ s6 σ6 H6 _ I6 q6) fun f s7 q7 => ?_)
    have again : ∀ {σ7 : St} {H7 : Hp}, Inv X (pins ++ pinsAt fp s5.heap) σ7 H7 s7 → N σ7 H7 → ∃ m, m < n ∧ ∃ i σ' H', Inv X pins σ' H' s7 ∧ tn i s7.heap ∧ (∀ b ∈ fp, H' b = none) ∧ W i m σ' H' := fun {σ7 H7} I7 n7 => by
      obtain ⟨m', hm, w7⟩ := hN σ7 H7 n7
      refine ⟨m', hm, i + 1, σ7, H7, I7.unpinned, T.keep _ _ _ st5 fun b hb o e => (I7.pin (b, o) (List.mem_append_right _ (List.mem_append_right _ (mem_pinsAt hb e)))).1, fun b hb => ?_, w7⟩
      obtain ⟨o, e, d⟩ := T.obj _ _ st5 b hb
      exact (I7.pin (b, o) (List.mem_append_right _ (List.mem_append_right _ (mem_pinsAt hb e)))).2.1
    cases f with
    | next => obtain ⟨σ7, H7, I7, n7⟩ := q7; exact again I7 n7
    | cont => obtain ⟨σ7, H7, I7, n7⟩ := q7; exact again I7 n7
    | brk => obtain ⟨σ7, H7, I7, q7⟩ := q7; exact ⟨σ7, H7, I7.unpinned, q7⟩
    | ret v => obtain ⟨x7, σ7, H7, I7, r7, q7⟩ := q7; exact ⟨x7, σ7, H7, I7.unpinned, r7, q7⟩
end

/-! ### the forms one uses -/
/-- over a list that the body leaves as it is -/
theorem for_list {K : PySem.W.Frag} {a : Addr} {xs : List V} {g : TG} {tb : TS} {D : Ends} {σ : St} {H : Hp} (Pv : Nat → St → Hp → Prop) (h0 : Pv 0 σ H) (hl : ∀ i σ H, i ≤ xs.length → Pv i σ H → SqL K H a xs)
    (hs : ∀ i x σ H, xs[i]? = some x → Pv i σ H → g x σ H fun σ2 H2 => tb { D with nx := Pv (i + 1), ct := Pv (i + 1), bk := D.nx } σ2 H2) (hd : ∀ σ H, Pv xs.length σ H → D.nx σ H) :
    ∃ W : Nat → Nat → St → Hp → Prop, (∃ m, W 0 m σ H) ∧ ∀ i m σ H, W i m σ H →
      ((Itl K a).stop i H ∧ D.nx σ H) ∨ ((Itl K a).go i H ∧ ∃ N : St → Hp → Prop, (∀ σ' H', N σ' H' → ∃ m', m' < m ∧ W (i + 1) m' σ' H') ∧ ∀ x H', (Itl K a).yld i H x H' → g x σ H' fun σ2 H2 => tb { D with nx := N, ct := N, bk := D.nx } σ2 H2) := by
  refine ⟨fun i m σ H => m = xs.length - i ∧ i ≤ xs.length ∧ Pv i σ H, ⟨xs.length, by simp, Nat.zero_le _, h0⟩, ?_⟩
  rintro i m σ H ⟨rfl, hi, p⟩
  have q := hl i σ H hi p
  by_cases hlt : i < xs.length
  · refine .inr ⟨⟨xs, xs[i], q, by simp [hlt]⟩, Pv (i + 1), fun σ' H' p' => ⟨xs.length - (i + 1), by omega, rfl, hlt, p'⟩, fun x H' y => ?_⟩
    obtain ⟨e, y⟩ := y
    subst e
    exact hs i x σ _ (y xs q) p
  · have e : i = xs.length := by omega
    subst e
    exact .inl ⟨⟨xs, q, Nat.le_refl _⟩, hd σ H p⟩
theorem for_range {lo : Int} {n : Nat} {g : TG} {tb : TS} {D : Ends} {σ : St} {H : Hp} (Pv : Nat → St → Hp → Prop) (h0 : Pv 0 σ H)
    (hs : ∀ i σ H, i < n → Pv i σ H → g (.int (lo + i)) σ H fun σ2 H2 => tb { D with nx := Pv (i + 1), ct := Pv (i + 1), bk := D.nx } σ2 H2) (hd : ∀ σ H, Pv n σ H → D.nx σ H) :
    ∃ W : Nat → Nat → St → Hp → Prop, (∃ m, W 0 m σ H) ∧ ∀ i m σ H, W i m σ H →
      ((Itr lo n).stop i H ∧ D.nx σ H) ∨ ((Itr lo n).go i H ∧ ∃ N : St → Hp → Prop, (∀ σ' H', N σ' H' → ∃ m', m' < m ∧ W (i + 1) m' σ' H') ∧ ∀ x H', (Itr lo n).yld i H x H' → g x σ H' fun σ2 H2 => tb { D with nx := N, ct := N, bk := D.nx } σ2 H2) := by
  refine ⟨fun i m σ H => m = n - i ∧ i ≤ n ∧ Pv i σ H, ⟨n, by simp, Nat.zero_le _, h0⟩, ?_⟩
  rintro i m σ H ⟨rfl, hi, p⟩
  by_cases hlt : i < n
  · refine .inr ⟨hlt, Pv (i + 1), fun σ' H' p' => ⟨n - (i + 1), by omega, rfl, hlt, p'⟩, fun x H' y => ?_⟩
    obtain ⟨e, y⟩ := y
    subst e y
    exact hs i σ _ hlt p
  · have e : i = n := by omega
    subst e
    exact .inl ⟨Nat.le_refl _, hd σ H p⟩
end L2

namespace L2
open PySem PySem.Spec PyProof.Rows

abbrev R2 := V → V → Hp → VK → Prop
/-- a two-place operation on values: f is binaryOp op, inplaceOp op or compareOp op -/
def OpR (X : Cx) (f : Value → Value → Sem Value) (r : R2) : Prop :=
  ∀ (pins : List (Addr × Obj)) (s : Shared) (σ : St) (H : Hp) (x y : V) (v u : Value) (Q : VK), Inv X pins σ H s → RelV x v → RelV y u → r x y H Q →
    wpAny (model X.prog X.w) X.A (f v u) (EP X pins σ Q) X.xe s
/-- a one-place operation -/
def UnR (X : Cx) (f : Value → Sem Value) (r : V → Hp → VK → Prop) : Prop :=
  ∀ (pins : List (Addr × Obj)) (s : Shared) (σ : St) (H : Hp) (x : V) (v : Value) (Q : VK), Inv X pins σ H s → RelV x v → r x H Q →
    wpAny (model X.prog X.w) X.A (f v) (EP X pins σ Q) X.xe s
/-- a call of a value that is known (a builtin, a type) with values -/
def CallR (X : Cx) (f : Value) (r : List V → Hp → VK → Prop) : Prop :=
  ∀ (pins : List (Addr × Obj)) (s : Shared) (σ : St) (H : Hp) (xs : List V) (us : List Value) (Q : VK), Inv X pins σ H s → Vals xs us → r xs H Q →
    wpAny (model X.prog X.w) X.A (call f us) (EP X pins σ Q) X.xe s
/-- a value's truth -/
def TruR (X : Cx) (r : V → Hp → (Bool → Hp → Prop) → Prop) : Prop :=
  ∀ (pins : List (Addr × Obj)) (s : Shared) (σ : St) (H : Hp) (x : V) (v : Value) (Q : Bool → Hp → Prop), Inv X pins σ H s → RelV x v → r x H Q →
    wpAny (model X.prog X.w) X.A (truthy v) (TP X pins σ Q) X.xe s

def tOp (r : R2) (ta tb : TE) : TE := fun σ H Q => ta σ H fun x H1 => tb σ H1 fun y H2 => r x y H2 Q
def tUn (r : V → Hp → VK → Prop) (ta : TE) : TE := fun σ H Q => ta σ H fun x H1 => r x H1 Q
/-- ints in, under C, and a value out -/
def rI (C : Int → Int → Prop) (g : Int → Int → V) : R2 := fun x y H Q => ∃ i j, x = .int i ∧ y = .int j ∧ C i j ∧ Q (g i j) H
def rI0 (g : Int → Int → V) : R2 := fun x y H Q => ∃ i j, x = .int i ∧ y = .int j ∧ Q (g i j) H
def rU (g : Int → V) : V → Hp → VK → Prop := fun x H Q => ∃ i, x = .int i ∧ Q (g i) H

section
variable {X : Cx} {a b c : Expr} {ta tb tc : TE} {pos : Pos}

theorem binT (ha : PE X a ta) (hb : PE X b tb) {pins : List (Addr × Obj)} {s : Shared} {σ : St} {H : Hp} {R : V → V → Hp → Prop} (I : Inv X pins σ H s)
    (h : ta σ H fun x H1 => tb σ H1 fun y H2 => R x y H2) {Q : Value → Shared → Prop} {f : Value → Value → Sem Value}
    (hf : ∀ v u s2 x y H2, Inv X pins σ H2 s2 → RelV x v → RelV y u → R x y H2 → wpAny (model X.prog X.w) X.A (f v u) Q X.xe s2) :
    wpAny (model X.prog X.w) X.A (eval a X.env) (fun v s₁ => wpAny (model X.prog X.w) X.A (eval b X.env) (fun u s₂ => wpAny (model X.prog X.w) X.A (f v u) Q X.xe s₂) X.xe s₁) X.xe s := by
  refine thn (ha pins s σ H _ I h) fun v s1 ⟨x, H1, I1, r1, q1⟩ => ?_
  refine thn (hb pins s1 σ H1 _ I1 q1) fun u s2 ⟨y, H2, I2, r2, q2⟩ => ?_
  exact hf v u s2 x y H2 I2 r1 r2 q2

theorem pe_op {op : Operator} {r : R2} (ho : OpR X (binaryOp op) r) (ha : PE X a ta) (hb : PE X b tb) : PE X (.BinOp a op b pos) (tOp r ta tb) := by
  intro pins s σ H Q I h
  exact wpAny_BinOp (binT ha hb I h fun v u s2 x y H2 I2 rx ry q => ho pins s2 σ H2 x y v u Q I2 rx ry q)
theorem pe_un {op : UnaryOp} {r : V → Hp → VK → Prop} (ho : UnR X (unaryOp op) r) (ha : PE X a ta) : PE X (.UnaryOp op a pos) (tUn r ta) := by
  intro pins s σ H Q I h
  exact UnaryOp_ (thn (ha pins s σ H _ I h) fun v s1 ⟨x, H1, I1, r1, q1⟩ => ho pins s1 σ H1 x v Q I1 r1 q1)

/-! ### ints -/
theorem opI {f : Value → Value → Sem Value} {C : Int → Int → Prop} {g : Int → Int → Int}
    (rule : ∀ (i j : Int) (t u : Tok) (s : Shared) (Q : Value → Shared → Prop) (E : Value → Shared → Prop), C i j → Q (.int (g i j) s.toks) { s with toks := s.toks + 1 } → wpAny (model X.prog X.w) X.A (f (.int i t) (.int j u)) Q E s) :
    OpR X f (rI C fun i j => .int (g i j)) := by
  intro pins s σ H x y v u Q I rx ry h
  obtain ⟨i, j, rfl, rfl, hc, q⟩ := h
  obtain ⟨t, rfl⟩ := rx
  obtain ⟨t', rfl⟩ := ry
  exact rule i j t t' s _ _ hc ⟨.int (g i j), H, I.tok _, ⟨_, rfl⟩, q⟩
theorem opI0 {f : Value → Value → Sem Value} {g : Int → Int → Int}
    (rule : ∀ (i j : Int) (t u : Tok) (s : Shared) (Q : Value → Shared → Prop) (E : Value → Shared → Prop), Q (.int (g i j) s.toks) { s with toks := s.toks + 1 } → wpAny (model X.prog X.w) X.A (f (.int i t) (.int j u)) Q E s) :
    OpR X f (rI0 fun i j => .int (g i j)) := by
  intro pins s σ H x y v u Q I rx ry h
  obtain ⟨i, j, rfl, rfl, q⟩ := h
  obtain ⟨t, rfl⟩ := rx
  obtain ⟨t', rfl⟩ := ry
  exact rule i j t t' s _ _ ⟨.int (g i j), H, I.tok _, ⟨_, rfl⟩, q⟩
theorem opB0 {f : Value → Value → Sem Value} {g : Int → Int → Bool}
    (rule : ∀ (i j : Int) (t u : Tok) (s : Shared) (Q : Value → Shared → Prop) (E : Value → Shared → Prop), Q (.bool (g i j)) s → wpAny (model X.prog X.w) X.A (f (.int i t) (.int j u)) Q E s) :
    OpR X f (rI0 fun i j => .bl (g i j)) := by
  intro pins s σ H x y v u Q I rx ry h
  obtain ⟨i, j, rfl, rfl, q⟩ := h
  obtain ⟨t, rfl⟩ := rx
  obtain ⟨t', rfl⟩ := ry
  exact rule i j t t' s _ _ ⟨.bl (g i j), H, I, rfl, q⟩

def CDiv (i j : Int) : Prop := 0 < j ∧ j < 1073741824
def CPow (i j : Int) : Prop := 0 ≤ j ∧ j ≤ 1000000 ∧ i.natAbs < 2 ^ 64

theorem op_add : OpR X (binaryOp .Add) (rI0 fun i j => .int (i + j)) := opI0 fun _ _ _ _ _ _ _ q => add_int q
theorem op_sub : OpR X (binaryOp .Sub) (rI0 fun i j => .int (i - j)) := opI0 fun _ _ _ _ _ _ _ q => sub_int q
/-- // by a positive divisor -/
theorem op_fdiv : OpR X (binaryOp .FloorDiv) (rI CDiv fun i j => .int (i / j)) := opI fun i j _ _ _ _ _ hc q => by
  have h1 : (0 : Int) < j := hc.1
  have h2 : j < 1073741824 := hc.2
  exact floordiv_int (by omega) (by rw [Int.fdiv_eq_ediv_of_nonneg i (by omega)]; exact q) (.inl (PyProof.noPylong_small (by omega)))
/-- % by a positive divisor of any size -/
theorem op_mod : OpR X (binaryOp .Mod) (rI (fun _ j => 0 < j) fun i j => .int (i % j)) := opI fun i j _ _ _ _ _ hc q => by
  have h1 : (0 : Int) < j := hc
  exact mod_int' (by omega) (by rw [Int.fmod_eq_emod_of_nonneg i (by omega)]; exact q)
theorem op_modN : OpR X (binaryOp .Mod) (rI (fun _ j => j ≠ 0) fun i j => .int (i.fmod j)) := opI fun _ _ _ _ _ _ _ hc q => mod_int' hc q
theorem op_pow : OpR X (binaryOp .Pow) (rI CPow fun i j => .int (i ^ j.toNat)) := opI fun _ _ _ _ _ _ _ hc q => pow_int_small hc.1 hc.2.1 hc.2.2 q


theorem unI {f : Value → Sem Value} {g : Int → Int}
    (rule : ∀ (i : Int) (t : Tok) (s : Shared) (Q : Value → Shared → Prop) (E : Value → Shared → Prop), Q (.int (g i) s.toks) { s with toks := s.toks + 1 } → wpAny (model X.prog X.w) X.A (f (.int i t)) Q E s) :
    UnR X f (rU fun i => .int (g i)) := by
  intro pins s σ H x v Q I rx h
  obtain ⟨i, rfl, q⟩ := h
  obtain ⟨t, rfl⟩ := rx
  exact rule i t s _ _ ⟨.int (g i), H, I.tok _, ⟨_, rfl⟩, q⟩
theorem un_neg : UnR X (unaryOp .USub) (rU fun i => .int (-i)) := unI fun _ _ _ _ _ q => neg_int q

/-! ### bools among ints: n += (a < b) -/
end

/-! ### comparisons -/
/-- the scalars that == tells apart as data does -/
def scal : V → V → Bool
  | .non, .non => true | .non, .int _ => true | .int _, .non => true | .non, .bl _ => true | .bl _, .non => true | .non, .str _ => true | .str _, .non => true
  | .int _, .int _ => true | .bl _, .bl _ => true | .str _, .str _ => true | .byt _, .byt _ => true
  | .int _, .str _ => true | .str _, .int _ => true | .bl _, .str _ => true | .str _, .bl _ => true
  | _, _ => false
def rEq : R2 := fun x y H Q => scal x y = true ∧ Q (.bl (decide (x = y))) H
def rNe : R2 := fun x y H Q => scal x y = true ∧ Q (.bl (!decide (x = y))) H

theorem dec_int {i j : Int} : decide (V.int i = V.int j) = (i == j) := by
  rw [Bool.eq_iff_iff]
  simp
theorem dec_bl {i j : Bool} : decide (V.bl i = V.bl j) = (i == j) := by
  rw [Bool.eq_iff_iff]
  simp
theorem dec_str {i j : Str} : decide (V.str i = V.str j) = (i == j) := by
  rw [Bool.eq_iff_iff]
  simp
theorem dec_byt {i j : Array UInt8} : decide (V.byt i = V.byt j) = (i.toList == j.toList) := by
  rw [Bool.eq_iff_iff]
  cases i
  cases j
  simp

section
variable {X : Cx} {a b c : Expr} {ta tb tc : TE} {pos : Pos}
theorem fin_bl {pins : List (Addr × Obj)} {σ : St} {H : Hp} {s : Shared} {Q : VK} {k k' : Bool} (I : Inv X pins σ H s) (q : Q (.bl k) H) (e : k = k') : EP X pins σ Q (.bool k') s := by
  subst e
  exact ⟨.bl k, H, I, rfl, q⟩
theorem op_eq : OpR X (compareOp .Eq) rEq := by
  intro pins s σ H x y v u Q I rx ry h
  obtain ⟨hs, q⟩ := h
  cases x with
  | non =>
    cases rx
    cases y with
    | non => cases ry; exact PySem.EqNone.eq_none_none (fin_bl I q (by simp))
    | bl j => cases ry; exact PySem.EqNone.eq_none_bool (fin_bl I q (by simp))
    | int j => obtain ⟨t', rfl⟩ := ry; exact PySem.EqNone.eq_none_int (fin_bl I q (by simp))
    | str j => obtain ⟨t', rfl⟩ := ry; exact PySem.EqNone.eq_none_str (fin_bl I q (by simp))
    | _ => exact absurd (show false = true from hs) Bool.false_ne_true
  | bl i =>
    cases rx
    cases y with
    | non => cases ry; exact PySem.EqNone.eq_bool_none (fin_bl I q (by simp))
    | bl j => cases ry; exact eq_bool (fin_bl I q dec_bl)
    | str j => obtain ⟨t', rfl⟩ := ry; exact PySem.EqMixed.eq_bool_str (fin_bl I q (by simp))
    | _ => exact absurd (show false = true from hs) Bool.false_ne_true
  | int i =>
    obtain ⟨t, rfl⟩ := rx
    cases y with
    | non => cases ry; exact PySem.EqNone.eq_int_none (fin_bl I q (by simp))
    | int j => obtain ⟨t', rfl⟩ := ry; exact eq_int (fin_bl I q dec_int)
    | str j => obtain ⟨t', rfl⟩ := ry; exact PySem.EqMixed.eq_int_str (fin_bl I q (by simp))
    | _ => exact absurd (show false = true from hs) Bool.false_ne_true
  | str i =>
    obtain ⟨t, rfl⟩ := rx
    cases y with
    | non => cases ry; exact PySem.EqNone.eq_str_none (fin_bl I q (by simp))
    | bl j => cases ry; exact PySem.EqMixed.eq_str_bool (fin_bl I q (by simp))
    | int j => obtain ⟨t', rfl⟩ := ry; exact PySem.EqMixed.eq_str_int (fin_bl I q (by simp))
    | str j => obtain ⟨t', rfl⟩ := ry; exact eq_str (fin_bl I q dec_str)
    | _ => exact absurd (show false = true from hs) Bool.false_ne_true
  | byt i =>
    obtain ⟨t, rfl⟩ := rx
    cases y with
    | byt j => obtain ⟨t', rfl⟩ := ry; exact PySem.W.eq_bytes (fin_bl I q dec_byt)
    | _ => exact absurd (show false = true from hs) Bool.false_ne_true
  | _ => cases y <;> exact absurd (show false = true from hs) Bool.false_ne_true
theorem op_ne : OpR X (compareOp .NotEq) rNe := by
  intro pins s σ H x y v u Q I rx ry h
  obtain ⟨hs, q⟩ := h
  cases x with
  | non =>
    cases rx
    cases y with
    | non => cases ry; exact PySem.EqNone.ne_none_none (fin_bl I q (by simp))
    | bl j => cases ry; exact PySem.EqNone.ne_none_bool (fin_bl I q (by simp))
    | int j => obtain ⟨t', rfl⟩ := ry; exact PySem.EqNone.ne_none_int (fin_bl I q (by simp))
    | str j => obtain ⟨t', rfl⟩ := ry; exact PySem.EqNone.ne_none_str (fin_bl I q (by simp))
    | _ => exact absurd (show false = true from hs) Bool.false_ne_true
  | bl i =>
    cases rx
    cases y with
    | non => cases ry; exact PySem.EqNone.ne_bool_none (fin_bl I q (by simp))
    | bl j => cases ry; exact ne_bool (fin_bl I q (congrArg not dec_bl))
    | str j => obtain ⟨t', rfl⟩ := ry; exact PySem.EqMixed.ne_bool_str (fin_bl I q (by simp))
    | _ => exact absurd (show false = true from hs) Bool.false_ne_true
  | int i =>
    obtain ⟨t, rfl⟩ := rx
    cases y with
    | non => cases ry; exact PySem.EqNone.ne_int_none (fin_bl I q (by simp))
    | int j => obtain ⟨t', rfl⟩ := ry; exact ne_int (fin_bl I q (congrArg not dec_int))
    | str j => obtain ⟨t', rfl⟩ := ry; exact PySem.EqMixed.ne_int_str (fin_bl I q (by simp))
    | _ => exact absurd (show false = true from hs) Bool.false_ne_true
  | str i =>
    obtain ⟨t, rfl⟩ := rx
    cases y with
    | non => cases ry; exact PySem.EqNone.ne_str_none (fin_bl I q (by simp))
    | bl j => cases ry; exact PySem.EqMixed.ne_str_bool (fin_bl I q (by simp))
    | int j => obtain ⟨t', rfl⟩ := ry; exact PySem.EqMixed.ne_str_int (fin_bl I q (by simp))
    | str j => obtain ⟨t', rfl⟩ := ry; exact ne_str (fin_bl I q (congrArg not dec_str))
    | _ => exact absurd (show false = true from hs) Bool.false_ne_true
  | byt i =>
    obtain ⟨t, rfl⟩ := rx
    cases y with
    | byt j => obtain ⟨t', rfl⟩ := ry; exact PySem.W.ne_bytes (fin_bl I q (congrArg not dec_byt))
    | _ => exact absurd (show false = true from hs) Bool.false_ne_true
  | _ => cases y <;> exact absurd (show false = true from hs) Bool.false_ne_true

theorem op_lt : OpR X (compareOp .Lt) (rI0 fun i j => .bl (decide (i < j))) := opB0 fun _ _ _ _ _ _ _ q => lt_int q
theorem op_le : OpR X (compareOp .LtE) (rI0 fun i j => .bl (decide (i ≤ j))) := opB0 fun _ _ _ _ _ _ _ q => le_int q
theorem op_gt : OpR X (compareOp .Gt) (rI0 fun i j => .bl (decide (j < i))) := opB0 fun _ _ _ _ _ _ _ q => gt_int q
theorem op_ge : OpR X (compareOp .GtE) (rI0 fun i j => .bl (decide (j ≤ i))) := opB0 fun _ _ _ _ _ _ _ q => ge_int q

theorem op_notN : OpR X (compareOp .IsNot) (fun x y H Q => y = .non ∧ Q (.bl (!decide (x = .non))) H) := by
  intro pins s σ H x y v u Q I rx ry h
  obtain ⟨rfl, q⟩ := h
  cases ry
  refine isnot_none_gen (fin_bl I q ?_)
  cases x <;> first
    | (cases rx; rfl)
    | (obtain ⟨t, rfl⟩ := rx; rfl)



theorem nomark (b : Expr) {op : CmpOp} (h : op ≠ .In := by decide) (h2 : op ≠ .NotIn := by decide) : behindInMarks op b = false := by
  have e1 : (op == CmpOp.In) = false := by cases op <;> first | rfl | exact absurd rfl h
  have e2 : (op == CmpOp.NotIn) = false := by cases op <;> first | rfl | exact absurd rfl h2
  cases b <;> simp [behindInMarks, e1, e2]
/-- a comparison as a value; hm: nomark b, or (for in, not in) by with_unfolding_all rfl -/
theorem pe_cmpR {op : CmpOp} {r : R2} (ho : OpR X (compareOp op) r) (ha : PE X a ta) (hb : PE X b tb) (hm : behindInMarks op b = false) : PE X (.Compare a [op] [b] pos) (tOp r ta tb) := by
  intro pins s σ H Q I h
  exact wpAny_Compare1 (binT ha hb I h fun v u s2 x y H2 I2 rx ry q => ho pins s2 σ H2 x y v u Q I2 rx ry q) hm
/-- a reading of a value as a test -/
def tTest (t : TE) : TT := fun σ H Q => t σ H fun x H' => ∃ k, x = .bl k ∧ Q k H'
theorem pt_cmpR {op : CmpOp} {r : R2} (ho : OpR X (compareOp op) r) (ha : PE X a ta) (hb : PE X b tb) (hm : behindInMarks op b = false) : PT X (.Compare a [op] [b] pos) (tTest (tOp r ta tb)) := by
  intro pins s σ H Q I h
  refine wpAny_isTrue_Compare1 (thn (ha pins s σ H _ I h) fun v s1 ⟨x, H1, I1, r1, q1⟩ => thn (hb pins s1 σ H1 _ I1 q1) fun u s2 ⟨y, H2, I2, r2, q2⟩ =>
    thn (ho pins s2 σ H2 x y v u _ I2 r1 r2 q2) fun c s3 ⟨z, H3, I3, r3, k, e, q3⟩ => ?_) hm
  subst e
  cases r3
  exact wpAny_truthy_bool ⟨H3, I3, q3⟩
/-- a op1 b op2 c -/
def tChain (r r' : R2) (ta tb tc : TE) : TE := fun σ H Q => ta σ H fun x H1 => tb σ H1 fun y H2 => r x y H2 fun z H3 => ∃ k, z = .bl k ∧
  (if k = true then tc σ H3 fun w' H4 => r' y w' H4 Q else Q (.bl false) H3)
theorem pe_chain {op op' : CmpOp} {r r' : R2} (ho : OpR X (compareOp op) r) (ho' : OpR X (compareOp op') r') (ha : PE X a ta) (hb : PE X b tb) (hc : PE X c tc)
    (hm : lastMarks [op, op'] [b, c] = false := by with_unfolding_all rfl) : PE X (.Compare a [op, op'] [b, c] pos) (tChain r r' ta tb tc) := by
  intro pins s σ H Q I h
  refine Compare_chain (thn (ha pins s σ H _ I h) fun v s1 ⟨x, H1, I1, r1, q1⟩ => chain_link (thn (hb pins s1 σ H1 _ I1 q1) fun u s2 ⟨y, H2, I2, r2, q2⟩ =>
    thn (ho pins s2 σ H2 x y v u _ I2 r1 r2 q2) fun d s3 ⟨z, H3, I3, r3, k, e, q3⟩ => ?_)) hm
  subst e
  cases r3
  refine wpAny_truthy_bool ?_
  cases k with
  | false => exact ite_ff ⟨.bl false, H3, I3, rfl, q3⟩
  | true => exact ite_tt (chain_last (thn (hc pins s3 σ H3 _ I3 q3) fun w' s4 ⟨z', H4, I4, r4, q4⟩ => ho' pins s4 σ H4 y z' u w' Q I4 r2 r4 q4))
theorem pt_chain {op op' : CmpOp} {r r' : R2} (ho : OpR X (compareOp op) r) (ho' : OpR X (compareOp op') r') (ha : PE X a ta) (hb : PE X b tb) (hc : PE X c tc)
    (hm : lastMarks [op, op'] [b, c] = false := by with_unfolding_all rfl) : PT X (.Compare a [op, op'] [b, c] pos) (tTest (tChain r r' ta tb tc)) := by
  intro pins s σ H Q I h
  refine isTrue_chain (thn (ha pins s σ H _ I h) fun v s1 ⟨x, H1, I1, r1, q1⟩ => test_link (thn (hb pins s1 σ H1 _ I1 q1) fun u s2 ⟨y, H2, I2, r2, q2⟩ =>
    thn (ho pins s2 σ H2 x y v u _ I2 r1 r2 q2) fun d s3 ⟨z, H3, I3, r3, k, e, q3⟩ => ?_)) hm
  subst e
  cases r3
  refine wpAny_truthy_bool ?_
  cases k with
  | false =>
    obtain ⟨k', e', q'⟩ := q3
    cases e'
    exact ite_ff ⟨H3, I3, q'⟩
  | true =>
    refine ite_tt (test_last (thn (hc pins s3 σ H3 _ I3 q3) fun w' s4 ⟨z', H4, I4, r4, q4⟩ => thn (ho' pins s4 σ H4 y z' u w' _ I4 r2 r4 q4) fun d' s5 ⟨z2, H5, I5, r5, k2, e2, q5⟩ => ?_))
    subst e2
    cases r5
    exact wpAny_truthy_bool ⟨H5, I5, q5⟩

/-! ### truth -/
/-- a value's truth by the abstract heap -/
def TruV (K : PySem.W.Frag) (x : V) (H : Hp) (k : Bool) : Prop :=
  match x with
  | .non => k = false
  | .bl b => k = b
  | .int i => k = (i != 0)
  | .str y => y.length ≤ sizeLine ∧ k = ((y.length : Int) != 0)
  | .byt y => y.size ≤ sizeLine ∧ k = ((y.size : Int) != 0)
  | .ref p => (∃ xs, SqL K H p xs ∧ k = !xs.isEmpty) ∨ (∃ xs, SqT K H p xs ∧ k = !xs.isEmpty) ∨ ∃ kvs, H p = some (.dK kvs) ∧ k = !kvs.isEmpty
  | _ => False
theorem isEmpty_kv {κ : Type} {kvs : List (κ × V)} {vs : List (κ × Value)} (r : KV kvs vs) : (!vs.isEmpty) = !kvs.isEmpty := by
  cases r <;> rfl
theorem isEmpty_of {xs : List V} {its : List Value} (r : Vals xs its) : (!its.toArray.isEmpty) = !xs.isEmpty := by
  cases r <;> simp
theorem line63 : (sizeLine : Nat) < 2 ^ 63 := by rw [sizeLine_eq]; decide
theorem tru_ok : TruR X (fun x H Q => ∃ k, TruV X.K x H k ∧ Q k H) := by
  intro pins s σ H x v Q I rx h
  obtain ⟨k, e, q⟩ := h
  have hl := line63
  have hs : sizeLine = 16777216 := sizeLine_eq
  cases x with
  | non =>
    cases rx
    have e' : k = false := e
    subst e'
    exact truthy_none ⟨H, I, q⟩
  | bl b =>
    cases rx
    have e' : k = b := e
    subst e'
    exact wpAny_truthy_bool ⟨H, I, q⟩
  | int i =>
    obtain ⟨t, rfl⟩ := rx
    have e' : k = (i != 0) := e
    subst e'
    exact PySem.P.truthy_int ⟨H, I, q⟩
  | str y =>
    obtain ⟨t, rfl⟩ := rx
    obtain ⟨hy, e'⟩ : y.length ≤ sizeLine ∧ k = ((y.length : Int) != 0) := e
    subst e'
    exact PySem.P.truthy_str (by omega) ⟨H, I.tok _, q⟩
  | byt y =>
    obtain ⟨t, rfl⟩ := rx
    obtain ⟨hy, e'⟩ : y.size ≤ sizeLine ∧ k = ((y.size : Int) != 0) := e
    subst e'
    exact PySem.W.truthy_bytes (by omega) ⟨H, I.tok _, q⟩
  | ref p =>
    cases rx
    have e' : (∃ xs, SqL X.K H p xs ∧ k = !xs.isEmpty) ∨ (∃ xs, SqT X.K H p xs ∧ k = !xs.isEmpty) ∨ ∃ kvs, H p = some (.dK kvs) ∧ k = !kvs.isEmpty := e
    rcases e' with ⟨xs, hx, e'⟩ | ⟨xs, hx, e'⟩ | ⟨kvs, hx, e'⟩
    · subst e'
      obtain ⟨its, r, pl, hz⟩ := I.list hx
      have hlen := r.length
      exact wpAny_truthy_list pl.isList (by simp only [List.size_toArray]; omega) ⟨H, I.tok _, by rw [isEmpty_of r]; exact q⟩
    · subst e'
      obtain ⟨its, r, pl, hz⟩ := I.tuple hx
      have hlen := r.length
      exact truthy_tuple pl (by simp only [List.size_toArray]; omega) ⟨H, I.tok _, by rw [isEmpty_of r]; exact q⟩
    · subst e'
      obtain ⟨hz, hS, vs, r, m⟩ : kvs.length ≤ sizeLine ∧ (p == sysModules) = false ∧ ∃ vs, KV kvs vs ∧ s.heap.DictOf (mixKind X.prog X.w) p vs := I.hok p _ hx
      have hlen : kvs.length = vs.length := Paired.length r
      exact wpAny_truthy_dict hS m (by omega) ⟨H, I.tok _, by rw [isEmpty_kv r]; exact q⟩
  | _ => exact (show False from e).elim
/-- any expression whose test is its value's truth (a name, a call, a subscript, a field ..: he by fun _ => rfl) -/
theorem pt_truth (ha : PE X a ta) (he : ∀ whole, isTrue a X.env whole = (do let v ← whole; standAt a.pos; holding [v] (truthy v))) :
    PT X a (fun σ H Q => ta σ H fun x H' => ∃ k, TruV X.K x H' k ∧ Q k H') := by
  intro pins s σ H Q I h
  exact isTrue_plain (thn (ha pins s σ H _ I h) fun v s1 ⟨x, H1, I1, r1, q1⟩ => tru_ok pins s1 σ H1 x v Q I1 r1 q1) (he _)

/-! ### strs and bytes -/


/-! ### scalar builtins, by CallR -/
theorem vals1 {x : V} {us : List Value} (r : Vals [x] us) : ∃ u, us = [u] ∧ RelV x u := by
  cases r with
  | cons r1 r2 => cases r2; exact ⟨_, rfl, r1⟩
theorem vals2 {x y : V} {us : List Value} (r : Vals [x, y] us) : ∃ u w', us = [u, w'] ∧ RelV x u ∧ RelV y w' := by
  cases r with
  | cons r1 r2 =>
    cases r2 with
    | cons r3 r4 => cases r4; exact ⟨_, _, rfl, r1, r3⟩
theorem call_abs : CallR X (.builtin "abs") (fun xs H Q => ∃ i, xs = [.int i] ∧ Q (.int (if i < 0 then -i else i)) H) := by
  intro pins s σ H xs us Q I r h
  obtain ⟨i, rfl, q⟩ := h
  obtain ⟨u, rfl, t, rfl⟩ := vals1 r
  exact call_abs_int fun u tk => ⟨.int (if i < 0 then -i else i), H, I.tok _, ⟨_, rfl⟩, q⟩
theorem call_max2 (hc : X.calm = true) : CallR X (.builtin "max") (fun xs H Q => ∃ i j, xs = [.int i, .int j] ∧ Q (.int (if j > i then j else i)) H) := by
  intro pins s σ H xs us Q I r h
  obtain ⟨i, j, rfl, q⟩ := h
  obtain ⟨u, w', rfl, ⟨t, rfl⟩, ⟨t', rfl⟩⟩ := vals2 r
  refine max_two_ints (I.ok.hd hc) fun h' tk k => ⟨_, H, I.kept k, ?_, q⟩
  by_cases hj : j > i
  · rw [if_pos hj, if_pos hj]; exact ⟨_, rfl⟩
  · rw [if_neg hj, if_neg hj]; exact ⟨_, rfl⟩
theorem call_min2 (hc : X.calm = true) : CallR X (.builtin "min") (fun xs H Q => ∃ i j, xs = [.int i, .int j] ∧ Q (.int (if j < i then j else i)) H) := by
  intro pins s σ H xs us Q I r h
  obtain ⟨i, j, rfl, q⟩ := h
  obtain ⟨u, w', rfl, ⟨t, rfl⟩, ⟨t', rfl⟩⟩ := vals2 r
  refine min_two_ints (I.ok.hd hc) fun h' tk k => ⟨_, H, I.kept k, ?_, q⟩
  by_cases hj : j < i
  · rw [if_pos hj, if_pos hj]; exact ⟨_, rfl⟩
  · rw [if_neg hj, if_neg hj]; exact ⟨_, rfl⟩
theorem call_int1 : CallR X (.type "int") (fun xs H Q => (∃ i, xs = [.int i] ∧ Q (.int i) H) ∨ ∃ k, xs = [.bl k] ∧ Q (.int (if k then 1 else 0)) H) := by
  intro pins s σ H xs us Q I r h
  rcases h with ⟨i, rfl, q⟩ | ⟨k, rfl, q⟩
  · obtain ⟨u, rfl, t, rfl⟩ := vals1 r
    exact call_int_int ⟨.int i, H, I, ⟨_, rfl⟩, q⟩
  · obtain ⟨u, rfl, r1⟩ := vals1 r
    cases r1
    exact call_int_bool ⟨.int (if k then 1 else 0), H, I.tok _, ⟨_, rfl⟩, q⟩
theorem call_str_int : CallR X (.type "str") (fun xs H Q => ∃ i, xs = [.int i] ∧ i.natAbs.log2 < 1920 ∧ Q (.str (toString i)) H) := by
  intro pins s σ H xs us Q I r h
  obtain ⟨i, rfl, hz, q⟩ := h
  obtain ⟨u, rfl, t, rfl⟩ := vals1 r
  exact PySem.P.str_of_int hz ⟨.str _, H, I.tok _, ⟨_, rfl⟩, q⟩
/-- len of a str, a bytes, a list, a tuple -/
def LenV (K : PySem.W.Frag) (x : V) (H : Hp) (n : Nat) : Prop :=
  match x with
  | .str y => y.length ≤ sizeLine ∧ n = y.length
  | .byt y => y.size ≤ sizeLine ∧ n = y.size
  | .ref p => (∃ xs, SqL K H p xs ∧ n = xs.length) ∨ ∃ xs, SqT K H p xs ∧ n = xs.length
  | _ => False
theorem call_len : CallR X (.builtin "len") (fun xs H Q => ∃ x n, xs = [x] ∧ LenV X.K x H n ∧ Q (.int n) H) := by
  intro pins s σ H xs us Q I r h
  obtain ⟨x, n, rfl, e, q⟩ := h
  obtain ⟨u, rfl, rx⟩ := vals1 r
  have hl := line63
  have hs : sizeLine = 16777216 := sizeLine_eq
  cases x with
  | str y =>
    obtain ⟨t, rfl⟩ := rx
    obtain ⟨hy, e'⟩ : y.length ≤ sizeLine ∧ n = y.length := e
    subst e'
    exact len_str (by omega) ⟨.int _, H, I.tok _, ⟨_, rfl⟩, q⟩
  | byt y =>
    obtain ⟨t, rfl⟩ := rx
    obtain ⟨hy, e'⟩ : y.size ≤ sizeLine ∧ n = y.size := e
    subst e'
    exact PySem.W.len_bytes (by omega) ⟨.int _, H, I.tok _, ⟨_, rfl⟩, q⟩
  | ref p =>
    cases rx
    have e' : (∃ xs, SqL X.K H p xs ∧ n = xs.length) ∨ ∃ xs, SqT X.K H p xs ∧ n = xs.length := e
    rcases e' with ⟨xs, hx, e'⟩ | ⟨xs, hx, e'⟩
    · subst e'
      obtain ⟨its, r', pl, hz⟩ := I.list hx
      have hlen := r'.length
      exact Calls.call_len_list pl.isList (by simp only [List.size_toArray]; omega) ⟨.int xs.length, H, I.tok _, ⟨_, by simp only [List.size_toArray]; rw [hlen]⟩, q⟩
    · subst e'
      obtain ⟨its, r', pl, hz⟩ := I.tuple hx
      have hlen := r'.length
      exact len_tuple pl (by simp only [List.size_toArray]; omega) ⟨.int xs.length, H, I.tok _, ⟨_, by simp only [List.size_toArray]; rw [hlen]⟩, q⟩
  | _ => exact (show False from e).elim
end
end L2

namespace L2
open PySem PySem.Spec PyProof.Rows

/-! ### an instance, its attributes a map -/
structure ObjM (h : Heap) (x dx C : Addr) (mA : Str → Option Value) : Prop where
  obj : h.get? x = some (PySem.W.instObj C dx)
  ns : h.Ns1 dx mA
  ne : dx ≠ x

theorem lookIn_ns {h : Heap} {dx : Addr} {mA : Str → Option Value} (n : h.Ns1 dx mA) : ∃ od, h.get? dx = some od ∧ ∀ name, PySem.W.lookIn name od = some (mA name) := by
  obtain ⟨o, es, ep, ho, hd, hk, _, hm⟩ := n
  refine ⟨o, ho, fun name => ?_⟩
  have e := hm name
  unfold nsFind findBy at e
  rw [← Array.find?_toList] at e
  unfold PySem.W.lookIn
  rw [hd]
  dsimp only
  split
  · rename_i y q
    rw [q] at e
    exact congrArg some e
  · rename_i q
    rw [q] at e
    have a : es.toList.any (·.refKey) = false := by
      rw [List.any_eq_false]
      intro y hy
      obtain ⟨z, t, hkey⟩ := hk y (Array.mem_toList_iff.mp hy)
      simp [DictEntry.refKey, hkey]
    have a' : ¬ es.toList.any (·.refKey) = true := by rw [a]; exact Bool.false_ne_true
    rw [if_neg a']
    exact congrArg some e

theorem ObjM.look {h : Heap} {x dx C : Addr} {mA : Str → Option Value} (I : ObjM h x dx C mA) : ∃ od, PySem.W.InstAt h x (PySem.W.instObj C dx) C (some od) ∧ ∀ name, PySem.W.lookIn name od = some (mA name) :=
  let ⟨od, ho, hl⟩ := lookIn_ns I.ns
  ⟨od, ⟨I.obj, rfl, rfl, ho⟩, hl⟩

section
variable {prog : Program} {w : World} {A : Around} {E : Value → Shared → Prop} {s : Shared} {K : PySem.W.Frag} {x dx C f : Addr} {mA : Str → Option Value} {name : Str} {v : Value}

theorem get_map {expr : Bool} {Q : Value → Shared → Prop} (X : K.In s.heap) (I : ObjM s.heap x dx C mA) (hg : PySem.W.plainGet K C name = true) (hh : PySem.W.hasDictIn K C = true)
    (ha : PySem.W.findIn K (.ref C) name = some none) (hv : mA name = some v) (hv' : PySem.W.handedIn v = true) (h : Q v { s with toks := s.toks + 1 }) :
    wpAny (model prog w) A (getAttr (.ref x) name expr) Q E s := by
  obtain ⟨od, J, hl⟩ := I.look
  exact PySem.W.get_value X J (PySem.W.plainGet_of hg).1 (PySem.W.findObj_own hh ha rfl (by rw [hl, hv])) hv' h


theorem get_meth {pl : Sem Bool} {Q : Value × List Value → Shared → Prop} (X : K.In s.heap) (I : ObjM s.heap x dx C mA) (hg : PySem.W.plainGet K C name = true)
    (hf : PySem.W.findIn K (.ref C) name = some (some (.ref f))) (ht : PySem.W.isFn K (.ref f) = true) (hv : mA name = none) (h : Q (.ref f, [.ref x]) s) :
    wpAny (model prog w) A (getMethod (.ref x) name pl) Q E s := by
  obtain ⟨od, J, hl⟩ := I.look
  exact PySem.W.method_fn X J (PySem.W.plainGet_of hg).1 (PySem.W.plainGet_of hg).2 hf (beq_iff_eq.mp ht) (by show (PySem.W.lookIn name od).map (·.isSome) = some false; rw [hl, hv]; rfl) h

theorem set_map {ns : List Str} {Q : Unit → Shared → Prop} (X : K.In s.heap) (I : ObjM s.heap x dx C mA)
    (hs : PySem.W.findIn K (.ref C) "__setattr__" = some (some (.builtin "object.__setattr__"))) (hp : PySem.W.plainOver K C = true) (ht : PySem.W.takerIn K C name = some none) (hh : PySem.W.hasDictIn K C = true)
    (hw : PySem.Within mA ns) (hsz : ns.length ≤ sizeLine)
    (h : ∀ h', ObjM h' x dx C (fun y => if y = name then some v else mA y) → Heap.SameBut dx s.heap h' → Q () { s with heap := h', toks := s.toks + 2 }) :
    wpAny (model prog w) A (setAttr (.ref x) name v) Q E s := by
  obtain ⟨od, J, hl⟩ := I.look
  refine PySem.W.set_plain X J hs (PySem.W.osa_open (s := { s with toks := s.toks + 1 }) (r := none) X J hp ht fun b => ?_)
  obtain ⟨cd, hc, hd'⟩ := PySem.W.any_some hh
  have hx : s.heap.get? x = some ⟨.ref C, some dx, .plain, #[]⟩ := I.obj
  refine wpAny_bind (wpAny_pure (wpAny_bind (wpAny_bind (wpAny_loadPart hx (wpAny_bind (PySem.W.Looks.here (s := { s with toks := s.toks + 1 }) (PySem.W.looks_clsIn X hc) ?_))))))
  rw [hd']
  refine wpAny_pure (a := some dx) (wpAny_bind (wpAny_pure (wpAny_bind ?_)))
  refine wpAny_nsSet1 (s := { s with toks := s.toks + 1 }) I.ns fun h' hn2 hs2 => ?_
  obtain ⟨oD, esD, epD, hoD, hdD, hcD⟩ := hn2.count (PySem.Within.cons name v hw)
  refine wpAny_bind (wpAny_lookBehind hoD (by rw [hdD]; exact pastItsLine_dict (Nat.le_trans hcD (by rw [List.length_cons]; omega))) ?_)
  exact wpAny_pure (h _ ⟨(hs2.2 _ (Ne.symm I.ne)).trans I.obj, hn2, I.ne⟩ hs2)

/-- C(..): the dict at the heap's end, the instance behind it; then its __init__ -/
theorem make_map {R : Result → Shared → Prop} {vs : List Value} {kw : List (Str × Value)} (X : K.In s.heap) (hm : PySem.W.makesIn K C = true)
    (hi : PySem.W.findIn K (.ref C) "__init__" = some (some (.ref f))) (hf : PySem.W.typeIn K (.ref f) = some (.type "function"))
    (h : codeAny (model prog w) (A.under (.builtin "type.__call__" ⟨.ref C :: vs, kw⟩)) (.call (.ref f) ⟨.ref (s.heap.objs.size + 1) :: vs, kw⟩) (PySem.W.InitBack (s.heap.objs.size + 1) R)
      { s with heap := (s.heap.push PySem.W.emptyDict).push (PySem.W.instObj C s.heap.objs.size) }) :
    codeAny (model prog w) A (.call (.ref C) ⟨vs, kw⟩) R s := by
  obtain ⟨hh, g, d, t, os⟩ := s
  exact PySem.W.make_core (PySem.W.makes_of X hm) (PySem.W.looks_findIn X hi) (fun self => PySem.W.bind_fn X self hf) (.inl rfl) h
/-- C() where there is no __init__ but object's -/
theorem make_map0 {R : Result → Shared → Prop} (X : K.In s.heap) (hm : PySem.W.makesIn K C = true)
    (hi : PySem.W.findIn K (.ref C) "__init__" = some (some (.builtin "object.__init__")))
    (hb : ∀ self, PySem.W.Looks (model prog w) s.heap (bindSpecial (.builtin "object.__init__") self) (.builtin "object.__init__", [self]))
    (h : codeAny (model prog w) (A.under (.builtin "type.__call__" ⟨[.ref C], []⟩)) (.call (.builtin "object.__init__") ⟨[.ref (s.heap.objs.size + 1)], []⟩) (PySem.W.InitBack (s.heap.objs.size + 1) R)
      { s with heap := (s.heap.push PySem.W.emptyDict).push (PySem.W.instObj C s.heap.objs.size) }) :
    codeAny (model prog w) A (.call (.ref C) ⟨[], []⟩) R s := by
  obtain ⟨hh, g, d, t, os⟩ := s
  exact PySem.W.make_core (PySem.W.makes_of X hm) (PySem.W.looks_findIn X hi) hb (.inr ⟨rfl, rfl⟩) h
end

/-! ### the attributes as a list of pairs -/
def putF (f : Str) (v : V) : List (Str × V) → List (Str × V)
  | [] => [(f, v)]
  | (g, x) :: r => if g = f then (g, v) :: r else (g, x) :: putF f v r
theorem lookup_putF (f g : Str) (v : V) : ∀ fs : List (Str × V), (putF f v fs).lookup g = if g = f then some v else fs.lookup g
  | [] => by
    show List.lookup g [(f, v)] = _
    by_cases h : g = f
    · have hb : (g == f) = true := beq_iff_eq.mpr h
      simp only [List.lookup, hb, if_pos h]
    · have hb : (g == f) = false := beq_eq_false_iff_ne.mpr h
      simp only [List.lookup, hb, if_neg h]
  | (k, x) :: r => by
    have ih := lookup_putF f g v r
    rw [show putF f v ((k, x) :: r) = (if k = f then (k, v) :: r else (k, x) :: putF f v r) from rfl]
    by_cases hk : k = f
    · rw [if_pos hk]
      by_cases h : g = k
      · have hb : (g == k) = true := beq_iff_eq.mpr h
        simp only [List.lookup, hb, if_pos (h.trans hk)]
      · have hb : (g == k) = false := beq_eq_false_iff_ne.mpr h
        simp only [List.lookup, hb, if_neg (fun e : g = f => h (e.trans hk.symm))]
    · rw [if_neg hk]
      by_cases h : g = k
      · have hb : (g == k) = true := beq_iff_eq.mpr h
        simp only [List.lookup, hb, if_neg (fun e : g = f => hk (h.symm.trans e))]
      · have hb : (g == k) = false := beq_eq_false_iff_ne.mpr h
        simp only [List.lookup, hb]
        exact ih
theorem keys_putF (f : Str) (v : V) : ∀ fs : List (Str × V), f ∈ (putF f v fs).map (·.1) ∧ ∀ g, g ∈ fs.map (·.1) → g ∈ (putF f v fs).map (·.1)
  | [] => ⟨by simp [putF], fun g h => by simp at h⟩
  | (k, x) :: r => by
    obtain ⟨i1, i2⟩ := keys_putF f v r
    rw [show putF f v ((k, x) :: r) = (if k = f then (k, v) :: r else (k, x) :: putF f v r) from rfl]
    by_cases hk : k = f
    · rw [if_pos hk]
      subst hk
      exact ⟨by simp, fun g h => by simpa using h⟩
    · rw [if_neg hk]
      refine ⟨?_, fun g h => ?_⟩
      · rw [List.map_cons]
        exact List.mem_cons_of_mem _ i1
      · rw [List.map_cons] at h ⊢
        rcases List.mem_cons.mp h with e | e
        · exact List.mem_cons.mpr (.inl e)
        · exact List.mem_cons_of_mem _ (i2 g e)
theorem length_putF (f : Str) (v : V) : ∀ fs : List (Str × V), (putF f v fs).length ≤ fs.length + 1
  | [] => by simp [putF]
  | (k, x) :: r => by
    have ih := length_putF f v r
    rw [show putF f v ((k, x) :: r) = (if k = f then (k, v) :: r else (k, x) :: putF f v r) from rfl]
    by_cases hk : k = f
    · rw [if_pos hk, List.length_cons, List.length_cons]; omega
    · rw [if_neg hk, List.length_cons, List.length_cons]; omega

theorem RelO.some_of {v : V} {o : Option Value} (r : RelO (some v) o) : ∃ u, o = some u ∧ RelV v u := by
  cases o with
  | none => exact (show False from r).elim
  | some u => exact ⟨u, rfl, r⟩
theorem RelO.none_of {o : Option Value} (r : RelO none o) : o = none := by
  cases o with
  | none => rfl
  | some u => exact (show False from r).elim
theorem handed_of {v : V} {u : Value} (r : RelV v u) : PySem.W.handedIn u = true := by
  cases v with
  | non => cases (show u = Value.none from r); rfl
  | bl b => cases (show u = Value.bool b from r); rfl
  | int i => obtain ⟨t, e⟩ := (show ∃ t, u = Value.int i t from r); cases e; rfl
  | str x => obtain ⟨t, e⟩ := (show ∃ t, u = Value.str x t from r); cases e; rfl
  | byt b => obtain ⟨t, e⟩ := (show ∃ t, u = Value.bytes b t from r); cases e; rfl
  | flt b => obtain ⟨t, e⟩ := (show ∃ t, u = Value.float b t from r); cases e; rfl
  | ref a => cases (show u = Value.ref a from r); rfl
  | ty n => cases (show u = Value.type n from r); rfl

section
variable {P : Program} {w : World} {H H' : Hp} {h h' : Heap} {a C dx : Addr} {fs fs' : List (Str × V)}
theorem ins_get (hok : HOk P w H h) (e : H a = some (.ins C dx fs)) : ∃ mA, ObjM h a dx C mA ∧ (∀ f, RelO (fs.lookup f) (mA f)) ∧ PySem.Within mA (fs.map (·.1)) ∧ fs.length ≤ 1000 ∧ H dx = some (.own a) := by
  obtain ⟨d, z, ne, ob, mA, n, r, q⟩ := (show ObjOk P w H h a (.ins C dx fs) from hok a _ e)
  exact ⟨mA, ⟨ob, n, ne⟩, r, q, z, d⟩
end

/-! ### what of the text a class must have -/
structure Cls (K : PySem.W.Frag) (C : Addr) : Prop where
  pg : PySem.W.plainGet K C Str.empty = true
  hd : PySem.W.hasDictIn K C = true
  po : PySem.W.plainOver K C = true
  sa : PySem.W.findIn K (.ref C) "__setattr__" = some (some (.builtin "object.__setattr__"))
theorem Cls.get {K : PySem.W.Frag} {C : Addr} (c : Cls K C) (f : Str) : PySem.W.plainGet K C f = true := c.pg
/-- no class of it has the name -/
def NoAttr (K : PySem.W.Frag) (C : Addr) (f : Str) : Prop := PySem.W.findIn K (.ref C) f = some none
theorem NoAttr.taker {K : PySem.W.Frag} {C : Addr} {f : Str} (n : NoAttr K C f) : PySem.W.takerIn K C f = some none := by
  unfold PySem.W.takerIn
  rw [show PySem.W.findIn K (.ref C) f = some none from n]
  rfl
/-- a method: a plain def of the class or of one above it -/
structure Meth (K : PySem.W.Frag) (C : Addr) (m : Str) (f : Addr) : Prop where
  at_ : PySem.W.findIn K (.ref C) m = some (some (.ref f))
  fn : PySem.W.isFn K (.ref f) = true
  kp : PySem.W.keepIn K (.ref f) = true

section
variable {X : Cx} {pins : List (Addr × Obj)} {σ : St} {H : Hp} {s : Shared} {a C dx : Addr} {fs : List (Str × V)} {f : Str} {v : V} {A : Around} {E : Value → Shared → Prop}

theorem getattr_ok {b : Bool} {Q : Value → Shared → Prop} (I : Inv X pins σ H s) (e : H a = some (.ins C dx fs)) (c : Cls X.K C) (n : NoAttr X.K C f) (l : fs.lookup f = some v)
    (h : ∀ u s', Inv X pins σ H s' → RelV v u → Q u s') : wpAny (model X.prog X.w) A (getAttr (.ref a) f b) Q E s := by
  obtain ⟨mA, O, r, _, _, _⟩ := ins_get I.hok e
  obtain ⟨u, hu, ru⟩ := RelO.some_of (v := v) (o := mA f) (by rw [← l]; exact r f)
  exact get_map I.kIn O (c.get f) c.hd n hu (handed_of ru) (h u _ (I.tok _) ru)


theorem getmeth_ok {m : Str} {g : Addr} {pl : Sem Bool} {Q : Value × List Value → Shared → Prop} (I : Inv X pins σ H s) (e : H a = some (.ins C dx fs)) (c : Cls X.K C) (k : Meth X.K C m g) (l : fs.lookup m = none)
    (h : Q (.ref g, [.ref a]) s) : wpAny (model X.prog X.w) A (getMethod (.ref a) m pl) Q E s := by
  obtain ⟨mA, O, r, _, _, _⟩ := ins_get I.hok e
  have hn : mA m = none := RelO.none_of (by rw [← l]; exact r m)
  exact get_meth I.kIn O (c.get m) k.at_ k.fn hn h

theorem setattr_ok {y : V} {u : Value} {Q : Unit → Shared → Prop} (I : Inv X pins σ H s) (e : H a = some (.ins C dx fs)) (c : Cls X.K C) (n : NoAttr X.K C f) (hl : fs.length < 1000) (ry : RelV y u)
    (h : ∀ s', Inv X pins σ (upd H a (.ins C dx (putF f y fs))) s' → Q () s') : wpAny (model X.prog X.w) A (setAttr (.ref a) f u) Q E s := by
  obtain ⟨mA, O, r, wi, _, ho⟩ := ins_get I.hok e
  have hz : (fs.map (·.1)).length ≤ sizeLine := by rw [List.length_map, sizeLine_eq]; omega
  refine set_map I.kIn O c.sa c.po n.taker c.hd wi hz fun h' O' sb => h _ ?_
  have hd : ∃ o, h'.get? dx = some o := let ⟨o, _, _, e', _⟩ := O'.ns; ⟨o, e'⟩
  refine I.write (x := a) (e := dx) (by rw [e]; exact True.intro) (.inr ho) (fun b q hb z => (sb.2 b hb).trans z) hd ?_
  refine ⟨by rw [upd_ne O.ne]; exact ho, ?_, O.ne, O'.obj, _, O'.ns, fun g => ?_, fun g hg => ?_⟩
  · have := length_putF f y fs; omega
  · show RelO ((putF f y fs).lookup g) (if g = f then some u else mA g)
    rw [lookup_putF]
    by_cases q : g = f
    · rw [if_pos q, if_pos q]; exact ry
    · rw [if_neg q, if_neg q]; exact r g
  · by_cases q : g = f
    · rw [q]; exact (keys_putF f y fs).1
    · refine (keys_putF f y fs).2 g (wi g fun z => hg ?_)
      show (if g = f then some u else mA g) = none
      rw [if_neg q]; exact z

/-- a new instance, tracked, without attributes -/
theorem Inv.made (I : Inv X pins σ H s) : Inv X pins σ (upd (upd H s.heap.objs.size (.own (s.heap.objs.size + 1))) (s.heap.objs.size + 1) (.ins C s.heap.objs.size []))
    { s with heap := (s.heap.push PySem.W.emptyDict).push (PySem.W.instObj C s.heap.objs.size) } := by
  have e1 : (s.heap.push PySem.W.emptyDict).get? s.heap.objs.size = some PySem.W.emptyDict := Heap.get?_push_size s.heap rfl
  have e2 : ((s.heap.push PySem.W.emptyDict).push (PySem.W.instObj C s.heap.objs.size)).get? (s.heap.objs.size + 1) = some (PySem.W.instObj C s.heap.objs.size) := by
    have := Heap.get?_push_size (s.heap.push PySem.W.emptyDict) (o := PySem.W.instObj C s.heap.objs.size) rfl
    rwa [Heap.size_push] at this
  have e3 : (s.heap.push PySem.W.emptyDict).Ns s.heap.objs.size (fun _ => none) := ⟨PySem.W.emptyDict, #[], _, e1, rfl, (fun e he => absurd he (by simp)), fun _ => rfl⟩
  have I1 := I.laid (a := s.heap.objs.size) (o := .own (s.heap.objs.size + 1)) (h' := s.heap.push PySem.W.emptyDict) (t' := s.toks) (fun b u q => Heap.get?_push_of_some _ q) (Nat.le_refl _) ⟨_, e1⟩
  refine I1.laid (a := s.heap.objs.size + 1) (o := .ins C s.heap.objs.size []) (t' := s.toks) (fun b u q => Heap.get?_push_of_some _ q) (Nat.le_of_eq (Heap.size_push _ _)) ?_
  have ne : s.heap.objs.size ≠ s.heap.objs.size + 1 := Nat.ne_of_lt (Nat.lt_succ_self _)
  refine ⟨by rw [upd_ne ne, upd_same], Nat.zero_le _, ne, e2, fun _ => none, (Heap.Ns1.of_empty e3).at fun o q => Heap.get?_push_of_some _ q, fun _ => True.intro, fun y hy => absurd rfl hy⟩

/-- e.f where nothing but the object is asked: through attributeBase (super) and the last hold -/
theorem attr_of {prog : Program} {w : World} {env : Env} {e : Expr} {f : Str} {pos : Pos} {s : Shared} {Q : Value → Shared → Prop} (hb : attributeBase e f env (eval e env) = eval e env)
    (h : wpAny (model prog w) A (eval e env) (fun o s₁ => wpAny (model prog w) A (getAttr o f true) Q E s₁) E s) : wpAny (model prog w) A (eval (.Attribute e f pos) env) Q E s :=
  Attribute_any_ h (by rw [arm_eval_Attribute, hb])
end

/-! ### readings and rules -/
/-- e.f, an attribute of the instance -/
def tFld (K : PySem.W.Frag) (ta : TE) (f : Str) : TE := fun σ H Q => ta σ H fun x H1 => ∃ a C dx fs v, x = .ref a ∧ H1 a = some (.ins C dx fs) ∧ Cls K C ∧ NoAttr K C f ∧ fs.lookup f = some v ∧ Q v H1
/-- e.f = value -/
def sFld (K : PySem.W.Frag) (ta tv : TE) (f : Str) : TS := fun D σ H => tv σ H fun y H1 => ta σ H1 fun x H2 => ∃ a C dx fs, x = .ref a ∧ H2 a = some (.ins C dx fs) ∧ Cls K C ∧ NoAttr K C f ∧ fs.length < 1000 ∧
  D.nx σ (upd H2 a (.ins C dx (putF f y fs)))

section
variable {X : Cx} {o e value : Expr} {f : Str} {pos pos' tpos : Pos} {ta tv : TE}
theorem pe_fld (he : PE X e ta) (hb : attributeBase e f X.env (eval e X.env) = eval e X.env) : PE X (.Attribute e f pos) (tFld X.K ta f) := by
  intro pins s σ H Q I h
  refine attr_of hb (thn (he pins s σ H _ I h) fun u s1 ⟨x, H1, I1, rx, a, C, dx, fs, v, ex, ea, c, n, l, q⟩ => ?_)
  subst ex
  obtain rfl : u = Value.ref a := rx
  exact getattr_ok I1 ea c n l fun u' s2 I2 ru => ⟨v, H1, I2, ru, q⟩
theorem ps_fld (ha : PE X o ta) (hv : PE X value tv) (hs : swapsWith value (some (.Attribute o f pos')) pos.line X.env = pure false) : PS X (.Assign [.Attribute o f pos'] value pos) (sFld X.K ta tv f) := by
  intro pins s σ H D I h
  refine plainObj_wpAny_Assign_Attribute (thn (hv pins s σ H _ I h) fun u s1 ⟨y, H1, I1, ry, q⟩ => thn (ha pins s1 σ H1 _ I1 q) fun ov s2 ⟨x, H2, I2, rx, a, C, dx, fs, ex, ea, c, n, l, q2⟩ => ?_) hs
  subst ex
  obtain rfl : ov = Value.ref a := rx
  exact setattr_ok I2 ea c n l ry fun s3 I3 => ⟨σ, _, I3, q2⟩

end

/-! ### isinstance -/
section
variable {X : Cx} {pins : List (Addr × Obj)} {σ : St} {H : Hp} {s : Shared} {A : Around} {E : Value → Shared → Prop} {Q : Value → Shared → Prop} {c : Value} {b : Bool}
/-- the type of a value, as the fragment's deciders take it; for an instance its class -/
inductive TyOf (K : PySem.W.Frag) (H : Hp) : V → Value → Prop where
  | non : TyOf K H .non (.type "NoneType")
  | bl (x : Bool) : TyOf K H (.bl x) (.type "bool")
  | int (i : Int) : TyOf K H (.int i) (.type "int")
  | str (x : Str) : TyOf K H (.str x) (.type "str")
  | flt (x : UInt64) : TyOf K H (.flt x) (.type "float")
  | lst {a : Addr} {xs : List V} (e : H a = some (.lst xs)) : TyOf K H (.ref a) (.type "list")
  | frz {a : Addr} {o : Obj} {xs : List V} (e : H a = some (.frz o (.lst xs))) : TyOf K H (.ref a) (.type "list")
  | tup {a : Addr} {xs : List V} (e : H a = some (.tup xs)) : TyOf K H (.ref a) (.type "tuple")
  | dK {a : Addr} {kvs : List (Key × V)} (e : H a = some (.dK kvs)) : TyOf K H (.ref a) (.type "dict")
  | dT {a : Addr} {kvs : List (List Key × V)} (e : H a = some (.dT kvs)) : TyOf K H (.ref a) (.type "dict")
  | ins {a C dx : Addr} {fs : List (Str × V)} (e : H a = some (.ins C dx fs)) (cl : Cls K C) (ha : PySem.W.findIn K (.ref C) "__class__" = some (some (.builtin "object.__class__")))
      (hn : PySem.W.specialIn K (.builtin "object.__class__") "__get__" = some (some (.builtin "getset_descriptor.__get__"))) (htk : PySem.W.takesIn K (.builtin "object.__class__") = some true)
      (hm : PySem.W.mroIn K C (.type "object") = some true) : TyOf K H (.ref a) (.ref C)
/-- isinstance(x, c) for one class c, a built-in or an own one: kitOne's answer -/
theorem isinst_ok {x : V} {u t : Value} (I : Inv X pins σ H s) (rx : RelV x u) (ty : TyOf X.K H x t) (e : PySem.W.kitOne X.K t c = some b) (h : ∀ tk, Q (.bool b) { s with toks := tk }) :
    wpAny (model X.prog X.w) A (call (.builtin "isinstance") [u, c]) Q E s := by
  cases ty with
  | non => cases (show u = Value.none from rx); exact PySem.W.kia_one PySem.W.kitx_none I.kIn True.intro e (fun z => nomatch z) h
  | bl y => cases (show u = Value.bool y from rx); exact PySem.W.kia_one PySem.W.kitx_bool I.kIn True.intro e (fun z => nomatch z) h
  | int i => obtain ⟨t, q⟩ := (show ∃ t, u = Value.int i t from rx); cases q; exact PySem.W.kia_one PySem.W.kitx_int I.kIn True.intro e (fun z => nomatch z) h
  | str y => obtain ⟨t, q⟩ := (show ∃ t, u = Value.str y t from rx); cases q; exact PySem.W.kia_one PySem.W.kitx_str I.kIn True.intro e (fun z => nomatch z) h
  | flt y => obtain ⟨t, q⟩ := (show ∃ t, u = Value.float y t from rx); cases q; exact PySem.W.kia_one PySem.W.kitx_float I.kIn True.intro e (fun z => nomatch z) h
  | @lst a xs ea =>
    cases (show u = Value.ref a from rx)
    obtain ⟨_, _, n, _, h1⟩ := (show ObjOk X.prog X.w H s.heap a (.lst xs) from I.hok a _ ea)
    exact PySem.W.kia_one PySem.W.kitx_list I.kIn ⟨_, h1, rfl⟩ e (fun z => nomatch z) h
  | @frz a ob xs ea =>
    cases (show u = Value.ref a from rx)
    obtain ⟨_, _, _, n, _, h1⟩ := (show ObjOk X.prog X.w H s.heap a (.frz ob (.lst xs)) from I.hok a _ ea)
    exact PySem.W.kia_one PySem.W.kitx_list I.kIn ⟨_, h1, rfl⟩ e (fun z => nomatch z) h
  | @tup a xs ea =>
    cases (show u = Value.ref a from rx)
    obtain ⟨_, _, _, p⟩ := (show ObjOk X.prog X.w H s.heap a (.tup xs) from I.hok a _ ea)
    obtain ⟨o, h1, h2, _⟩ := p
    exact PySem.W.kia_one PySem.W.kitx_tuple I.kIn ⟨o, h1, h2⟩ e (fun z => nomatch z) h
  | @dK a kvs ea =>
    cases (show u = Value.ref a from rx)
    obtain ⟨_, _, vs, _, p⟩ := (show ObjOk X.prog X.w H s.heap a (.dK kvs) from I.hok a _ ea)
    obtain ⟨o, es, ep, h1, h2, _⟩ := p
    exact PySem.W.kia_one PySem.W.kitx_dict I.kIn ⟨o, h1, h2.1⟩ e (fun z => nomatch z) h
  | @dT a kvs ea =>
    cases (show u = Value.ref a from rx)
    obtain ⟨_, _, xs, _, o, es, ep, h1, h2, _⟩ := (show ObjOk X.prog X.w H s.heap a (.dT kvs) from I.hok a _ ea)
    exact PySem.W.kia_one PySem.W.kitx_dict I.kIn ⟨o, h1, h2.1⟩ e (fun z => nomatch z) h
  | @ins a C dx fs ea cl ha hn htk hm =>
    cases (show u = Value.ref a from rx)
    obtain ⟨mA, O, _⟩ := ins_get I.hok ea
    obtain ⟨od, J, _⟩ := O.look
    exact PySem.W.kia_one (PySem.W.kitx_own (cl.get _) cl.hd ha hn htk hm) I.kIn J e (fun z => nomatch z) h
end
end L2

namespace L2
open PySem PySem.Spec PyProof.Rows

/-! ### room -/
structure Room (k : Nat) (A : Around) : Prop where
  hd : A.handled = none
  dp : A.depth + 3 * k + 5 < recursionLimit
  un : A.units + 16 * k + 200 < cLine
theorem Room.mono {j k : Nat} {A : Around} (r : Room k A) (h : j ≤ k) : Room j A := ⟨r.hd, by have := r.dp; omega, by have := r.un; omega⟩
theorem Room.deeper {k : Nat} {A : Around} (r : Room (k + 1) A) (env : Env) : Room k (A.deeper env) :=
  ⟨r.hd, by have := r.dp; show A.depth + 1 + 3 * k + 5 < _; omega, by have := r.un; show A.units + 3 + 16 * k + 200 < _; omega⟩
theorem make_depth {A : Around} {C : Addr} {us : List Value} {kw : List (Str × Value)} : (A.under (.builtin "type.__call__" ⟨.ref C :: us, kw⟩)).depth = A.depth + 1 := by
  first | rfl | simp [Around.under, Code.weight, Code.isCreation, Code.isGuard, Code.isCaller, Code.frames, Code.isFrame, guardIds]
theorem make_units {A : Around} {C : Addr} {us : List Value} {kw : List (Str × Value)} : (A.under (.builtin "type.__call__" ⟨.ref C :: us, kw⟩)).units = A.units + 1 := by
  first | rfl | simp [Around.under, Code.cUnits, Code.frames, Code.isFrame]
theorem Room.make {k : Nat} {A : Around} (r : Room (k + 1) A) (C : Addr) (us : List Value) (kw : List (Str × Value)) : Room k (A.under (.builtin "type.__call__" ⟨.ref C :: us, kw⟩)) :=
  ⟨r.hd, by have := r.dp; rw [make_depth]; omega, by have := r.un; rw [make_units]; omega⟩
theorem Room.depth {k : Nat} {A : Around} (r : Room k A) : A.depth < recursionLimit := by have := r.dp; omega
theorem Room.units {k : Nat} {A : Around} (r : Room k A) : A.units + 64 < cLine := by have := r.un; omega

/-! ### argument lists and displays -/
def tNil : TA := fun _ H Q => Q [] H
def tCons (ta : TE) (tr : TA) : TA := fun σ H Q => ta σ H fun x H1 => tr σ H1 fun xs H2 => Q (x :: xs) H2
section
variable {X : Cx} {e : Expr} {es : List Expr} {te : TE} {t : TA} {pos : Pos}
theorem pa_nil : PA X [] tNil := fun _ _ _ _ H Q I h => Calls.spliced_nil ⟨[], H, I, .nil, h⟩
theorem pa_cons (ha : PE X e te) (hr : PA X es t) (hs : starEach (e :: es) X.env = (false, eval e X.env) :: starEach es X.env := by rfl) : PA X (e :: es) (tCons te t) := by
  intro pos pins s σ H Q I h
  rw [hs]
  show wpAny _ _ (spliced ((false, eval e X.env) :: backTo pos (starEach es X.env))) _ _ s
  refine Calls.spliced_cons (thn (ha pins s σ H _ I h) fun u s1 ⟨x, H1, I1, r1, q1⟩ => ?_)
  exact thn (hr pos pins s1 σ H1 _ I1 q1) fun us s2 ⟨xs, H2, I2, r2, q2⟩ => ⟨x :: xs, H2, I2, .cons r1 r2, q2⟩

/-- a tuple, a list of written items -/
def tTup (t : TA) : TE := fun σ H Q => t σ H fun xs H1 => xs.length ≤ sizeLine ∧ ∀ p, H1 p = none → Q (.ref p) (upd H1 p (.tup xs))
def tLst (t : TA) : TE := fun σ H Q => t σ H fun xs H1 => xs.length ≤ sizeLine ∧ ∀ p, H1 p = none → Q (.ref p) (upd H1 p (.lst xs))
theorem pe_tup {x1} (h : PA X es t) : PE X (.Tuple es x1 pos) (tTup t) := by
  intro pins s σ H Q I hq
  refine wpAny_Tuple_spliced (thn (h pos pins s σ H _ I hq) fun us s1 ⟨xs, H1, I1, r, z, q⟩ => ⟨by rw [← r.length]; exact z, ?_⟩)
  have hf : H1 s1.heap.objs.size = none := I1.hok.fresh (Nat.le_refl _)
  refine ⟨.ref s1.heap.objs.size, upd H1 s1.heap.objs.size (.tup xs), I1.laid (t' := s1.toks) (fun b u e => Heap.get?_push_of_some _ e) (Nat.le_refl _) ?_, rfl, q _ hf⟩
  exact ⟨z, us, r, ⟨_, Heap.get?_push_size _ rfl, rfl, _, rfl⟩⟩
theorem pe_lst (h : PA X es t) : PE X (.List es pos) (tLst t) := by
  intro pins s σ H Q I hq
  refine wpAny_List_spliced (thn (h pos pins s σ H _ I hq) fun us s1 ⟨xs, H1, I1, r, z, q⟩ => ⟨by rw [← r.length]; exact z, ?_⟩)
  have hf : H1 s1.heap.objs.size = none := I1.hok.fresh (Nat.le_refl _)
  refine ⟨.ref s1.heap.objs.size, upd H1 s1.heap.objs.size (.lst xs), I1.laid (t' := s1.toks) (fun b u e => Heap.get?_push_of_some _ e) (Nat.le_refl _) ?_, rfl, q _ hf⟩
  exact ⟨z, us, 0, r, Heap.get?_push_size _ rfl⟩
end

/-! ### what a def promises -/
/-- a def's promise: the bound arguments in the parameters' order, the heap, the wanted end, the wanted exception -/
abbrev Sp := List V → Hp → VK → XK → Prop
/-- how an exception lies behind a call (file 08 gives it): the callers' frames, abstract heap and state ahead of the call, the wish, the exception, the state -/
abbrev CXT := List Env → Hp → Shared → XK → Value → Shared → Prop

/-- the state at a call -/
structure Env0 (P : Program) (w : World) (K : PySem.W.Frag) (mg : Str → Option Value) (base : Heap) (A : Around) (outer : List Env) (s : Shared) (H : Hp) : Prop where
  frames : A.frames = some outer
  mod : Mod K mg base
  bs : ∀ b o, base.get? b = some o → s.heap.get? b = some o ∧ H b = none
  bsz : base.objs.size ≤ s.heap.objs.size
  funs : s.heap.FunFrames base outer
  frf : ∀ b ∈ frs outer, H b = none
  hok : HOk P w H s.heap
  bare : AllBare s.gens
/-- a call's end -/
def CE (outer : List Env) (P : Program) (w : World) (H : Hp) (s : Shared) (Q : VK) (u : Value) (s' : Shared) : Prop :=
  ∃ v H', s'.os = s.os ∧ AllBare s'.gens ∧ Un (frs outer) [] H H' s.heap s'.heap ∧ HOk P w H' s'.heap ∧ RelV v u ∧ Q v H'
def CR (CX : CXT) (outer : List Env) (P : Program) (w : World) (H : Hp) (s : Shared) (Q : VK) (E : XK) (r : Result) (s' : Shared) : Prop :=
  match r with
  | .ok (.ret u) => CE outer P w H s Q u s'
  | .ok _ => False
  | .error e => CX outer H s E e s'
structure FnOk (P : Program) (w : World) (K : PySem.W.Frag) (mg : Str → Option Value) (base : Heap) (CX : CXT) (k : Nat) (f : Addr) (fd : FuncData) (ps : List Str) (sp : Sp) : Prop where
  len : ∀ vs H Q E, sp vs H Q E → vs.length = ps.length
  run : ∀ (A : Around) (outer : List Env) (s : Shared) (H : Hp) (args : Args) (us : List Value) (vs : List V) (Q : VK) (E : XK), Room k A → Env0 P w K mg base A outer s H → BindsTo s fd args (ps.zip us) → Vals vs us → sp vs H Q E →
    codeAny (model P w) A (.call (.ref f) args) (CR CX outer P w H s Q E) s

theorem Env0.make {P : Program} {w : World} {K : PySem.W.Frag} {mg : Str → Option Value} {base : Heap} {A : Around} {outer : List Env} {s : Shared} {H : Hp} (e : Env0 P w K mg base A outer s H) (C : Addr) (us : List Value) (kw : List (Str × Value)) :
    Env0 P w K mg base (A.under (.builtin "type.__call__" ⟨.ref C :: us, kw⟩)) outer s H := ⟨by first | exact e.frames | (simpa [Around.under, Code.envs, Code.isFrame, pushEnvs] using e.frames), e.mod, e.bs, e.bsz, e.funs, e.frf, e.hok, e.bare⟩

section
variable {X : Cx} {pins : List (Addr × Obj)} {σ : St} {H : Hp} {s s' : Shared}
/-- from a body: what a callee wants -/
theorem Inv.env0 (I : Inv X pins σ H s) : Env0 X.prog X.w X.K X.mg X.base X.A X.stack s H :=
  ⟨I.ok.frames, I.ok.mod, I.bs, Nat.le_trans I.ok.bsz I.sz, I.stack, I.stkFree, I.hok, I.bare⟩
/-- behind a call -/
theorem Inv.after {Q : VK} {u : Value} (I : Inv X pins σ H s) (h : CE X.stack X.prog X.w H s Q u s') : EP X pins σ Q u s' := by
  obtain ⟨v, H', os, bare, un, hok, r, q⟩ := h
  obtain ⟨hh, g, d, t, os'⟩ := s'
  obtain rfl : os' = s.os := os
  exact ⟨v, H', I.call (h' := hh) (g' := g) (d' := d) (t' := t) (ch := []) un hok bare (fun b z => absurd z (by simp)), r, q⟩
end

/-! ### calls -/
/-- f(..): the written arguments, then the defaults dvs; E: what is wanted of an exception -/
def tCall (sp : Sp) (dvs : List V) (E : XK) (t : TA) : TE := fun σ H Q => t σ H fun vs H1 => sp (vs ++ dvs) H1 Q E
/-- C(..): a new instance and its dict, then __init__ -/
def tMake (C : Addr) (sp : Sp) (dvs : List V) (E : XK) (t : TA) : TE := fun σ H Q => t σ H fun vs H1 => ∀ x dx, H1 x = none → H1 dx = none → dx ≠ x →
  sp (.ref x :: (vs ++ dvs)) (upd (upd H1 dx (.own x)) x (.ins C dx [])) (fun v H2 => v = .non ∧ Q (.ref x) H2) E

/-- how the parameters are bound: us the positional arguments, kw the keywords' values by name, ds the defaults that fill up -/
def Binds (K : PySem.W.Frag) (fd : FuncData) (ps : List Str) (ds : List Value) : Prop :=
  ∀ (s : Shared) (us : List Value), K.In s.heap → (us ++ ds).length = ps.length → BindsTo s fd ⟨us, []⟩ (ps.zip (us ++ ds))
/-- every parameter is given -/
theorem Binds.all {K : PySem.W.Frag} {fd : FuncData} {ps : List Str} (h : ∀ us : List Value, us.length = ps.length → bindArgs fd ⟨us, []⟩ = pure (ps.zip us)) : Binds K fd ps [] := fun s us _ hl => by
  rw [List.append_nil] at hl ⊢
  exact .of_eq (h us hl)

/-- an exception of a callee reaches what this body wants of exceptions -/
def Passes (CX : CXT) (X : Cx) (E : XK) : Prop := ∀ (pins : List (Addr × Obj)) (σ : St) (H : Hp) (s : Shared) (e : Value) (s' : Shared), Inv X pins σ H s → CX X.stack H s E e s' → X.xe e s'

section
variable {X : Cx} {CX : CXT} {k : Nat} {f C : Addr} {fd : FuncData} {ps : List Str} {sp : Sp} {dvs : List V} {ds : List Value} {E : XK} {x m : Str} {p pos apos : Pos} {e o : Expr} {es : List Expr} {ta : TE} {t : TA}

/-- the callee runs -/
theorem run_fn {pins : List (Addr × Obj)} {σ : St} {H : Hp} {s : Shared} {Q : VK} {us : List Value} {vs : List V} (F : FnOk X.prog X.w X.K X.mg X.base CX k f fd ps sp) (hr : Room k X.A) (hb : Binds X.K fd ps ds) (hd : Vals dvs ds) (hx : Passes CX X E)
    (I : Inv X pins σ H s) (r : Vals vs us) (h : sp (vs ++ dvs) H Q E) : wpAny (model X.prog X.w) X.A (call (.ref f) us) (EP X pins σ Q) X.xe s := by
  have r2 : Vals (vs ++ dvs) (us ++ ds) := r.append hd
  have hl : (us ++ ds).length = ps.length := by rw [← r2.length]; exact F.len _ _ _ _ h
  refine wpAny_call (codeAny_mono (F.run X.A X.stack s H ⟨us, []⟩ (us ++ ds) (vs ++ dvs) Q E hr I.env0 (hb s us I.kIn hl) r2 h) fun r s' hq => ?_)
  cases r with
  | error e => exact hx pins σ H s e s' I hq
  | ok fl =>
    cases fl with
    | ret u => exact I.after hq
    | next => exact False.elim hq
    | brk => exact False.elim hq
    | cont => exact False.elim hq

theorem pe_call (F : FnOk X.prog X.w X.K X.mg X.base CX k f fd ps sp) (hr : Room k X.A) (hg : Gl X x) (hm : X.mg x = some (.ref f)) (hk : PySem.W.keepIn X.K (.ref f) = true) (hb : Binds X.K fd ps ds) (hd : Vals dvs ds) (hx : Passes CX X E)
    (ha : PA X (e :: es) t) (hdb : (x == ("__debug__" : Str)) = false := by decide) (he : starEach (e :: es) X.env = (false, eval e X.env) :: starEach es X.env := by rfl) (hpl : (backTo pos (starEach es X.env)).any (·.1) = false := by rfl) :
    PE X (.Call (.Name x p) (e :: es) [] pos) (tCall sp dvs E t) := by
  intro pins s σ H Q I h
  refine wpAny_Call_Name_kw (ld_glob I hg hm ?_ hdb)
  refine PySem.W.callWith_K (h₀ := X.base) I.ok.mod.kin hk (thn (ha pos pins s σ H _ I h) fun us s1 ⟨vs, H1, I1, r, q⟩ => ⟨I1.kIn, ?_⟩) he hpl
  exact run_fn F hr hb hd hx I1 r q


/-- what a class must have to be made -/
structure Mk (K : PySem.W.Frag) (C f : Addr) : Prop where
  makes : PySem.W.makesIn K C = true
  init : PySem.W.findIn K (.ref C) "__init__" = some (some (.ref f))
  fn : PySem.W.isFn K (.ref f) = true
  kp : PySem.W.keepIn K (.ref C) = true

theorem run_make {pins : List (Addr × Obj)} {σ : St} {H : Hp} {s : Shared} {Q : VK} {us : List Value} {vs : List V} (M : Mk X.K C f) (F : FnOk X.prog X.w X.K X.mg X.base CX k f fd ps sp) (hr : Room (k + 1) X.A) (hb : Binds X.K fd ps ds) (hd : Vals dvs ds)
    (hx : Passes CX X E) (I : Inv X pins σ H s) (r : Vals vs us)
    (h : ∀ x dx, H x = none → H dx = none → dx ≠ x → sp (.ref x :: (vs ++ dvs)) (upd (upd H dx (.own x)) x (.ins C dx [])) (fun v H2 => v = .non ∧ Q (.ref x) H2) E) :
    wpAny (model X.prog X.w) X.A (call (.ref C) us) (EP X pins σ Q) X.xe s := by
  have hq := h (s.heap.objs.size + 1) s.heap.objs.size (I.hok.fresh (Nat.le_succ _)) (I.hok.fresh (Nat.le_refl _)) (Nat.ne_of_lt (Nat.lt_succ_self _))
  have I2 := Inv.made (C := C) I
  have r2 : Vals (V.ref (s.heap.objs.size + 1) :: (vs ++ dvs)) (Value.ref (s.heap.objs.size + 1) :: (us ++ ds)) := .cons rfl (r.append hd)
  have hl : (Value.ref (s.heap.objs.size + 1) :: us ++ ds).length = ps.length := by
    have e := r2.length
    rw [F.len _ _ _ _ hq] at e
    exact e.symm
  refine wpAny_call (make_map (f := f) I.kIn M.makes M.init (beq_iff_eq.mp M.fn) (codeAny_mono (F.run _ X.stack _ _ ⟨Value.ref (s.heap.objs.size + 1) :: us, []⟩ (Value.ref (s.heap.objs.size + 1) :: (us ++ ds)) _ _ E (hr.make C us [])
    (I2.env0.make C us []) (hb _ (Value.ref (s.heap.objs.size + 1) :: us) I2.kIn hl) r2 hq) fun r s' hq' => ?_))
  cases r with
  | error e => exact hx pins σ _ _ e s' I2 hq'
  | ok fl =>
    cases fl with
    | ret u =>
      obtain ⟨v, H', I3, rv, ev, q3⟩ := I2.after hq'
      subst ev
      exact ⟨rv, ⟨V.ref (s.heap.objs.size + 1), H', I3, rfl, q3⟩⟩
    | next => exact False.elim hq'
    | brk => exact False.elim hq'
    | cont => exact False.elim hq'
theorem pe_make (M : Mk X.K C f) (F : FnOk X.prog X.w X.K X.mg X.base CX k f fd ps sp) (hr : Room (k + 1) X.A) (hg : Gl X x) (hm : X.mg x = some (.ref C)) (hb : Binds X.K fd ps ds) (hd : Vals dvs ds) (hx : Passes CX X E)
    (ha : PA X (e :: es) t) (hdb : (x == ("__debug__" : Str)) = false := by decide) (he : starEach (e :: es) X.env = (false, eval e X.env) :: starEach es X.env := by rfl) (hpl : (backTo pos (starEach es X.env)).any (·.1) = false := by rfl) :
    PE X (.Call (.Name x p) (e :: es) [] pos) (tMake C sp dvs E t) := by
  intro pins s σ H Q I h
  refine wpAny_Call_Name_kw (ld_glob I hg hm ?_ hdb)
  refine PySem.W.callWith_K (h₀ := X.base) I.ok.mod.kin M.kp (thn (ha pos pins s σ H _ I h) fun us s1 ⟨vs, H1, I1, r, q⟩ => ⟨I1.kIn, ?_⟩) he hpl
  exact run_make M F hr hb hd hx I1 r q
end

/-! ### keywords -/
section
variable {X : Cx} {CX : CXT} {k : Nat} {f C : Addr} {fd : FuncData} {ps ks : List Str} {sp : Sp} {E : XK} {x m : Str} {p pos apos kpos : Pos} {e o : Expr} {es : List Expr} {kws : List Keyword} {te ta : TE} {t tk : TA} {nm : Option Str}

variable {g : List Value → List Value → List Value} {gV : List V → List V → List V}
end

/-! ### a def's body keeps its promise -/
/-- names: the parameters first -/
structure FnScope (N P : List Str) (sc : Scope) : Prop where
  kind : sc.kind = .function
  co : sc.isCoroutine = false
  gen : sc.isGenerator = false
  nd : N.Nodup
  pre : N.take P.length = P
  par : ∀ x ∈ P, sc.names.lookup x = some .local ∨ sc.names.lookup x = some .cell
  nofree : ∀ y ∈ sc.names, y.2 ≠ .free

theorem bindL_out {kindOf : Str → Option NameKind} {x : Str} : ∀ {binds : List (Str × Value)} {m : Str → Option Value}, (∀ v, (x, v) ∉ binds) → bindL kindOf binds m x = m x
  | [], _, _ => rfl
  | (n, v) :: r, m, h => by
    unfold bindL
    rw [bindL_out fun w hw => h w (List.mem_cons_of_mem _ hw)]
    split
    · have : x ≠ n := by rintro rfl; exact h v List.mem_cons_self
      simp [this]
    · rfl
theorem bindC_out {kindOf : Str → Option NameKind} {x : Str} : ∀ {binds : List (Str × Value)} {m : Str → Option Value}, (∀ v, (x, v) ∉ binds) → bindC kindOf binds m x = m x
  | [], _, _ => rfl
  | (n, v) :: r, m, h => by
    unfold bindC
    rw [bindC_out fun w hw => h w (List.mem_cons_of_mem _ hw)]
    split
    · rfl
    · have : x ≠ n := by rintro rfl; exact h v List.mem_cons_self
      simp [this]
theorem bindL_get {kindOf : Str → Option NameKind} {x : Str} {v : Value} : ∀ {P : List Str} {vs : List Value} {i : Nat} {m : Str → Option Value}, P.Nodup → P[i]? = some x → vs[i]? = some v → kindOf x = some .local →
    bindL kindOf (P.zip vs) m x = some v
  | [], _, _, _, _, h, _, _ => by simp at h
  | _ :: _, [], _, _, _, _, h, _ => by simp at h
  | p :: P, w :: vs, 0, m, nd, h1, h2, hk => by
    simp at h1 h2; subst h1; subst h2
    show bindL kindOf ((p, w) :: P.zip vs) m p = _
    unfold bindL
    rw [bindL_out fun v hv => (List.nodup_cons.mp nd).1 (List.of_mem_zip hv).1, if_pos hk]
    simp
  | p :: P, w :: vs, i + 1, m, nd, h1, h2, hk => by
    show bindL kindOf ((p, w) :: P.zip vs) m x = _
    unfold bindL
    exact bindL_get (i := i) (List.nodup_cons.mp nd).2 (by simpa using h1) (by simpa using h2) hk
theorem bindC_get {kindOf : Str → Option NameKind} {x : Str} {v : Value} : ∀ {P : List Str} {vs : List Value} {i : Nat} {m : Str → Option Value}, P.Nodup → P[i]? = some x → vs[i]? = some v → kindOf x ≠ some .local →
    bindC kindOf (P.zip vs) m x = some v
  | [], _, _, _, _, h, _, _ => by simp at h
  | _ :: _, [], _, _, _, _, h, _ => by simp at h
  | p :: P, w :: vs, 0, m, nd, h1, h2, hk => by
    simp at h1 h2; subst h1; subst h2
    show bindC kindOf ((p, w) :: P.zip vs) m p = _
    unfold bindC
    rw [bindC_out fun v hv => (List.nodup_cons.mp nd).1 (List.of_mem_zip hv).1, if_neg hk]
    simp
  | p :: P, w :: vs, i + 1, m, nd, h1, h2, hk => by
    show bindC kindOf ((p, w) :: P.zip vs) m x = _
    unfold bindC
    exact bindC_get (i := i) (List.nodup_cons.mp nd).2 (by simpa using h1) (by simpa using h2) hk

/-- the names' values at the entry -/
def start (N : List Str) (vs : List V) : St := vs.map some ++ List.replicate (N.length - vs.length) none

/-- the context of a def's body, at its entry; an exception leaves the frame, then lies as CX says -/
def cxOf (CX : CXT) (P : Program) (w : World) (K : PySem.W.Frag) (mg : Str → Option Value) (base : Heap) (N : List Str) (qual : Str) (scope : Scope) (f : Addr) (cd : Value) (A : Around) (outer : List Env) (s : Shared) (H : Hp) (E : XK) : Cx where
  prog := P
  w := w
  K := K
  mg := mg
  base := base
  A := A.deeper (envOfC qual scope s.heap.objs.size f cd)
  N := N
  s₀ := s
  H₀ := H
  env := envOfC qual scope s.heap.objs.size f cd
  outer := outer
  stack := envOfC qual scope s.heap.objs.size f cd :: outer
  ex := []
  calm := true
  fn := fun _ => true
  pn := []
  xe := fun e s' => wpAny (model P w) (A.deeper (envOfC qual scope s.heap.objs.size f cd)) (leaving (envOfC qual scope s.heap.objs.size f cd) e) (fun _ s'' => CX outer H s E e s'') (fun e' s'' => CX outer H s E e' s'') s'

theorem cell_has {sc : Scope} {n : Nat} {x : Str} (h : sc.names.lookup x = some .cell) : ∃ c, (cellsFrom n sc.names []).lookup x = some c := by
  have q := PySem.W.cellsFrom_some sc.names n [] (.inl h)
  exact Option.isSome_iff_exists.mp q

theorem inv_start {CX : CXT} {P : Program} {w : World} {K : PySem.W.Frag} {mg : Str → Option Value} {base : Heap} {N ps : List Str} {qual : Str} {scope : Scope} {f : Addr} {cd : Value} {A : Around} {outer : List Env} {s s1 : Shared} {H : Hp} {E : XK} {us : List Value} {vs : List V}
    (S : FnScope N ps scope) (hd : A.handled = none) (e0 : Env0 P w K mg base A outer s H) (hl : vs.length = ps.length) (r : Vals vs us)
    (x : InCallC s s.heap.objs.size (bindL (envOfC qual scope s.heap.objs.size f cd).kindOf (ps.zip us) fun _ => none) (cellsFrom (s.heap.objs.size + 1) scope.names []) (bindC (envOfC qual scope s.heap.objs.size f cd).kindOf (ps.zip us) fun _ => none) s1) :
    Inv (cxOf CX P w K mg base N qual scope f cd A outer s H E) [] (start N vs) H s1 := by
  have hpl : ps.length ≤ N.length := by have := congrArg List.length S.pre; rw [List.length_take] at this; omega
  obtain ⟨h1, tk, rfl, hk⟩ := x.done
  have noA : ∀ b : Addr, b ∉ (cxOf CX P w K mg base N qual scope f cd A outer s H E).ex := fun b z => absurd (show b ∈ ([] : List Addr) from z) (by simp)
  refine ⟨⟨e0.mod, S.kind, rfl, rfl, Nat.le_refl _, fun y z c h1 h2 => ?_, fun y hy => ?_, fun y c _ h => ?_, fun _ => hd, Around.frames_deeper e0.frames, .inr ⟨rfl, rfl⟩, fun b z => absurd z (noA b), e0.bs, e0.bsz, fun b _ _ => noA b, fun b z => absurd z (noA b), e0.funs, e0.frf⟩,
    rfl, e0.bare, Un.kept hk, ⟨_, x.toInCall.ns, fun i y v h1 h2 h3 => ?_⟩, fun y c h => ⟨_, x.cell y c h⟩, e0.hok.fresh (Nat.le_refl _), fun y c h => ?_, fun p hp => absurd (show p ∈ ([] : List (Addr × Obj)) from hp) (by simp), e0.hok.kept hk, ?_⟩
  · exact name_of_addr x.apart (PySem.mem_of_lookup h1) (PySem.mem_of_lookup h2)
  · have hy : scope.names.lookup y = some .cell ∨ scope.names.lookup y = some .free := hy
    rcases hy with hy | hy
    · exact cell_has hy
    · exact absurd rfl (S.nofree _ (PySem.mem_of_lookup hy))
  · exact Nat.le_of_lt (x.above y c (PySem.mem_of_lookup h))
  · have hi : i < vs.length := by
      unfold start at h2
      by_cases hi : i < vs.length
      · exact hi
      · rw [List.getElem?_append_right (by simpa using hi)] at h2
        rw [List.getElem?_replicate] at h2
        split at h2 <;> cases h2
    have ha : vs[i]? = some v := by
      unfold start at h2
      rw [List.getElem?_append_left (by simpa using hi), List.getElem?_map] at h2
      cases e : vs[i]? with
      | none => rw [e] at h2; cases h2
      | some a => rw [e] at h2; cases h2; rfl
    obtain ⟨u, hu, rv⟩ := r.get ha
    have hp : ps[i]? = some y := by
      rw [← S.pre, List.getElem?_take_of_lt (by omega)]; exact h1
    have ndP : ps.Nodup := by rw [← S.pre]; exact S.nd.sublist (List.take_sublist _ _)
    refine ⟨u, rv, ?_⟩
    rcases S.par y (List.mem_of_getElem? hp) with k | k
    · exact .inl ⟨k, bindL_get ndP hp hu k⟩
    · obtain ⟨c, e⟩ := cell_has (n := s.heap.objs.size + 1) k
      refine .inr ⟨.inl k, c, e, ?_⟩
      have q := x.cell y c e
      rw [bindC_get ndP hp hu (by show scope.names.lookup y ≠ _; rw [k]; decide)] at q
      exact q
  · exact e0.hok.fresh (Nat.le_of_lt (x.above y c (PySem.mem_of_lookup h)))
  · unfold start
    show _ = N.length
    rw [List.length_append, List.length_map, List.length_replicate]
    omega

/-- THE RULE: a def (or a method) of the text, by its body. The body's reading t is chosen for each entry; it is run at the parameters' values -/
theorem fn_of {CX : CXT} {P : Program} {w : World} {K : PySem.W.Frag} {mg : Str → Option Value} {base : Heap} {k : Nat} {f : Addr} {name qual : Str} {params : Arguments} {body : List Stmt} {scope : Scope} {dV kV doc pm cdv ct oc : Value} {an od : Option Addr}
    {osl : Array (Option Value)} {N ps : List Str} {sp : Sp} (lk : K.lookup f = some ⟨oc, od, .func (PySem.W.fnOf name qual params body scope dV kV doc pm an cdv ct), osl⟩) (hcd : PySem.W.codeIn K cdv qual = true) (S : FnScope N ps scope)
    (len : ∀ vs H Q E, sp vs H Q E → vs.length = ps.length)
    (hbody : ∀ (A : Around) (outer : List Env) (s : Shared) (H : Hp) (vs : List V) (Q : VK) (E : XK), Room k (A.deeper (envOfC qual scope s.heap.objs.size f cdv)) → sp vs H Q E →
      ∃ t, PSs (cxOf CX P w K mg base N qual scope f cdv A outer s H E) body t ∧ t { nx := fun _ H' => Q .non H', rt := Q } (start N vs) H) :
    FnOk P w K mg base CX (k + 1) f (PySem.W.fnOf name qual params body scope dV kV doc pm an cdv ct) ps sp := by
  refine ⟨len, fun A outer s H args us vs Q E hr e0 hb r hsp => ?_⟩
  have hl := len _ _ _ _ hsp
  have KX : K.In s.heap := e0.mod.kin.keeps fun b o e => (e0.bs b o e).1
  have lim : s.heap.NoLimit := e0.mod.nolimit.keeps fun b o e => (e0.bs b o e).1
  have hkind : ∀ y ∈ ps.zip us, scope.names.lookup y.1 = some .local ∨ (scope.names.lookup y.1 = some .cell ∧ ((cellsFrom (s.heap.objs.size + 1) scope.names []).lookup y.1).isSome = true) := fun ⟨n, v⟩ hy => by
    rcases S.par n (List.of_mem_zip hy).1 with q | q
    · exact .inl q
    · exact .inr ⟨q, PySem.W.cellsFrom_some _ _ _ (.inl q)⟩
  refine codeAny_call_function hr.depth (KX _ _ lk) rfl S.co S.gen rfl (PySem.W.codeRec_of KX hcd) (hb _ _ _ _ ?_)
  refine wpAny_newFunctionEnv_cells S.kind hkind fun env he s1 x => ?_
  subst he
  refine ⟨lim.keeps x.toInCall.keep, codeAny_func ?_⟩
  obtain ⟨t, ht, hq⟩ := hbody A outer s H vs Q E (hr.deeper _) hsp
  have I : Inv (cxOf CX P w K mg base N qual scope f cdv A outer s H E) [] (start N vs) H s1 := inv_start S hr.hd e0 hl r x
  refine wpAny_mono (ht [] s1 (start N vs) H _ I hq) (fun fl s' hs => ?_) fun e s' hs => hs
  have fin : ∀ {σ' : St} {H' : Hp} {v : V} {u : Value}, Inv (cxOf CX P w K mg base N qual scope f cdv A outer s H E) [] σ' H' s' → RelV v u → Q v H' → CE outer P w H s Q u s' :=
    fun {σ' H' v u} J rv q => ⟨v, H', J.os, J.bare, J.base, J.hok, rv, q⟩
  cases fl with
  | ret u =>
    obtain ⟨v, σ', H', J, rv, q⟩ := hs
    exact fin J rv q
  | next =>
    obtain ⟨σ', H', J, q⟩ := hs
    exact fin (v := V.non) (u := Value.none) J rfl q
  | brk =>
    obtain ⟨_, _, _, q⟩ := hs
    exact False.elim q
  | cont =>
    obtain ⟨_, _, _, q⟩ := hs
    exact False.elim q
end L2

namespace L2
open PySem PySem.Spec PyProof.Rows
section
variable {X : Cx} {x : Str} {p pos : Pos} {e : Expr} {es : List Expr} {t : TA} {id T : String} {r : List V → Hp → VK → Prop}

def tCB (r : List V → Hp → VK → Prop) (t : TA) : TE := fun σ H Q => t σ H fun vs H1 => r vs H1 Q
/-- f(e, ..), f a built-in function -/
theorem pe_callB (hc : CallR X (.builtin id) r) (hg : Gl X x) (hm : X.mg x = none) (hv : bootBuiltins x = some (.builtin id)) (ha : PA X (e :: es) t) (hn : x ≠ "__name__" := by decide) (hdb : (x == ("__debug__" : Str)) = false := by decide)
    (he : starEach (e :: es) X.env = (false, eval e X.env) :: starEach es X.env := by rfl) (hpl : (backTo pos (starEach es X.env)).any (·.1) = false := by rfl) : PE X (.Call (.Name x p) (e :: es) [] pos) (tCB r t) := by
  intro pins s σ H Q I h
  refine wpAny_Call_Name_kw (ld_blt I hg hm hv ?_ hn hdb)
  exact PyProof.Rows.callWith_builtin1 (thn (ha pos pins s σ H _ I h) fun us s1 ⟨vs, H1, I1, r1, q1⟩ => hc pins s1 σ H1 vs us Q I1 r1 q1) he hpl
/-- T(e, ..), T a built-in type -/
theorem pe_callTy (hc : CallR X (.type T) r) (hg : Gl X x) (hm : X.mg x = none) (hv : bootBuiltins x = some (.type T)) (ha : PA X (e :: es) t) (hn : x ≠ "__name__" := by decide) (hdb : (x == ("__debug__" : Str)) = false := by decide)
    (he : starEach (e :: es) X.env = (false, eval e X.env) :: starEach es X.env := by rfl) (hpl : (backTo pos (starEach es X.env)).any (·.1) = false := by rfl) : PE X (.Call (.Name x p) (e :: es) [] pos) (tCB r t) := by
  intro pins s σ H Q I h
  refine wpAny_Call_Name_kw (ld_blt I hg hm hv ?_ hn hdb)
  exact PyProof.Rows.callWith_type1 (thn (ha pos pins s σ H _ I h) fun us s1 ⟨vs, H1, I1, r1, q1⟩ => hc pins s1 σ H1 vs us Q I1 r1 q1) he hpl
end
end L2

namespace HT
open PySem PyProof.Rows



section
open PySem.SeqAt
open PySem.AutoSeq1 (wpAny_loadPart')
open PySem.MeetsSeq PySem.MeetsSeq2 PySem.MeetsSeq3

end

section
variable {prog : Program} {w : World} {A : Around} {E : Value → Shared → Prop} {s : Shared}


/-- t + u, t not empty -/
theorem cat_tup {t b : Addr} {vs ws : List Value} {Q : Value → Shared → Prop} (ht : IsTup s.heap t vs.toArray) (hb : IsTup s.heap b ws.toArray) (hv : vs ≠ [])
    (h1 : ws = [] → Q (.ref t) s) (h2 : ws ≠ [] → Q (.ref s.heap.objs.size) { s with heap := s.heap.push { cls := .type "tuple", data := .seq (vs ++ ws).toArray } })
    (hsz : vs.length + ws.length ≤ sizeLine) : wpAny (model prog w) A (binaryOp .Add (.ref t) (.ref b)) Q E s := by
  obtain ⟨⟨cls, dd, data, sl⟩, ho, hc, n, hd⟩ := id ht
  obtain ⟨⟨cls2, dd2, data2, sl2⟩, ho2, hc2, n2, hd2⟩ := id hb
  simp only at hc hd hc2 hd2
  subst hc hd hc2 hd2
  have e : vs.toArray ++ ws.toArray = (vs ++ ws).toArray := by simp
  by_cases hw : ws = []
  · exact concat_meets ⟨_, ho, rfl⟩ ⟨_, ho2, rfl⟩ noFill_tuple_add seq_tuple_add PySem.F.slot_tuple_add PySem.F.entry_tuple_add (PySem.F.args_tuple_add_2 _ _)
      (tuple_addW1 t b vs.toArray ws.toArray n n2 dd dd2 sl sl2 (by simpa using hv) (by simp [hw])) ⟨ho, ho2, h1 hw⟩
  · refine concat_meets ⟨_, ho, rfl⟩ ⟨_, ho2, rfl⟩ noFill_tuple_add seq_tuple_add PySem.F.slot_tuple_add PySem.F.entry_tuple_add (PySem.F.args_tuple_add_2 _ _)
      (tuple_addW2 t b vs.toArray ws.toArray n n2 dd dd2 sl sl2 (by simpa using hv) (by simpa using hw) (by rw [List.size_toArray, List.size_toArray]; exact hsz)) ⟨ho, ho2, ?_⟩
    rw [e]
    exact h2 hw

/-! ### t[a:b], not the whole -/
/-- a slice's bound as a place among n (d where it is left out) -/
def sIx (n d : Nat) : Option Int → Nat
  | none => d
  | some v => if v < 0 then (v + (n : Int)).toNat else min v.toNat n
theorem sIx_none (n d : Nat) : sIx n d none = d := rfl
theorem sIx_nat (n d k : Nat) : sIx n d (some (k : Int)) = min k n := by
  show (if (k : Int) < 0 then ((k : Int) + (n : Int)).toNat else min (k : Int).toNat n) = min k n
  rw [if_neg (by omega), Int.toNat_natCast]
theorem sIx_le (n d : Nat) (hd : d ≤ n) (o : Option Int) : sIx n d o ≤ n := by
  cases o with
  | none => exact hd
  | some v =>
    show (if v < 0 then (v + (n : Int)).toNat else min v.toNat n) ≤ n
    by_cases hv : v < 0
    · rw [if_pos hv]; omega
    · rw [if_neg hv]; exact Nat.min_le_right _ _
theorem clip_eq (v : Int) (n d : Nat) : (if v < 0 then max (v + (n : Int)) 0 else min v (n : Int)) = ((sIx n d (some v) : Nat) : Int) := by
  show (if v < 0 then max (v + (n : Int)) 0 else min v (n : Int)) = (((if v < 0 then (v + (n : Int)).toNat else min v.toNat n) : Nat) : Int)
  by_cases hv : v < 0
  · simp only [if_pos hv]; omega
  · simp only [if_neg hv]; omega
theorem adjust_gen (lo hi : Option Int) (n : Nat) : Builtin.Slice.sliceAdjust lo hi 1 (n : Int) = (((sIx n 0 lo : Nat) : Int), ((sIx n n hi : Nat) : Int)) := by
  have h1 : ¬ ((1 : Int) < 0) := by omega
  unfold Builtin.Slice.sliceAdjust
  simp only [h1, if_false]
  refine Prod.ext ?_ ?_
  · cases lo with
    | none => rfl
    | some v => exact clip_eq v n 0
  · cases hi with
    | none => rfl
    | some v => exact clip_eq v n n
theorem places_gen (i j : Nat) : Builtin.Slice.slicePlaces (i : Int) (j : Int) 1 = j - i := by
  unfold Builtin.Slice.slicePlaces
  have h1 : (1 : Int) > 0 := by omega
  simp only [h1, if_true, Int.ediv_one]
  split <;> omega
theorem slicePart_ {v : Value} {o : Option Int} {Q : Option Int → Shared → Prop} (p : IsPart v o) (h : Q o s) : wpAny (model prog w) A (Builtin.Slice.slicePartIndex v) Q E s := by
  cases p with
  | none => exact slicePart_none h
  | int i t => exact slicePart_int h
theorem sliceApplied_gen {sl : Addr} {vl vu : Value} {lo hi : Option Int} {n : Nat} {Q : Int × Int × Nat → Shared → Prop} (hs : s.heap.IsSliceOf sl vl vu .none) (pl : IsPart vl lo) (pu : IsPart vu hi)
    (h : Q (((sIx n 0 lo : Nat) : Int), 1, sIx n n hi - sIx n 0 lo) s) : wpAny (model prog w) A (Builtin.Slice.sliceApplied (.ref sl) (pure (n : Int))) Q E s := by
  obtain ⟨os, hos, hcs, hds⟩ := id hs
  unfold Builtin.Slice.sliceApplied Builtin.Slice.sliceFields
  refine wpAny_bind (wpAny_bind (wpAny_field hos hds (x := vl) rfl (wpAny_bind (wpAny_field hos hds (x := vu) rfl (wpAny_bind (wpAny_field hos hds (x := .none) rfl (wpAny_pure ?_)))))))
  refine wpAny_bind (slicePart_none ?_)
  show wpAny _ _ (if ((1 : Int) == 0) = true then _ else _) _ _ s
  rw [if_neg (by decide)]
  refine wpAny_bind (slicePart_ pl (wpAny_bind (slicePart_ pu (wpAny_bind (wpAny_pure ?_)))))
  show wpAny _ _ (match Builtin.Slice.sliceAdjust lo hi 1 (n : Int) with | (lo, hi) => pure (lo, (1 : Int), Builtin.Slice.slicePlaces lo hi 1)) _ _ s
  rw [adjust_gen lo hi n]
  show wpAny _ _ (pure (((sIx n 0 lo : Nat) : Int), (1 : Int), Builtin.Slice.slicePlaces ((sIx n 0 lo : Nat) : Int) ((sIx n n hi : Nat) : Int) 1)) _ _ s
  rw [places_gen]
  exact wpAny_pure h
theorem pick_gen (xs : Array Value) (i k : Nat) : ((List.range k).filterMap fun (m : Nat) => xs[((i : Int) + (m : Int) * 1).toNat]?).toArray = ((xs.toList.drop i).take k).toArray := by
  have e : (fun (m : Nat) => xs[((i : Int) + (m : Int) * 1).toNat]?) = fun m => xs[i + m]? := by
    funext m
    have : ((i : Int) + (m : Int) * 1).toNat = i + m := by omega
    rw [this]
  rw [e]
  have := pick_run xs i k
  rw [List.filterMap_map] at this
  have e2 : ((fun x => xs[x]?) ∘ fun x => i + x) = fun m => xs[i + m]? := rfl
  rw [e2] at this
  rw [this]

theorem getItem_tuple_cut {t sl : Addr} {items : Array Value} {vl vu : Value} {lo hi : Option Int} {Q : Value → Shared → Prop} (ht : IsTup s.heap t items) (hs : s.heap.IsSliceOf sl vl vu .none) (pl : IsPart vl lo) (pu : IsPart vu hi)
    (hw : ¬ (sIx items.size 0 lo = 0 ∧ sIx items.size items.size hi = items.size))
    (h : Q (.ref s.heap.objs.size) { s with heap := s.heap.push { cls := .type "tuple", data := .seq ((items.toList.drop (sIx items.size 0 lo)).take (sIx items.size items.size hi - sIx items.size 0 lo)).toArray } })
    (hsz : items.size ≤ sizeLine) : wpAny (model prog w) A (getItem (.ref t) (.ref sl)) Q E s := by
  have htake : sizeOk (.seq ((items.toList.drop (sIx items.size 0 lo)).take (sIx items.size items.size hi - sIx items.size 0 lo)).toArray) := by
    show ((items.toList.drop (sIx items.size 0 lo)).take (sIx items.size items.size hi - sIx items.size 0 lo)).toArray.size ≤ sizeLine
    rw [List.size_toArray, List.length_take, List.length_drop, Array.length_toList]
    omega
  have hj : sIx items.size items.size hi ≤ items.size := sIx_le _ _ (Nat.le_refl _) hi
  obtain ⟨os, hos, hcs, hds⟩ := id hs
  have hTs : s.TypeIs (.ref sl) "slice" := ⟨os, hos, hcs⟩
  unfold getItem
  try with_reducible refine wpAny_holding ?_
  first | refine wpAny_bind (wpAny_pure ?_) | skip
  refine wpAny_bind (wpAny_sequenceKey ht.typeIs (by decide) ?_)
  refine wpAny_bind (wpAny_callSpecial?_slot (name := Str.ofString "__getitem__") ht.typeIs PyProof.Rows.slot_tuple_getitem
    (wpAny_call_entry PyProof.Rows.slot_tuple_getitem ht.typeIs entry_tuple_getitem ?_ (args_tuple_getitem _ _)))
  show wpAny _ _ (Builtin.Tuple.tupleItemsOf (.ref t) >>= _) _ _ s
  refine wpAny_bind (tupleItemsOf_ ht ?_)
  refine wpAny_bind (wpAny_typeOf hTs ?_)
  rw [if_pos (by decide)]
  refine wpAny_bind (sliceApplied_gen hs pl pu ?_)
  have hno : ¬ ((((sIx items.size 0 lo : Nat) : Int) == 0 && (1 : Int) == 1 && (sIx items.size items.size hi - sIx items.size 0 lo) == items.size) = true) := by
    intro q
    rw [Bool.and_eq_true, Bool.and_eq_true] at q
    have q1 : ((sIx items.size 0 lo : Nat) : Int) = 0 := eq_of_beq q.1.1
    have q2 : sIx items.size items.size hi - sIx items.size 0 lo = items.size := eq_of_beq q.2
    exact hw ⟨by omega, by omega⟩
  show wpAny _ _ (if (((sIx items.size 0 lo : Nat) : Int) == 0 && (1 : Int) == 1 && (sIx items.size items.size hi - sIx items.size 0 lo) == items.size) = true then _ else _) _ _ s
  rw [if_neg hno, pick_gen]
  first
    | exact wpAny_bind (m := Builtin.Tuple.tupleExact _) (wpAny_newObj_type (wpAny_pure ⟨_, rfl, wpAny_pure h⟩) htake)
    | exact wpAny_bind (m := Builtin.Tuple.tupleExact _) (wpAny_newObj_type (wpAny_bind (wpAny_pure (wpAny_pure ⟨_, rfl, wpAny_pure h⟩))) htake)
    | exact wpAny_bind (wpAny_bind (m := Builtin.Tuple.tupleExact _) (wpAny_newObj_type (wpAny_pure (wpAny_pure ⟨_, rfl, wpAny_pure h⟩)) htake))
    | exact wpAny_bind (wpAny_bind (m := Builtin.Tuple.tupleExact _) (wpAny_newObj_type (wpAny_pure ⟨_, rfl, wpAny_pure h⟩) htake))
end
end HT

namespace L2
open PySem PySem.Spec PyProof.Rows

/-! ### the parts of a slice -/
abbrev TO := St → Hp → (Option Int → Hp → Prop) → Prop
/-- a slice's part (left out, or an int) -/
def PO (X : Cx) (e : Option Expr) (t : TO) : Prop :=
  ∀ (pins : List (Addr × Obj)) (s : Shared) (σ : St) (H : Hp) (Q : Option Int → Hp → Prop), Inv X pins σ H s → t σ H Q →
    wpAny (model X.prog X.w) X.A (evalPart e X.env) (fun u s' => ∃ o H', Inv X pins σ H' s' ∧ IsPart u o ∧ Q o H') X.xe s
def tNoPart : TO := fun _ H Q => Q none H
def tPart (t : TE) : TO := fun σ H Q => t σ H fun x H1 => ∃ i, x = .int i ∧ Q (some i) H1


section
variable {X : Cx} {e : Expr} {te : TE} {lo hi : Option Expr} {tl th : TO} {pos p2 : Pos}

theorem po_none : PO X none tNoPart := by
  intro pins s σ H Q I h
  rw [evalPart_none]
  exact wpAny_pure ⟨none, H, I, .none, h⟩
theorem po_some (h : PE X e te) : PO X (some e) (tPart te) := by
  intro pins s σ H Q I hw
  rw [evalPart_some]
  refine thn (h pins s σ H _ I hw) fun u s1 ⟨x, H1, I1, r1, q1⟩ => ?_
  obtain ⟨i, rfl, q⟩ := q1
  obtain ⟨t, rfl⟩ := r1
  exact ⟨some i, H1, I1, .int i t, q⟩

/-- what a slice of a value is, by values: the slice object stands at sl -/
def SlR (X : Cx) (r : V → Option Int → Option Int → Hp → VK → Prop) : Prop :=
  ∀ (pins : List (Addr × Obj)) (s : Shared) (σ : St) (H : Hp) (x : V) (v vl vu : Value) (lo hi : Option Int) (sl : Addr) (Q : VK), Inv X pins σ H s → RelV x v → s.heap.IsSliceOf sl vl vu .none → IsPart vl lo → IsPart vu hi → r x lo hi H Q →
    ∃ T id, typeLookup (.type T) "__getitem__" = pure (some (.builtin id)) ∧ s.TypeIs v T ∧ wpAny (model X.prog X.w) X.A (getItem v (.ref sl)) (EP X pins σ Q) X.xe s
def tSl (r : V → Option Int → Option Int → Hp → VK → Prop) (te : TE) (tl th : TO) : TE := fun σ H Q => te σ H fun x H1 => tl σ H1 fun l H2 => th σ H2 fun u H3 => r x l u H3 Q
/-- a[lo:hi], any a -/
theorem pe_slice {r : V → Option Int → Option Int → Hp → VK → Prop} (hr : SlR X r) (he : PE X e te) (hl : PO X lo tl) (hu : PO X hi th) : PE X (.Subscript e (.Slice lo hi none p2) pos) (tSl r te tl th) := by
  intro pins s σ H Q I h
  refine Subscript_ (thn (he pins s σ H _ I h) fun v s1 ⟨x, H1, I1, r1, q1⟩ => ?_)
  refine wpAny_Slice (thn (hl pins s1 σ H1 _ I1 q1) fun vl s2 ⟨l, H2, I2, pl, q2⟩ => thn (hu pins s2 σ H2 _ I2 q2) fun vu s3 ⟨u, H3, I3, pu, q3⟩ => ?_)
  rw [evalPart_none]
  refine wpAny_pure ?_
  have I4 : Inv X pins σ H3 { s3 with heap := s3.heap.push { cls := .type "slice", data := .fields #[vl, vu, .none] } } := I3.kept (t' := s3.toks) fun b ob q => Heap.get?_push_of_some _ q
  obtain ⟨T, id, hT, ht, hg⟩ := hr pins { s3 with heap := s3.heap.push { cls := .type "slice", data := .fields #[vl, vu, .none] } } σ H3 x v vl vu l u s3.heap.objs.size Q I4 r1 (Heap.IsSliceOf.new ..) pl pu q3
  show wpAny (model X.prog X.w) X.A (subscriptTail e (.Slice lo hi none p2) v (.ref s3.heap.objs.size)) (EP X pins σ Q) X.xe { s3 with heap := s3.heap.push { cls := .type "slice", data := .fields #[vl, vu, .none] } }
  exact tail_any (ops := [.ref s3.heap.objs.size, v]) ht hT hg (by with_unfolding_all rfl)

/-- the items of xs[lo:hi] -/
def cutV (xs : List V) (lo hi : Option Int) : List V := (xs.drop (HT.sIx xs.length 0 lo)).take (HT.sIx xs.length xs.length hi - HT.sIx xs.length 0 lo)
theorem cutV_length (xs : List V) (lo hi : Option Int) : (cutV xs lo hi).length ≤ xs.length := by
  unfold cutV
  rw [List.length_take, List.length_drop]
  omega
/-- t[lo:hi], not the whole of it (the whole would be t itself) -/
def rSlT (K : PySem.W.Frag) : V → Option Int → Option Int → Hp → VK → Prop := fun x lo hi H Q => ∃ a xs, x = .ref a ∧ SqT K H a xs ∧
  ¬ (HT.sIx xs.length 0 lo = 0 ∧ HT.sIx xs.length xs.length hi = xs.length) ∧ ∀ p, H p = none → Q (.ref p) (upd H p (.tup (cutV xs lo hi)))
theorem sl_tup : SlR X (rSlT X.K) := by
  intro pins s σ H x v vl vu lo hi sl Q I rx hs pl pu h
  obtain ⟨a, xs, rfl, hx, hw, q⟩ := h
  cases rx
  obtain ⟨its, r, ht, hz⟩ := I.tuple hx
  have hlen : its.toArray.size = xs.length := by rw [List.size_toArray]; exact r.length.symm
  refine ⟨"tuple", _, PyProof.Rows.slot_tuple_getitem.lookup, ht.typeIs, ?_⟩
  refine HT.getItem_tuple_cut ht hs pl pu (by rw [hlen]; exact hw) ?_ (by rw [hlen]; exact hz)
  rw [hlen]
  refine ⟨.ref s.heap.objs.size, _, I.laid (t' := s.toks) (o := .tup (cutV xs lo hi)) (fun b ob q => Heap.get?_push_of_some _ q) (Nat.le_refl _) ?_, rfl, q _ (I.hok.fresh (Nat.le_refl _))⟩
  exact ⟨Nat.le_trans (cutV_length xs lo hi) hz, _, (r.drop (HT.sIx xs.length 0 lo)).take (HT.sIx xs.length xs.length hi - HT.sIx xs.length 0 lo), IsTup.new _ _⟩

/-! ### t < u, t + u -/
/-- t + u, t not empty: u empty gives t itself -/
def rCatT (K : PySem.W.Frag) : R2 := fun x y H Q => ∃ a b xs ys, x = .ref a ∧ y = .ref b ∧ SqT K H a xs ∧ SqT K H b ys ∧ xs ≠ [] ∧ xs.length + ys.length ≤ sizeLine ∧
  (ys = [] → Q (.ref a) H) ∧ (ys ≠ [] → ∀ p, H p = none → Q (.ref p) (upd H p (.tup (xs ++ ys))))
theorem Vals.nil_iff {xs : List V} {us : List Value} (r : Vals xs us) : us = [] ↔ xs = [] := by
  cases r with
  | nil => simp
  | cons _ _ => simp
theorem op_catT : OpR X (binaryOp .Add) (rCatT X.K) := by
  intro pins s σ H x y v u Q I rx ry h
  obtain ⟨a, b, xs, ys, rfl, rfl, ha, hb, hx, hz, q1, q2⟩ := h
  cases rx
  cases ry
  obtain ⟨its, r1, p1, _⟩ := I.tuple ha
  obtain ⟨its2, r2, p2, _⟩ := I.tuple hb
  refine HT.cat_tup p1 p2 (fun z => hx (r1.nil_iff.mp z)) (fun z => ⟨.ref a, H, I, rfl, q1 (r2.nil_iff.mp z)⟩) (fun z => ?_) (by rw [← r1.length, ← r2.length]; exact hz)
  refine ⟨.ref s.heap.objs.size, _, I.laid (t' := s.toks) (o := .tup (xs ++ ys)) (fun b ob q => Heap.get?_push_of_some _ q) (Nat.le_refl _) ?_, rfl, q2 (fun w => z (r2.nil_iff.mpr w)) _ (I.hok.fresh (Nat.le_refl _))⟩
  exact ⟨by rw [List.length_append]; exact hz, _, r1.append r2, IsTup.new _ _⟩
end
end L2

namespace L2
open PySem PySem.Spec PyProof.Rows

/-! ### places -/
/-- the place that an index of any sign means -/
def ixN (n : Nat) (i : Int) : Option Nat := if 0 ≤ i then (if i < n then some i.toNat else none) else if -(n : Int) ≤ i then some (i + n).toNat else none
def atI {α : Type} (xs : List α) (i : Int) : Option α := (ixN xs.length i).bind fun j => xs[j]?
theorem ixN_seq {n : Nat} {i : Int} {j : Nat} (h : ixN n i = some j) : seqIndex? i n = some j ∧ j < n ∧ -(n : Int) ≤ i ∧ i < n := by
  unfold ixN at h
  by_cases h0 : 0 ≤ i
  · rw [if_pos h0] at h
    by_cases h1 : i < n
    · rw [if_pos h1] at h
      have e : i.toNat = j := Option.some.inj h
      exact ⟨by rw [seqIndex_of h0 h1, e], by omega, by omega, h1⟩
    · rw [if_neg h1] at h; cases h
  · rw [if_neg h0] at h
    by_cases h1 : -(n : Int) ≤ i
    · rw [if_pos h1] at h
      have e : (i + n).toNat = j := Option.some.inj h
      exact ⟨by rw [seqIndex_neg (by omega) h1, e], by omega, h1, by omega⟩
    · rw [if_neg h1] at h; cases h
theorem atI_get {α : Type} {xs : List α} {i : Int} {v : α} (h : atI xs i = some v) : ∃ j, seqIndex? i xs.length = some j ∧ xs[j]? = some v ∧ j < xs.length ∧ -(xs.length : Int) ≤ i ∧ i < xs.length := by
  unfold atI at h
  cases e : ixN xs.length i with
  | none => rw [e] at h; cases h
  | some j =>
    rw [e] at h
    obtain ⟨h1, h2, h3, h4⟩ := ixN_seq e
    exact ⟨j, h1, h, h2, h3, h4⟩
theorem atI_nat {α : Type} {xs : List α} {j : Nat} {v : α} (h : xs[j]? = some v) : atI xs (j : Int) = some v := by
  have hj : j < xs.length := (List.getElem?_eq_some_iff.mp h).1
  have e : ixN xs.length (j : Int) = some j := by
    unfold ixN
    rw [if_pos (by omega), if_pos (by omega)]; simp
  unfold atI; rw [e]; exact h

/-! ### what may be subscripted -/
/-- what stands as an index of a plain subscript -/
def PlainIx (b : Expr) : Prop := ∀ o i, subscripted b false o i = operate [o, i] (getItem o i)
/-- a subscript by values -/
def IxR (X : Cx) (r : R2) : Prop :=
  ∀ (value slice : Expr) (pins : List (Addr × Obj)) (s : Shared) (σ : St) (H : Hp) (x y : V) (v u : Value) (Q : VK), Inv X pins σ H s → RelV x v → RelV y u → r x y H Q →
    subscripted slice false v u = operate [v, u] (getItem v u) → wpAny (model X.prog X.w) X.A (subscriptTail value slice v u) (EP X pins σ Q) X.xe s
/-- a call of a builtin's method by values: the receiver, the arguments -/
def MtR (X : Cx) (id : String) (r : V → List V → Hp → VK → Prop) : Prop :=
  ∀ (pins : List (Addr × Obj)) (s : Shared) (σ : St) (H : Hp) (x : V) (xs : List V) (v : Value) (us : List Value) (Q : VK), Inv X pins σ H s → RelV x v → Vals xs us → r x xs H Q →
    wpAny (model X.prog X.w) X.A (call (.builtin id) (v :: us)) (EP X pins σ Q) X.xe s
section
variable {X : Cx} {a b : Expr} {ta tb : TE} {pos : Pos}
/-- a[b] -/
theorem pe_ix {r : R2} (hr : IxR X r) (ha : PE X a ta) (hb : PE X b tb) (hs : PlainIx b) : PE X (.Subscript a b pos) (tOp r ta tb) := by
  intro pins s σ H Q I h
  exact Subscript_ (binT ha hb I h fun v u s2 x y H2 I2 rx ry q => hr a b pins s2 σ H2 x y v u Q I2 rx ry q (hs _ _))

def rIxL (K : PySem.W.Frag) : R2 := fun x y H Q => ∃ p xs i v, x = .ref p ∧ y = .int i ∧ SqL K H p xs ∧ atI xs i = some v ∧ Q v H
def rIxT (K : PySem.W.Frag) : R2 := fun x y H Q => ∃ p xs i v, x = .ref p ∧ y = .int i ∧ SqT K H p xs ∧ atI xs i = some v ∧ Q v H
theorem ix_list : IxR X (rIxL X.K) := by
  intro value slice pins s σ H x y v u Q I rx ry h hs
  obtain ⟨p, xs, i, z, rfl, rfl, hq, he, q⟩ := h
  cases rx
  obtain ⟨t, rfl⟩ := ry
  obtain ⟨its, r, pl, hz⟩ := I.list hq
  obtain ⟨j, h1, h2, h3, h4, h5⟩ := atI_get he
  obtain ⟨w, ew, rw'⟩ := r.get h2
  have hl := r.length
  have hn := line63
  have fin : EP X pins σ Q w s := ⟨z, H, I, rw', q⟩
  by_cases h0 : 0 ≤ i
  · have hj : i.toNat = j := by
      rw [seqIndex_of h0 h5] at h1
      exact Option.some.inj h1
    exact item_listR pl.isList h0 (by omega) (by rw [hj]; simpa using ew) fin hs
  · have hj : (i + (its.toArray.size : Int)).toNat = j := by
      rw [seqIndex_neg (by omega) h4] at h1
      rw [List.size_toArray, ← hl]
      exact Option.some.inj h1
    exact subscriptTail_builtinR (x := w) pl.isList.typeIs slot_list_getitem.lookup
      (wpAny_getItem_list_neg (Q := fun r s' => r = w ∧ EP X pins σ Q r s') pl.isList (by omega) (by rw [List.size_toArray] <;> omega) (by omega) (by rw [hj]; simpa using ew) ⟨rfl, fin⟩) hs
theorem ix_tup : IxR X (rIxT X.K) := by
  intro value slice pins s σ H x y v u Q I rx ry h hs
  obtain ⟨p, xs, i, z, rfl, rfl, hq, he, q⟩ := h
  cases rx
  obtain ⟨t, rfl⟩ := ry
  obtain ⟨its, r, pl, hz⟩ := I.tuple hq
  obtain ⟨j, h1, h2, h3, h4, h5⟩ := atI_get he
  obtain ⟨w, ew, rw'⟩ := r.get h2
  have hl := r.length
  have hn := line63
  have fin : EP X pins σ Q w s := ⟨z, H, I, rw', q⟩
  exact subscriptTail_builtinR (x := w) pl.typeIs slot_tuple_getitem.lookup
    (getItem_tuple (j := j) (Q := fun r s' => r = w ∧ EP X pins σ Q r s') pl (by omega) (by omega) (by rw [List.size_toArray, ← hl]; exact h1) (by simpa using ew) ⟨rfl, fin⟩) hs

/-! ### xs[i] = v, any sign -/

/-! ### slices -/
theorem slice_bounds (lo hi : Option Int) (n : Nat) : (sliceBounds lo hi none n).1 = ((HT.sIx n 0 lo : Nat) : Int) ∧ (sliceBounds lo hi none n).2.1 = ((HT.sIx n n hi : Nat) : Int) ∧ (sliceBounds lo hi none n).2.2 = 1 := by
  refine ⟨?_, ?_, rfl⟩
  · cases lo with
    | none => simp [sliceBounds, HT.sIx]
    | some i =>
      simp only [sliceBounds, HT.sIx, Option.getD_none, show (1 : Int) > 0 by decide, if_true]
      by_cases h : i < 0
      · simp only [h, if_true] <;> omega
      · simp only [h, if_false] <;> omega
  · cases hi with
    | none => simp [sliceBounds, HT.sIx]
    | some i =>
      simp only [sliceBounds, HT.sIx, Option.getD_none, show (1 : Int) > 0 by decide, if_true]
      by_cases h : i < 0
      · simp only [h, if_true] <;> omega
      · simp only [h, if_false] <;> omega
theorem slicePick_cut (its : List Value) (lo hi : Option Int) : slicePick its.toArray lo hi none = ((its.drop (HT.sIx its.length 0 lo)).take (HT.sIx its.length its.length hi - HT.sIx its.length 0 lo)).toArray := by
  obtain ⟨h1, h2, h3⟩ := slice_bounds lo hi its.toArray.size
  unfold slicePick
  rw [h1, h2, h3]
  simp only [sliceRange_one, pick_run, List.size_toArray] <;> rfl
/-- xs[lo:hi] of a list: a new list -/
def rSlL (K : PySem.W.Frag) : V → Option Int → Option Int → Hp → VK → Prop := fun x lo hi H Q => ∃ a xs, x = .ref a ∧ SqL K H a xs ∧ ∀ p, H p = none → Q (.ref p) (upd H p (.lst (cutV xs lo hi)))
theorem sl_list : SlR X (rSlL X.K) := by
  intro pins s σ H x v vl vu lo hi sl Q I rx hs pl pu h
  obtain ⟨a, xs, rfl, hx, q⟩ := h
  cases rx
  obtain ⟨its, r, ht, hz⟩ := I.list hx
  have hlen := r.length
  refine ⟨"list", _, slot_list_getitem.lookup, ht.isList.typeIs, ?_⟩
  refine wpAny_getItem_list_slice ht.isList hs pl pu .none (by simp) ?_ (by rw [List.size_toArray] <;> omega)
  rw [slicePick_cut, ← hlen]
  refine ⟨.ref s.heap.objs.size, _, I.laid (t' := s.toks) (o := .lst (cutV xs lo hi)) (fun b ob q => Heap.get?_push_of_some _ q) (Nat.le_refl _) ?_, rfl, q _ (I.hok.fresh (Nat.le_refl _))⟩
  exact ⟨Nat.le_trans (cutV_length xs lo hi) hz, _, 0, (r.drop (HT.sIx xs.length 0 lo)).take (HT.sIx xs.length xs.length hi - HT.sIx xs.length 0 lo), Heap.get?_push_size _ rfl⟩

/-! ### in, not in: flat items -/
def flatV : V → Bool
  | .non => true
  | .bl _ => true
  | .int _ => true
  | .str _ => true
  | _ => false
/-- == of flat values -/
def eqV : V → V → Bool
  | .non, .non => true
  | .bl a, .bl b => a == b
  | .bl a, .int b => (if a then 1 else 0) == b
  | .int a, .bl b => a == (if b then 1 else 0)
  | .int a, .int b => a == b
  | .str a, .str b => a == b
  | _, _ => false
theorem eqAt_V {A : Around} {s : Shared} {y x : V} {u v : Value} (ry : RelV y u) (rx : RelV x v) (fy : flatV y = true) (fx : flatV x = true) : SeqAt.EqAt A s u v (eqV y x) := by
  cases y with
  | non =>
    cases ry
    cases x with
    | non => cases rx; exact SeqAt.EqAt.same _
    | bl b => cases rx; exact SeqAt.EqAt.none_bool b
    | int b => obtain ⟨t, rfl⟩ := rx; exact SeqAt.EqAt.none_int b t
    | str b => obtain ⟨t, rfl⟩ := rx; exact SeqAt.EqAt.none_str b t
    | _ => exact absurd (show false = true from fx) Bool.false_ne_true
  | bl a =>
    cases ry
    cases x with
    | non => cases rx; exact SeqAt.EqAt.bool_none a
    | bl b => cases rx; exact SeqAt.EqAt.bool_bool a b
    | int b => obtain ⟨t, rfl⟩ := rx; exact SeqAt.EqAt.bool_int a b t
    | str b => obtain ⟨t, rfl⟩ := rx; exact SeqAt.EqAt.bool_str a b t
    | _ => exact absurd (show false = true from fx) Bool.false_ne_true
  | int a =>
    obtain ⟨t', rfl⟩ := ry
    cases x with
    | non => cases rx; exact SeqAt.EqAt.int_none a t'
    | bl b => cases rx; exact SeqAt.EqAt.int_bool a t' b
    | int b => obtain ⟨t, rfl⟩ := rx; exact SeqAt.EqAt.int_int a t' b t
    | str b => obtain ⟨t, rfl⟩ := rx; exact SeqAt.EqAt.int_str a t' b t
    | _ => exact absurd (show false = true from fx) Bool.false_ne_true
  | str a =>
    obtain ⟨t', rfl⟩ := ry
    cases x with
    | non => cases rx; exact SeqAt.EqAt.str_none a t'
    | bl b => cases rx; exact SeqAt.EqAt.str_bool a t' b
    | int b => obtain ⟨t, rfl⟩ := rx; exact SeqAt.EqAt.str_int a t' b t
    | str b => obtain ⟨t, rfl⟩ := rx; exact SeqAt.EqAt.str_str a t' b t
    | _ => exact absurd (show false = true from fx) Bool.false_ne_true
  | _ => exact absurd (show false = true from fy) Bool.false_ne_true
/-- the items' answers, read off the values (a value's own answer does not lean on its token) -/
def eqU (x : V) (u : Value) : Bool := match u with
  | .none => eqV .non x
  | .bool b => eqV (.bl b) x
  | .int i _ => eqV (.int i) x
  | .str z _ => eqV (.str z) x
  | _ => false
theorem eqU_of {x y : V} {u : Value} (r : RelV y u) (f : flatV y = true) : eqU x u = eqV y x := by
  cases y with
  | non => cases r; rfl
  | bl b => cases r; rfl
  | int i => obtain ⟨t, rfl⟩ := r; rfl
  | str z => obtain ⟨t, rfl⟩ := r; rfl
  | _ => exact absurd (show false = true from f) Bool.false_ne_true
theorem any_eqU {x : V} : ∀ {xs : List V} {us : List Value}, Vals xs us → xs.all flatV = true → us.any (eqU x) = xs.any fun y => eqV y x
  | _, _, .nil, _ => rfl
  | y :: xs, u :: us, .cons r t, f => by
    rw [List.all_cons, Bool.and_eq_true] at f
    rw [List.any_cons, List.any_cons, eqU_of r f.1, any_eqU t f.2]
theorem mem_eqAt {A : Around} {s : Shared} {x : V} {v : Value} (rx : RelV x v) (fx : flatV x = true) : ∀ {xs : List V} {us : List Value}, Vals xs us → xs.all flatV = true → ∀ u ∈ us, SeqAt.EqAt A s u v (eqU x u)
  | _, _, .nil, _ => fun u hu => by cases hu
  | y :: xs, u :: us, .cons r t, f => fun u' hu => by
    rw [List.all_cons, Bool.and_eq_true] at f
    rcases List.mem_cons.mp hu with rfl | hu
    · rw [eqU_of r f.1]; exact eqAt_V r rx f.1 fx
    · exact mem_eqAt rx fx t f.2 u' hu
def inV (x : V) (xs : List V) : Bool := xs.any fun y => eqV y x
/-- x in a list or tuple of flat items -/
def rIn (K : PySem.W.Frag) (neg : Bool) : R2 := fun x y H Q => ∃ p xs, y = .ref p ∧ (SqL K H p xs ∨ SqT K H p xs) ∧ flatV x = true ∧ xs.all flatV = true ∧ Q (.bl (if neg then !inV x xs else inV x xs)) H
theorem op_in_seq : OpR X (compareOp .In) (rIn X.K false) := by
  intro pins s σ H x y v u Q I rx ry h
  obtain ⟨p, xs, rfl, hq, fx, fs, q⟩ := h
  cases ry
  rcases hq with hq | hq
  · obtain ⟨its, r, pl, hz⟩ := I.list hq
    refine SeqAt.in_listAt (eqU x) pl.isList (fun w hw => mem_eqAt rx fx r fs w (by simpa using hw)) ⟨.bl _, H, I, rfl, ?_⟩
    rw [show its.toArray.any (eqU x) = its.any (eqU x) by simp, any_eqU r fs]
    exact q
  · obtain ⟨its, r, pl, hz⟩ := I.tuple hq
    refine SeqAt.in_tupleAt (eqU x) pl (fun w hw => mem_eqAt rx fx r fs w (by simpa using hw)) ⟨.bl _, H, I, rfl, ?_⟩
    rw [show its.toArray.any (eqU x) = its.any (eqU x) by simp, any_eqU r fs]
    exact q

/-! ### len, list(x), tuple(x) of any list or tuple that is read -/
theorem call_tuple_of : CallR X (.type "tuple") (fun xs H Q => ∃ p ys, xs = [.ref p] ∧ ((SqL X.K H p ys ∧ ∀ l, H l = none → Q (.ref l) (upd H l (.tup ys))) ∨ (SqT X.K H p ys ∧ Q (.ref p) H))) := by
  intro pins s σ H xs us Q I r h
  obtain ⟨p, ys, rfl, h⟩ := h
  obtain ⟨u, rfl, rx⟩ := vals1 r
  cases rx
  rcases h with ⟨hq, q⟩ | ⟨hq, q⟩
  · obtain ⟨its, r', pl, hz⟩ := I.list hq
    have hlen := r'.length
    refine call_tuple_list pl.isList (fun h' kp => ?_) (by simp only [List.size_toArray] <;> omega)
    have I1 : Inv X pins σ H { s with heap := h' } := I.kept (t' := s.toks) kp
    have I2 : Inv X pins σ (upd H h'.objs.size (.tup ys)) { s with heap := h'.push { cls := .type "tuple", data := .seq its.toArray } } :=
      I1.laid (t' := s.toks) (fun b o e => Heap.get?_push_of_some _ e) (Nat.le_refl _) (show ObjOk X.prog X.w _ _ _ (.tup ys) from ⟨hz, its, r', IsTup.new _ _⟩)
    exact ⟨.ref h'.objs.size, _, I2, rfl, q _ (I1.hok.fresh (Nat.le_refl _))⟩
  · obtain ⟨its, r', pl, hz⟩ := I.tuple hq
    exact call_tuple_same pl ⟨.ref p, H, I, rfl, q⟩

/-! ### the call of a builtin's method: o.m(..) -/
/-- the value is of that builtin type -/
def tyV (K : PySem.W.Frag) (T : String) (x : V) (H : Hp) : Prop := match x with
  | .str _ => T = "str"
  | .int _ => T = "int"
  | .ref p => (T = "list" ∧ ∃ xs, SqL K H p xs) ∨ (T = "tuple" ∧ ∃ o, K.lookup p = some o ∧ o.cls = .type "tuple" ∧ o.dict = none) ∨
      (T = "dict" ∧ ((∃ kvs, H p = some (.dK kvs)) ∨ ∃ kvs, H p = some (.dT kvs))) ∨ (T = "set" ∧ ∃ S n, H p = some (.set S n))
  | _ => False
theorem tyV_is {pins : List (Addr × Obj)} {σ : St} {H : Hp} {s : Shared} {T : String} {x : V} {v : Value} (I : Inv X pins σ H s) (r : RelV x v) (ty : tyV X.K T x H) :
    s.TypeIs v T ∧ ∀ a, v = .ref a → ∃ ob, s.heap.get? a = some ob ∧ ob.dict = none := by
  cases x with
  | str z =>
    obtain ⟨t, rfl⟩ := r
    cases (show T = "str" from ty)
    exact ⟨typeIs_str s z t, fun _ e => nomatch e⟩
  | int i =>
    obtain ⟨t, rfl⟩ := r
    cases (show T = "int" from ty)
    exact ⟨typeIs_int s i t, fun _ e => nomatch e⟩
  | ref p =>
    cases r
    rcases ty with ⟨rfl, xs, hq⟩ | ⟨rfl, o, hk, hc, hd⟩ | ⟨rfl, hk⟩ | ⟨rfl, S, n, hk⟩
    · obtain ⟨its, _, pl, _⟩ := I.list hq
      refine ⟨pl.isList.typeIs, fun a e => ?_⟩
      cases e
      obtain ⟨o, n, e, c, hd, _⟩ := pl
      exact ⟨o, e, hd⟩
    · refine ⟨⟨o, I.kIn p o hk, hc⟩, fun a e => ?_⟩
      cases e
      exact ⟨o, I.kIn _ o hk, hd⟩
    · have z : ∃ o, s.heap.get? p = some o ∧ o.ExactDict := by
        rcases hk with ⟨kvs, hk⟩ | ⟨kvs, hk⟩
        · obtain ⟨_, _, _, _, o, _, _, e, ex, _⟩ := I.hok p _ hk
          exact ⟨o, e, ex⟩
        · obtain ⟨_, _, _, _, o, _, _, e, ex, _⟩ := I.hok p _ hk
          exact ⟨o, e, ex⟩
      obtain ⟨o, e, ex⟩ := z
      refine ⟨⟨o, e, ex.1⟩, fun a e2 => ?_⟩
      cases e2
      exact ⟨o, e, ex.2.1⟩
    · obtain ⟨o, _, _, _, e, ex, _⟩ := I.hok p _ hk
      refine ⟨⟨o, e, ex.1⟩, fun a e2 => ?_⟩
      cases e2
      exact ⟨o, e, ex.2.1⟩
  | _ => exact False.elim ty
def tBM0 (K : PySem.W.Frag) (T : String) (r : V → List V → Hp → VK → Prop) (to : TE) : TE := fun σ H Q => to σ H fun x H1 => tyV K T x H1 ∧ r x [] H1 Q
def tBM (K : PySem.W.Frag) (T : String) (r : V → List V → Hp → VK → Prop) (to : TE) (t : TA) : TE := fun σ H Q => to σ H fun x H1 => tyV K T x H1 ∧ t σ H1 fun xs H2 => r x xs H2 Q
variable {o e : Expr} {es : List Expr} {to : TE} {t : TA} {name : Str} {apos cpos : Pos} {T id : String} {r : V → List V → Hp → VK → Prop}
theorem pe_bm0 (pa : PlainAttrs T) (slot : Slot T name id) (hty : typeOf (.builtin id) = pure (.type "method_descriptor")) (hm : MtR X id r) (ho : PE X o to)
    (hbase : attributeBase o name X.env (eval o X.env) = eval o X.env := by rfl) (hline : (apos.endLine == cpos.line) = true := by rfl) : PE X (.Call (.Attribute o name apos) [] [] cpos) (tBM0 X.K T r to) := by
  intro pins s σ H Q I h
  refine wpAny_Call_method0_late hbase hline (thn (ho pins s σ H _ I h) fun v s1 ⟨x, H1, I1, r1, ty, q1⟩ => ?_)
  obtain ⟨h1, h2⟩ := tyV_is I1 r1 ty
  exact ⟨T, id, pa, slot, hty, h1, h2, Calls.callWith_builtin rfl (PySem.evalArgs_none (hm pins s1 σ H1 x [] v [] Q I1 r1 .nil q1))⟩
theorem pe_bm (pa : PlainAttrs T) (slot : Slot T name id) (hty : typeOf (.builtin id) = pure (.type "method_descriptor")) (hm : MtR X id r) (ho : PE X o to) (ha : PA X (e :: es) t)
    (hbase : attributeBase o name X.env (eval o X.env) = eval o X.env := by rfl)
    (hfew : ((backTo cpos (starEach (e :: es) X.env)).all (fun x => !x.1) && (backToKw cpos (keywordEach [] X.env)).all (fun x => x.1.isSome)
      && decide ((e :: es).length + ([] : List Keyword).length + (if ([] : List Keyword).isEmpty then 0 else 1) < 30)) = true := by rfl)
    (hline : (apos.endLine == cpos.line) = true := by rfl) (hs : starEach (e :: es) X.env = (false, eval e X.env) :: starEach es X.env := by rfl) (hplain : (backTo cpos (starEach es X.env)).any (·.1) = false := by rfl) :
    PE X (.Call (.Attribute o name apos) (e :: es) [] cpos) (tBM X.K T r to t) := by
  intro pins s σ H Q I h
  refine wpAny_Call_method_late hbase hfew hline rfl (thn (ho pins s σ H _ I h) fun v s1 ⟨x, H1, I1, r1, ty, q1⟩ => ?_)
  obtain ⟨h1, h2⟩ := tyV_is I1 r1 ty
  refine ⟨T, id, pa, slot, hty, h1, h2, ?_⟩
  have hA := ha cpos pins s1 σ H1 _ I1 q1
  rw [hs] at hA ⊢
  refine Calls.callWith_builtin (by show (false || (backTo cpos (starEach es X.env)).any (·.1)) = false; rw [hplain] <;> rfl) (Calls.evalArgs_plain ?_)
  exact thn hA fun us s2 ⟨vs, H2, I2, r2, q2⟩ => hm pins s2 σ H2 x vs v us Q I2 r1 r2 q2
/- xs.append(e), list.index on a module's tuple .. are MtR facts of 06m -/
end
end L2

namespace L2
open PySem PySem.Spec PyProof.Rows

def MtM (X : Cx) (id : String) (r : V → List V → Hp → VK → Prop) : Prop :=
  ∀ (pins : List (Addr × Obj)) (s : Shared) (σ : St) (H : Hp) (x : V) (xs : List V) (v : Value) (us : List Value) (Q : VK), Inv X pins σ H s → RelV x v → Vals xs us → r x xs H Q →
    wpAny (model X.prog X.w) X.A (call (.builtin id) (v :: us)) (EP X pins σ Q) X.xe s

/-! ### lists of values -/
theorem Vals.one : ∀ {x : V} {us : List Value}, Vals [x] us → ∃ u, us = [u] ∧ RelV x u
  | _, _, .cons r .nil => ⟨_, rfl, r⟩
theorem Vals.zero : ∀ {us : List Value}, Vals [] us → us = []
  | _, .nil => rfl
theorem Vals.dropLast {xs : List V} {us : List Value} (h : Vals xs us) : Vals xs.dropLast us.dropLast := by
  induction h with
  | nil => exact .nil
  | cons r t ih =>
    cases t with
    | nil => exact .nil
    | cons q t' => exact .cons r ih
theorem Vals.eraseIdx : ∀ {xs : List V} {us : List Value} (i : Nat), Vals xs us → Vals (xs.eraseIdx i) (us.eraseIdx i)
  | _, _, _, .nil => .nil
  | _, _, 0, .cons _ t => t
  | _, _, i + 1, .cons r t => .cons r (Vals.eraseIdx i t)
theorem Vals.reverse {xs : List V} {us : List Value} (h : Vals xs us) : Vals xs.reverse us.reverse := by
  induction h with
  | nil => exact .nil
  | cons r t ih => rw [List.reverse_cons, List.reverse_cons]; exact Vals.append ih (.cons r .nil)
theorem erase_last {α : Type} (l : List α) : l.eraseIdx (l.length - 1) = l.dropLast := by
  induction l with
  | nil => rfl
  | cons a r ih =>
    cases r with
    | nil => rfl
    | cons b r =>
      have e : (a :: b :: r).length - 1 = ((b :: r).length - 1) + 1 := by
        have h1 : (a :: b :: r).length = r.length + 2 := rfl
        have h2 : (b :: r).length = r.length + 1 := rfl
        omega
      rw [e, List.eraseIdx_cons_succ, ih]
      all_goals rfl
theorem len_erase {α : Type} : ∀ (l : List α) (i : Nat), (l.eraseIdx i).length ≤ l.length
  | [], _ => Nat.le_refl _
  | _ :: _, 0 => Nat.le_succ _
  | _ :: r, i + 1 => Nat.succ_le_succ (len_erase r i)

section
variable {X : Cx} {pins : List (Addr × Obj)} {σ : St} {H : Hp} {s : Shared} {l b : Addr} {xs ys zs : List V}

/-! ### the two steps: a tracked list is rewritten, a new list is laid -/
theorem Inv.lset {its its' : List Value} {n : Nat} {f : Array Value → Array Value} {t' : Nat} (I : Inv X pins σ H s) (hH : H l = some (.lst xs))
    (e : s.heap.get? l = some { cls := .type "list", data := .seq its.toArray n }) (hf : f its.toArray = its'.toArray) (hv : Vals ys its') (hz : ys.length ≤ sizeLine) :
    Inv X pins σ (upd H l (.lst ys)) { s with heap := s.heap.update l (Obj.mapSeq f), toks := t' } := by
  have q := PySem.IsL.update e f
  rw [hf] at q
  refine I.write (x := l) (e := l) (by rw [hH]; exact trivial) (.inl rfl) (fun b' u hb hu => (Heap.get?_update_other s.heap (Obj.mapSeq f) (Ne.symm hb)).trans hu) ⟨_, q⟩ ?_
  exact ⟨hz, its', _, hv, q⟩
theorem Inv.lnew {its : List Value} {t' : Nat} (I : Inv X pins σ H s) (hv : Vals ys its) (hz : ys.length ≤ sizeLine) :
    Inv X pins σ (upd H s.heap.objs.size (.lst ys)) { s with heap := s.heap.push { cls := .type "list", data := .seq its.toArray }, toks := t' } :=
  I.laid (fun _ _ q => Heap.get?_push_of_some _ q) (Nat.le_refl _) ⟨hz, its, 0, hv, Heap.get?_push_size _ rfl⟩
theorem Inv.fresh (I : Inv X pins σ H s) : H s.heap.objs.size = none := I.hok.fresh (Nat.le_refl _)
theorem Inv.lstM (I : Inv X pins σ H s) (hH : H l = some (.lst xs)) : xs.length ≤ sizeLine ∧ ∃ (its : List Value) (n : Nat), Vals xs its ∧ xs.length = its.length ∧ s.heap.get? l = some { cls := .type "list", data := .seq its.toArray n } := by
  obtain ⟨z, its, n, r, e⟩ := I.hok l _ hH
  exact ⟨z, its, n, r, r.length, e⟩

theorem notLongL {n : Nat} (h : n ≤ sizeLine) : Builtin.List.listTooLong n = false := by
  unfold Builtin.List.listTooLong
  exact decide_eq_false (by omega)
end

section
variable {X : Cx}

/-! ### methods -/
def rAppend : V → List V → Hp → VK → Prop := fun x vs H Q => ∃ l xs y, x = .ref l ∧ vs = [y] ∧ H l = some (.lst xs) ∧ xs.length < sizeLine ∧ Q .non (upd H l (.lst (xs ++ [y])))
theorem mt_append : MtM X "list.append" rAppend := by
  intro pins s σ H x vs v us Q I rx rv h
  obtain ⟨l, xs, y, rfl, rfl, hH, hz, q⟩ := h
  cases rx
  obtain ⟨u, rfl, ru⟩ := rv.one
  obtain ⟨z, its, n, r, hl, e⟩ := I.lstM hH
  refine call_meets F.slot_list_append ⟨_, e, rfl⟩ F.entry_list_append (F.args_list_append_2 _ _) (PySem.list_append l its.toArray n u (by rw [List.size_toArray]; omega)) ⟨e, ?_⟩
  refine ⟨.non, _, I.lset (its' := its ++ [u]) hH e (by simp) (r.append (.cons ru .nil)) ?_, rfl, q⟩
  rw [List.length_append, List.length_singleton]
  omega

def rExtend : V → List V → Hp → VK → Prop := fun x vs H Q => ∃ l b xs zs, x = .ref l ∧ vs = [.ref b] ∧ H l = some (.lst xs) ∧ H b = some (.lst zs) ∧ xs.length + zs.length ≤ sizeLine ∧ Q .non (upd H l (.lst (xs ++ zs)))
theorem mt_extend : MtM X "list.extend" rExtend := by
  intro pins s σ H x vs v us Q I rx rv h
  obtain ⟨l, b, xs, zs, rfl, rfl, hH, hB, hz, q⟩ := h
  cases rx
  obtain ⟨u, rfl, ru⟩ := rv.one
  cases ru
  obtain ⟨z, its, n, r, hl, e⟩ := I.lstM hH
  obtain ⟨z2, its2, n2, r2, hl2, e2⟩ := I.lstM hB
  have hsz : its.toArray.size + its2.toArray.size ≤ sizeLine := by rw [List.size_toArray, List.size_toArray]; omega
  have hlong : ¬ (!its.toArray.isEmpty && Builtin.List.listTooLong (its.toArray.size + its2.toArray.size)) = true := by
    rw [notLongL hsz, Bool.and_false]
    exact Bool.false_ne_true
  refine call_meets F.slot_list_extend ⟨_, e, rfl⟩ F.entry_list_extend (F.args_list_extend_2 _ _)
    (AutoSeq1.list_extend_list_list_0 l its.toArray n b its2.toArray n2 hlong (by rw [List.size_toArray]; omega) (by omega)) ⟨e, e2, ?_⟩
  refine ⟨.non, _, I.lset (its' := its ++ its2) hH e (by simp) (r.append r2) ?_, rfl, q⟩
  rw [List.length_append]
  omega

def rPop : V → List V → Hp → VK → Prop := fun x vs H Q => ∃ l xs y, x = .ref l ∧ vs = [] ∧ H l = some (.lst xs) ∧ xs[xs.length - 1]? = some y ∧ Q y (upd H l (.lst xs.dropLast))
theorem mt_pop : MtM X "list.pop" rPop := by
  intro pins s σ H x vs v us Q I rx rv h
  obtain ⟨l, xs, y, rfl, rfl, hH, hy, q⟩ := h
  cases rx
  have hus := rv.zero
  subst hus
  obtain ⟨z, its, n, r, hl, e⟩ := I.lstM hH
  obtain ⟨u, hu, ru⟩ := r.get hy
  have hy' : its.toArray[its.toArray.size - 1]? = some u := by
    show its.toArray[its.length - 1]? = some u
    rw [← Array.getElem?_toList, ← hl]
    exact hu
  refine call_meets F.slot_list_pop ⟨_, e, rfl⟩ F.entry_list_pop (F.args_list_pop_1 _) (MeetsSeq.list_pop_last l its.toArray n u hy' (by rw [List.size_toArray]; omega)) ⟨e, ?_⟩
  refine ⟨y, _, I.lset (its' := its.dropLast) hH e ?_ r.dropLast ?_, ru, q⟩
  · show its.toArray.eraseIdxIfInBounds (its.toArray.size - 1) = its.dropLast.toArray
    rw [List.size_toArray, List.eraseIdxIfInBounds_toArray, erase_last]
  · rw [List.length_dropLast]
    omega

def rPopAt : V → List V → Hp → VK → Prop := fun x vs H Q => ∃ l xs i k y, x = .ref l ∧ vs = [.int i] ∧ H l = some (.lst xs) ∧ -(2 ^ 63) ≤ i ∧ i < 2 ^ 63 ∧ seqIndex? i xs.length = some k ∧ xs[k]? = some y ∧ Q y (upd H l (.lst (xs.eraseIdx k)))
theorem mt_popAt : MtM X "list.pop" rPopAt := by
  intro pins s σ H x vs v us Q I rx rv h
  obtain ⟨l, xs, i, k, y, rfl, rfl, hH, h1, h2, hk, hy, q⟩ := h
  cases rx
  obtain ⟨u, rfl, ru⟩ := rv.one
  obtain ⟨t, rfl⟩ := ru
  obtain ⟨z, its, n, r, hl, e⟩ := I.lstM hH
  obtain ⟨w, hw, rw'⟩ := r.get hy
  refine call_meets F.slot_list_pop ⟨_, e, rfl⟩ F.entry_list_pop (F.args_list_pop_2 _ _)
    (MeetsSeq.list_pop_at l its.toArray n i t k w (fitsIndex_both h1 h2) (by rw [List.size_toArray, ← hl]; exact hk) (by rw [← Array.getElem?_toList]; exact hw) (by rw [List.size_toArray]; omega)) ⟨e, ?_⟩
  refine ⟨y, _, I.lset (its' := its.eraseIdx k) hH e ?_ (r.eraseIdx k) ?_, rw', q⟩
  · show its.toArray.eraseIdxIfInBounds k = (its.eraseIdx k).toArray
    rw [List.eraseIdxIfInBounds_toArray]
  · have := len_erase xs k
    omega

def rReverse : V → List V → Hp → VK → Prop := fun x vs H Q => ∃ l xs, x = .ref l ∧ vs = [] ∧ H l = some (.lst xs) ∧ Q .non (upd H l (.lst xs.reverse))
theorem mt_reverse : MtM X "list.reverse" rReverse := by
  intro pins s σ H x vs v us Q I rx rv h
  obtain ⟨l, xs, rfl, rfl, hH, q⟩ := h
  cases rx
  have hus := rv.zero
  subst hus
  obtain ⟨z, its, n, r, hl, e⟩ := I.lstM hH
  refine call_meets F.slot_list_reverse ⟨_, e, rfl⟩ F.entry_list_reverse (F.args_list_reverse_1 _) (AutoSeq1.list_reverse_list_0 l its.toArray n (by rw [List.size_toArray]; omega)) ⟨e, ?_⟩
  refine ⟨.non, _, I.lset (its' := its.reverse) hH e (by simp) r.reverse ?_, rfl, q⟩
  rw [List.length_reverse]
  omega


/-! ### list + list, list += list, list * int -/
def rCat : R2 := fun x y H Q => ∃ l b xs zs, x = .ref l ∧ y = .ref b ∧ H l = some (.lst xs) ∧ H b = some (.lst zs) ∧ xs.length + zs.length ≤ sizeLine ∧ ∀ p, H p = none → Q (.ref p) (upd H p (.lst (xs ++ zs)))
theorem op_cat : OpR X (binaryOp .Add) rCat := by
  intro pins s σ H x y v u Q I rx ry h
  obtain ⟨l, b, xs, zs, rfl, rfl, hH, hB, hz, q⟩ := h
  cases rx
  cases ry
  obtain ⟨z, its, n, r, hl, e⟩ := I.lstM hH
  obtain ⟨z2, its2, n2, r2, hl2, e2⟩ := I.lstM hB
  refine PySem.P.add_list e e2 ?_ (by rw [List.size_toArray, List.size_toArray]; omega)
  have ea : its.toArray ++ its2.toArray = (its ++ its2).toArray := by simp
  rw [ea]
  exact ⟨.ref _, _, I.lnew (t' := s.toks) (r.append r2) (by rw [List.length_append]; omega), rfl, q _ I.fresh⟩

/-! ### del xs[i] -/
end

/-! ### xs[a:b] = ys -/
section
variable {prog : Program} {w : World} {A : Around} {E : Value → Shared → Prop} {s : Shared}
set_option maxRecDepth 100000 in
end

section
variable {X : Cx}
end
end L2

namespace Att
open PySem PySem.W PySem.Calls PyProof.Rows

/-! ### the script -/
theorem ints_of_wellAll {P : Params} {h : Heap} : ∀ (ns : List Int) (vs : List Value), WellAll P h vs (ns.map WData.int) → IntsAre vs ns := by
  intro ns
  induction ns with
  | nil =>
    intro vs w
    rw [List.map_nil] at w
    cases w
    exact .nil
  | cons n ns ih =>
    intro vs w
    rw [List.map_cons] at w
    cases w with
    | cons a b =>
      cases a
      exact .cons _ _ (ih _ b)

theorem script_of {l : OpenLaw} {n : Nat} (hn : l.most = some n) {P : Params} {h : Heap} {args : List WData} {vals : List Value}
    (hpre : l.row.toRowW.claim.pre args = true) (hwl : WellAll P h vals args) :
    ∃ a vs ns, vals = [Value.ref a] ∧ args = [WData.list (ns.map WData.int)] ∧ h.get? a = some { cls := .type "list", data := .seq vs.toArray } ∧ IntsAre vs ns ∧ ns.length ≤ n := by
  have hsh : WShape.hasAll [] args [.list .int] = true := (pre_splitW hpre).1
  have hc : l.pre.holds [] { args := args } = true := (pre_splitW hpre).2
  obtain ⟨d, r, rfl, h1, h2⟩ := hasAllW_cons hsh
  obtain rfl := hasAllW_nil h2
  obtain ⟨xs, rfl, h3⟩ := hasW_list h1
  obtain ⟨ns, rfl⟩ := items_int h3
  have hlen : ns.length ≤ n := by
    unfold OpenLaw.pre at hc
    have h4 : (WTm.not (.lt (.lit (.int (n : Int))) (.len (.arg 0)))).holds [] { args := [.list (ns.map .int)] } = true := by
      have h4 := (holds_andW hc).1
      rw [hn] at h4
      exact h4
    have h5 := condW_of h4 (w_not (w_lt w_lit (w_len_list (w_arg rfl))))
    rw [List.length_map] at h5
    refine Nat.le_of_not_lt fun q => ?_
    have q' : (n : Int) < ((ns.length : Nat) : Int) := by omega
    first
      | (rw [decide_eq_true q'] at h5; exact absurd h5 (by decide))
      | (simp at h5; omega)
  cases hwl with
  | cons w1 w2 =>
    cases w2
    cases w1 with
    | list ho hall => exact ⟨_, _, ns, rfl, rfl, ho, ints_of_wellAll ns _ hall, hlen⟩

theorem post_true (l : OpenLaw) (args : List WData) : l.row.toRowW.claim.post args (.bool true) args = true :=
  postW_of (r := l.row.toRowW) (X := (true == true))
    (show WShape.has [] (.bool true) .bool = true by first | rfl | decide | simp [WShape.has, WShape.arms, WShape.armsAll])
    (show (WTm.eq .res (.lit (.bool true))).value [] { args := args, res := some (.bool true), after := args } = some (.bool (true == true)) from w_eq_bool (w_res rfl) w_lit) rfl

/-! ### the attachment: holds_open's last premise (the goal 'hc' behind k_head) from a wpAny of the law's body -/



/-! ### rules over ANY heap (no ledger) from facts about the written part K: the library's own take a ledger (News) for what they write -/
section
variable {prog : Program} {w : World} {A : Around} {E : Value → Shared → Prop} {s : Shared} {K : Frag}





/-! the whole heap as the ledger: makes every rule that writes through a ledger a rule over any heap -/

end
end Att

namespace L2
open PySem PySem.Spec PyProof.Rows

theorem vals_ints : ∀ {vs : List Value} {ns : List Int}, IntsAre vs ns → Vals (ns.map V.int) vs
  | _, _, .nil => .nil
  | _, _, .cons n t h => .cons ⟨t, rfl⟩ (vals_ints h)

/-- nothing is tracked but the script, known to the object (or it is an object of the module) -/
def Only (H : Hp) : Prop := ∀ b, H b = none ∨ ∃ o xs, H b = some (.frz o (.lst xs))

/-- THE HEAD: the law's promise, at the heap behind the top. F, the promise of the law's def, may use that base is part of the heap (so K.In base, base.Ns mainGlobals mg stand in Mod) -/
theorem law_call {P : Program} {w : World} {K : PySem.W.Frag} {mg mb : Str → Option Value} {CX : CXT} {k : Nat} {fa a : Addr} {fd : FuncData} {x : Str} {sp : Sp} {s₁ : Shared} {vs : List Value} {ns : List Int}
    (KX : K.In s₁.heap) (hns : s₁.heap.Ns mainGlobals mg) (hb : s₁.heap.Ns builtinsNs mb) (hbb : ∀ x : Str, x ≠ "__name__" → mb x = bootBuiltins x) (hlim : s₁.heap.NoLimit) (hg : s₁.gens = #[])
    (ha : s₁.heap.get? a = some { cls := .type "list", data := .seq vs.toArray }) (hi : IntsAre vs ns) (hl : ns.length ≤ sizeLine) (hr : Room k callerA)
    (F : ∀ base : Heap, K.In base → base.Ns mainGlobals mg → FnOk P w K mg base CX k fa fd [x] sp) (hbind : ∀ (s : Shared) (u : Value), BindsTo s fd ⟨[u], []⟩ [(x, u)])
    (hsp : ∀ H : Hp, Only H → SqL K H a (ns.map V.int) → sp [.ref a] H (fun v _ => v = .bl true) fun _ _ _ => False)
    (hCX : ∀ H e s', CX [] H s₁ (fun _ _ _ => False) e s' → False) :
    codeAny (model P w) callerA (.call (.ref fa) ⟨[.ref a], []⟩) (fun r s' => r = .ok (.ret (.bool true)) ∧ OldK s₁.heap s'.heap ∧ s'.os = s₁.os ∧ AllBare s'.gens) s₁ := by
  have rv := vals_ints hi
  have lenV := hi.length
  -- from an abstract heap in which nothing but the script may be tracked
  have core : ∀ H : Hp, Only H → SqL K H a (ns.map V.int) → HOk P w H s₁.heap → (∀ b, H b ≠ none → b = a) → (H a ≠ none → K.lookup a = none) →
      codeAny (model P w) callerA (.call (.ref fa) ⟨[.ref a], []⟩) (fun r s' => r = .ok (.ret (.bool true)) ∧ OldK s₁.heap s'.heap ∧ s'.os = s₁.os ∧ AllBare s'.gens) s₁ := by
    intro H hO hS hok hA hK
    have base_of : ∀ {b : Addr} {o : Obj}, s₁.heap.get? b = some o → H b = none → (hidT s₁.heap H).get? b = some o := fun e n => hidT_get e n
    have noA : ∀ {b : Addr} {o : Obj} {es : Array DictEntry} {ep : Nat}, s₁.heap.get? b = some o → o.data = .dict es ep → H b = none := fun {b o es ep} e d => by
      cases q : H b with
      | none => rfl
      | some u =>
        have e' : b = a := hA b (by rw [q]; simp)
        subst e'
        rw [ha] at e; cases e
        have d' : Data.seq vs.toArray _ = Data.dict es ep := d
        cases d'
    have nsK : ∀ {b : Addr} {m : Str → Option Value}, s₁.heap.Ns b m → (hidT s₁.heap H).Ns b m := fun {b m} ⟨o, es, ep, e, d, r⟩ => ⟨o, es, ep, base_of e (noA e d), d, r⟩
    have hKb : K.In (hidT s₁.heap H) := fun b o e => base_of (KX b o e) (by
      cases q : H b with
      | none => rfl
      | some u =>
        have e' : b = a := hA b (by rw [q]; simp)
        subst e'
        rw [hK (by rw [q]; simp)] at e; cases e)
    have hM : Mod K mg (hidT s₁.heap H) := ⟨hKb, nsK hns, ⟨mb, nsK hb, hbb⟩, let ⟨mc, h1, h2⟩ := hlim; ⟨mc, nsK h1, h2⟩⟩
    have e0 : Env0 P w K mg (hidT s₁.heap H) callerA [] s₁ H := ⟨rfl, hM, fun b o e => of_hidT e, Nat.le_of_eq (hidT_size _ _), trivial, fun b hb => absurd (show b ∈ ([] : List Addr) from hb) (by simp), hok, .of_eq hg⟩
    refine codeAny_mono ((F _ hKb (nsK hns)).run callerA [] s₁ H ⟨[.ref a], []⟩ [.ref a] [.ref a] _ _ hr e0 (hbind s₁ (.ref a)) (.cons rfl .nil) (hsp H hO hS)) fun r s' h => ?_
    cases r with
    | error e => exact (hCX H e s' h).elim
    | ok fl =>
      cases fl with
      | next => exact False.elim h
      | brk => exact False.elim h
      | cont => exact False.elim h
      | ret u =>
        obtain ⟨v, H', os, bare, un, hok', r', q⟩ := h
        have q' : v = .bl true := q
        subst q'
        obtain rfl : u = Value.bool true := r'
        refine ⟨rfl, OldK.of_keep fun b o e => ?_, os, bare⟩
        cases q : H b with
        | none => exact un.keep b o e q (by intro z; exact absurd (show b ∈ ([] : List Addr) from z) (by simp)) (by simp)
        | some u =>
          rcases hO b with z | ⟨ob, xs, z⟩
          · rw [q] at z; cases z
          · have z2 := un.frzs b ob _ z
            obtain ⟨e1, _⟩ := hok b _ z
            obtain ⟨e2, _⟩ := hok' b _ z2
            rw [e] at e1; cases e1
            exact e2
  cases hk : K.lookup a with
  | some o =>
    -- the script is one of the module's own objects
    have e := KX a o hk
    rw [ha] at e
    cases e
    refine core (fun _ => none) (fun _ => .inl rfl) (.inr ⟨_, vs.toArray, _, hk, rfl, rfl, rfl, by rw [List.size_toArray, lenV]; exact hl, by simpa using rv⟩) (fun b u z => by have z' : (none : Option HO) = some u := z; cases z') (fun b z => absurd rfl z) fun z => absurd rfl z
  | none =>
    refine core (fun b => if b = a then some (.frz { cls := .type "list", data := .seq vs.toArray } (.lst (ns.map V.int))) else none) (fun b => ?_) (.inl (.inr ⟨{ cls := .type "list", data := .seq vs.toArray }, if_pos rfl⟩)) (fun b u z => ?_) (fun b z => ?_) fun _ => hk
    · by_cases hb : b = a
      · exact .inr ⟨_, _, if_pos hb⟩
      · exact .inl (if_neg hb)
    · by_cases hb : b = a
      · have z' := (if_pos hb).symm.trans z
        cases z'
        subst hb
        exact ⟨ha, by rw [List.length_map]; exact hl, vs, _, rv, ha⟩
      · have z' := (if_neg hb).symm.trans z
        cases z'
    · by_cases hb : b = a
      · exact hb
      · exact absurd (if_neg hb) z
end L2

namespace L2
open PySem PySem.Spec PyProof.Rows

abbrev KOf {K : PySem.W.Frag} {h : Heap} (_ : K.In h) : PySem.W.Frag := K

end L2

/- THE LAST THEOREM (shape; LID, My.* are yours):
   My.Adr: a structure of the addresses that your layer names (classes, functions); My.Txt K t: a structure (Prop) of the equations over K;
   My.txt_mk : {K} {implicit addresses ..} (e1 : nsIn K mainGlobals "law" = some (some (.ref f))) (e2 : K.lookup f = some ⟨oc, od, .func (fnOf "law" "law" params body scope dV kV doc pm an cdv ct), sl⟩) (e3 : codeIn K cdv "law" = true) .. : ∃ t, My.Txt K t

set_option maxRecDepth 100000 in
set_option maxHeartbeats 0 in
theorem PySem.Challenge.cw_LID_holds : PySem.Challenge.rw_LID.Holds := by
  w_on; o_law; k_head; (case hw => w_witness2)
  k_fill
  refine L2.walk_of (l := PySem.Challenge.rw_LID) (n := 63) (k := 40) (x := "script") (CX := fun w => ..) (sp := fun _ => My.sp_law) rfl (by decide) rfl ⟨rfl, by decide, by decide⟩ (fun w h Y => PySem.W.kIn_of Y) ?F ?S ?C
  case F =>
    intro w mg fa h KX G hmg
    have T : ∃ t, My.Txt (L2.KOf KX) t := by
      dsimp only [L2.KOf]                          -- K must stand as «<heap const> w.params» for k_is
      refine' My.txt_mk ?e1 ?e2 ?e3 ..
      (case e1 => PySem.W.k_is)                    -- in the order: a name -> its address -> its object -> its parts
      (case e2 => PySem.W.k_is)
      ..
    obtain ⟨t, T⟩ := T
    have e0 := hmg.symm.trans (PySem.W.mg_of KX G T.law)
    cases e0                                       -- fa is the law's own address
    exact ⟨_, fun s u => .of_eq rfl, fun base kb nb => My.law_fn T kb nb⟩     -- if «.of_eq rfl» comes too early: refine' ⟨_, ?b, fun base kb nb => My.law_fn T kb nb⟩; exact fun s u => .of_eq rfl
  case S => exact fun w H a ns hl hO hS => ..
  case C => exact ..
(the tactic k_is has no namespace: write k_is) -/

/-! SHORT WORDS over the layer: a def of the text, its body, what a loop and a test want. -/
namespace L2
open PySem PySem.Spec PyProof.Rows

/-! ### the text by places -/
/-- the j-th statement of a class's body -/
def inClass (s : Stmt) (j : Nat) : Stmt := match s with
  | .ClassDef _ _ _ body _ _ _ _ _ _ _ => body.getD j (.Pass ⟨0, 0, 0, 0⟩)
  | _ => .Pass ⟨0, 0, 0, 0⟩
def defArgs (s : Stmt) : Arguments := match s with
  | .FunctionDef _ a _ _ _ _ _ _ _ _ => a
  | _ => { posonlyargs := [], args := [], vararg := none, kwonlyargs := [], kw_defaults := [], kwarg := none, defaults := [] }
def defBody (s : Stmt) : List Stmt := match s with
  | .FunctionDef _ _ b _ _ _ _ _ _ _ => b
  | _ => []
def defScope (s : Stmt) : Scope := match s with
  | .FunctionDef _ _ _ _ _ _ sc _ _ _ => sc
  | _ => { kind := .function, names := [], isGenerator := false, isCoroutine := false }

/-! ### no exception leaves a def -/
abbrev CX0 : CXT := fun _ _ _ _ _ _ => False
abbrev E0 : XK := fun _ _ _ => False
theorem pass0 {X : Cx} : Passes CX0 X E0 := fun _ _ _ _ _ _ _ h => h.elim

/-! ### a def (or method) of the text as it stands behind the top -/
structure Fun (K : PySem.W.Frag) (x qual : Str) (st : Stmt) (f : Addr) (fd : FuncData) : Prop where
  ex : ∃ (oc : Value) (od : Option Addr) (kV doc pm : Value) (an : Option Addr) (cdv ct : Value) (osl : Array (Option Value)),
    fd = PySem.W.fnOf x qual (defArgs st) (defBody st) (defScope st) .none kV doc pm an cdv ct ∧ K.lookup f = some ⟨oc, od, .func fd, osl⟩ ∧ PySem.W.codeIn K cdv qual = true
  kp : PySem.W.keepIn K (.ref f) = true
section
variable {P : Program} {w : World} {K : PySem.W.Frag} {mg : Str → Option Value} {base : Heap}
/-- THE RULE for a def: its body as a term of rules, and the reading of that term -/
theorem Fun.ok {x qual : Str} {st : Stmt} {f : Addr} {fd : FuncData} {N ps : List Str} {k : Nat} {sp : Sp} (F : Fun K x qual st f fd) (S : FnScope N ps (defScope st)) (len : ∀ vs H Q E, sp vs H Q E → vs.length = ps.length)
    (hbody : ∀ (cdv : Value) (A : Around) (outer : List Env) (s : Shared) (H : Hp) (vs : List V) (Q : VK) (E : XK), Room k (A.deeper (envOfC qual (defScope st) s.heap.objs.size f cdv)) → sp vs H Q E →
      ∃ t, PSs (cxOf CX0 P w K mg base N qual (defScope st) f cdv A outer s H E).nox (defBody st) t ∧ t { nx := fun _ H' => Q .non H', rt := Q } (start N vs) H) : FnOk P w K mg base CX0 (k + 1) f fd ps sp := by
  obtain ⟨oc, od, kV, doc, pm, an, cdv, ct, osl, rfl, lk, hcd⟩ := F.ex
  refine fn_of lk hcd S len fun A outer s H vs Q E hr hsp => ?_
  obtain ⟨t, h, q⟩ := hbody cdv A outer s H vs Q E hr hsp
  exact ⟨t, h.nox, q⟩
/-- how its arguments bind (no defaults): h is «fun _ _ _ _ _ _ us hl => match us, hl with | [_, _], _ => rfl», one _ a parameter -/
theorem Fun.binds {x qual : Str} {st : Stmt} {f : Addr} {fd : FuncData} {ps : List Str} (F : Fun K x qual st f fd)
    (h : ∀ (kV doc pm : Value) (an : Option Addr) (cdv ct : Value) (us : List Value), us.length = ps.length → bindArgs (PySem.W.fnOf x qual (defArgs st) (defBody st) (defScope st) .none kV doc pm an cdv ct) ⟨us, []⟩ = pure (ps.zip us)) : Binds K fd ps [] := by
  obtain ⟨oc, od, kV, doc, pm, an, cdv, ct, osl, rfl, lk, hcd⟩ := F.ex
  exact .all (h kV doc pm an cdv ct)
theorem fun_mk {x qual : Str} {st : Stmt} {f : Addr} {oc : Value} {od an : Option Addr} {osl : Array (Option Value)} {kV doc pm cdv ct : Value} (l : K.lookup f = some ⟨oc, od, .func (PySem.W.fnOf x qual (defArgs st) (defBody st) (defScope st) .none kV doc pm an cdv ct), osl⟩)
    (c : PySem.W.codeIn K cdv qual = true) (k : PySem.W.keepIn K (.ref f) = true) : Fun K x qual st f (PySem.W.fnOf x qual (defArgs st) (defBody st) (defScope st) .none kV doc pm an cdv ct) := ⟨⟨oc, od, kV, doc, pm, an, cdv, ct, osl, rfl, l, c⟩, k⟩
end
theorem hu_of {A : Around} {k : Nat} (hr : Room k A) : A.units + 1 < cLine := Nat.lt_of_le_of_lt (Nat.add_le_add_left (by decide : 1 ≤ 64) _) hr.units

/-! ### expressions in short: the name that stands in the i-th slot -/
section
variable {X : Cx}
theorem pv (i : Nat) {x : Str} {pos : Pos} (hN : X.N[i]? = some x := by rfl) (hv : Vis X.env.scope x := by first | exact Or.inl rfl | exact Or.inr (Or.inl rfl) | exact Or.inr (Or.inr rfl)) (hd : (x == ("__debug__" : Str)) = false := by decide)
    (hcd : (x == ("__classdict__" : Str)) = false := by decide) : PE X (.Name x pos) (tVar i) := pe_var hN hv hd hcd
end

/-! ### tests -/
theorem iteF {A B : Prop} (h : B) : if false = true then A else B := by
  rw [if_neg Bool.false_ne_true]
  exact h
theorem iteT {A B : Prop} (h : A) : if true = true then A else B := by
  rw [if_pos rfl]
  exact h
theorem ite2 {c A B : Prop} [Decidable c] (h1 : c → A) (h2 : ¬ c → B) : if c then A else B := by
  by_cases h : c
  · rw [if_pos h]
    exact h1 h
  · rw [if_neg h]
    exact h2 h
theorem iteNS {c A B : Prop} [Decidable c] (hc : c) (h : B) : if (!decide c) = true then A else B := by
  rw [decide_eq_true hc]
  exact iteF h

/-! ### heaps -/
/-- all that was tracked is as it was -/
def Same (H H' : Hp) : Prop := ∀ b o, H b = some o → H' b = some o
theorem Same.refl (H : Hp) : Same H H := fun _ _ h => h
theorem Same.trans {H H1 H2 : Hp} (a : Same H H1) (b : Same H1 H2) : Same H H2 := fun c o h => b c o (a c o h)
theorem Same.free {H H' : Hp} (e : Same H H') {l : Addr} (h : H' l = Option.none) : H l = Option.none := by
  cases q : H l with
  | none => rfl
  | some o =>
    rw [e l o q] at h
    cases h
theorem Same.seq {K : PySem.W.Frag} {H H' : Hp} {a : Addr} {xs : List V} (e : Same H H') (h : SqL K H a xs) : SqL K H' a xs := by
  rcases h with (h | ⟨o, h⟩) | h
  · exact .inl (.inl (e _ _ h))
  · exact .inl (.inr ⟨o, e _ _ h⟩)
  · exact .inr h

end L2

set_option Elab.async false
set_option linter.all false
set_option maxRecDepth 100000
set_option maxHeartbeats 4000000
namespace L2
open PySem PySem.Spec PyProof.Rows

/-! ### a list comprehension: its block as a context of its own -/
/-- the context of the block: s, H the state behind the new list; fp the iterator's records -/
def cxComp (X : Cx) (scope : Scope) (cl : List (Str × Addr)) (N : List Str) (s : Shared) (H : Hp) (fp : List Addr) : Cx :=
  { prog := X.prog, w := X.w, K := X.K, mg := X.mg, base := X.base, A := X.A, N := N, s₀ := s, H₀ := H, env := compEnvC scope cl s.heap.objs.size X.env,
    outer := X.stack, stack := X.stack, ex := fp, fn := fun _ => false, calm := X.calm, pn := [], xe := fun _ _ => False }
/-- the names that the block sees: its own one, then those of the def at the places js -/
def cNames (X : Cx) (x : Str) (js : List Nat) : List Str := x :: js.map fun j => X.N.getD j ""
def cVals (js : List Nat) (σ : St) : St := js.map fun j => (σ[j]?).getD none
/-- each place holds a name that is a cell of the def's and free in the block -/
structure FreeAt (X : Cx) (scope : Scope) (js : List Nat) : Prop where
  all : ∀ j ∈ js, ∃ y, X.N[j]? = some y ∧ (X.env.kindOf y = some .cell ∨ X.env.kindOf y = some .free) ∧ (y, NameKind.free) ∈ scope.names ∧
    ((relabel scope X.env).names.lookup y = some .cell ∨ (relabel scope X.env).names.lookup y = some .free)
theorem fa_nil {X : Cx} {scope : Scope} : FreeAt X scope [] := ⟨fun _ h => nomatch h⟩
theorem fa_cons {X : Cx} {scope : Scope} {j : Nat} {js : List Nat} {y : Str} (h1 : X.N[j]? = some y) (h2 : X.env.kindOf y = some .cell ∨ X.env.kindOf y = some .free) (h3 : (y, NameKind.free) ∈ scope.names)
    (h4 : (relabel scope X.env).names.lookup y = some .cell ∨ (relabel scope X.env).names.lookup y = some .free) (r : FreeAt X scope js) : FreeAt X scope (j :: js) :=
  ⟨fun k hk => by
    rcases List.mem_cons.mp hk with e | e
    · subst e; exact ⟨y, h1, h2, h3, h4⟩
    · exact r.all k e⟩

theorem lookup_relabel {env : Env} : ∀ {names : List (Str × NameKind)} {y : Str} {k : NameKind},
    (names.map fun (n, k) => if (k == NameKind.free && env.scope.kind == .function && env.kindOf n == some .cell) then (n, NameKind.cell) else (n, k)).lookup y = some k →
    ∃ k', (y, k') ∈ names ∧ (k' = k ∨ (k = .cell ∧ k' = .free))
  | [], _, _, h => by simp at h
  | (n, k0) :: r, y, k, h => by
    by_cases hc : (k0 == NameKind.free && env.scope.kind == .function && env.kindOf n == some .cell) = true
    · rw [List.map_cons] at h
      dsimp only at h
      rw [if_pos hc] at h
      simp only [List.lookup_cons] at h
      have hf : k0 = .free := by
        rw [Bool.and_eq_true, Bool.and_eq_true] at hc
        exact beq_iff_eq.mp hc.1.1
      cases hx : y == n with
      | true =>
        rw [hx] at h
        have e := beq_iff_eq.mp hx
        subst e
        have e2 := Option.some.inj h
        exact ⟨k0, List.mem_cons_self, .inr ⟨e2.symm, hf⟩⟩
      | false =>
        rw [hx] at h
        obtain ⟨k', m, q⟩ := lookup_relabel h
        exact ⟨k', List.mem_cons_of_mem _ m, q⟩
    · rw [List.map_cons] at h
      dsimp only at h
      rw [if_neg hc] at h
      simp only [List.lookup_cons] at h
      cases hx : y == n with
      | true =>
        rw [hx] at h
        have e := beq_iff_eq.mp hx
        subst e
        have e2 := Option.some.inj h
        exact ⟨k0, List.mem_cons_self, .inl e2⟩
      | false =>
        rw [hx] at h
        obtain ⟨k', m, q⟩ := lookup_relabel h
        exact ⟨k', List.mem_cons_of_mem _ m, q⟩

section
variable {X : Cx} {pins : List (Addr × Obj)} {σ : St} {H : Hp} {s : Shared} {scope : Scope} {cl : List (Str × Addr)} {x : Str} {js : List Nat} {fp : List Addr}

theorem comp_ok (I : Inv X pins σ H s) (hk : scope.kind = .function) (hcell : ∀ y ∈ scope.names, y.2 ≠ .cell)
    (hcl1 : ∀ y c, cl.lookup y = some c → X.env.cells.lookup y = some c) (hcl2 : ∀ y, (y, NameKind.free) ∈ scope.names → ∃ c, cl.lookup y = some c)
    (hf : ∀ b ∈ fp, FpOk X pins H b) (hlt : ∀ b ∈ fp, b < s.heap.objs.size) : (cxComp X scope cl (cNames X x js) s H fp).Ok where
  mod := I.ok.mod
  kind := hk
  glob := I.ok.glob
  blt := I.ok.blt
  above := Nat.le_refl _
  inj := fun y z c h1 h2 => I.ok.inj y z c (hcl1 y c h1) (hcl1 z c h2)
  has := fun y hy => by
    have hy' : (relabel scope X.env).names.lookup y = some .cell ∨ (relabel scope X.env).names.lookup y = some .free := hy
    rcases hy' with h | h
    · obtain ⟨k', m, q⟩ := lookup_relabel h
      rcases q with q | ⟨_, q⟩
      · exact absurd q (hcell _ m)
      · subst q; exact hcl2 y m
    · obtain ⟨k', m, q⟩ := lookup_relabel h
      rcases q with q | ⟨q, _⟩
      · subst q; exact hcl2 y m
      · cases q
  cab := fun y c h _ => by cases h
  hd := I.ok.hd
  frames := I.ok.frames
  stk := .inl rfl
  exf := fun b hb => ⟨Nat.ne_of_lt (hlt b hb), fun y c h => (hf b hb).2.2.2.2.1 y c (hcl1 y c h)⟩
  bs := I.bs
  bsz := Nat.le_trans I.ok.bsz I.sz
  noex := fun b o e hb => by
    rcases (hf b hb).2.2.2.1 with z | z
    · exact I.ok.noex b o e z
    · exact absurd (Nat.lt_of_lt_of_le (Heap.lt_size e) (Nat.le_trans I.ok.bsz z)) (Nat.lt_irrefl _)
  exfs := fun b hb hz => (List.mem_cons.mp (I.stkSub b hz)).elim (hf b hb).2.1 (hf b hb).2.2.1
  funs := I.stack
  frf := I.stkFree

theorem comp_start {h₁ : Heap} {tk : Nat} (I : Inv X pins σ H s) (hk : scope.kind = .function) (hcell : ∀ y ∈ scope.names, y.2 ≠ .cell)
    (hcl1 : ∀ y c, cl.lookup y = some c → X.env.cells.lookup y = some c) (hcl2 : ∀ y, (y, NameKind.free) ∈ scope.names → ∃ c, cl.lookup y = some c) (hjs : FreeAt X scope js)
    (hf : ∀ b ∈ fp, FpOk X pins H b) (hlt : ∀ b ∈ fp, b < s.heap.objs.size) {m : Str → Option Value} (hn : h₁.Ns s.heap.objs.size m) (hkeep : ∀ b o, s.heap.get? b = some o → h₁.get? b = some o) :
    Inv (cxComp X scope cl (cNames X x js) s H fp) [] (none :: cVals js σ) H { s with heap := h₁, toks := tk } where
  ok := comp_ok I hk hcell hcl1 hcl2 hf hlt
  os := rfl
  bare := I.bare
  base := Un.kept hkeep
  loc := by
    refine ⟨m, hn, fun i y v h1 h2 h3 => ?_⟩
    cases i with
    | zero =>
      have z : (some none : Option (Option V)) = some (some v) := h2
      cases z
    | succ k =>
      have h1' : (js.map fun j => X.N.getD j "")[k]? = some y := h1
      have h2' : (js.map fun j => (σ[j]?).getD none)[k]? = some (some v) := h2
      rw [List.getElem?_map] at h1' h2'
      cases hj : js[k]? with
      | none => rw [hj] at h1'; cases h1'
      | some j =>
        rw [hj] at h1' h2'
        have e1 : X.N.getD j "" = y := Option.some.inj h1'
        have e2 : (σ[j]?).getD none = some v := Option.some.inj h2'
        obtain ⟨y', n1, n2, n3, n4⟩ := hjs.all j (List.mem_of_getElem? hj)
        have e3 : y' = y := by rw [← e1, List.getD_eq_getElem?_getD, n1]; rfl
        subst e3
        have e4 : σ[j]? = some (some v) := by
          cases q : σ[j]? with
          | none => rw [q] at e2; cases e2
          | some a => rw [q] at e2; exact congrArg some e2
        obtain ⟨m0, _, hl⟩ := I.loc
        obtain ⟨u, r, l⟩ := hl j y' v n1 e4 (n2.elim (fun z => Or.inr (Or.inl z)) fun z => Or.inr (Or.inr z))
        refine ⟨u, r, .inr ⟨n4, ?_⟩⟩
        rcases l with ⟨l, _⟩ | ⟨_, c, hc, hi⟩
        · exfalso
          rcases n2 with z | z <;> (rw [z] at l; cases l)
        · obtain ⟨c', hc'⟩ := hcl2 y' n3
          have e5 := hcl1 y' c' hc'
          rw [hc] at e5
          have e6 := Option.some.inj e5
          subst e6
          obtain ⟨o, ho, hd⟩ := hi
          exact ⟨c, hc', o, hkeep c o ho, hd⟩
  cell := fun y c h => by
    obtain ⟨v, o, ho, hd⟩ := I.cell y c (hcl1 y c h)
    exact ⟨v, o, hkeep c o ho, hd⟩
  free := I.hok.fresh (Nat.le_refl _)
  freeC := fun y c h => I.freeC y c (hcl1 y c h)
  pin := fun p hp => absurd (show p ∈ ([] : List (Addr × Obj)) from hp) (by simp)
  hok := I.hok.kept hkeep
  len := by
    show (none :: cVals js σ).length = (cNames X x js).length
    simp [cVals, cNames]
end

/-- the tests of a clause -/
def PIf (X : Cx) (ifs : List Expr) (t : TT) : Prop :=
  ∀ (pins : List (Addr × Obj)) (s : Shared) (σ : St) (H : Hp) (Q : Bool → Hp → Prop), Inv X pins σ H s → t σ H Q →
    wpAny (model X.prog X.w) X.A (forIn ifs true fun c r => if r = true then do let ok ← isTrue c X.env (eval c X.env); pure (ForInStep.yield ok) else pure (ForInStep.yield r)) (TP X pins σ Q) X.xe s
def tNoIf : TT := fun _ H Q => Q true H
theorem pif_nil {X : Cx} : PIf X [] tNoIf := fun _ _ _ H _ I h => wpAny_tests_nil ⟨H, I, h⟩

/-- [elt for x in iter if ..]: W an invariant by the turn and a measure; the list grows at D -/
def tComp (wi : TI) (tc : TT) (te : TE) (js : List Nat) : TE := fun σ H Q => wi σ H fun J H1 => ∀ D, H1 D = none →
  ∃ W : Nat → Nat → Hp → Prop, (∃ m, W 0 m (upd H1 D (.lst []))) ∧ ∀ i m H2, W i m H2 → (J.stop i H2 ∧ Q (.ref D) H2) ∨
    (J.go i H2 ∧ ∀ v H3, J.yld i H2 v H3 → tc (some v :: cVals js σ) H3 fun b H4 => if b = true then te (some v :: cVals js σ) H4 fun y H5 =>
      ∃ ys, H5 D = some (.lst ys) ∧ ys.length < sizeLine ∧ ∃ m', m' < m ∧ W (i + 1) m' (upd H5 D (.lst (ys ++ [y]))) else ∃ m', m' < m ∧ W (i + 1) m' H4)

section
variable {X : Cx} {elt iter : Expr} {x : Str} {px pos : Pos} {ifs : List Expr} {scope : Scope} {cl : List (Str × Addr)} {wi : TI} {tc : TT} {te : TE} {js : List Nat}

theorem comp_core {use : Option (Value → Sem Unit)} {Qv : Value → Shared → Prop} {pins : List (Addr × Obj)} {s : Shared} {σ : St} {H : Hp} {Q : VK}
    (hc : X.calm = true) (hi : PI X (.Name x px) iter wi) (hk : scope.kind = .function) (hcell : ∀ y ∈ scope.names, y.2 ≠ .cell) (hx : (relabel scope X.env).names.lookup x = some .local)
    (hcl1 : ∀ y c, cl.lookup y = some c → X.env.cells.lookup y = some c) (hcl2 : ∀ y, (y, NameKind.free) ∈ scope.names → ∃ c, cl.lookup y = some c) (hjs : FreeAt X scope js) (hnd : (cNames X x js).Nodup)
    (ht : ∀ s' H' fp, PIf (cxComp X scope cl (cNames X x js) s' H' fp) ifs tc) (he : ∀ s' H' fp, PE (cxComp X scope cl (cNames X x js) s' H' fp) elt te)
    (I : Inv X pins σ H s) (h : tComp wi tc te js σ H Q)
    (fin : ∀ (D C : Addr) (H' : Hp) (s' : Shared), Inv X pins σ H' s' → FpOk X pins H' C → (∃ m, s'.heap.Ns C m) → Q (.ref D) H' → compPost (model X.prog X.w) X.A X.xe use Qv (.ref D) C (.ok .next) s') :
    wpAny (model X.prog X.w) X.A (eval iter X.env) (fun xv s₁ => wpAny (model X.prog X.w) X.A (pyIter xv) (fun it s₂ => wpAny (model X.prog X.w) X.A (newList []) (fun acc s₃ =>
      wpAny (model X.prog X.w) X.A (newFunctionEnv scope X.env.globals cl [] X.env.qual none .none (some X.env)) (fun cenv s₄ =>
        codeAny (model X.prog X.w) X.A (.compStart (.ListComp elt [⟨.Name x px, iter, ifs, 0⟩] scope pos) 0 it acc { cenv with scope := relabel scope X.env })
          (compPost (model X.prog X.w) X.A X.xe use Qv acc cenv.locals) s₄) X.xe s₃) X.xe s₂) X.xe s₁) X.xe s := by
  refine thn (hi pins s σ H _ I h) fun v s1 h1 => thn h1 fun itv s2 h2 => ?_
  obtain ⟨it, fp, tn, J, H2, e, I2, T, st2, f2, hW⟩ := h2
  subst e
  obtain ⟨W, ⟨m0, w0⟩, turn⟩ := hW s2.heap.objs.size (I2.hok.fresh (Nat.le_refl _))
  have hlt2 : ∀ b ∈ fp, b < s2.heap.objs.size := fun b hb => let ⟨_, e, _⟩ := T.obj _ _ st2 b hb; Heap.lt_size e
  have I3 : Inv X pins σ (upd H2 s2.heap.objs.size (.lst [])) { s2 with heap := s2.heap.push { cls := .type "list", data := .seq ([] : List Value).toArray } } :=
    I2.lnew (t' := s2.toks) (its := []) .nil (Nat.zero_le _)
  refine wpAny_newObj_type ?_
  have k23 : ∀ b o, s2.heap.get? b = some o → (s2.heap.push { cls := .type "list", data := .seq ([] : List Value).toArray }).get? b = some o := fun b o e => Heap.get?_push_of_some _ e
  have sz3 : (s2.heap.push { cls := .type "list", data := .seq ([] : List Value).toArray }).objs.size = s2.heap.objs.size + 1 := Heap.size_push ..
  generalize hs3 : ({ s2 with heap := s2.heap.push { cls := .type "list", data := .seq ([] : List Value).toArray } } : Shared) = s3 at I3
  have hs3' : s3.heap = s2.heap.push { cls := .type "list", data := .seq ([] : List Value).toArray } := by rw [← hs3]
  have hlt3 : ∀ b ∈ fp, b < s3.heap.objs.size := fun b hb => by rw [hs3', sz3]; exact Nat.lt_succ_of_lt (hlt2 b hb)
  have f3 : ∀ b ∈ fp, FpOk X pins (upd H2 s2.heap.objs.size (.lst [])) b := fun b hb => ⟨by rw [upd_ne (Nat.ne_of_lt (hlt2 b hb))]; exact (f2 b hb).1, (f2 b hb).2⟩
  refine wpAny_newFunctionEnv hcell (by intro y hy; simp at hy) (fun h₁ hns hsb => ?_) hk
  have k34 : ∀ b o, s3.heap.get? b = some o → h₁.get? b = some o := fun b o e => hsb.extBut b o (Nat.ne_of_lt (Heap.lt_size e)) (Heap.get?_push_of_some _ e)
  have I4 := comp_start (x := x) (js := js) (tk := s3.toks + ([] : List (Str × Value)).length) I3 hk hcell hcl1 hcl2 hjs f3 hlt3 hns k34
  have st4 : tn 0 h₁ := T.keep 0 _ _ st2 fun b hb o e => k34 b o (by rw [hs3']; exact k23 b o e)
  -- the iterator's records stay what they are
  have stat : ∀ {H' : Hp}, (∀ b ∈ fp, H' b = none) → ∀ b ∈ fp, FpOk (cxComp X scope cl (cNames X x js) s3 (upd H2 s2.heap.objs.size (.lst [])) fp) [] H' b := fun hn b hb =>
    ⟨hn b hb, Nat.ne_of_lt (hlt3 b hb), fun hz => (List.mem_cons.mp (I3.stkSub b hz)).elim (f2 b hb).2.1 (f2 b hb).2.2.1, .inl hb, fun y c q => (f2 b hb).2.2.2.2.1 y c (hcl1 y c q), fun p hp => absurd (show p ∈ ([] : List (Addr × Obj)) from hp) (by simp)⟩
  have back : ∀ {σ' : St} {H' : Hp} {s' : Shared}, Inv (cxComp X scope cl (cNames X x js) s3 (upd H2 s2.heap.objs.size (.lst [])) fp) [] σ' H' s' → Inv X pins σ H' s' := fun {σ' H' s'} J' =>
    I3.call' (ch := fp) J'.os J'.base J'.hok J'.bare fun b hb => ⟨(f2 b hb).2.2.2.1, (f2 b hb).2.1, (f2 b hb).2.2.2.2.1, (f2 b hb).2.2.2.2.2⟩
  have loop : codeAny (model X.prog X.w) X.A (.compLoop (.ListComp elt [⟨.Name x px, iter, ifs, 0⟩] scope pos) 0 (.ref it) (.ref s2.heap.objs.size) (compEnvC scope cl s3.heap.objs.size X.env))
      (compPost (model X.prog X.w) X.A X.xe use Qv (.ref s2.heap.objs.size) s3.heap.objs.size) { s3 with heap := h₁, toks := s3.toks + ([] : List (Str × Value)).length } := by
    refine codeAny_compLoop_tests (fun n s' => ∃ i o H', Inv (cxComp X scope cl (cNames X x js) s3 (upd H2 s2.heap.objs.size (.lst [])) fp) [] (o :: cVals js σ) H' s' ∧ tn i s'.heap ∧ (∀ b ∈ fp, H' b = none) ∧ W i n H') ?_ m0
      ⟨0, none, _, I4, st4, fun b hb => (f3 b hb).1, w0⟩
    rintro n s5 ⟨i, o, H5, I5, st5, fr5, w5⟩
    rcases turn i n H5 w5 with ⟨stop, q⟩ | ⟨go, step⟩
    · refine thn (T.done (cxComp X scope cl (cNames X x js) s3 (upd H2 s2.heap.objs.size (.lst [])) fp) rfl rfl rfl hc i [] s5 _ H5 _ I5 (stat fr5) st5 stop) fun r s6 ⟨hr, I6⟩ => ?_
      subst hr
      exact fin _ _ H5 s6 (back I6) (I3.fpOk (Nat.le_refl _) I6.free) (let ⟨m, hm, _⟩ := I6.loc; ⟨m, hm⟩) q
    · refine thn (T.item (cxComp X scope cl (cNames X x js) s3 (upd H2 s2.heap.objs.size (.lst [])) fp) rfl rfl rfl hc i [] s5 _ H5 _ I5 (stat fr5) st5 go) fun r s6 ⟨u, hr, h6⟩ => ?_
      subst hr
      show wpAny _ _ (assign (.Name x px) _ u) _ _ s6
      intro Γ p hΓ
      have h6' := h6 Γ p hΓ
      obtain ⟨v, H6, I6, r6, y6, st6, fr6⟩ := h6'
      refine (?_ : wpAny _ _ _ _ _ s6) Γ p hΓ
      have I6' := I6.pinned (stat fr6) (T.obj _ _ st6)
      have hg : PG (cxComp X scope cl (cNames X x js) s3 (upd H2 s2.heap.objs.size (.lst [])) fp) (.Name x px) (gName 0) := pg_name (i := 0) hnd rfl (Or.inl hx) (.inr hx)
      refine wpAny_mono (hg _ s6 _ H6 v u (fun σ' H' => σ' = some v :: cVals js σ ∧ H' = H6) I6' r6 ⟨rfl, rfl⟩) (fun _ s7 q7 => ?_) (fun _ _ f => False.elim f)
      obtain ⟨σ7, H7, I7, e7, e8⟩ := q7
      subst e7 e8
      refine wpAny_mono (ht s3 _ fp _ s7 _ H7 _ I7 (step v H7 y6)) (fun ok s8 q8 => ?_) (fun _ _ f => False.elim f)
      obtain ⟨H8, I8, q8⟩ := q8
      have again : ∀ {s9 : Shared} {σ9 : St} {H9 : Hp} {m' : Nat}, Inv (cxComp X scope cl (cNames X x js) s3 (upd H2 s2.heap.objs.size (.lst [])) fp) ([] ++ pinsAt fp s6.heap) (some v :: cVals js σ) H9 s9 → m' < n → W (i + 1) m' H9 →
          ∃ m, m < n ∧ ∃ i o H', Inv (cxComp X scope cl (cNames X x js) s3 (upd H2 s2.heap.objs.size (.lst [])) fp) [] (o :: cVals js σ) H' s9 ∧ tn i s9.heap ∧ (∀ b ∈ fp, H' b = none) ∧ W i m H' := fun {s9 σ9 H9 m'} I9 hm w9 => by
        refine ⟨m', hm, i + 1, some v, H9, I9.unpinned, T.keep _ _ _ st6 fun b hb o e => (I9.pin (b, o) (List.mem_append_right _ (List.mem_append_right _ (mem_pinsAt hb e)))).1, fun b hb => ?_, w9⟩
        obtain ⟨o, e, d⟩ := T.obj _ _ st6 b hb
        exact (I9.pin (b, o) (List.mem_append_right _ (List.mem_append_right _ (mem_pinsAt hb e)))).2.1
      cases ok with
      | false =>
        rw [if_neg Bool.false_ne_true] at q8 ⊢
        obtain ⟨m', hm, w9⟩ := q8
        exact again (σ9 := []) I8 hm w9
      | true =>
        rw [if_pos rfl] at q8 ⊢
        refine wpAny_mono (he s3 _ fp _ s8 _ H8 _ I8 q8) (fun y s9 q9 => ?_) (fun _ _ f => False.elim f)
        obtain ⟨yv, H9, I9, r9, ys, hD, hl, m', hm, w9⟩ := q9
        refine wpAny_mono (mt_append (X := cxComp X scope cl (cNames X x js) s3 (upd H2 s2.heap.objs.size (.lst [])) fp) _ s9 _ H9 (.ref s2.heap.objs.size) [yv] (.ref s2.heap.objs.size) [y] (fun _ H' => H' = upd H9 s2.heap.objs.size (.lst (ys ++ [yv]))) I9 rfl (.cons r9 .nil) ⟨_, ys, yv, rfl, rfl, hD, hl, rfl⟩) (fun _ s10 q10 => ?_) (fun _ _ f => False.elim f)
        obtain ⟨_, H10, I10, _, e10⟩ := q10
        subst e10
        exact again (σ9 := []) I10 hm w9
  exact codeAny_compStart_list loop (T.self _ 0 _ _ _ st4 loop)

/-- the comprehension as an expression -/
theorem pe_comp (hc : X.calm = true) (hi : PI X (.Name x px) iter wi) (hk : scope.kind = .function) (hcell : ∀ y ∈ scope.names, y.2 ≠ .cell) (hnames : ∀ y ∈ scope.names, y.2 = .local → scope.names.lookup y.1 = some .local) (hx : (relabel scope X.env).names.lookup x = some .local)
    (hclos : closureFor scope X.env = pure cl) (hcl1 : ∀ y c, cl.lookup y = some c → X.env.cells.lookup y = some c) (hcl2 : ∀ y, (y, NameKind.free) ∈ scope.names → ∃ c, cl.lookup y = some c) (hjs : FreeAt X scope js) (hnd : (cNames X x js).Nodup)
    (ht : ∀ s' H' fp, PIf (cxComp X scope cl (cNames X x js) s' H' fp) ifs tc) (he : ∀ s' H' fp, PE (cxComp X scope cl (cNames X x js) s' H' fp) elt te)
    (hs : ∀ x, foldedSetIterable iter X.env x = pure x := by intro _; rfl) : PE X (.ListComp elt [⟨.Name x px, iter, ifs, 0⟩] scope pos) (tComp wi tc te js) := by
  intro pins s σ H Q I h
  rw [eval_ListComp]
  refine wpAny_comprehension_free (use := none) rfl hs hclos hk hnames (comp_core hc hi hk hcell hx hcl1 hcl2 hjs hnd ht he I h fun D C H' s' I' fC hC q => ?_)
  obtain ⟨m, hm⟩ := hC
  refine ⟨m, hm, fun h' sb => ?_⟩
  obtain ⟨f0, f1, f2, f3, f4, f5⟩ := fC
  exact ⟨.ref D, H', I'.turned (t' := s'.toks) (fun b o hb e => (sb.2 b hb).trans e) f0 f1 f3 f4 f5, rfl, q⟩

/-- y = [..] -/
def tAsgC (i : Nat) (te : TE) : TS := fun D σ H => te σ H fun v H1 => D.nx (σ.set i (some v)) H1
theorem ps_setC {y : Str} {i : Nat} {py spos : Pos} (hN : X.N.Nodup) (hy : X.N[i]? = some y) (hyl : Loc X.env.scope y) (hyf : X.fn y = true ∨ X.env.scope.names.lookup y = some .local)
    (hsw : swapsWith (.ListComp elt [⟨.Name x px, iter, ifs, 0⟩] scope pos) (some (.Name y py)) spos.line X.env = pure true)
    (hc : X.calm = true) (hi : PI X (.Name x px) iter wi) (hk : scope.kind = .function) (hcell : ∀ y ∈ scope.names, y.2 ≠ .cell) (hnames : ∀ y ∈ scope.names, y.2 = .local → scope.names.lookup y.1 = some .local) (hx : (relabel scope X.env).names.lookup x = some .local)
    (hclos : closureFor scope X.env = pure cl) (hcl1 : ∀ y c, cl.lookup y = some c → X.env.cells.lookup y = some c) (hcl2 : ∀ y, (y, NameKind.free) ∈ scope.names → ∃ c, cl.lookup y = some c) (hjs : FreeAt X scope js) (hnd : (cNames X x js).Nodup)
    (ht : ∀ s' H' fp, PIf (cxComp X scope cl (cNames X x js) s' H' fp) ifs tc) (he : ∀ s' H' fp, PE (cxComp X scope cl (cNames X x js) s' H' fp) elt te)
    (hs : ∀ x, foldedSetIterable iter X.env x = pure x := by intro _; rfl) :
    PS X (.Assign [.Name y py] (.ListComp elt [⟨.Name x px, iter, ifs, 0⟩] scope pos) spos) (tAsgC i (tComp wi tc te js)) := by
  intro pins s σ H D I h
  rw [exec_Assign_Name_used _ _ _ _ hsw]
  refine wpAny_bind (wpAny_standAt (wpAny_bind ?_))
  show wpAny _ _ (do let _ ← comprehension (.ListComp elt [⟨.Name x px, iter, ifs, 0⟩] scope pos) scope X.env _ (newList []) false (eval iter X.env) (some (assign (.Name y py) X.env))) _ _ s
  refine wpAny_bind (wpAny_mono (wpAny_comprehension_free (use := some (assign (.Name y py) X.env)) (Q := fun _ s' => SP X pins D .next s') rfl hs hclos hk hnames
    (comp_core hc hi hk hcell hx hcl1 hcl2 hjs hnd ht he I h fun D' C H' s' I' fC hC q => ?_)) (fun _ s' hq => wpAny_pure (wpAny_pure hq)) fun _ _ e => e)
  obtain ⟨m, o, es, ep, ho, hd, hr⟩ := hC
  obtain ⟨f0, f1, f2, f3, f4, f5⟩ := fC
  have Ip : Inv X (pins ++ [(C, o)]) σ H' s' := I'.pins_of fun p hp => (List.mem_append.mp hp).elim (fun z => I'.pin p (List.mem_append_right _ z)) fun z => by
    have e : p = (C, o) := by simpa using z
    subst e
    exact ⟨ho, f0, f1, f2, fun v z => by rw [hd] at z; cases z⟩
  have hg : PG X (.Name y py) (gName i) := pg_name hN hy hyl hyf
  refine thn (hg _ s' σ H' (.ref D') (.ref D') (fun σ' H'' => σ' = σ.set i (some (.ref D')) ∧ H'' = H') Ip rfl ⟨rfl, rfl⟩) fun _ s'' q'' => ?_
  obtain ⟨σ'', H'', I'', e1, e2⟩ := q''
  subst e1 e2
  have hp := (I''.pin (C, o) (by simp)).1
  refine ⟨m, ⟨o, es, ep, hp, hd, hr⟩, fun h' sb => ?_⟩
  exact ⟨_, _, (I''.unpinned).turned (t' := s''.toks) (fun b o hb e => (sb.2 b hb).trans e) f0 f1 f3 f4 f5, q⟩
end
end L2


set_option Elab.async false
set_option linter.all false
set_option maxRecDepth 100000
set_option maxHeartbeats 4000000
namespace L2
open PySem PySem.Spec PyProof.Rows

/-! ### a def of the text: where it stands, what it promises -/
/-- the def st stands at the top by the name x -/
structure TopDef (K : PySem.W.Frag) (mg : Str → Option Value) (x : Str) (st : Stmt) : Prop where
  ex : ∃ (f : Addr) (fd : FuncData), Fun K x x st f fd ∧ mg x = some (.ref f)
theorem top_mk {K : PySem.W.Frag} {h : Heap} {mg : Str → Option Value} {x : Str} {st : Stmt} {f : Addr} {oc kV doc pm cdv ct : Value} {od an : Option Addr} {osl : Array (Option Value)} (X : K.In h) (G : h.Ns mainGlobals mg)
    (a : PySem.W.nsIn K mainGlobals x = some (some (.ref f)))
    (l : K.lookup f = some ⟨oc, od, .func (PySem.W.fnOf x x (defArgs st) (defBody st) (defScope st) .none kV doc pm an cdv ct), osl⟩)
    (c : PySem.W.codeIn K cdv x = true) (k : PySem.W.keepIn K (.ref f) = true) : TopDef K mg x st :=
  ⟨_, _, fun_mk l c k, PySem.W.mg_of X G a⟩
/-- the def by the name x keeps sp, within n calls of one another -/
structure Def (P : Program) (w : World) (K : PySem.W.Frag) (mg : Str → Option Value) (base : Heap) (n : Nat) (x : Str) (ps : List Str) (sp : Sp) : Prop where
  ex : ∃ (f : Addr) (fd : FuncData), FnOk P w K mg base CX0 n f fd ps sp ∧ Binds K fd ps [] ∧ PySem.W.keepIn K (.ref f) = true ∧ mg x = some (.ref f)
section
variable {P : Program} {w : World} {K : PySem.W.Frag} {mg : Str → Option Value} {base : Heap}
theorem def_of {x : Str} {st : Stmt} {N ps : List Str} {k : Nat} {sp : Sp} (T : TopDef K mg x st) (S : FnScope N ps (defScope st))
    (bd : ∀ (kV doc pm : Value) (an : Option Addr) (cdv ct : Value) (us : List Value), us.length = ps.length → bindArgs (PySem.W.fnOf x x (defArgs st) (defBody st) (defScope st) .none kV doc pm an cdv ct) ⟨us, []⟩ = pure (ps.zip us))
    (len : ∀ vs H Q E, sp vs H Q E → vs.length = ps.length)
    (body : ∀ (f : Addr) (cdv : Value) (A : Around) (outer : List Env) (s : Shared) (H : Hp) (vs : List V) (Q : VK) (E : XK), Room k (A.deeper (envOfC x (defScope st) s.heap.objs.size f cdv)) → sp vs H Q E →
      ∃ t, PSs (cxOf CX0 P w K mg base N x (defScope st) f cdv A outer s H E).nox (defBody st) t ∧ t { nx := fun _ H' => Q .non H', rt := Q } (start N vs) H) :
    Def P w K mg base (k + 1) x ps sp := by
  obtain ⟨f, fd, F, m⟩ := T.ex
  exact ⟨f, fd, F.ok S len (body f), F.binds bd, F.kp, m⟩
end
section
variable {X : Cx} {n : Nat} {x : Str} {ps : List Str} {sp : Sp} {e a b : Expr} {es : List Expr} {t : TA} {ta tb : TE} {p pos : Pos}
/-- f(..) of such a def -/
theorem pe_def (D : Def X.prog X.w X.K X.mg X.base n x ps sp) (hr : Room n X.A) (hg : Gl X x) (ha : PA X (e :: es) t) (hdb : (x == ("__debug__" : Str)) = false := by decide)
    (he : starEach (e :: es) X.env = (false, eval e X.env) :: starEach es X.env := by rfl) (hpl : (backTo pos (starEach es X.env)).any (·.1) = false := by rfl) :
    PE X (.Call (.Name x p) (e :: es) [] pos) (tCall sp [] E0 t) := by
  obtain ⟨f, fd, F, b, kp, m⟩ := D.ex
  exact pe_call F hr hg m kp b .nil pass0 ha hdb he hpl

/-! ### ints of any size -/
theorem op_mulK : OpR X (binaryOp .Mult) (rI IntMulOk fun i j => .int (i * j)) := opI fun _ _ _ _ _ _ _ hc q => PyProof.Rows.mul_int q hc

/-! ### isinstance(x, c) -/
theorem call_isi : CallR X (.builtin "isinstance") (fun xs H Q => ∃ (y : V) (c : V) (cv t : Value) (k : Bool), xs = [y, c] ∧ (∀ u, RelV c u → u = cv) ∧ TyOf X.K H y t ∧ PySem.W.kitOne X.K t cv = some k ∧ Q (.bl k) H) := by
  intro pins s σ H xs us Q I r h
  obtain ⟨y, c, cv, t, k, rfl, hc, ty, kt, q⟩ := h
  obtain ⟨u, w', rfl, r1, r2⟩ := vals2 r
  have e := hc _ r2
  subst e
  exact isinst_ok I r1 ty kt fun tk => ⟨.bl k, H, I.tok tk, rfl, q⟩
/-! ### sep.join(a list of texts) -/
end
end L2


set_option Elab.async false
set_option linter.all false
set_option maxRecDepth 100000
set_option maxHeartbeats 4000000
namespace L2
open PySem PySem.Spec PySem.Calls PyProof.Rows PySem.W PySem.Builtin.Getset_descriptor
/-- what the fragment says of an own class of exceptions, for isinstance -/
structure ExcCls (K : Frag) (D : Addr) : Prop where
  ga : findIn K (.ref D) "__getattribute__" = some (some (.builtin "BaseException.__getattribute__"))
  gt : findIn K (.ref D) "__getattr__" = some none
  cl : ∃ cd, clsIn K D = some cd
  ha : findIn K (.ref D) "__class__" = some (some (.builtin "object.__class__"))
  hn : specialIn K (.builtin "object.__class__") "__get__" = some (some (.builtin "getset_descriptor.__get__"))
  tk : takesIn K (.builtin "object.__class__") = some true
  hb : mroIn K D (.type "BaseException") = some true
  hm : mroIn K D (.type "object") = some true
section
variable {prog : Program} {w : World} {A : Around} {E : Value → Shared → Prop} {s : Shared} {K : Frag} {x D : Addr}
/-- an object of the class D, whatever else is in it -/
def OfCls (x D : Addr) (h : Heap) : Prop := ∃ ox, h.get? x = some ox ∧ ox.cls = .ref D
theorem OfCls.type {M : Model} {h : Heap} (I : OfCls x D h) : Looks M h (typeOf (.ref x)) (.ref D) := by
  obtain ⟨ox, a, b⟩ := I
  exact b ▸ (Looks.ld a).andThen .now
theorem exc_find {M : Model} {h : Heap} (c : ExcCls K D) (X : K.In h) :
    Looks M h (Builtin.ObjectAttr.find (.ref x) (.ref D) "__class__") (.bind (.builtin "getset_descriptor.__get__") (.builtin "object.__class__")) := by
  have l1 := looks_findIn (M := M) X c.ha
  have l2 := looks_specialIn (M := M) X c.hn
  have l3 := looks_takesIn (M := M) X c.tk
  have l4 : Looks M h (Builtin.ObjectAttr.dataDescriptor? (some (.builtin "object.__class__")) (some (.builtin "getset_descriptor.__get__"))) (some (.builtin "getset_descriptor.__get__", .builtin "object.__class__")) := l3.andThen .now
  exact l1.andThen (Looks.andThen (show Looks M h (Builtin.ObjectAttr.getOf (some (.builtin "object.__class__"))) _ from l2) (l4.andThen (Looks.tag .now)))
theorem exc_get {R : Result → Shared → Prop} {tp : Value} (c : ExcCls K D) (X : K.In s.heap) (I : OfCls x D s.heap) (h : R (.ok (.ret (.ref D))) s) :
    codeAny (model prog w) A (.call (.builtin "getset_descriptor.__get__") ⟨[.builtin "object.__class__", .ref x, tp], []⟩) R s := by
  obtain ⟨hh, g, dr, t, os⟩ := s
  have l0 := I.type (M := model prog w)
  have l1 := looks_mroIn (M := model prog w) X c.hm
  refine codeAny_call_builtin (KF.slot_gs).plain KF.entry_gs ?_
  refine (KF.slot_gs).check _ _ _ _ _ _ _ _ KF.type_class (KF.args_gs _ _ _) ?_
  unfold Builtin.«getset_descriptor.__get__» descrGet; rw [dga_obj]
  refine wpAny_bind (wpAny_pure ?_)
  unfold descrGetter descrCheckInstance descrNameAndClass isInstance; simp only [KF.owner_class]
  repeat lk
  refine ⟨Code.quiet_builtin _ (by decide +kernel), codeAny_builtin KF.entry_class ?_⟩; unfold Builtin.«object.__class__» shownTypeOf
  repeat lk
  exact h
theorem exc_class {Q : Option Value → Shared → Prop} (c : ExcCls K D) (X : K.In s.heap) (I : OfCls x D s.heap) (h : Q (some (.ref D)) { s with toks := s.toks + 1 }) :
    wpAny (model prog w) A (getAttr? (.ref x) "__class__") Q E s := by
  obtain ⟨hh, g, d, t, os⟩ := s
  have L0 := I.type (M := model prog w)
  have L1 := looks_findIn (M := model prog w) X c.ga
  have L2 := looks_findIn (M := model prog w) X c.gt
  have LB := looks_mroIn (M := model prog w) X c.hb
  have L3 := exc_find (M := model prog w) (x := x) c X
  unfold getAttr? getAttrBy? getAttrBy
  refine wpAny_bind (wpAny_mkText (wpAny_bind (wpAny_attempt (wpAny_holding (wpAny_bind (L0.at (wpAny_bind (L1.at ?_))))))))
  show wpAny _ _ (getAttrByItsOwn (.ref x) _ (.ref D) (.builtin "BaseException.__getattribute__") false false) _ _ _
  unfold getAttrByItsOwn
  show wpAny _ _ (typeLookup (.ref D) "__getattr__" >>= _) _ _ _
  refine wpAny_bind (L2.at ?_)
  refine wpAny_bind (wpAny_attempt (wpAny_holding ?_))
  show wpAny _ _ (boundAndCalled (.builtin "BaseException.__getattribute__") (.ref x) _) _ _ _
  unfold boundAndCalled
  have FB := (F.attrBase_ValueError).ga
  refine wpAny_bind (wpAny_of_eq (FB.bind (.ref x)) ?_)
  show wpAny _ _ (call (.builtin "BaseException.__getattribute__") [.ref x, _]) _ _ _
  refine wpAny_call (codeAny_call_builtin FB.plain F.entry_bexc_ga ?_)
  have kd : builtinKind "BaseException.__getattribute__" = some .slot := by decide +kernel
  have sp : splitId "BaseException.__getattribute__" = some ("BaseException", "__getattribute__") := by decide +kernel
  have ar := F.args_bexc_ga (.ref x) (.str "__class__" t)
  simp only [checkBuiltinCall, kd, sp]
  unfold isInstance
  refine wpAny_bind (wpAny_bind (L0.at (LB.at ?_)))
  rw [if_neg (by decide)]
  refine wpAny_of_eq ar ?_
  unfold Builtin.«object.__getattribute__»
  refine wpAny_bind (wpAny_pure (wpAny_bind (wpAny_pure (wpAny_bind (L0.at (wpAny_bind (L3.at ?_)))))))
  unfold Builtin.ObjectAttr.bindTo
  refine wpAny_bind (wpAny_holding (wpAny_call (exc_get (s := ⟨hh, g, d, t + 1, os⟩) c X I ?_)))
  refine wpAny_pure ?_
  exact handed_on rfl (wpAny_pure h)
theorem kitx_exc (c : ExcCls K D) : KitX K (.ref x) (.ref D) (OfCls x D) where
  ty := fun _ _ _ I => I.type
  it := fun _ _ X _ => by
    obtain ⟨cd, hcd⟩ := c.cl
    unfold clsIn at hcd
    split at hcd
    · rename_i c' d' cd' sl' ho
      intro A' Q' E' s' k q
      unfold isType loadHead
      exact wpAny_bind (wpAny_loadPart (k _ _ (X _ _ ho)) (wpAny_pure q))
    · cases hcd
  ne := fun h tp dd its n sl X htp => by
    obtain ⟨cd, hcd⟩ := c.cl
    refine Bool.eq_false_iff.mpr fun q => ?_
    have e : D = tp := Value.ref.inj (beq_iff_eq.mp q)
    subst e
    unfold clsIn at hcd
    split at hcd
    · rename_i c' d' cd' sl' ho
      have z := (X _ _ ho).symm.trans htp
      cases z
    · cases hcd
  ca := fun X I k => exc_class c X I k
end
end L2


set_option Elab.async false
set_option linter.all false
set_option maxRecDepth 100000
set_option maxHeartbeats 4000000
namespace L2
open PySem PySem.Spec PyProof.Rows
section
variable {P : Program} {w : World} {H : Hp} {h : Heap} {a : Addr} {o : HO}
theorem ObjOk.there (x : ObjOk P w H h a o) : ∃ ob, h.get? a = some ob := by
  cases o with
  | lst xs => obtain ⟨_, _, _, _, e⟩ := x; exact ⟨_, e⟩
  | tup xs => obtain ⟨_, _, _, ⟨_, e, _⟩⟩ := x; exact ⟨_, e⟩
  | dK kvs => obtain ⟨_, _, _, _, o, _, _, e, _⟩ := x; exact ⟨_, e⟩
  | dT kvs => obtain ⟨_, _, _, _, o, _, _, e, _⟩ := x; exact ⟨_, e⟩
  | set S n => obtain ⟨o, _, _, _, e, _⟩ := x; exact ⟨_, e⟩
  | ins C dx fs => obtain ⟨_, _, _, e, _⟩ := x; exact ⟨_, e⟩
  | own y => exact x
  | xd fs => obtain ⟨_, ⟨_, _, _, e, _⟩, _⟩ := x; exact ⟨_, e⟩
  | rng lo hi => obtain ⟨_, _, _, e⟩ := x; exact ⟨_, e⟩
  | frz ob u => obtain ⟨e, _⟩ := x; exact ⟨_, e⟩
  | tbl ps => exact ⟨_, (show h.get? a = some _ from x)⟩
  | met f y => exact ⟨_, (show h.get? a = some _ from x)⟩
  | ext φ => obtain ⟨_, e, _⟩ := x; exact e
end

/-! ### how an exception lies behind a call: ea the object, C its class; whatever is tracked, or stood ahead of the call, stands in B, which stays -/
def Flies (P : Program) (w : World) (outer : List Env) (H : Hp) (s : Shared) (ea : Addr) (C : Value) (H' : Hp) (s' : Shared) : Prop := ∃ (t : Addr) (B : Heap),
  s'.os = s.os ∧ AllBare s'.gens ∧ Un (frs outer) [] H H' s.heap s'.heap ∧ HOk P w H' s'.heap ∧ Heap.FlyingW B outer ea C (.ref t) s'.heap ∧ H' ea = none ∧ s.heap.get? ea = none ∧
  ∀ b o, s'.heap.get? b = some o → b ∉ frs outer → ((∃ u, H' b = some u) ∨ ∃ o', s.heap.get? b = some o') → B.get? b = some o
def CXr (P : Program) (w : World) : CXT := fun outer H s E e s' => ∃ (ea : Addr) (C : Value) (H' : Hp), e = .ref ea ∧ Flies P w outer H s ea C H' s' ∧ E C none H'

/-! ### raise: the exception leaves the def -/
section
variable {P : Program} {w : World} {K : PySem.W.Frag} {mg : Str → Option Value} {base : Heap} {N : List Str} {qual : Str} {scope : Scope} {f : Addr} {cd : Value} {A : Around} {outer : List Env} {s : Shared} {H : Hp} {E : XK}
theorem raise_leaves {pins : List (Addr × Obj)} {σ : St} {H1 : Hp} {s₂ : Shared} {h' : Heap} {ea C : Addr} {vs : List Value} (I : Inv (cxOf (CXr P w) P w K mg base N qual scope f cd A outer s H E) pins σ H1 s₂)
    (hx : Heap.MadeExcOf s₂.heap h' ea (.ref C) vs) (q : E (.ref C) none H1) : (cxOf (CXr P w) P w K mg base N qual scope f cd A outer s H E).xe (.ref ea) { s₂ with heap := h' } := by
  have hin : ∀ en ∈ (envOfC qual scope s.heap.objs.size f cd :: outer), ∀ b, en.frame = some b → b ∈ frs (envOfC qual scope s.heap.objs.size f cd :: outer) := fun en he b hb => List.mem_filterMap.mpr ⟨en, he, hb⟩
  show wpAny (model P w) (A.deeper (envOfC qual scope s.heap.objs.size f cd)) (leaving (envOfC qual scope s.heap.objs.size f cd) (.ref ea)) _ _ _
  refine wpAny_leaves_madeW (base := PySem.W.hideAll s₂.heap (frs (envOfC qual scope s.heap.objs.size f cd :: outer))) (h := s₂.heap) I.ok.frames rfl (fun b o z => PySem.W.of_hideAll _ z) (PySem.W.funFrames_hide I.stack hin) hx fun h'' t fl _ _ up => ?_
  have keepB : ∀ b o, s₂.heap.get? b = some o → b ∉ frs (envOfC qual scope s.heap.objs.size f cd :: outer) → h''.get? b = some o := fun b o e n => fl.1 b o (PySem.W.hideAll_get _ e n)
  have notF : ∀ b o, s.heap.get? b = some o → b ∉ frs outer → b ∉ frs (envOfC qual scope s.heap.objs.size f cd :: outer) := fun b o e n z =>
    (List.mem_cons.mp (I.stkSub b z)).elim (fun z => absurd (Nat.lt_of_lt_of_le (Heap.lt_size e) I.ok.above) (by rw [z]; exact Nat.lt_irrefl _)) n
  have trk : ∀ b u, H1 b = some u → b ∉ frs (envOfC qual scope s.heap.objs.size f cd :: outer) := fun b u e z => by
    have := I.stkFree b z
    rw [e] at this; cases this
  have ntrk : ∀ b, s₂.heap.get? b = none → H1 b = none := fun b e => by
    cases z : H1 b with
    | none => rfl
    | some u => obtain ⟨ob, e2⟩ := (I.hok b u z).there; rw [e] at e2; cases e2
  have hthere : ∀ b o, s.heap.get? b = some o → ∃ o', s₂.heap.get? b = some o' := fun b o e => I.base.there b o e (fun z => nomatch z)
  refine ⟨ea, .ref C, H1, rfl, ⟨t, _, I.os, I.bare, ⟨?_, ?_, fun b o e n z => I.base.free b o e n z, ?_, I.base.tups, I.base.frzs, I.base.tbls⟩, ?_, fl, ntrk _ hx.new, ?_, ?_⟩, q⟩
  · exact fun b o e n hb z => keepB b o (I.base.keep b o e n hb z) (notF b o e hb)
  · intro b o e n hb z
    obtain ⟨sl, e1⟩ := I.base.slot b o e n hb z
    obtain ⟨_, o', e2, nf⟩ := I.ok.funs.mem hb
    have e3 : some o' = some o := e2.symm.trans e
    cases e3
    obtain ⟨sl', e4⟩ := up b _ (hx.keeps b _ e1) nf
    exact ⟨sl', e4⟩
  · intro b o e z
    by_cases hb : b ∈ frs outer
    · obtain ⟨sl, e1⟩ := I.base.slot b o e (I.ok.frf b hb) hb z
      obtain ⟨_, o', e2, nf⟩ := I.ok.funs.mem hb
      have e3 : some o' = some o := e2.symm.trans e
      cases e3
      obtain ⟨sl', e4⟩ := up b _ (hx.keeps b _ e1) nf
      exact ⟨_, e4⟩
    · obtain ⟨o', e1⟩ := hthere b o e
      exact ⟨o', keepB b o' e1 (notF b o e hb)⟩
  · intro b u e
    exact (I.hok b u e).stay (fun c v hc e' => keepB c v e' (hc.elim (fun z => by subst z; exact trk _ _ e) fun z => trk _ _ z)) (fun _ z => z) fun _ _ z => z
  · cases z : s.heap.get? ea with
    | none => rfl
    | some o => obtain ⟨o', e⟩ := hthere ea o z; rw [hx.new] at e; cases e
  · intro b o e n hb
    have key : ∃ o2, s₂.heap.get? b = some o2 ∧ b ∉ frs (envOfC qual scope s.heap.objs.size f cd :: outer) := by
      rcases hb with ⟨u, hu⟩ | ⟨o', ho⟩
      · obtain ⟨ob, e2⟩ := (I.hok b u hu).there
        exact ⟨ob, e2, trk b u hu⟩
      · obtain ⟨o2, e2⟩ := hthere b o' ho
        exact ⟨o2, e2, notF b o' ho n⟩
    obtain ⟨o2, e2, n2⟩ := key
    have e3 := keepB b o2 e2 n2
    rw [e] at e3
    cases e3
    exact PySem.W.hideAll_get _ e2 n2
end
end L2


set_option Elab.async false
set_option linter.all false
set_option maxRecDepth 100000
set_option maxHeartbeats 4000000
namespace L2
open PySem PySem.Spec PyProof.Rows PySem.W

/-! ### raise X(..) of an own class without __init__ -/
abbrev bmV : List Value := [.type "ValueError", .type "Exception", .type "BaseException", .type "object"]
theorem exc_obj {K : Frag} {h : Heap} {C : Addr} {bmB : List Value} {newId : String} (X : K.In h) (q : excIn K C bmB newId = true) :
    ∃ bm N nm qn bs hd sn sub ab col dd k0 k1 k2 k3 k5 mN, h.get? C = some (excClassObj nm qn C N bs bm hd sn sub ab col dd k0 k1 k2 k3 k5 newId) ∧ h.Ns N mN ∧ mN "__init__" = none ∧ OwnTail h bmB bm := by
  unfold excIn at q
  split at q
  · rename_i d0 c0 sl0 lk
    split at q
    · rename_i C1 bm1 j0 j1 j2 j3 n1 j5 em es
      simp only [Bool.not_eq_true', beq_iff_eq, Bool.and_eq_true] at q
      obtain ⟨⟨⟨⟨⟨e1, e2⟩, nodel⟩, tl⟩, ok⟩, ni⟩ := q
      subst e1 e2
      obtain ⟨nm1, bs1, mro1, ns1, qn1, hd1, sn1, sub1, ab1, col1, del1⟩ := c0
      dsimp only at em nodel ok ni
      subst em nodel
      have esl : sl0 = #[j0, j1, j2, j3, some (.builtin n1), j5] := by
        obtain ⟨l0⟩ := sl0
        simp only at es
        rw [es]
      subst esl
      exact ⟨_, _, _, _, _, _, _, _, _, _, _, _, _, _, _, _, _, X _ _ lk, .of_isNs (isNs_of_in X ok), nsMap_none_of_in X ok ni, tail_of_in X tl⟩
    · cases q
  · cases q

def tRaise (C : Addr) (E : XK) (ta : TA) : TS := fun _ σ H => ta σ H fun vs H1 => vs.length ≤ sizeLine ∧ E (.ref C) none H1
section
variable {P : Program} {w : World} {K : Frag} {mg : Str → Option Value} {base : Heap} {N : List Str} {qual : Str} {scope : Scope} {f : Addr} {cd : Value} {A : Around} {outer : List Env} {s : Shared} {H : Hp} {E : XK}
theorem ps_raise {x : Str} {C : Addr} {e₀ : Expr} {es : List Expr} {ta : TA} {np cpos pos : Pos} (hg : Gl (cxOf (CXr P w) P w K mg base N qual scope f cd A outer s H E) x) (hm : mg x = some (.ref C)) (q : excIn K C bmV "ValueError.__new__" = true)
    (ha : PA (cxOf (CXr P w) P w K mg base N qual scope f cd A outer s H E) (e₀ :: es) ta) (hdb : (x == ("__debug__" : Str)) = false := by decide)
    (he : starEach (e₀ :: es) (envOfC qual scope s.heap.objs.size f cd) = (false, eval e₀ (envOfC qual scope s.heap.objs.size f cd)) :: starEach es (envOfC qual scope s.heap.objs.size f cd) := by rfl)
    (hpl : (backTo cpos (starEach (e₀ :: es) (envOfC qual scope s.heap.objs.size f cd))).any (·.1) = false := by rfl) :
    PS (cxOf (CXr P w) P w K mg base N qual scope f cd A outer s H E) (.Raise (some (.Call (.Name x np) (e₀ :: es) [] cpos)) none pos) (tRaise C E ta) := by
  intro pins s₁ σ H1 D I h
  obtain ⟨bm, N1, nm, qn, bs, hd, sn, sub, ab, col, dd, k0, k1, k2, k3, k5, mN, gC, nN, ni, T⟩ := exc_obj I.mod.kin q
  refine wpAny_Raise_call_subT (C := C) (nm := nm) (q := qn) (N := N1) (bs := bs) (bm := bm) (hdct := hd) (sn := sn) (sub := sub) (ab := ab) (col := col) (dd := dd) (k0 := k0) (k1 := k1) (k2 := k2) (k3 := k3) (k5 := k5) F.excBase_ValueError (mN := mN)
    (T.hasType F.excBase_ValueError.hasBase) (I.ok.hd rfl) hpl ni (ld_glob I hg hm ⟨rfl, ?_⟩ hdb)
  have hA := ha cpos pins s₁ σ H1 _ I h
  have he' : starEach (e₀ :: es) (cxOf (CXr P w) P w K mg base N qual scope f cd A outer s H E).env = (false, eval e₀ (cxOf (CXr P w) P w K mg base N qual scope f cd A outer s H E).env) :: starEach es (cxOf (CXr P w) P w K mg base N qual scope f cd A outer s H E).env := he
  rw [he'] at hA ⊢
  refine Calls.evalArgs_plain (thn hA fun us s₂ z => ?_)
  obtain ⟨vs, H2, I2, r, z, q2⟩ := z
  exact ⟨rfl, by rw [← r.length]; exact z, I2.bk _ _ gC, nN.keeps I2.bk, T.keeps I2.bk, fun h' e hx => raise_leaves I2 hx q2⟩
end

/-! ### a def that may raise -/
structure DefX (P : Program) (w : World) (K : Frag) (mg : Str → Option Value) (base : Heap) (n : Nat) (x : Str) (ps : List Str) (sp : Sp) : Prop where
  ex : ∃ (f : Addr) (fd : FuncData), FnOk P w K mg base (CXr P w) n f fd ps sp ∧ Binds K fd ps [] ∧ keepIn K (.ref f) = true ∧ mg x = some (.ref f)
theorem defx_of {P : Program} {w : World} {K : Frag} {mg : Str → Option Value} {base : Heap} {x : Str} {st : Stmt} {N ps : List Str} {k : Nat} {sp : Sp} (T : TopDef K mg x st) (S : FnScope N ps (defScope st))
    (bd : ∀ (kV doc pm : Value) (an : Option Addr) (cdv ct : Value) (us : List Value), us.length = ps.length → bindArgs (fnOf x x (defArgs st) (defBody st) (defScope st) .none kV doc pm an cdv ct) ⟨us, []⟩ = pure (ps.zip us))
    (len : ∀ vs H Q E, sp vs H Q E → vs.length = ps.length)
    (body : ∀ (f : Addr) (cdv : Value) (A : Around) (outer : List Env) (s : Shared) (H : Hp) (vs : List V) (Q : VK) (E : XK), Room k (A.deeper (envOfC x (defScope st) s.heap.objs.size f cdv)) → sp vs H Q E →
      ∃ t, PSs (cxOf (CXr P w) P w K mg base N x (defScope st) f cdv A outer s H E) (defBody st) t ∧ t { nx := fun _ H' => Q .non H', rt := Q } (start N vs) H) :
    DefX P w K mg base (k + 1) x ps sp := by
  obtain ⟨f, fd, F, m⟩ := T.ex
  obtain ⟨oc, od, kV, doc, pm, an, cdv, ct, osl, rfl, lk, hcd⟩ := id F.ex
  exact ⟨f, _, fn_of lk hcd S len fun A outer s H vs Q E hr h => body f cdv A outer s H vs Q E hr h, F.binds bd, F.kp, m⟩

/-! ### except X -/
structure CatchCls (K : Frag) (D : Addr) : Prop where
  cl : ∃ cd, clsIn K D = some cd
  ty : typeIn K (.ref D) = some (.type "type")
  hb : mroIn K D (.type "BaseException") = some true
theorem exc_matches {M : Model} {A : Around} {E : Value → Shared → Prop} {s : Shared} {K : Frag} {e C D : Addr} {Q : Bool → Shared → Prop} (X : K.In s.heap) (I : OfCls e C s.heap) (c : CatchCls K D) {b : Bool} (hm : mroIn K C (.ref D) = some b) (hq : Q b s) :
    wpAny M A (excMatches (.ref e) (.ref D)) Q E s := by
  obtain ⟨hh, g, d, t, os⟩ := s
  have l0 := I.type (M := M)
  obtain ⟨ob, ho, hc⟩ := Option.map_eq_some_iff.mp c.ty
  have l1 : Looks M hh (typeOf (.ref D)) (.type "type") := hc ▸ (Looks.ld (X _ _ ho)).andThen .now
  have l2 : Looks M hh (isType (.ref D)) true := by
    obtain ⟨cd, hcd⟩ := c.cl
    unfold clsIn at hcd
    split at hcd
    · rename_i c' d' cd' sl' lo
      intro A' Q' E' s' k q
      unfold isType loadHead
      exact wpAny_bind (wpAny_loadPart (k _ _ (X _ _ lo)) (wpAny_pure q))
    · cases hcd
  have l3 := looks_mroIn (M := M) X c.hb
  have l4 := looks_mroIn (M := M) X hm
  have l5 : Looks M hh (isInstance (.ref D) (.type "tuple")) false := l1.andThen (Looks.of_pure tc_notTuple)
  have l6 : Looks M hh (isExcClass (.ref D)) true := l2.andThen (by exact l3)
  unfold excMatches
  refine wpAny_bind (l5.at ?_)
  rw [if_neg (by decide)]
  refine wpAny_bind (wpAny_pure ?_)
  simp only [List.forIn_cons, List.forIn_nil]
  refine wpAny_bind (wpAny_bind (wpAny_bind (l6.at ?_)))
  rw [if_neg (by decide)]
  refine wpAny_pure (wpAny_pure (wpAny_bind (l0.at (wpAny_bind (wpAny_bind (wpAny_bind (l4.at ?_)))))))
  cases b with
  | true => exact wpAny_pure (wpAny_pure (wpAny_pure hq))
  | false => exact wpAny_pure (wpAny_pure (wpAny_pure hq))
end L2


set_option Elab.async false
set_option linter.all false
set_option maxRecDepth 100000
set_option maxHeartbeats 4000000
namespace L2
open PySem PySem.Spec PyProof.Rows PySem.W

/-- the context of an except suite -/
def Cx.mark (X : Cx) (ea : Addr) : Cx := { X with A := X.A.mark (some (.ref ea)), calm := false }
section
variable {X : Cx} {pins : List (Addr × Obj)} {σ : St} {H H' : Hp} {s s' : Shared}
theorem Inv.mark (I : Inv X pins σ H s) (ea : Addr) : Inv (X.mark ea) pins σ H s :=
  ⟨⟨I.ok.mod, I.ok.kind, I.ok.glob, I.ok.blt, I.ok.above, I.ok.inj, I.ok.has, I.ok.cab, (fun z => by cases z), I.ok.frames, I.ok.stk, I.ok.exf, I.ok.bs, I.ok.bsz, I.ok.noex, I.ok.exfs, I.ok.funs, I.ok.frf⟩,
    I.os, I.bare, I.base, I.loc, I.cell, I.free, I.freeC, I.pin, I.hok, I.len⟩
theorem Inv.unmark {ea : Addr} (I : Inv (X.mark ea) pins σ H s) (ok : X.Ok) : Inv X pins σ H s :=
  ⟨ok, I.os, I.bare, I.base, I.loc, I.cell, I.free, I.freeC, I.pin, I.hok, I.len⟩
/-- an untracked object of ours is tracked from now on -/
theorem Inv.track {a : Addr} {φ : Heap → Prop} (I : Inv X pins σ H s) (n : H a = none) (new : X.s₀.heap.get? a = none) (hL : a ≠ X.env.locals) (hc : ∀ x c, X.env.cells.lookup x = some c → c ≠ a) (hp : ∀ p ∈ X.pn ++ pins, p.1 ≠ a)
    (p : φ s.heap) (there : ∃ o, s.heap.get? a = some o) (st : ∀ h1 h2 : Heap, φ h1 → (∀ o, h1.get? a = some o → h2.get? a = some o) → φ h2) : Inv X pins σ (upd H a (.ext φ)) s :=
  ⟨I.ok, I.os, I.bare, ⟨I.base.keep, I.base.slot, fun b o e z hx => by rw [upd_ne (fun q => by rw [q, new] at e; cases e)]; exact I.base.free b o e z hx, I.base.there,
      fun b xs e => by have q := I.base.tups b xs e; rw [upd_ne (ne_of_none q n)]; exact q, fun b o u e => by have q := I.base.frzs b o u e; rw [upd_ne (ne_of_none q n)]; exact q,
      fun b ps e => by obtain ⟨m, q⟩ := I.base.tbls b ps e; exact ⟨m, by rw [upd_ne (ne_of_none q n)]; exact q⟩⟩,
    I.loc, I.cell, by rw [upd_ne (Ne.symm hL)]; exact I.free, fun x c e => by rw [upd_ne (hc x c e)]; exact I.freeC x c e,
    fun q hq => by obtain ⟨a1, a2, a3⟩ := I.pin q hq; exact ⟨a1, by rw [upd_ne (hp q hq)]; exact a2, a3⟩,
    fun b u e => by
      by_cases hb : b = a
      · subst hb
        rw [upd_same] at e
        cases e
        exact ⟨p, there, st⟩
      · rw [upd_ne hb] at e
        exact (I.hok b u e).stay (fun _ _ _ z => z) (fun c z => by rw [upd_ne (ne_of_none z n)]; exact z) fun c xs z => by rw [upd_ne (ne_of_none z n)]; exact z,
    I.len⟩
/-- a name of the frame's is gone -/
theorem Inv.unname {i : Nat} {x : Str} {v : Option Value} {m : Str → Option Value} {h' : Heap} {tk : Nat} (I : Inv X pins σ H s) (hN : X.N.Nodup) (hi : X.N[i]? = some x)
    (hm : s.heap.Ns X.env.locals m) (hn : h'.Ns X.env.locals fun y => if y = x then v else m y) (hs : Heap.SameBut X.env.locals s.heap h') : Inv X pins (σ.set i none) H { s with heap := h', toks := tk } := by
  have old : ∀ b o, X.s₀.heap.get? b = some o → b ≠ X.env.locals := fun b o e => Nat.ne_of_lt (Nat.lt_of_lt_of_le (Heap.lt_size e) I.ok.above)
  have cellK : ∀ y c, X.env.cells.lookup y = some c → ∀ u, s.heap.IsCell c u → h'.IsCell c u := fun y c e u z => z.sameBut hs (I.cne y c e)
  refine ⟨I.ok, I.os, I.bare, ⟨fun b o e n hb hx => (hs.2 b (old b o e)).trans (I.base.keep b o e n hb hx), fun b o e n hb hx => ?_, I.base.free, fun b o e hx => ?_, I.base.tups, I.base.frzs, I.base.tbls⟩, ⟨_, hn, fun j y u e1 e2 e3 => ?_⟩,
    fun y c e => ?_, I.free, I.freeC, fun p hp => ?_, fun b u e => ?_, by simpa using I.len⟩
  · obtain ⟨sl, z⟩ := I.base.slot b o e n hb hx
    exact ⟨sl, (hs.2 b (old b o e)).trans z⟩
  · obtain ⟨o', z⟩ := I.base.there b o e hx
    exact ⟨o', (hs.2 b (old b o e)).trans z⟩
  · by_cases hj : j = i
    · subst hj
      have e4 : (σ.set j none)[j]? = some (some u) := e2
      by_cases hl : j < σ.length
      · rw [List.getElem?_set_self hl] at e4
        cases e4
      · rw [List.getElem?_eq_none (by rw [List.length_set]; omega)] at e4
        cases e4
    · have e4 : (σ.set i none)[j]? = some (some u) := e2
      rw [List.getElem?_set_ne (Ne.symm hj)] at e4
      obtain ⟨m0, hm0, hl⟩ := I.loc
      have em : m0 = m := by
        obtain ⟨o1, es1, ep1, g1, d1, _, r1⟩ := hm0
        obtain ⟨o2, es2, ep2, g2, d2, _, r2⟩ := hm
        rw [g1] at g2
        cases g2
        rw [d1] at d2
        cases d2
        funext z
        exact (r1 z).symm.trans (r2 z)
      subst em
      obtain ⟨u', r', q⟩ := hl j y u e1 e4 e3
      refine ⟨u', r', ?_⟩
      rcases q with ⟨k, e⟩ | ⟨k, c, e, z⟩
      · refine .inl ⟨k, ?_⟩
        have ne : y ≠ x := fun e => hj (nodup_ix hN e1 (e ▸ hi))
        show (if y = x then v else m0 y) = some u'
        rw [if_neg ne]
        exact e
      · exact .inr ⟨k, c, e, cellK y c e _ z⟩
  · obtain ⟨u, z⟩ := I.cell y c e
    exact ⟨u, cellK y c e u z⟩
  · obtain ⟨a1, a2, a3, a4⟩ := I.pin p hp
    exact ⟨(hs.2 _ a3).trans a1, a2, a3, a4⟩
  · have nl : ∀ c z, H c = some z → c ≠ X.env.locals := fun c z q e => by rw [e, I.free] at q; cases q
    exact (I.hok b u e).stay (fun c z hc q => (hs.2 c (hc.elim (fun k => by rw [k]; exact nl b u e) fun k => nl c _ k)).trans q) (fun _ z => z) fun _ _ z => z
/-- the frame again, at a heap in which B stays -/
theorem Inv.caught {ea : Addr} {C : Value} (I : Inv X pins σ H s) {t : Addr} {B : Heap} {h6 : Heap} {tk : Nat} (ho : s'.os = s.os) (hg : AllBare s'.gens) (un : Un (frs X.stack) [] H H' s.heap s'.heap) (hok : HOk X.prog X.w H' s'.heap)
    (cov : ∀ b o, s'.heap.get? b = some o → b ∉ frs X.stack → ((∃ u, H' b = some u) ∨ ∃ o', s.heap.get? b = some o') → B.get? b = some o) (st : B.StaysIn h6) (up : s'.heap.UpToSlots h6) : Inv X pins σ H' { s' with heap := h6, toks := tk } := by
  have fr := I.stack
  have frf : ∀ b u, H' b = some u → b ∉ frs X.stack := fun b u e z => by
    obtain ⟨_, o, e2, _⟩ := fr.mem z
    have q := un.free b o e2 (I.stkFree b z) (by simp)
    rw [e] at q; cases q
  have slotK : ∀ b o, s.heap.get? b = some o → b ∈ frs X.stack → ∃ sl, h6.get? b = some { o with slots := sl } := fun b o e hb => by
    obtain ⟨_, o', e2, nf⟩ := fr.mem hb
    have e3 : some o' = some o := e2.symm.trans e
    cases e3
    obtain ⟨sl, e4⟩ := un.slot b _ e (I.stkFree b hb) hb (by simp)
    obtain ⟨sl', e5⟩ := up b _ e4 nf
    exact ⟨sl', e5⟩
  have u6 : Un (frs X.stack) [] H H' s.heap h6 := by
    refine ⟨fun b o e n hb hx => st b o (cov b o (un.keep b o e n hb hx) hb (.inr ⟨o, e⟩)), fun b o e n hb hx => slotK b o e hb, un.free, fun b o e hx => ?_, un.tups, un.frzs, un.tbls⟩
    by_cases hb : b ∈ frs X.stack
    · obtain ⟨sl, z⟩ := slotK b o e hb
      exact ⟨_, z⟩
    · obtain ⟨o', z⟩ := un.there b o e hx
      exact ⟨o', st b o' (cov b o' z hb (.inr ⟨o, e⟩))⟩
  have k6 : HOk X.prog X.w H' h6 := fun b u e => (hok b u e).stay (fun c z hc q => by
    have tr : ∃ v, H' c = some v := hc.elim (fun k => ⟨u, by rw [k]; exact e⟩) fun k => ⟨_, k⟩
    obtain ⟨v, hv⟩ := tr
    exact st c z (cov c z q (frf c v hv) (.inl ⟨v, hv⟩))) (fun _ z => z) fun _ _ z => z
  exact I.call' (s' := { s' with heap := h6, toks := tk }) (ch := []) ho u6 k6 hg fun b hb => nomatch hb
end
end L2


set_option Elab.async false
set_option linter.all false
set_option maxRecDepth 100000
set_option maxHeartbeats 4000000
namespace L2
open PySem PySem.Spec PyProof.Rows PySem.W

/-! ### try: f(..) except Y as n: suite -/

/-! ### isinstance(an exception that was caught, c) -/
end L2


set_option Elab.async false
set_option linter.all false
set_option maxRecDepth 100000
set_option maxHeartbeats 4000000
namespace L2
open PySem PySem.Spec PyProof.Rows PySem.W
section
variable {X : Cx}
/-! ### == of two tuples of ints -/

/-! ### a, b = a list -/

/-! ### a comprehension's free names -/
theorem clo_aux {env : Env} : ∀ (names : List (Str × NameKind)) (acc : List (Str × Addr)), (∀ y, (y, NameKind.free) ∈ names → ∃ c, env.cells.lookup y = some c) →
    ∃ cl : List (Str × Addr), (forIn names acc (fun x r => match x with
        | (name, kind) => if (kind == NameKind.free) = true then do let a ← cellOf env name; pure (ForInStep.yield ((name, a) :: r)) else pure (ForInStep.yield r)) : Sem _) = pure cl ∧
      (∀ y c, cl.lookup y = some c → acc.lookup y = some c ∨ env.cells.lookup y = some c) ∧ (∀ y, (y, NameKind.free) ∈ names → ∃ c, cl.lookup y = some c) ∧ ∀ y, (∃ c, acc.lookup y = some c) → ∃ c, cl.lookup y = some c
  | [], acc, _ => ⟨acc, rfl, fun _ _ h => .inl h, (fun _ h => nomatch h), fun _ h => h⟩
  | (nm, kd) :: r, acc, h => by
    by_cases hk : kd = .free
    · subst hk
      obtain ⟨c, hc⟩ := h nm List.mem_cons_self
      obtain ⟨cl, e, p1, p2, p3⟩ := clo_aux r ((nm, c) :: acc) fun y hy => h y (List.mem_cons_of_mem _ hy)
      refine ⟨cl, ?_, fun y d hd => ?_, fun y hy => ?_, fun y hy => ?_⟩
      · rw [List.forIn_cons]
        have z : cellOf env nm = pure c := by unfold cellOf; rw [hc]
        simp only [z, beq_self_eq_true, if_true]
        exact e
      · rcases p1 y d hd with q | q
        · rw [List.lookup_cons] at q
          cases hy : y == nm with
          | true =>
            rw [hy] at q
            have e1 := beq_iff_eq.mp hy
            subst e1
            cases q
            exact .inr hc
          | false => rw [hy] at q; exact .inl q
        · exact .inr q
      · rcases List.mem_cons.mp hy with q | q
        · cases q
          exact p3 nm ⟨c, by rw [List.lookup_cons, beq_self_eq_true]⟩
        · exact p2 y q
      · obtain ⟨d, hd⟩ := hy
        refine p3 y ?_
        rw [List.lookup_cons]
        cases y == nm with
        | true => exact ⟨c, rfl⟩
        | false => exact ⟨d, hd⟩
    · obtain ⟨cl, e, p1, p2, p3⟩ := clo_aux r acc fun y hy => h y (List.mem_cons_of_mem _ hy)
      refine ⟨cl, ?_, p1, fun y hy => ?_, p3⟩
      · rw [List.forIn_cons]
        have z : (kd == NameKind.free) = false := by simpa using hk
        simp only [z, Bool.false_eq_true, if_false]
        exact e
      · rcases List.mem_cons.mp hy with q | q
        · cases q; exact absurd rfl hk
        · exact p2 y q
theorem clo_of {scope : Scope} {env : Env} (h : ∀ y, (y, NameKind.free) ∈ scope.names → ∃ c, env.cells.lookup y = some c) :
    ∃ cl, closureFor scope env = pure cl ∧ (∀ y c, cl.lookup y = some c → env.cells.lookup y = some c) ∧ ∀ y, (y, NameKind.free) ∈ scope.names → ∃ c, cl.lookup y = some c := by
  obtain ⟨cl, e, p1, p2, _⟩ := clo_aux (env := env) scope.names [] h
  refine ⟨cl, ?_, fun y c hc => (p1 y c hc).elim (fun z => by cases z) fun z => z, p2⟩
  unfold closureFor
  show (forIn scope.names [] _ >>= fun s => pure s) = pure cl
  rw [bind_pure]
  exact e
/-- what the block's free names ask: each is one of those at js -/
theorem free_of {scope : Scope} {js : List Nat} {pins : List (Addr × Obj)} {σ : St} {H : Hp} {s : Shared} (I : Inv X pins σ H s) (hf : ∀ y, (y, NameKind.free) ∈ scope.names → X.env.kindOf y = some .cell ∨ X.env.kindOf y = some .free) :
    ∀ y, (y, NameKind.free) ∈ scope.names → ∃ c, X.env.cells.lookup y = some c := fun y hy => I.ok.has y (hf y hy)
variable {elt iter : Expr} {x : Str} {px pos : Pos} {ifs : List Expr} {scope : Scope} {wi : TI} {tc : TT} {te : TE} {js : List Nat}
theorem pe_compF (hc : X.calm = true) (hi : PI X (.Name x px) iter wi) (hk : scope.kind = .function) (hcell : ∀ y ∈ scope.names, y.2 ≠ .cell) (hnames : ∀ y ∈ scope.names, y.2 = .local → scope.names.lookup y.1 = some .local) (hx : (relabel scope X.env).names.lookup x = some .local)
    (hf : ∀ p ∈ scope.names, p.2 = .free → X.env.kindOf p.1 = some .cell ∨ X.env.kindOf p.1 = some .free) (hjs : FreeAt X scope js) (hnd : (cNames X x js).Nodup)
    (ht : ∀ cl s' H' fp, PIf (cxComp X scope cl (cNames X x js) s' H' fp) ifs tc) (he : ∀ cl s' H' fp, PE (cxComp X scope cl (cNames X x js) s' H' fp) elt te)
    (hs : ∀ x, foldedSetIterable iter X.env x = pure x := by intro _; rfl) : PE X (.ListComp elt [⟨.Name x px, iter, ifs, 0⟩] scope pos) (tComp wi tc te js) := by
  intro pins s σ H Q I h
  obtain ⟨cl, e, p1, p2⟩ := clo_of (free_of (js := js) I fun y hy => hf (y, .free) hy rfl)
  exact pe_comp hc hi hk hcell hnames hx e p1 p2 hjs hnd (ht cl) (he cl) hs pins s σ H Q I h
theorem ps_setF {y : Str} {i : Nat} {py spos : Pos} (hN : X.N.Nodup) (hy : X.N[i]? = some y) (hyl : Loc X.env.scope y) (hyf : X.fn y = true ∨ X.env.scope.names.lookup y = some .local)
    (hsw : swapsWith (.ListComp elt [⟨.Name x px, iter, ifs, 0⟩] scope pos) (some (.Name y py)) spos.line X.env = pure true)
    (hc : X.calm = true) (hi : PI X (.Name x px) iter wi) (hk : scope.kind = .function) (hcell : ∀ y ∈ scope.names, y.2 ≠ .cell) (hnames : ∀ y ∈ scope.names, y.2 = .local → scope.names.lookup y.1 = some .local) (hx : (relabel scope X.env).names.lookup x = some .local)
    (hf : ∀ p ∈ scope.names, p.2 = .free → X.env.kindOf p.1 = some .cell ∨ X.env.kindOf p.1 = some .free) (hjs : FreeAt X scope js) (hnd : (cNames X x js).Nodup)
    (ht : ∀ cl s' H' fp, PIf (cxComp X scope cl (cNames X x js) s' H' fp) ifs tc) (he : ∀ cl s' H' fp, PE (cxComp X scope cl (cNames X x js) s' H' fp) elt te)
    (hs : ∀ x, foldedSetIterable iter X.env x = pure x := by intro _; rfl) :
    PS X (.Assign [.Name y py] (.ListComp elt [⟨.Name x px, iter, ifs, 0⟩] scope pos) spos) (tAsgC i (tComp wi tc te js)) := by
  intro pins s σ H D I h
  obtain ⟨cl, e, p1, p2⟩ := clo_of (free_of (js := js) I fun y hy => hf (y, .free) hy rfl)
  exact ps_setC hN hy hyl hyf hsw hc hi hk hcell hnames hx e p1 p2 hjs hnd (ht cl) (he cl) hs pins s σ H D I h
end
end L2


set_option Elab.async false
set_option maxRecDepth 100000
set_option maxHeartbeats 4000000
/-! ### the law's call, with the bound of its ints' bits -/
namespace L2
open PySem PySem.Spec PyProof.Rows PySem.W
theorem weight_mem : ∀ {ns : List Int} {n : Int}, n ∈ ns → WData.weight (.int n) ≤ WData.weightAll (ns.map WData.int)
  | [], _, h => nomatch h
  | m :: r, n, h => by
    show _ ≤ WData.weight (.int m) + 1 + WData.weightAll (r.map WData.int)
    rcases List.mem_cons.mp h with e | e
    · subst e; omega
    · have := weight_mem (ns := r) e
      omega
theorem bits_weight (n : Int) : Builtin.Int.intBits n = WData.weight (.int n) := by
  show _ = if n == 0 then 0 else n.natAbs.log2 + 1
  unfold Builtin.Int.intBits
  by_cases h : n = 0
  · subst h; rfl
  · simp [h]
theorem script_bits {ns : List Int} (h : WData.layableAll [.list (ns.map .int)] = true) : ∀ n ∈ ns, Builtin.Int.intBits n ≤ 1048576 := fun n hn => by
  have h1 : WData.layable (.list (ns.map .int)) = true := by
    simpa [WData.layableAll] using h
  have h2 : WData.weight (.list (ns.map .int)) ≤ 2 ^ 20 := by
    unfold WData.layable at h1
    rw [Bool.and_eq_true, Bool.and_eq_true] at h1
    exact of_decide_eq_true h1.2
  have h3 : WData.weightAll (ns.map WData.int) ≤ 2 ^ 20 := h2
  have h4 := weight_mem hn
  rw [bits_weight]
  omega
theorem walk_bits {l : OpenLaw} {n k : Nat} {q : Program} {loose : List Str} {XP : (Str → Option Value) → Heap → Prop} {YP : World → Heap → Prop} {d : DefRec} {K : Params → Frag} {CX : CXT} {sp : Frag → Sp} {x : Str}
    (hn : l.most = some n) (hn2 : n ≤ sizeLine) (hdf : d.params.defaults = []) (hr : Room k callerA) (hY : ∀ (w : World) (h : Heap), YP w h → (K w.params).In h)
    (F : ∀ (w : World) (mg : Str → Option Value) (fa : Addr) (h : Heap), (K w.params).In h → h.Ns mainGlobals mg → mg d.name = some (.ref fa) →
      ∃ fd : FuncData, (∀ (s : Shared) (u : Value), BindsTo s fd ⟨[u], []⟩ [(x, u)]) ∧ ∀ base : Heap, (K w.params).In base → base.Ns mainGlobals mg → FnOk l.prog w (K w.params) mg base CX k fa fd [x] (sp (K w.params)))
    (hsp : ∀ (K : Frag) (H : Hp) (a : Addr) (ns : List Int), ns.length ≤ n → (∀ m ∈ ns, Builtin.Int.intBits m ≤ 1048576) → Only H → SqL K H a (ns.map V.int) → sp K [.ref a] H (fun v _ => v = .bl true) fun _ _ _ => False)
    (hCX : ∀ (H : Hp) (s : Shared) (e : Value) (s' : Shared), CX [] H s (fun _ _ _ => False) e s' → False) : WalkO q loose XP YP l.row.toRowW d [] (fun f vs => PySem.call f vs) := by
  intro w s₀ s₁ mg mb G Y fa o pm cd doc dV kV ho hd hcd hD hmg hg args vals as hpre hlay hrd hwl hlo
  obtain rfl : dV = .none := Dflts.none hD hdf
  obtain rfl : kV = .none := Dflts.noKw hD
  obtain ⟨a, vs, ns, rfl, rfl, hobj, hints, hlen⟩ := Att.script_of hn hpre hwl
  have KX := hY w _ Y
  obtain ⟨fd, hb, hF⟩ := F w mg fa _ KX G.T.g hmg
  have c := law_call KX G.T.g G.T.b G.T.builtins G.T.nolimit hg hobj hints (Nat.le_trans hlen hn2) hr hF hb (fun H hO hS => hsp (K w.params) H a ns hlen (script_bits hlay) hO hS) fun H e s' => hCX H s₁ e s'
  refine enter_call (codeAny_mono c fun r s' hq => ?_)
  obtain ⟨rfl, h2, h3, h4⟩ := hq
  exact ⟨.inl ⟨.bool true, .bool true, [], rfl, fun _ => rfl, .bool true, Att.post_true l _, fun _ => ⟨List.Pairwise.nil, fun _ hm => (nomatch hm)⟩⟩, h2, h3, h4⟩
end L2


namespace L2
open PySem PySem.Spec PyProof.Rows

/-! ### lists of pairs as tables -/
section
variable {κ : Type} [DecidableEq κ]
def valV (kvs : List (κ × V)) (k : κ) : Option V := (kvs.find? fun kv => decide (kv.1 = k)).map (·.2)
/-- in its place, or at the end -/
def putK (kvs : List (κ × V)) (k : κ) (v : V) : List (κ × V) :=
  if (kvs.any fun kv => decide (kv.1 = k)) = true then kvs.map (fun kv => if kv.1 = k then (kv.1, v) else kv) else kvs ++ [(k, v)]

theorem valV_pos {p : κ × V} {r : List (κ × V)} {k : κ} (e : p.1 = k) : valV (p :: r) k = some p.2 := by simp [valV, List.find?_cons, e]
theorem valV_neg {p : κ × V} {r : List (κ × V)} {k : κ} (e : ¬ p.1 = k) : valV (p :: r) k = valV r k := by simp [valV, List.find?_cons, e]
theorem valV_any (k : κ) : ∀ kvs : List (κ × V), (kvs.any fun kv => decide (kv.1 = k)) = (valV kvs k).isSome
  | [] => rfl
  | p :: r => by
    rw [List.any_cons]
    by_cases e : p.1 = k
    · simp only [valV_pos e, decide_eq_true e, Bool.true_or, Option.isSome_some]
    · rw [valV_neg e, decide_eq_false e, Bool.false_or]; exact valV_any k r
theorem valV_map (k j : κ) (y : V) : ∀ kvs : List (κ × V), valV (kvs.map fun kv => if kv.1 = k then (kv.1, y) else kv) j = (valV kvs j).map fun x => if j = k then y else x
  | [] => rfl
  | p :: r => by
    have ih := valV_map k j y r
    rw [List.map_cons]
    by_cases h : p.1 = k
    · rw [if_pos h]
      by_cases e : p.1 = j
      · rw [valV_pos (p := (p.1, y)) e, valV_pos e, Option.map_some, if_pos (e.symm.trans h)]
      · rw [valV_neg (p := (p.1, y)) e, valV_neg e, ih]
    · rw [if_neg h]
      by_cases e : p.1 = j
      · rw [valV_pos (p := p) e, valV_pos e, Option.map_some, if_neg (fun z => h (e.trans z))]
      · rw [valV_neg (p := p) e, valV_neg e, ih]
theorem valV_snoc (k j : κ) (y : V) : ∀ kvs : List (κ × V), valV kvs k = none → valV (kvs ++ [(k, y)]) j = if j = k then some y else valV kvs j
  | [], _ => by
    by_cases e : k = j
    · rw [if_pos e.symm]; exact valV_pos (p := (k, y)) e
    · rw [if_neg (fun z => e z.symm)]; exact valV_neg (p := (k, y)) e
  | p :: r, hn => by
    rw [List.cons_append]
    have hk : ¬ p.1 = k := fun z => by rw [valV_pos z] at hn; cases hn
    rw [valV_neg hk] at hn
    have ih := valV_snoc k j y r hn
    by_cases e : p.1 = j
    · rw [valV_pos e, valV_pos e, if_neg (fun z => hk (e.trans z))]
    · rw [valV_neg e, valV_neg e, ih]
theorem valV_put (kvs : List (κ × V)) (k j : κ) (y : V) : valV (putK kvs k y) j = if j = k then some y else valV kvs j := by
  unfold putK
  by_cases a : (kvs.any fun kv => decide (kv.1 = k)) = true
  · rw [if_pos a, valV_map]
    rw [valV_any] at a
    by_cases e : j = k
    · obtain ⟨x, hx⟩ := Option.isSome_iff_exists.mp a
      rw [if_pos e, e, hx, Option.map_some, if_pos rfl]
    · rw [if_neg e]
      cases valV kvs j with
      | none => rfl
      | some x => rw [Option.map_some, if_neg e]
  · rw [if_neg a]
    refine valV_snoc k j y kvs ?_
    rw [valV_any] at a
    cases q : valV kvs k with
    | none => rfl
    | some x => rw [q] at a; exact (a rfl).elim
theorem length_putK (kvs : List (κ × V)) (k : κ) (v : V) : (putK kvs k v).length ≤ kvs.length + 1 := by
  unfold putK
  split
  · rw [List.length_map]; omega
  · rw [List.length_append, List.length_cons, List.length_nil]; omega
theorem putK_new {kvs : List (κ × V)} {k : κ} (v : V) (h : valV kvs k = none) : putK kvs k v = kvs ++ [(k, v)] := by
  unfold putK
  rw [valV_any, h]
  exact if_neg (by decide)

theorem RelO.isSome_eq {o : Option V} {u : Option Value} (r : RelO o u) : o.isSome = u.isSome := by
  cases o with
  | none => cases u with
    | none => rfl
    | some _ => exact (show False from r).elim
  | some _ => cases u with
    | none => exact (show False from r).elim
    | some _ => rfl

/-- raw tables of the same keys -/
theorem KV.val {kvs : List (κ × V)} {vs : List (κ × Value)} (r : KV kvs vs) (k : κ) : RelO (valV kvs k) (valueAt vs k) := by
  unfold KV at r
  induction r with
  | nil => exact True.intro
  | @cons p q ps qs h t ih =>
    obtain ⟨h1, h2⟩ := h
    by_cases e : p.1 = k
    · have e' : q.1 = k := h1.symm.trans e
      have b : valueAt (q :: qs) k = some q.2 := by simp [valueAt, List.find?_cons, e']
      rw [valV_pos e, b]; exact h2
    · have e' : ¬ q.1 = k := fun z => e (h1.trans z)
      have b : valueAt (q :: qs) k = valueAt qs k := by simp [valueAt, List.find?_cons, e']
      rw [valV_neg e, b]; exact ih
theorem KV.any {kvs : List (κ × V)} {vs : List (κ × Value)} (r : KV kvs vs) (k : κ) : (kvs.any fun kv => decide (kv.1 = k)) = vs.any fun kv => decide (kv.1 = k) := by
  unfold KV at r
  induction r with
  | nil => rfl
  | cons h t ih => rw [List.any_cons, List.any_cons, ih, h.1]
theorem KV.repl {kvs : List (κ × V)} {vs : List (κ × Value)} (r : KV kvs vs) (k : κ) {y : V} {u : Value} (ry : RelV y u) :
    KV (kvs.map fun kv => if kv.1 = k then (kv.1, y) else kv) (vs.map fun kv => if kv.1 = k then (kv.1, u) else kv) := by
  unfold KV at r ⊢
  induction r with
  | nil => exact .nil
  | @cons p q ps qs h t ih =>
    rw [List.map_cons, List.map_cons]
    refine .cons ?_ ih
    obtain ⟨h1, h2⟩ := h
    by_cases e : p.1 = k
    · rw [if_pos e, if_pos (h1.symm.trans e)]; exact ⟨h1, ry⟩
    · rw [if_neg e, if_neg (fun z => e (h1.trans z))]; exact ⟨h1, h2⟩
theorem KV.put {kvs : List (κ × V)} {vs : List (κ × Value)} (r : KV kvs vs) (k : κ) {y : V} {u : Value} (ry : RelV y u) : KV (putK kvs k y) (stored vs k u) := by
  unfold putK stored
  rw [r.any k]
  by_cases e : (vs.any fun kv => decide (kv.1 = k)) = true
  · rw [if_pos e, if_pos e]; exact r.repl k ry
  · rw [if_neg e, if_neg e]; exact Paired.snoc r ⟨rfl, ry⟩
theorem KV.length {kvs : List (κ × V)} {vs : List (κ × Value)} (r : KV kvs vs) : kvs.length = vs.length := Paired.length r
end


/-! ### a tracked dict, its keys ints and texts or tuples of these -/
theorem kV_is {P : Program} {w : World} {k : Key} {u : Value} (r : RelV (kV k) u) : (mixKind P w).is k u = true := by
  cases k with
  | inl i => obtain ⟨t, e⟩ := (show ∃ t, u = Value.int i t from r); subst e; exact mixKind_int P w i t
  | inr x => obtain ⟨t, e⟩ := (show ∃ t, u = Value.str x t from r); subst e; exact mixKind_str P w x t
theorem items_are {P : Program} {w : World} : ∀ {ks : List Key} {us : List Value}, Vals (ks.map kV) us → ItemsAre (mixKind P w) ks us
  | [], _, r => by rw [List.map_nil] at r; cases r; exact .nil
  | k :: ks, _, r => by
    rw [List.map_cons] at r
    cases r with
    | cons h t => exact .cons (kV_is h) (items_are t)

/-- raw entries of a dict with tuple keys -/
abbrev KT (H : Hp) : List (List Key × V) → List (List Key × Addr × Value) → Prop := Paired fun p q => p.1 = q.1 ∧ H q.2.1 = some (.tup (p.1.map kV)) ∧ RelV p.2 q.2.2
theorem KT.val {H : Hp} {kvs : List (List Key × V)} {xs : List (List Key × Addr × Value)} (r : KT H kvs xs) (k : List Key) : RelO (valV kvs k) ((atKey xs k).map (·.2)) := by
  induction r with
  | nil => exact True.intro
  | @cons p q ps qs h t ih =>
    obtain ⟨h1, _, h2⟩ := h
    by_cases e : p.1 = k
    · have e' : q.1 = k := h1.symm.trans e
      have b : atKey (q :: qs) k = some q.2 := by simp [atKey, List.find?_cons, e']
      rw [valV_pos e, b]; exact h2
    · have e' : ¬ q.1 = k := fun z => e (h1.trans z)
      have b : atKey (q :: qs) k = atKey qs k := by simp [atKey, List.find?_cons, e']
      rw [valV_neg e, b]; exact ih
theorem KT.repl {H : Hp} {kvs : List (List Key × V)} {xs : List (List Key × Addr × Value)} (r : KT H kvs xs) (k : List Key) {y : V} {u : Value} (ry : RelV y u) :
    KT H (kvs.map fun kv => if kv.1 = k then (kv.1, y) else kv) (xs.map (putAt k u)) := by
  induction r with
  | nil => exact .nil
  | @cons p q ps qs h t ih =>
    rw [List.map_cons, List.map_cons]
    refine .cons ?_ ih
    obtain ⟨h1, h2, h3⟩ := h
    unfold putAt
    by_cases e : p.1 = k
    · rw [if_pos e, if_pos (h1.symm.trans e)]; exact ⟨h1, h2, ry⟩
    · rw [if_neg e, if_neg (fun z => e (h1.trans z))]; exact ⟨h1, h2, h3⟩
theorem KT.put {H : Hp} {kvs : List (List Key × V)} {xs : List (List Key × Addr × Value)} (r : KT H kvs xs) (k : List Key) {b : Addr} {y : V} {u : Value} (hb : H b = some (.tup (k.map kV))) (ry : RelV y u) :
    KT H (putK kvs k y) (storedH xs k b u) := by
  have e : (kvs.any fun kv => decide (kv.1 = k)) = (atKey xs k).isSome := by
    rw [valV_any, (r.val k).isSome_eq, Option.isSome_map]
  unfold putK storedH
  rw [e]
  by_cases q : (atKey xs k).isSome = true
  · rw [if_pos q, if_pos q]; exact r.repl k ry
  · rw [if_neg q, if_neg q]; exact Paired.snoc r ⟨rfl, hb, ry⟩
theorem KT.keeps {H H' : Hp} {kvs : List (List Key × V)} {xs : List (List Key × Addr × Value)} (r : KT H kvs xs) (ht : ∀ b ys, H b = some (.tup ys) → H' b = some (.tup ys)) : KT H' kvs xs :=
  Paired.mapP r fun _ _ z => ⟨z.1, ht _ _ z.2.1, z.2.2⟩

section
variable {P : Program} {w : World} {H : Hp} {h : Heap} {a : Addr}
theorem rd_of {u : HO} (ok : HOk P w H h) (e : Rd H a u) : ObjOk P w H h a u := e.ok ok
theorem dk_rd {kvs : List (Key × V)} (ok : HOk P w H h) (e : Rd H a (.dK kvs)) : kvs.length ≤ sizeLine ∧ (a == sysModules) = false ∧ ∃ vs, KV kvs vs ∧ h.DictOf (mixKind P w) a vs :=
  show ObjOk P w H h a (.dK kvs) from rd_of ok e
theorem dk_of {kvs : List (Key × V)} (ok : HOk P w H h) (e : H a = some (.dK kvs)) : kvs.length ≤ sizeLine ∧ (a == sysModules) = false ∧ ∃ vs, KV kvs vs ∧ h.DictOf (mixKind P w) a vs := dk_rd ok (.inl e)
/-- a tracked tuple of ints and texts is a key -/
theorem key_of {ks : List Key} (ok : HOk P w H h) (e : H a = some (.tup (ks.map kV))) : (tupleKind (mixKind P w)).is h ks a := by
  obtain ⟨_, its, r, o, h1, h2, n, h3⟩ := (show ObjOk P w H h a (.tup (ks.map kV)) from ok a _ e)
  exact ⟨o, its.toArray, n, h1, h2, h3, by simpa using items_are r⟩
theorem dt_rd {kvs : List (List Key × V)} (ok : HOk P w H h) (e : Rd H a (.dT kvs)) : kvs.length ≤ sizeLine ∧ (a == sysModules) = false ∧
    ∃ xs, KT H kvs xs ∧ h.DictOfH (tupleKind (mixKind P w)) a xs := by
  obtain ⟨z, y, xs, r, o, es, ep, h1, h2, h3, h4, h5⟩ := (show ObjOk P w H h a (.dT kvs) from rd_of ok e)
  refine ⟨z, y, xs, r, o, es, ep, h1, h2, h3, h4, fun x hx => ?_, h5⟩
  have all : ∀ {l : List (List Key × V)} {m : List (List Key × Addr × Value)}, KT H l m → ∀ x ∈ m, (tupleKind (mixKind P w)).is h x.1 x.2.1 := by
    intro l m q
    induction q with
    | nil => intro x hx; exact nomatch hx
    | @cons p q ps qs hq t ih =>
      intro x hx
      rcases List.mem_cons.mp hx with e | hx
      · subst e
        exact key_of ok (by rw [← hq.1]; exact hq.2.1)
      · exact ih x hx
  exact all r x hx
theorem dt_of {kvs : List (List Key × V)} (ok : HOk P w H h) (e : H a = some (.dT kvs)) : kvs.length ≤ sizeLine ∧ (a == sysModules) = false ∧
    ∃ xs, KT H kvs xs ∧ h.DictOfH (tupleKind (mixKind P w)) a xs := dt_rd ok (.inl e)
end

/-- what the dict at a holds at the key y -/
def DGet (H : Hp) (a : Addr) (y : V) (r : Option V) : Prop :=
  (∃ kvs k, Rd H a (.dK kvs) ∧ y = kV k ∧ r = valV kvs k) ∨ ∃ kvs k b, Rd H a (.dT kvs) ∧ y = .ref b ∧ H b = some (.tup (k.map kV)) ∧ r = valV kvs k
/-- the heap behind a[y] = v -/
def DPut (H : Hp) (a : Addr) (y v : V) (H' : Hp) : Prop :=
  (∃ kvs k, H a = some (.dK kvs) ∧ y = kV k ∧ kvs.length < sizeLine ∧ H' = upd H a (.dK (putK kvs k v))) ∨
  ∃ kvs k b, H a = some (.dT kvs) ∧ y = .ref b ∧ H b = some (.tup (k.map kV)) ∧ kvs.length < sizeLine ∧ H' = upd H a (.dT (putK kvs k v))
theorem DGet.t {H : Hp} {a b : Addr} {kvs : List (List Key × V)} {k : List Key} (e : H a = some (.dT kvs)) (eb : H b = some (.tup (k.map kV))) : DGet H a (.ref b) (valV kvs k) := .inr ⟨kvs, k, b, .inl e, rfl, eb, rfl⟩
theorem DPut.t {H : Hp} {a b : Addr} {kvs : List (List Key × V)} {k : List Key} {v : V} (e : H a = some (.dT kvs)) (eb : H b = some (.tup (k.map kV))) (hl : kvs.length < sizeLine) :
    DPut H a (.ref b) v (upd H a (.dT (putK kvs k v))) := .inr ⟨kvs, k, b, e, rfl, eb, hl, rfl⟩


section
variable {X : Cx} {pins : List (Addr × Obj)} {σ : St} {H : Hp} {s : Shared} {a : Addr} {y v : V} {u r : Value} {o : Option V} {A : Around} {E : Value → Shared → Prop}

theorem Inv.big (I : Inv X pins σ H s) : sysModules < s.heap.objs.size := by
  have h : mainGlobals < s.heap.objs.size := (I.mod.glob.keeps I.bk).lt
  exact Nat.lt_trans (by decide) h

/-- d[y], there -/
theorem d_getItem {Q : Value → Shared → Prop} (hu : A.units + 1 < cLine) (I : Inv X pins σ H s) (g : DGet H a y (some v)) (ry : RelV y u) (h : ∀ w' s', Inv X pins σ H s' → RelV v w' → Q w' s') :
    wpAny (model X.prog X.w) A (getItem (.ref a) u) Q E s := by
  rcases g with ⟨kvs, k, e, ey, l⟩ | ⟨kvs, k, b, e, ey, eb, l⟩
  · subst ey
    obtain ⟨z, hd, vs, rel, dd⟩ := dk_rd I.hok e
    obtain ⟨w', hw, rw'⟩ := RelO.some_of (v := v) (o := valueAt vs k) (by rw [l]; exact rel.val k)
    exact wpAny_getItem_of (kV_is ry) dd.mapOf hw (h w' _ (I.tok _) rw')
  · subst ey
    cases (show u = Value.ref b from ry)
    obtain ⟨z, hd, xs, rel, dd⟩ := dt_rd I.hok e
    obtain ⟨w', hw, rw'⟩ := RelO.some_of (v := v) (o := (atKey xs k).map (·.2)) (by rw [l]; exact rel.val k)
    obtain ⟨p, hp, hp2⟩ := Option.map_eq_some_iff.mp hw
    refine wpAny_getItem_heap (tupleKind_room_in1 hu) (key_of I.hok eb) dd hp ?_
    rw [hp2]
    exact h w' _ (I.tok _) rw'
theorem d_notIn {Q : Value → Shared → Prop} (hu : A.units + 1 < cLine) (I : Inv X pins σ H s) (g : DGet H a y o) (ry : RelV y u) (h : ∀ s', Inv X pins σ H s' → Q (.bool (!o.isSome)) s') :
    wpAny (model X.prog X.w) A (compareOp .NotIn u (.ref a)) Q E s := by
  rcases g with ⟨kvs, k, e, ey, l⟩ | ⟨kvs, k, b, e, ey, eb, l⟩
  · subst ey
    obtain ⟨z, hd, vs, rel, dd⟩ := dk_rd I.hok e
    refine wpAny_notIn_of (kV_is ry) hd dd.mapOf ?_
    rw [← (rel.val k).isSome_eq, ← l]
    exact h _ (I.tok _)
  · subst ey
    cases (show u = Value.ref b from ry)
    obtain ⟨z, hd, xs, rel, dd⟩ := dt_rd I.hok e
    refine wpAny_notIn_heap (tupleKind_room_in1 hu) (key_of I.hok eb) hd dd ?_
    have q := (rel.val k).isSome_eq
    rw [Option.isSome_map] at q
    rw [← q, ← l]
    exact h _ (I.tok _)
/-- a dict's object is replaced -/
theorem d_write {h' : Heap} {t' : Nat} {ob : HO} (I : Inv X pins σ H s) (mu : Mut (H a)) (hs : Heap.SameBut a s.heap h') (he : ∃ q, h'.get? a = some q) (new : ObjOk X.prog X.w (upd H a ob) h' a ob) :
    Inv X pins σ (upd H a ob) { s with heap := h', toks := t' } :=
  I.write (x := a) (e := a) mu (.inl rfl) (fun b q hb z => (hs.2 b hb).trans z) he new
theorem dk_new {P : Program} {w : World} {H' : Hp} {h' : Heap} {kvs : List (Key × V)} {vs : List (Key × Value)} (z : kvs.length ≤ sizeLine) (hd : (a == sysModules) = false) (rel : KV kvs vs) (dd : h'.DictOf (mixKind P w) a vs) :
    ObjOk P w H' h' a (.dK kvs) := ⟨z, hd, vs, rel, dd⟩
/-- d[y] = v -/
theorem d_setItem {H' : Hp} {Q : Unit → Shared → Prop} (hu : A.units + 1 < cLine) (I : Inv X pins σ H s) (g : DPut H a y v H') (ry : RelV y u) (rv : RelV v r) (h : ∀ s', Inv X pins σ H' s' → Q () s') :
    wpAny (model X.prog X.w) A (setItem (.ref a) u r) Q E s := by
  rcases g with ⟨kvs, k, e, ey, l, eH⟩ | ⟨kvs, k, b, e, ey, eb, l, eH⟩
  · subst ey eH
    obtain ⟨z, hd, vs, rel, dd⟩ := dk_of I.hok e
    have hz : vs.length ≤ sizeLine := by rw [← rel.length]; exact z
    have hl : (putK kvs k v).length ≤ sizeLine := by have := length_putK kvs k v; omega
    refine wpAny_setItem_pairs (hsz := hz) (kV_is ry) dd fun h' dd' hs => h _ ?_
    have he : ∃ q, h'.get? a = some q := let ⟨q, _, _, hq, _⟩ := dd'; ⟨q, hq⟩
    exact d_write I (by rw [e]; exact True.intro) hs he (dk_new hl hd (rel.put k rv) dd')
  · subst ey eH
    cases (show u = Value.ref b from ry)
    obtain ⟨z, hd, xs, rel, dd⟩ := dt_of I.hok e
    have hz : xs.length ≤ sizeLine := by rw [← Paired.length rel]; exact z
    have hl : (putK kvs k v).length ≤ sizeLine := by have := length_putK kvs k v; omega
    refine wpAny_setItem_heap (hsz := hz) (tupleKind_room_in1 hu) (key_of I.hok eb) dd fun h' dd' hs => h _ ?_
    obtain ⟨q, es, ep, hq, h2, h3, h4, _, h5⟩ := dd'
    refine d_write I (by rw [e]; exact True.intro) hs ⟨q, hq⟩ ⟨hl, hd, _, (rel.put k eb rv).keeps fun c ys ec => ?_, q, es, ep, hq, h2, h3, h4, h5⟩
    rw [upd_ne (ne_of ec e (fun z => nomatch z))]
    exact ec
end

section
variable {X : Cx} {pins : List (Addr × Obj)} {σ : St} {H : Hp} {s : Shared} {a : Addr} {kvs : List (Key × V)} {k : Key} {u : Value} {A : Around} {E : Value → Shared → Prop}
end


/-! ### readings and rules -/
/-- the element of a subscription, not a slice -/
def NoSl (i : Expr) : Prop := ∀ ov iv, subscripted i false ov iv = operate [ov, iv] (getItem ov iv)
theorem subD_of {prog : Program} {w : World} {A : Around} {E : Value → Shared → Prop} {s : Shared} {env : Env} {value slice : Expr} {pos : Pos} {T id : String} {Q : Value → Shared → Prop}
    (hl : typeLookup (.type T) "__getitem__" = pure (some (.builtin id))) (hs : NoSl slice)
    (h : wpAny (model prog w) A (eval value env) (fun o s₁ => wpAny (model prog w) A (eval slice env) (fun i s₂ => s₂.TypeIs o T ∧ wpAny (model prog w) A (getItem o i) Q E s₂) E s₁) E s) :
    wpAny (model prog w) A (eval (.Subscript value slice pos) env) Q E s := by
  refine Subscript_ (wpAny_mono h (fun o s₁ h₁ => wpAny_mono h₁ (fun i s₂ h₂ => ?_) fun _ _ x => x) fun _ _ x => x)
  obtain ⟨hT, h₂⟩ := h₂
  unfold subscriptTail
  refine wpAny_bind ?_
  rw [getitemInPython_of_ne hT.not_modules]
  refine wpAny_bind (wpAny_specialOf hT hl ?_)
  have fin : wpAny (model prog w) A (subscripted slice false o i) (fun r s₃ => wpAny (model prog w) A (letTemporaryGo value o r >>= fun _ => pure r) Q E s₃) E s₂ := by
    rw [hs o i]
    exact wpAny_operating (wpAny_mono h₂ (fun r s₃ h₃ => wpAny_bind (wpAny_letTemporaryGo (wpAny_pure h₃))) fun _ _ x => x)
  first
    | exact wpAny_pure (wpAny_bind fin)
    | exact wpAny_bind (wpAny_pure (wpAny_bind fin))
    | exact wpAny_bind fin

theorem dict_typeIs {X : Cx} {pins : List (Addr × Obj)} {σ : St} {H : Hp} {s : Shared} {a : Addr} {y : V} {o : Option V} (I : Inv X pins σ H s) (g : DGet H a y o) : s.TypeIs (.ref a) "dict" := by
  rcases g with ⟨kvs, k, e, _, _⟩ | ⟨kvs, k, b, e, _, _, _⟩
  · obtain ⟨_, _, vs, _, dd⟩ := dk_rd I.hok e
    exact dd.typeIs
  · obtain ⟨_, _, xs, _, dd⟩ := dt_rd I.hok e
    exact dd.typeIs

/-- d[y] -/
def tDGet (td ty : TE) : TE := fun σ H Q => td σ H fun x H1 => ty σ H1 fun y H2 => ∃ a v, x = .ref a ∧ DGet H2 a y (some v) ∧ Q v H2
def tDNotIn (ty td : TE) : TE := fun σ H Q => ty σ H fun y H1 => td σ H1 fun x H2 => ∃ a o, x = .ref a ∧ DGet H2 a y o ∧ Q (.bl (!o.isSome)) H2
/-- d[y] = v -/
def sDPut (td ty tv : TE) : TS := fun D σ H => tv σ H fun v H1 => td σ H1 fun x H2 => ty σ H2 fun y H3 => ∃ a H4, x = .ref a ∧ DPut H3 a y v H4 ∧ D.nx σ H4

section
variable {X : Cx} {o i e value : Expr} {pos pos' tpos : Pos} {td ty tv : TE}
theorem pe_dget (hu : X.A.units + 1 < cLine) (ho : PE X o td) (hi : PE X i ty) (hs : NoSl i) : PE X (.Subscript o i pos) (tDGet td ty) := by
  intro pins s σ H Q I h
  refine subD_of PySem.F.slot_dict_getitem.lookup hs (thn (ho pins s σ H _ I h) fun u s1 ⟨x, H1, I1, rx, q1⟩ => thn (hi pins s1 σ H1 _ I1 q1) fun iv s2 ⟨y, H2, I2, ry, a, v, ex, g, q2⟩ => ?_)
  subst ex
  obtain rfl : u = Value.ref a := rx
  exact ⟨dict_typeIs I2 g, d_getItem hu I2 g ry fun w' s3 I3 rw' => ⟨v, H2, I3, rw', q2⟩⟩
theorem pc_dnotin (hu : X.A.units + 1 < cLine) (hi : PE X i ty) (ho : PE X o td) : PC X .NotIn i o (tDNotIn ty td) := by
  intro pins s σ H Q I h
  refine thn (hi pins s σ H _ I h) fun iv s1 ⟨y, H1, I1, ry, q1⟩ => thn (ho pins s1 σ H1 _ I1 q1) fun u s2 ⟨x, H2, I2, rx, a, ov, ex, g, q2⟩ => ?_
  subst ex
  obtain rfl : u = Value.ref a := rx
  exact d_notIn hu I2 g ry fun s3 I3 => ⟨.bl (!ov.isSome), H2, I3, rfl, q2⟩
theorem ps_dput (hu : X.A.units + 1 < cLine) (ho : PE X o td) (hi : PE X i ty) (hv : PE X value tv) (hs : swapsWith value (some (.Subscript o i pos')) pos.line X.env = pure false) :
    PS X (.Assign [.Subscript o i pos'] value pos) (sDPut td ty tv) := by
  intro pins s σ H D I h
  refine wpAny_Assign_Subscript (thn (hv pins s σ H _ I h) fun r s1 ⟨v, H1, I1, rv, q1⟩ => thn (ho pins s1 σ H1 _ I1 q1) fun u s2 ⟨x, H2, I2, rx, q2⟩ => thn (hi pins s2 σ H2 _ I2 q2) fun iv s3 ⟨y, H3, I3, ry, a, H4, ex, g, q3⟩ => ?_) hs
  subst ex
  obtain rfl : u = Value.ref a := rx
  exact d_setItem hu I3 g ry rv fun s4 I4 => ⟨σ, H4, I4, q3⟩
end


/-! ### displays -/
theorem dk_empty {P : Program} {w : World} {H : Hp} (h : Heap) (hb : sysModules < h.objs.size) : ObjOk P w H (h.push { cls := .type "dict", data := .dict #[] }) h.objs.size (.dK []) :=
  ⟨Nat.zero_le _, beq_eq_false_iff_ne.mpr (Ne.symm (Nat.ne_of_lt hb)), [], .nil, Heap.DictOf.new h⟩
theorem dt_empty {P : Program} {w : World} {H : Hp} (h : Heap) (hb : sysModules < h.objs.size) : ObjOk P w H (h.push { cls := .type "dict", data := .dict #[] }) h.objs.size (.dT []) :=
  ⟨Nat.zero_le _, beq_eq_false_iff_ne.mpr (Ne.symm (Nat.ne_of_lt hb)), [], .nil, _, #[], 0, Heap.get?_push_size _ rfl, ⟨rfl, rfl, rfl⟩, rfl, rfl, List.nodup_nil⟩
def tDNewT : TE := fun _ H Q => ∀ p, H p = none → Q (.ref p) (upd H p (.dT []))
section
variable {X : Cx} {pos : Pos}
theorem pe_dnewT : PE X (.Dict [] [] pos) tDNewT := fun pins s σ H Q I h =>
  wpAny_Dict_empty ⟨.ref s.heap.objs.size, _, I.laid (a := s.heap.objs.size) (o := .dT []) (t' := s.toks) (fun _ _ q => Heap.get?_push_of_some _ q) (Nat.le_refl _) (dt_empty s.heap I.big), rfl, h _ (I.hok.fresh (Nat.le_refl _))⟩
end

/-- the pairs of a display, from the left -/
def tPairs : List (TE × TE) → St → Hp → (List (V × V) → Hp → Prop) → Prop
  | [], _, H, Q => Q [] H
  | (tk, tv) :: r, σ, H, Q => tk σ H fun x H1 => tv σ H1 fun y H2 => tPairs r σ H2 fun ps H3 => Q ((x, y) :: ps) H3
abbrev VV : List (V × V) → List (Value × Value) → Prop := Paired fun p q => RelV p.1 q.1 ∧ RelV p.2 q.2
def PPs (X : Cx) (pos : Pos) (keys : List (Option Expr)) (values : List Expr) (trs : List (TE × TE)) : Prop :=
  ∀ (pins : List (Addr × Obj)) (s : Shared) (σ : St) (H : Hp) (Q : List (V × V) → Hp → Prop), Inv X pins σ H s → tPairs trs σ H Q →
    wpAny (model X.prog X.w) X.A (evalPairs (pairTrees keys values X.env pos)) (fun vs s' => ∃ ps H', Inv X pins σ H' s' ∧ VV ps vs ∧ Q ps H') X.xe s
theorem pps_nil {X : Cx} {pos : Pos} : PPs X pos [] [] [] := fun pins s σ H Q I h => pairTrees_nil_walk ⟨[], H, I, .nil, h⟩
theorem pps_cons {X : Cx} {pos : Pos} {k v : Expr} {ks : List (Option Expr)} {vs : List Expr} {tk tv : TE} {trs : List (TE × TE)} (hk : PE X k tk) (hv : PE X v tv) (hr : PPs X pos ks vs trs) :
    PPs X pos (some k :: ks) (v :: vs) ((tk, tv) :: trs) := fun pins s σ H Q I h =>
  pairTrees_cons_walk (thn (hk pins s σ H _ I h) fun u s1 ⟨x, H1, I1, rx, q1⟩ => thn (hv pins s1 σ H1 _ I1 q1) fun w2 s2 ⟨y, H2, I2, ry, q2⟩ =>
    thn (hr pins s2 σ H2 _ I2 q2) fun ws s3 ⟨ps, H3, I3, rel, q3⟩ => ⟨(x, y) :: ps, H3, I3, .cons ⟨rx, ry⟩ rel, q3⟩)

def mergeK (kvs more : List (Key × V)) : List (Key × V) := more.foldl (fun acc kv => putK acc kv.1 kv.2) kvs
theorem KV.merge : ∀ {more : List (Key × V)} {rs : List (Key × Value)} {kvs : List (Key × V)} {vs : List (Key × Value)}, KV more rs → KV kvs vs → KV (mergeK kvs more) (merged vs rs) := by
  intro more rs kvs vs r
  unfold KV at r
  induction r generalizing kvs vs with
  | nil => intro q; exact q
  | @cons p q ps qs h t ih =>
    intro r0
    have e : KV (putK kvs p.1 p.2) (stored vs q.1 q.2) := by
      have := r0.put p.1 h.2
      rw [← h.1]; exact this
    exact ih e
theorem length_mergeK : ∀ (more kvs : List (Key × V)), (mergeK kvs more).length ≤ kvs.length + more.length
  | [], kvs => by show kvs.length ≤ kvs.length + 0; omega
  | p :: r, kvs => by
    have h1 := length_mergeK r (putK kvs p.1 p.2)
    have h2 := length_putK kvs p.1 p.2
    show (mergeK (putK kvs p.1 p.2) r).length ≤ _
    rw [List.length_cons]; omega
theorem carries_of {P : Program} {w : World} : ∀ {kvs : List (Key × V)} {ws : List (Value × Value)}, VV (kvs.map fun kv => (kV kv.1, kv.2)) ws → ∃ rs, Carries (mixKind P w) ws rs ∧ KV kvs rs
  | [], _, r => by rw [List.map_nil] at r; cases r; exact ⟨[], True.intro, .nil⟩
  | p :: kvs, _, r => by
    rw [List.map_cons] at r
    cases r with
    | @cons a b as bs h t =>
      obtain ⟨rs, c, q⟩ := carries_of (P := P) (w := w) t
      obtain ⟨b1, b2⟩ := b
      exact ⟨(p.1, b2) :: rs, ⟨kV_is h.1, rfl, c⟩, .cons ⟨rfl, h.2⟩ q⟩
/-- {k: v, ..} with keys ints and texts; the new dict stands empty while the pairs are made -/
def tDisp (trs : List (TE × TE)) : TE := fun σ H Q => ∀ p, H p = none → tPairs trs σ (upd H p (.dK [])) fun ps H2 => H2 p = some (.dK []) ∧ ∃ kvs : List (Key × V), ps = kvs.map (fun kv => (kV kv.1, kv.2)) ∧ kvs.length ≤ 15 ∧ Q (.ref p) (upd H2 p (.dK (mergeK [] kvs)))
theorem pe_disp {X : Cx} {pos : Pos} {keys : List (Option Expr)} {values : List Expr} {trs : List (TE × TE)} (h : PPs X pos keys values trs) (hall : keys.all (·.isSome) = true) (hl : keys.length = values.length) (h0 : keys ≠ [])
    (h15 : keys.length ≤ 15) : PE X (.Dict keys values pos) (tDisp trs) := by
  intro pins s σ H Q I q
  have hn := I.hok.fresh (Nat.le_refl s.heap.objs.size)
  have I1 := I.laid (a := s.heap.objs.size) (o := .dK []) (h' := s.heap.push { cls := .type "dict", data := .dict #[] }) (t' := s.toks) (fun _ _ q => Heap.get?_push_of_some _ q) (Nat.le_refl _) (dk_empty s.heap I.big)
  refine wpAny_Dict_walk (knd := mixKind X.prog X.w) hall hl h0 h15 (thn (h pins _ σ _ _ I1 (q _ hn)) fun ws s2 ⟨ps, H2, I2, rel, e, kvs, ep, lk, q2⟩ => ?_)
  subst ep
  obtain ⟨rs, c, rk⟩ := carries_of (P := X.prog) (w := X.w) rel
  obtain ⟨z, hd, vs0, r0, dd⟩ := dk_of I2.hok e
  cases r0
  refine ⟨rs, c, dd, fun h' dd' hs => ⟨.ref s.heap.objs.size, _, ?_, rfl, q2⟩⟩
  have hz : (mergeK [] kvs).length ≤ sizeLine := by
    have h1 := length_mergeK kvs []
    rw [List.length_nil] at h1
    rw [sizeLine_eq]; omega
  have he : ∃ q, h'.get? s.heap.objs.size = some q := let ⟨q, _, _, hq, _⟩ := dd'; ⟨q, hq⟩
  exact d_write I2 (by rw [e]; exact True.intro) hs he (dk_new hz hd (rk.merge .nil) dd')


/-! ### methods -/
/-- a method call o.m(e) of a built-in, with one argument: what must be seen of the text -/
structure M1 (X : Cx) (o : Expr) (m : Str) (apos : Pos) (e : Expr) (cpos : Pos) : Prop where
  base : attributeBase o m X.env (eval o X.env) = eval o X.env
  few : ((backTo cpos (starEach [e] X.env)).all (fun x => !x.1) && (backToKw cpos (keywordEach [] X.env)).all (fun x => x.1.isSome)
    && decide (([e] : List Expr).length + ([] : List Keyword).length + (if ([] : List Keyword).isEmpty then 0 else 1) < 30)) = true
  line : (apos.endLine == cpos.line) = true
  trees : backTo cpos (starEach [e] X.env) = [(false, eval e X.env)]


section
variable {X : Cx} {pins : List (Addr × Obj)} {σ : St} {H : Hp} {s : Shared} {a : Addr} {y d : V} {u r : Value} {o : Option V} {A : Around} {E : Value → Shared → Prop}
end

section
variable {X : Cx} {o e f : Expr} {apos cpos : Pos} {td ty tx : TE}
end

/-! ### dict(d): a copy -/
section
variable {X : Cx} {pins : List (Addr × Obj)} {σ : St} {H : Hp} {s : Shared} {a : Addr} {kvs : List (Key × V)} {A : Around} {E : Value → Shared → Prop}
end


section
variable {X : Cx} {pins : List (Addr × Obj)} {σ : St} {H : Hp} {s : Shared} {a : Addr} {y : V} {u : Value} {A : Around} {E : Value → Shared → Prop}
end
end L2


set_option Elab.async false
set_option linter.all false
set_option maxRecDepth 100000
set_option maxHeartbeats 4000000
namespace L2
open PySem PySem.Spec PyProof.Rows
/-! ### list(reversed(a list)) -/
section
variable {prog : Program} {w : World} {A : Around} {E : Value → Shared → Prop} {s : Shared} {R : Result → Shared → Prop} {l it S : Addr} {items : Array Value}
end
end L2


set_option Elab.async false
set_option linter.all false
set_option maxRecDepth 100000
set_option maxHeartbeats 4000000
namespace L2
open PySem PySem.Spec PyProof.Rows
/-! ### a method of whatever class the object is of -/
/-- the method m of the class C keeps sp -/
structure MethOk (P : Program) (w : World) (K : PySem.W.Frag) (mg : Str → Option Value) (base : Heap) (C : Addr) (m : Str) (k : Nat) (ps : List Str) (sp : Sp) : Prop where
  cl : Cls K C
  ex : ∃ (f : Addr) (fd : FuncData), Meth K C m f ∧ FnOk P w K mg base CX0 k f fd ps sp ∧ Binds K fd ps []
section
variable {X : Cx} {o e : Expr} {es : List Expr} {ta te : TE} {t : TA} {m x : Str} {k : Nat} {p pos apos p2 pos2 : Pos} {C : Addr}
def tMethD (X : Cx) (k : Nat) (m : Str) (ta : TE) (t : TA) : TE := fun σ H Q => ta σ H fun x H1 => ∃ (a C dx : Addr) (fs : List (Str × V)) (ps : List Str) (sp : Sp), x = .ref a ∧ H1 a = some (.ins C dx fs) ∧ fs.lookup m = none ∧
  MethOk X.prog X.w X.K X.mg X.base C m k ps sp ∧ t σ H1 fun vs H2 => sp (.ref a :: vs) H2 Q E0
/-- o.m() -/
theorem pe_methD0 {pl : Sem Bool} (he : PE X o ta) (hr : Room k X.A)
    (ht : eval (.Call (.Attribute o m apos) [] [] pos) X.env = (do
      let ov ← eval o X.env
      standAt apos.atName
      let (f, first) ← holding [ov] (getMethod ov m pl)
      callWith pos f first (backTo pos (starEach [] X.env)) (backToKw pos (keywordEach [] X.env))) := by rfl) :
    PE X (.Call (.Attribute o m apos) [] [] pos) (tMethD X k m ta tNil) := by
  intro pins s σ H Q I h
  refine PySem.W.methodCall_KW (pl := pl) (thn (he pins s σ H _ I h) fun u s1 ⟨y, H1, I1, ry, a, C, dx, fs, ps, sp, ey, ea, lo, M, q⟩ => ?_) ht
  subst ey
  have eu : u = Value.ref a := ry
  subst eu
  obtain ⟨f, fd, hm, G, hb⟩ := M.ex
  refine getmeth_ok I1 ea M.cl hm lo ?_
  exact PySem.W.callWith_K0 (first := [.ref a]) I1.kIn hm.kp (run_fn (us := [.ref a]) (vs := [.ref a]) G hr hb .nil pass0 I1 (.cons rfl .nil) q)
/-- o.m(e, ..) -/
theorem pe_methD {pl : Sem Bool} (he : PE X o ta) (hr : Room k X.A) (ha : PA X (e :: es) t)
    (hst : starEach (e :: es) X.env = (false, eval e X.env) :: starEach es X.env := by rfl) (hpl : (backTo pos (starEach es X.env)).any (·.1) = false := by rfl)
    (ht : eval (.Call (.Attribute o m apos) (e :: es) [] pos) X.env = (do
      let ov ← eval o X.env
      standAt apos.atName
      let (f, first) ← holding [ov] (getMethod ov m pl)
      callWith pos f first (backTo pos (starEach (e :: es) X.env)) (backToKw pos (keywordEach [] X.env))) := by rfl) :
    PE X (.Call (.Attribute o m apos) (e :: es) [] pos) (tMethD X k m ta t) := by
  intro pins s σ H Q I h
  refine PySem.W.methodCall_KW (pl := pl) (thn (he pins s σ H _ I h) fun u s1 ⟨y, H1, I1, ry, a, C, dx, fs, ps, sp, ey, ea, lo, M, q⟩ => ?_) ht
  subst ey
  have eu : u = Value.ref a := ry
  subst eu
  obtain ⟨f, fd, hm, G, hb⟩ := M.ex
  refine getmeth_ok I1 ea M.cl hm lo ?_
  refine PySem.W.callWith_K (first := [.ref a]) (h₀ := X.base) I.ok.mod.kin hm.kp (thn (ha pos pins s1 σ H1 _ I1 q) fun us s2 ⟨vs, H2, I2, r2, q2⟩ => ⟨I2.kIn, ?_⟩) hst hpl
  refine run_fn (us := .ref a :: us) (vs := .ref a :: vs) (dvs := []) G hr hb .nil pass0 I2 (.cons rfl r2) ?_
  rw [List.append_nil]
  exact q2
/-! ### C(), no __init__ of its own -/
structure Mk0 (K : PySem.W.Frag) (C : Addr) : Prop where
  makes : PySem.W.makesIn K C = true
  init : PySem.W.findIn K (.ref C) "__init__" = some (some (.builtin "object.__init__"))
  kp : PySem.W.keepIn K (.ref C) = true
def tMakeN (C : Addr) : TE := fun _ H Q => ∀ a dx, H a = none → H dx = none → dx ≠ a → Q (.ref a) (upd (upd H dx (.own a)) a (.ins C dx []))
theorem pe_makeN (M : Mk0 X.K C) (hg : Gl X x) (hm : X.mg x = some (.ref C)) (hdb : (x == ("__debug__" : Str)) = false := by decide) : PE X (.Call (.Name x p) [] [] pos) (tMakeN C) := by
  intro pins s σ H Q I h
  refine wpAny_Call_Name_kw (ld_glob I hg hm ?_ hdb)
  refine PySem.W.callWith_K0 I.kIn M.kp (wpAny_call ?_)
  have Y := PySem.W.makes_of (M := model X.prog X.w) I.kIn M.makes
  refine make_map0 I.kIn M.makes M.init (fun self => PySem.W.Looks.of_pure (PySem.W.oi_bind self)) ?_
  have I2 := Inv.made (C := C) I
  have e2 : ((s.heap.push PySem.W.emptyDict).push (PySem.W.instObj C s.heap.objs.size)).get? (s.heap.objs.size + 1) = some (PySem.W.instObj C s.heap.objs.size) := by
    have z := Heap.get?_push_size (s.heap.push PySem.W.emptyDict) (o := PySem.W.instObj C s.heap.objs.size) rfl
    rwa [Heap.size_push] at z
  have t1 : PySem.W.Looks (model X.prog X.w) ((s.heap.push PySem.W.emptyDict).push (PySem.W.instObj C s.heap.objs.size)) (typeOf (.ref (s.heap.objs.size + 1))) (.ref C) := (PySem.W.Looks.ld e2).andThen .now
  have t2 : PySem.W.Looks (model X.prog X.w) ((s.heap.push PySem.W.emptyDict).push (PySem.W.instObj C s.heap.objs.size)) (isInstance (.ref (s.heap.objs.size + 1)) (.type "object")) true :=
    t1.andThen (Y.top.keeps fun b q z => Heap.get?_push_of_some _ (Heap.get?_push_of_some _ z))
  have z := h (s.heap.objs.size + 1) s.heap.objs.size (I.hok.fresh (Nat.le_succ _)) (I.hok.fresh (Nat.le_refl _)) (Nat.ne_of_lt (Nat.lt_succ_self _))
  refine codeAny_call_builtin PySem.W.oi_plain PySem.W.entry_oi (PySem.W.check_slot (i := "object.__init__") (owner := "object") (n := "__init__") (self := .ref (s.heap.objs.size + 1)) (rest := []) (kw := []) PySem.W.oi_kind PySem.W.oi_split t2 (PySem.W.oi_args _) ?_)
  rw [PySem.W.oi_run]
  exact wpAny_pure (And.intro rfl ⟨V.ref (s.heap.objs.size + 1), _, I2, rfl, z⟩)
/-! ### list(reversed(e)) -/
/-! ### != of two lists of texts -/
end
end L2


set_option Elab.async false
set_option linter.all false
set_option maxRecDepth 100000
set_option maxHeartbeats 4000000
namespace Mine
open PySem
/-! ### sayings as trees -/
inductive W5 where
  | more | less | greater | lesser | leads
def W5.str : W5 → Str
  | .more => "more" | .less => "less" | .greater => "greater" | .lesser => "lesser" | .leads => "leads"
inductive Tr where
  | never | always | lp | lq
  | no (t : Tr)
  | fold (w : W5) (a b : Tr)
def Tr.size : Tr → Nat
  | .no t => t.size + 1
  | .fold _ a b => a.size + b.size + 1
  | _ => 1
theorem Tr.size_pos : ∀ t : Tr, 1 ≤ t.size
  | .never | .always | .lp | .lq => Nat.le_refl _
  | .no _ => Nat.le_add_left _ _
  | .fold _ _ _ => Nat.le_add_left _ _
/-! ### a text is of one tree -/
/-! ### worths, putting in, the parts in their order -/
def W5.worth (w : W5) (n a b : Int) : Int := match w with
  | .more => min (a + b) n
  | .less => max (a + b - n) 0
  | .greater => max a b
  | .lesser => min a b
  | .leads => min (n - a + b) n
/-- what is told of a tree by what is told of its parts -/
structure Alg (α : Type) where
  leaf : Tr → α
  no : α → α
  fold : W5 → α → α → α
def Alg.val {α : Type} (G : Alg α) : Tr → α
  | .no t => G.no (G.val t)
  | .fold w a b => G.fold w (G.val a) (G.val b)
  | t => G.leaf t
def Tr.post : Tr → List Tr
  | .no t => t.post ++ [.no t]
  | .fold w a b => a.post ++ b.post ++ [.fold w a b]
  | t => [t]
theorem post_len : ∀ t : Tr, t.post.length = t.size
  | .no t => by simp [Tr.post, Tr.size, post_len t]
  | .fold w a b => by simp [Tr.post, Tr.size, post_len a, post_len b]; omega
  | .never => rfl
  | .always => rfl
  | .lp => rfl
  | .lq => rfl
/-- one part on the stack of what was told, the last one ahead -/
def Alg.step {α : Type} (G : Alg α) : List α → Tr → Option (List α)
  | a :: R, .no _ => some (G.no a :: R)
  | b :: a :: R, .fold w _ _ => some (G.fold w a b :: R)
  | [], .no _ => none
  | [], .fold _ _ _ => none
  | [_], .fold _ _ _ => none
  | R, t => some (G.leaf t :: R)
def Alg.run {α : Type} (G : Alg α) : List α → List Tr → Option (List α)
  | R, [] => some R
  | R, t :: r => (G.step R t).bind fun R' => G.run R' r
theorem run_post {α : Type} (G : Alg α) : ∀ (t : Tr) (R : List α) (r : List Tr), G.run R (t.post ++ r) = G.run (G.val t :: R) r
  | .no t, R, r => by
    show G.run R (t.post ++ [.no t] ++ r) = _
    rw [List.append_assoc, run_post G t R]
    cases R <;> rfl
  | .fold w a b, R, r => by
    show G.run R (a.post ++ b.post ++ [.fold w a b] ++ r) = _
    rw [List.append_assoc, List.append_assoc, run_post G a R, run_post G b _]
    cases R <;> rfl
  | .never, R, r => by cases R with
    | nil => rfl
    | cons a R => cases R <;> rfl
  | .always, R, r => by cases R with
    | nil => rfl
    | cons a R => cases R <;> rfl
  | .lp, R, r => by cases R with
    | nil => rfl
    | cons a R => cases R <;> rfl
  | .lq, R, r => by cases R with
    | nil => rfl
    | cons a R => cases R <;> rfl
theorem run_all {α : Type} (G : Alg α) (t : Tr) : G.run [] t.post = some [G.val t] := by
  have h := run_post G t [] []
  rw [List.append_nil] at h
  rw [h]
  rfl
def worthAlg (n x y : Int) : Alg Int where
  leaf := fun t => match t with
    | .always => n
    | .lp => x
    | .lq => y
    | _ => 0
  no := fun a => n - a
  fold := fun w a b => w.worth n a b
abbrev Tr.worth (n x y : Int) (t : Tr) : Int := (worthAlg n x y).val t
end Mine


set_option Elab.async false
set_option linter.all false
set_option maxRecDepth 100000
set_option maxHeartbeats 4000000
namespace L2
open PySem PySem.Spec PyProof.Rows

/-! ### data in the heap: ints, truths, texts, None, and tuples of these -/
mutual
def Dat (K : PySem.W.Frag) (H : Hp) : PyData → V → Prop
  | .none, v => v = .non
  | .bool b, v => v = .bl b
  | .int i, v => v = .int i
  | .str x, v => v = .str x
  | .tuple ds, v => ∃ a xs, v = .ref a ∧ SqT K H a xs ∧ DatAll K H ds xs
  | .list _, _ => False
  | .dict _, _ => False
def DatAll (K : PySem.W.Frag) (H : Hp) : List PyData → List V → Prop
  | [], xs => xs = []
  | d :: ds, xs => ∃ x r, xs = x :: r ∧ Dat K H d x ∧ DatAll K H ds r
end
/-- tuples, and what is frozen, stay -/
structure Tst (H H' : Hp) : Prop where
  t : ∀ b xs, H b = some (.tup xs) → H' b = some (.tup xs)
  f : ∀ b o u, H b = some (.frz o u) → H' b = some (.frz o u)
theorem Same.ts {H H' : Hp} (e : Same H H') : Tst H H' := ⟨fun b xs h => e b _ h, fun b o u h => e b _ h⟩
theorem SqT.ts {K : PySem.W.Frag} {H H' : Hp} {a : Addr} {xs : List V} (h : SqT K H a xs) (e : Tst H H') : SqT K H' a xs := by
  rcases h with (h | ⟨o, h⟩) | h
  · exact .inl (.inl (e.t _ _ h))
  · exact .inl (.inr ⟨o, e.f _ _ _ h⟩)
  · exact .inr h
mutual
theorem Dat.ts {K : PySem.W.Frag} {H H' : Hp} (e : Tst H H') : ∀ {d : PyData} {v : V}, Dat K H d v → Dat K H' d v
  | .none, _, h => h
  | .bool _, _, h => h
  | .int _, _, h => h
  | .str _, _, h => h
  | .tuple _, _, ⟨a, xs, h1, h2, h3⟩ => ⟨a, xs, h1, h2.ts e, DatAll.ts e h3⟩
  | .list _, _, h => h
  | .dict _, _, h => h
theorem DatAll.ts {K : PySem.W.Frag} {H H' : Hp} (e : Tst H H') : ∀ {ds : List PyData} {xs : List V}, DatAll K H ds xs → DatAll K H' ds xs
  | [], _, h => h
  | _ :: _, _, ⟨x, r, h1, h2, h3⟩ => ⟨x, r, h1, Dat.ts e h2, DatAll.ts e h3⟩
end
mutual
theorem Dat.reads {X : Cx} {pins : List (Addr × Obj)} {σ : St} {H : Hp} {s : Shared} (I : Inv X pins σ H s) : ∀ (d : PyData) {v : V} {u : Value}, Dat X.K H d v → RelV v u → ∃ as, Reads s.heap u d as
  | .none, _, _, h, r => by
    cases (show _ = V.non from h)
    cases (show _ = Value.none from r)
    exact ⟨[], .none⟩
  | .bool b, _, _, h, r => by
    cases (show _ = V.bl b from h)
    cases (show _ = Value.bool b from r)
    exact ⟨[], .bool b⟩
  | .int i, _, _, h, r => by
    cases (show _ = V.int i from h)
    obtain ⟨t, q⟩ := (show ∃ t, _ = Value.int i t from r)
    cases q
    exact ⟨[], .int i t⟩
  | .str x, _, _, h, r => by
    cases (show _ = V.str x from h)
    obtain ⟨t, q⟩ := (show ∃ t, _ = Value.str x t from r)
    cases q
    exact ⟨[], .str x t⟩
  | .tuple ds, _, _, ⟨a, xs, h1, h2, h3⟩, r => by
    cases h1
    cases (show _ = Value.ref a from r)
    obtain ⟨its, rv, ⟨o, ho, hc, n, hd⟩, _⟩ := I.tuple h2
    obtain ⟨as, ra⟩ := DatAll.reads I ds h3 rv
    exact ⟨as, .tuple ho hc hd (by simpa using ra)⟩
  | .list _, _, _, h, _ => False.elim h
  | .dict _, _, _, h, _ => False.elim h
theorem DatAll.reads {X : Cx} {pins : List (Addr × Obj)} {σ : St} {H : Hp} {s : Shared} (I : Inv X pins σ H s) : ∀ (ds : List PyData) {xs : List V} {us : List Value}, DatAll X.K H ds xs → Vals xs us → ∃ as, ReadsAll s.heap us ds as
  | [], _, _, h, r => by
    cases (show _ = ([] : List V) from h)
    cases r
    exact ⟨[], .nil⟩
  | d :: ds, _, _, ⟨x, t, h1, h2, h3⟩, r => by
    cases h1
    cases r with
    | cons r1 r2 =>
      obtain ⟨as, a1⟩ := Dat.reads I d h2 r1
      obtain ⟨bs, b1⟩ := DatAll.reads I ds h3 r2
      exact ⟨as ++ bs, .cons a1 b1⟩
end
/-- such data, or a list of such data -/
def DatX (K : PySem.W.Frag) (H : Hp) (d : PyData) (v : V) : Prop := Dat K H d v ∨ ∃ ds a xs, d = .list ds ∧ v = .ref a ∧ SqL K H a xs ∧ DatAll K H ds xs
theorem DatX.reads {X : Cx} {pins : List (Addr × Obj)} {σ : St} {H : Hp} {s : Shared} {d : PyData} {v : V} {u : Value} (I : Inv X pins σ H s) (h : DatX X.K H d v) (r : RelV v u) : ∃ as, Reads s.heap u d as := by
  rcases h with h | ⟨ds, a, xs, rfl, rfl, h2, h3⟩
  · exact Dat.reads I d h r
  · cases (show _ = Value.ref a from r)
    obtain ⟨its, rv, ⟨o, n, ho, hc, _, hd⟩, _⟩ := I.list h2
    obtain ⟨as, ra⟩ := DatAll.reads I ds h3 rv
    exact ⟨a :: as, .list ho hc hd (by simpa using ra)⟩
section
variable {X : Cx}
def rNeD (K : PySem.W.Frag) : R2 := fun x y H Q => ∃ d e, DatX K H d x ∧ DatX K H e y ∧ SeqAt.shaped d = true ∧ SeqAt.shaped e = true ∧ Q (.bl (!PyData.eqv d e)) H
theorem op_neD (hu : X.A.units + 64 < cLine) : OpR X (compareOp .NotEq) (rNeD X.K) := by
  intro pins s σ H x y v u Q I rx ry h
  obtain ⟨d, e, hd, he, sd, se, q⟩ := h
  obtain ⟨as, ra⟩ := hd.reads I rx
  obtain ⟨bs, rb⟩ := he.reads I ry
  exact ne_dataH ra rb sd se hu ⟨.bl _, H, I, rfl, q⟩
/-! ### isinstance of a tuple, a list that is read -/
theorem call_isiT : CallR X (.builtin "isinstance") (fun xs H Q => ∃ (a : Addr) (ys : List V) (c : V) (cv : Value) (k : Bool), xs = [.ref a, c] ∧ (∀ u, RelV c u → u = cv) ∧ SqT X.K H a ys ∧ PySem.W.kitOne X.K (.type "tuple") cv = some k ∧ Q (.bl k) H) := by
  intro pins s σ H xs us Q I r h
  obtain ⟨a, ys, c, cv, k, rfl, hc, hq, kt, q⟩ := h
  obtain ⟨u, w', rfl, r1, r2⟩ := vals2 r
  have e := hc _ r2
  subst e
  cases (show u = Value.ref a from r1)
  obtain ⟨its, rv, ⟨o, h1, h2, _⟩, _⟩ := I.tuple hq
  exact PySem.W.kia_one PySem.W.kitx_tuple I.kIn ⟨o, h1, h2⟩ kt (fun z => nomatch z) fun tk => ⟨.bl k, H, I.tok tk, rfl, q⟩
/-! ### all, any of a list of truths -/
theorem bools_of {bs : List Bool} : ∀ {us : List Value}, Vals (bs.map V.bl) us → LSm.BoolsAre us bs := by
  induction bs with
  | nil => intro us r; cases r; exact .nil
  | cons b r ih =>
    intro us q
    cases q with
    | cons a t =>
      cases (show _ = Value.bool b from a)
      exact .cons b (ih t)
theorem call_all (hc : X.calm = true) : CallR X (.builtin "all") (fun xs H Q => ∃ (l : Addr) (bs : List Bool), xs = [.ref l] ∧ SqL X.K H l (bs.map V.bl) ∧ Q (.bl (bs.all id)) H) := by
  intro pins s σ H xs us Q I r h
  obtain ⟨l, bs, rfl, hq, q⟩ := h
  obtain ⟨u, rfl, rx⟩ := vals1 r
  cases rx
  obtain ⟨its, rv, pl, _⟩ := I.list hq
  have hl := pl.isList
  have hb := bools_of rv
  have hlt : l < s.heap.objs.size := by obtain ⟨_, e, _⟩ := hl; exact Heap.lt_size e
  refine call_all_walk (wpAny_pyIter_list hl ?_)
  refine ⟨s.heap.objs.size, [s.heap.objs.size, l], [s.heap.objs.size], its.toArray.size, _, _, fun i => (bs[i]?).getD true, rfl, Walks.list (A := X.A.in1) (I.ok.hd hc) _ l (Nat.ne_of_lt hlt) its.toArray,
    ⟨⟨_, Heap.get?_push_size _ rfl, rfl, rfl⟩, hl.push _⟩, fun i v s' Q' E' hP hQ => ?_, fun h' tk hk => ?_⟩
  · obtain ⟨b, e, rfl⟩ := hb.get i v (by simpa using hP)
    simp only [e, Option.getD_some] at hQ
    exact wpAny_truthy_bool hQ
  · have e : ((List.range its.toArray.size).all fun i => (bs[i]?).getD true) = bs.all id := by
      rw [List.size_toArray, hb.length]; exact LSm.range_all bs
    rw [e]
    exact ⟨.bl _, H, I.kept (t' := tk) (LSm.kept_iter hk), rfl, q⟩
end
/-! ### the same, where the context's K is named (within a comprehension the reading may not name the context) -/
section
variable {X : Cx} {K : PySem.W.Frag}
end
/-! ### what such data say when they are compared -/
/-! ### a tuple, an int that stands at the top -/
theorem topint_mk {K : PySem.W.Frag} {h : Heap} {mg : Str → Option Value} {x : Str} {v : Value} {n : Int} (X : K.In h) (G : h.Ns mainGlobals mg) (e : PySem.W.nsIn K mainGlobals x = some (some v)) (q : ∃ t, v = .int n t) : ∃ t, mg x = some (.int n t) := by
  obtain ⟨t, rfl⟩ := q
  exact ⟨t, PySem.W.mg_of X G e⟩
end L2


set_option Elab.async false
namespace Mine
namespace Lo
end Lo

/-! ### stretches and lines, as they are told -/
namespace Ln
/-! ### the stretch in which x lies -/
end Ln
end Mine


set_option Elab.async false
set_option linter.all false
set_option maxRecDepth 100000
set_option maxHeartbeats 4000000
namespace Mine
open PySem L2
/-! ### small numbers -/
abbrev bits (x : Int) : Nat := Builtin.Int.intBits x
/-! ### items of the script -/
theorem at_of {xs : List V} {i : Int} {x : V} (h0 : 0 ≤ i) (h : xs[i.toNat]? = some x) : atI xs i = some x := by
  have ek : i = ((i.toNat : Nat) : Int) := by omega
  rw [ek]
  exact atI_nat h
/-- a script as the law has it: a list of at most 63 ints, each of at most 2 ** 20 bits; it is frozen -/
structure Scr (K : PySem.W.Frag) (H : Hp) (a : Addr) (ns : List Int) : Prop where
  sq : (∃ o, H a = some (.frz o (.lst (ns.map V.int)))) ∨ ∃ (o : Obj) (its : Array Value) (n : Nat), K.lookup a = some o ∧ o.cls = .type "list" ∧ o.dict = none ∧ o.data = .seq its n ∧ its.size ≤ sizeLine ∧ Vals (ns.map V.int) its.toList
  few : ns.length ≤ 63
  bit : ∀ n ∈ ns, bits n ≤ 1048576
theorem Scr.l {K : PySem.W.Frag} {H : Hp} {a : Addr} {ns : List Int} (S : Scr K H a ns) : SqL K H a (ns.map V.int) := S.sq.elim (fun h => .inl (.inr h)) .inr
theorem Scr.ts {K : PySem.W.Frag} {H H' : Hp} {a : Addr} {ns : List Int} (S : Scr K H a ns) (e : Tst H H') : Scr K H' a ns := ⟨S.sq.elim (fun ⟨o, h⟩ => .inl ⟨o, e.f _ _ _ h⟩) .inr, S.few, S.bit⟩
theorem scr_of {K : PySem.W.Frag} {H : Hp} {a : Addr} {ns : List Int} (O : Only H) (h : SqL K H a (ns.map V.int)) (few : ns.length ≤ 63) (bit : ∀ n ∈ ns, bits n ≤ 1048576) : Scr K H a ns := by
  refine ⟨?_, few, bit⟩
  rcases h with (h | h) | h
  · exfalso
    rcases O a with z | ⟨o, xs, z⟩
    · rw [h] at z; cases z
    · rw [h] at z; cases z
  · exact .inl h
  · exact .inr h
theorem same_new {H : Hp} {p : Addr} (h : H p = none) (o : HO) : Same H (upd H p o) := fun b u q => by rw [upd_ne (ne_of_none q h)]; exact q
/-- a change at what was not there at first -/
theorem same_mut {H H' : Hp} {l : Addr} (e : Same H H') (h : H l = none) (o : HO) : Same H (upd H' l o) := fun b u q => by rw [upd_ne (ne_of_none q h)]; exact e b u q
/-! ### fractions, stretches, lines as data -/
section
variable {K : PySem.W.Frag} {H H' : Hp} {a : Addr} {v e : V} {p q m h : Int} {s : St4} {L : List St4}
end
mutual
theorem eqv_self : ∀ d : PyData, d.canLay0 = true → PyData.eqv d d = true
  | .none, _ => by simp [PyData.eqv]
  | .bool _, _ => by simp [PyData.eqv]
  | .int _, _ => by simp [PyData.eqv]
  | .str _, _ => by simp [PyData.eqv]
  | .list xs, h => by simp only [PyData.eqv]; exact eqvAll_self xs (by simpa [PyData.canLay0] using h)
  | .tuple xs, h => by simp only [PyData.eqv]; exact eqvAll_self xs (by simpa [PyData.canLay0] using h)
  | .dict _, h => by simp [PyData.canLay0] at h
theorem eqvAll_self : ∀ xs : List PyData, PyData.canLayAll0 xs = true → PyData.eqvAll xs xs = true
  | [], _ => by simp [PyData.eqvAll]
  | x :: xs, h => by
    have h' : x.canLay0 = true ∧ PyData.canLayAll0 xs = true := by simpa [PyData.canLayAll0] using h
    simp [PyData.eqvAll, eqv_self x h'.1, eqvAll_self xs h'.2]
end
end Mine


set_option Elab.async false
set_option linter.all false
set_option maxRecDepth 100000
set_option maxHeartbeats 4000000
namespace Mine
open PySem L2
/-! ### what stands in the heap -/
/-- tuples and instances stay -/
def fixO : HO → Bool
  | .tup _ => true
  | .ins _ _ _ => true
  | .own _ => true
  | .frz _ _ => true
  | _ => false
def Kp (H H' : Hp) : Prop := ∀ b o, H b = some o → fixO o = true → H' b = some o
theorem Kp.trans {H H1 H2 : Hp} (a : Kp H H1) (b : Kp H1 H2) : Kp H H2 := fun c o h f => b c o (a c o h f) f
theorem Kp.of {H H' : Hp} (e : Same H H') : Kp H H' := fun b o h _ => e b o h
theorem kp_new {H : Hp} {p : Addr} (h : H p = none) (o : HO) : Kp H (upd H p o) := Kp.of (fun b u z => by rw [upd_ne (ne_of_none z h)]; exact z)
theorem kp_mut {H : Hp} {l : Addr} {o u : HO} (h : H l = some o) (f : fixO o = false) : Kp H (upd H l u) := fun b z hb fz => by
  rw [upd_ne (ne_of hb h fun e => by rw [e, f] at fz; cases fz)]
  exact hb
theorem kit_same {K : PySem.W.Frag} {t : Value} : PySem.W.kitOne K t t = some true := by unfold PySem.W.kitOne; rw [if_pos (beq_self_eq_true t)]
/-- all but c stays -/
def SB (c : V) (H H' : Hp) : Prop := ∀ b o, H b = some o → V.ref b ≠ c → H' b = some o
theorem SB.refl (c : V) (H : Hp) : SB c H H := fun _ _ h _ => h
theorem SB.trans {c : V} {H H1 H2 : Hp} (a : SB c H H1) (b : SB c H1 H2) : SB c H H2 := fun d o h n => b d o (a d o h n) n
theorem SB.of {c : V} {H H' : Hp} (e : Same H H') : SB c H H' := fun b o h _ => e b o h
theorem SB.kp {c : V} {H H' : Hp} (e : SB c H H') (hc : ∀ a o, c = .ref a → H a = some o → fixO o = false) : Kp H H' := fun b o h f => e b o h fun z => by
  rw [hc b o z.symm h] at f
  cases f
theorem sb_upd {a : Addr} (H : Hp) (u : HO) : SB (.ref a) H (upd H a u) := fun b o h n => by
  rw [upd_ne fun z => n (by rw [z])]
  exact h
/-- the law's tuples -/
inductive Tu (H : Hp) : Addr → Tr → Prop where
  | never {a} : H a = some (.tup [.str "never"]) → Tu H a .never
  | always {a} : H a = some (.tup [.str "always"]) → Tu H a .always
  | lp {a} : H a = some (.tup [.str "p"]) → Tu H a .lp
  | lq {a} : H a = some (.tup [.str "q"]) → Tu H a .lq
  | no {a b t} : H a = some (.tup [.str "not", .ref b]) → Tu H b t → Tu H a (.no t)
  | fold {a b d w x y} : H a = some (.tup [.str (W5.str w), .ref b, .ref d]) → Tu H b x → Tu H d y → Tu H a (.fold w x y)
theorem Tu.to {H H' : Hp} {a : Addr} {t : Tr} (h : Tu H a t) (e : Kp H H') : Tu H' a t := by
  induction h with
  | never h => exact .never (e _ _ h rfl)
  | always h => exact .always (e _ _ h rfl)
  | lp h => exact .lp (e _ _ h rfl)
  | lq h => exact .lq (e _ _ h rfl)
  | no h _ ih => exact .no (e _ _ h rfl) ih
  | fold h _ _ i1 i2 => exact .fold (e _ _ h rfl) i1 i2
/-- the program's classes -/
structure CCs where
  (ne al le no mo ls gr lr ld : Addr)
def CCs.fold (c : CCs) : W5 → Addr
  | .more => c.mo | .less => c.ls | .greater => c.gr | .lesser => c.lr | .leads => c.ld
def fName (x : V) : List (Str × V) := [("name", x)]
def fPart (x : V) : List (Str × V) := [("part", x)]
def fTwo (x y : V) : List (Str × V) := [("one", x), ("other", y)]
inductive Ob (c : CCs) (H : Hp) : Addr → Tr → Prop where
  | never {a dx} : H a = some (.ins c.ne dx []) → Ob c H a .never
  | always {a dx} : H a = some (.ins c.al dx []) → Ob c H a .always
  | lp {a dx} : H a = some (.ins c.le dx (fName (.str "p"))) → Ob c H a .lp
  | lq {a dx} : H a = some (.ins c.le dx (fName (.str "q"))) → Ob c H a .lq
  | no {a dx b t} : H a = some (.ins c.no dx (fPart (.ref b))) → Ob c H b t → Ob c H a (.no t)
  | fold {a dx b d w x y} : H a = some (.ins (c.fold w) dx (fTwo (.ref b) (.ref d))) → Ob c H b x → Ob c H d y → Ob c H a (.fold w x y)
theorem Ob.to {c : CCs} {H H' : Hp} {a : Addr} {t : Tr} (h : Ob c H a t) (e : Kp H H') : Ob c H' a t := by
  induction h with
  | never h => exact .never (e _ _ h rfl)
  | always h => exact .always (e _ _ h rfl)
  | lp h => exact .lp (e _ _ h rfl)
  | lq h => exact .lq (e _ _ h rfl)
  | no h _ ih => exact .no (e _ _ h rfl) ih
  | fold h _ _ i1 i2 => exact .fold (e _ _ h rfl) i1 i2
/-- things one by one -/
inductive All2 {α β : Type} (R : α → β → Prop) : List α → List β → Prop where
  | nil : All2 R [] []
  | cons {a b as bs} : R a b → All2 R as bs → All2 R (a :: as) (b :: bs)
theorem All2.imp {α β : Type} {R R' : α → β → Prop} (f : ∀ a b, R a b → R' a b) {as : List α} {bs : List β} (h : All2 R as bs) : All2 R' as bs := by
  induction h with
  | nil => exact .nil
  | cons r _ ih => exact .cons (f _ _ r) ih
theorem All2.app {α β : Type} {R : α → β → Prop} {as cs : List α} {bs ds : List β} (h : All2 R as bs) (k : All2 R cs ds) : All2 R (as ++ cs) (bs ++ ds) := by
  induction h with
  | nil => exact k
  | cons r _ ih => exact .cons r ih
theorem All2.rev {α β : Type} {R : α → β → Prop} {as : List α} {bs : List β} (h : All2 R as bs) : All2 R as.reverse bs.reverse := by
  induction h with
  | nil => exact .nil
  | cons r _ ih => rw [List.reverse_cons, List.reverse_cons]; exact ih.app (.cons r .nil)
theorem All2.len {α β : Type} {R : α → β → Prop} {as : List α} {bs : List β} (h : All2 R as bs) : as.length = bs.length := by
  induction h with
  | nil => rfl
  | cons _ _ ih => rw [List.length_cons, List.length_cons, ih]
theorem All2.get {α β : Type} {R : α → β → Prop} {as : List α} {bs : List β} (h : All2 R as bs) : ∀ (i : Nat) (a : α), as[i]? = some a → ∃ b, bs[i]? = some b ∧ R a b := by
  induction h with
  | nil => intro i a z; cases z
  | cons r _ ih =>
    intro i x z
    cases i with
    | zero => cases z; exact ⟨_, rfl, r⟩
    | succ i => exact ih i x z
/-- the last one apart -/
theorem All2.last {α β : Type} {R : α → β → Prop} {as : List α} {bs : List β} (h : All2 R as bs) (n : as ≠ []) : ∃ as' a bs' b, as = as' ++ [a] ∧ bs = bs' ++ [b] ∧ R a b ∧ All2 R as' bs' := by
  have h' := h.rev
  have n' : as.reverse ≠ [] := fun z => n (List.reverse_eq_nil_iff.mp z)
  have e1 : as = as.reverse.reverse := (List.reverse_reverse _).symm
  have e2 : bs = bs.reverse.reverse := (List.reverse_reverse _).symm
  rw [e1, e2]
  revert h' n'
  generalize as.reverse = u
  generalize bs.reverse = v
  intro h' n'
  cases h' with
  | nil => exact absurd rfl n'
  | cons r k => exact ⟨_, _, _, _, List.reverse_cons, List.reverse_cons, r, k.rev⟩
theorem snoc_last {α : Type} (ys : List α) (a : α) : (ys ++ [a])[(ys ++ [a]).length - 1]? = some a := by simp
/-- objects, each with its tree -/
abbrev ObV (c : CCs) (H : Hp) (v : V) (t : Tr) : Prop := ∃ a, v = .ref a ∧ Ob c H a t
theorem ObV.to {c : CCs} {H H' : Hp} (e : Kp H H') (v : V) (t : Tr) (h : ObV c H v t) : ObV c H' v t := by
  obtain ⟨a, r, o⟩ := h
  exact ⟨a, r, o.to e⟩
/-- what a saying is made of -/
def Tr.kids : Tr → List Tr
  | .no t => [t]
  | .fold _ a b => [a, b]
  | _ => []
def sizes (ts : List Tr) : Nat := (ts.map Tr.size).sum
theorem sizes_app (a b : List Tr) : sizes (a ++ b) = sizes a + sizes b := by simp [sizes]
theorem kids_size (t : Tr) : sizes t.kids + 1 = t.size := by cases t <;> simp [sizes, Tr.kids, Tr.size]
/-- the parts as laid_out meets them -/
theorem post_rev (t : Tr) : t.post.reverse = t :: (t.kids.reverse.flatMap fun x => x.post.reverse) := by
  cases t <;> simp [Tr.post, Tr.kids]
/-- a piece: a word or a saying -/
inductive Pc where
  | w (x : Str)
  | t (t : Tr)
def Tr.pieces : Tr → List Pc
  | .never => [.w "never"]
  | .always => [.w "always"]
  | .lp => [.w "p"]
  | .lq => [.w "q"]
  | .no t => [.w "not", .t t]
  | .fold w a b => [.w "(", .t a, .w w.str, .t b, .w ")"]
inductive PcV (c : CCs) (H : Hp) : V → Pc → Prop where
  | w (x : Str) : PcV c H (.str x) (.w x)
  | t {a : Addr} {t : Tr} : Ob c H a t → PcV c H (.ref a) (.t t)
theorem min_is (i j : Int) : (if j < i then j else i) = min i j := by
  rw [Int.min_def]; split <;> split <;> omega
theorem max_is (i j : Int) : (if j > i then j else i) = max i j := by
  rw [Int.max_def]; split <;> split <;> omega
end Mine

namespace L2
open PySem PySem.Spec PyProof.Rows
/-- the method m of the class C is the def st -/
structure MethF (K : PySem.W.Frag) (C : Addr) (m qual : Str) (st : Stmt) : Prop where
  cl : Cls K C
  ex : ∃ (f : Addr) (fd : FuncData), Meth K C m f ∧ Fun K m qual st f fd
section
variable {P : Program} {w : World} {K : PySem.W.Frag} {mg : Str → Option Value} {base : Heap}
theorem meth_of {C : Addr} {m qual : Str} {st : Stmt} {N ps : List Str} {k : Nat} {sp : Sp} (T : MethF K C m qual st) (S : FnScope N ps (defScope st))
    (bd : ∀ (kV doc pm : Value) (an : Option Addr) (cdv ct : Value) (us : List Value), us.length = ps.length → bindArgs (PySem.W.fnOf m qual (defArgs st) (defBody st) (defScope st) .none kV doc pm an cdv ct) ⟨us, []⟩ = pure (ps.zip us))
    (len : ∀ vs H Q E, sp vs H Q E → vs.length = ps.length)
    (body : ∀ (f : Addr) (cdv : Value) (A : Around) (outer : List Env) (s : Shared) (H : Hp) (vs : List V) (Q : VK) (E : XK), Room k (A.deeper (envOfC qual (defScope st) s.heap.objs.size f cdv)) → sp vs H Q E →
      ∃ t, PSs (cxOf CX0 P w K mg base N qual (defScope st) f cdv A outer s H E).nox (defBody st) t ∧ t { nx := fun _ H' => Q .non H', rt := Q } (start N vs) H) :
    MethOk P w K mg base C m (k + 1) ps sp := by
  obtain ⟨f, fd, hm, G⟩ := T.ex
  exact ⟨T.cl, f, fd, hm, G.ok S len (body f), G.binds bd⟩
/-- the class C, by the name x, is made with its __init__ -/
structure MkF (K : PySem.W.Frag) (mg : Str → Option Value) (x : Str) (C : Addr) (qual : Str) (st : Stmt) : Prop where
  cl : Cls K C
  mg_ : mg x = some (.ref C)
  ex : ∃ (f : Addr) (fd : FuncData), Mk K C f ∧ Fun K "__init__" qual st f fd
structure MkOk (P : Program) (w : World) (K : PySem.W.Frag) (mg : Str → Option Value) (base : Heap) (x : Str) (C : Addr) (k : Nat) (ps : List Str) (sp : Sp) : Prop where
  mg_ : mg x = some (.ref C)
  ex : ∃ (f : Addr) (fd : FuncData), Mk K C f ∧ FnOk P w K mg base CX0 k f fd ps sp ∧ Binds K fd ps []
theorem mk_of {C : Addr} {x qual : Str} {st : Stmt} {N ps : List Str} {k : Nat} {sp : Sp} (T : MkF K mg x C qual st) (S : FnScope N ps (defScope st))
    (bd : ∀ (kV doc pm : Value) (an : Option Addr) (cdv ct : Value) (us : List Value), us.length = ps.length → bindArgs (PySem.W.fnOf "__init__" qual (defArgs st) (defBody st) (defScope st) .none kV doc pm an cdv ct) ⟨us, []⟩ = pure (ps.zip us))
    (len : ∀ vs H Q E, sp vs H Q E → vs.length = ps.length)
    (body : ∀ (f : Addr) (cdv : Value) (A : Around) (outer : List Env) (s : Shared) (H : Hp) (vs : List V) (Q : VK) (E : XK), Room k (A.deeper (envOfC qual (defScope st) s.heap.objs.size f cdv)) → sp vs H Q E →
      ∃ t, PSs (cxOf CX0 P w K mg base N qual (defScope st) f cdv A outer s H E).nox (defBody st) t ∧ t { nx := fun _ H' => Q .non H', rt := Q } (start N vs) H) :
    MkOk P w K mg base x C (k + 1) ps sp := by
  obtain ⟨f, fd, hm, G⟩ := T.ex
  exact ⟨T.mg_, f, fd, hm, G.ok S len (body f), G.binds bd⟩
end
section
variable {X : Cx} {x : Str} {C : Addr} {k : Nat} {ps : List Str} {sp : Sp} {e : Expr} {es : List Expr} {t : TA} {p pos : Pos}
theorem pe_mk (M : MkOk X.prog X.w X.K X.mg X.base x C k ps sp) (hr : Room (k + 1) X.A) (hg : Gl X x) (ha : PA X (e :: es) t) (hdb : (x == ("__debug__" : Str)) = false := by decide)
    (he : starEach (e :: es) X.env = (false, eval e X.env) :: starEach es X.env := by rfl) (hpl : (backTo pos (starEach es X.env)).any (·.1) = false := by rfl) :
    PE X (.Call (.Name x p) (e :: es) [] pos) (tMake C sp [] E0 t) := by
  obtain ⟨f, fd, hm, G, hb⟩ := M.ex
  exact pe_make hm G hr hg M.mg_ hb .nil pass0 ha hdb he hpl
end
end L2
namespace Mine
open PySem L2
/-! ### the classes -/
def CCs.of (c : CCs) : Tr → Addr
  | .never => c.ne
  | .always => c.al
  | .lp => c.le
  | .lq => c.le
  | .no _ => c.no
  | .fold w _ _ => c.fold w
theorem look_name (x : V) : (fName x).lookup ("name" : Str) = some x := by unfold fName; rw [List.lookup_cons, beq_self_eq_true]
theorem look_part (x : V) : (fPart x).lookup ("part" : Str) = some x := by unfold fPart; rw [List.lookup_cons, beq_self_eq_true]
theorem look_one (x y : V) : (fTwo x y).lookup ("one" : Str) = some x := by unfold fTwo; rw [List.lookup_cons, beq_self_eq_true]
theorem look_other (x y : V) : (fTwo x y).lookup ("other" : Str) = some y := by
  unfold fTwo
  rw [List.lookup_cons, show (("other" : Str) == ("one" : Str)) = false by decide +kernel]
  show List.lookup ("other" : Str) [("other", y)] = some y
  rw [List.lookup_cons, beq_self_eq_true]
abbrev NoF (m : Str) : Prop := m ≠ "name" ∧ m ≠ "part" ∧ m ≠ "one" ∧ m ≠ "other"
theorem look_none {m a : Str} {x : V} {r : List (Str × V)} (h : m ≠ a) (k : r.lookup m = none) : ((a, x) :: r).lookup m = none := by
  rw [List.lookup_cons, beq_eq_false_iff_ne.mpr h]
  exact k
theorem Ob.cls {c : CCs} {H : Hp} {a : Addr} {t : Tr} (h : Ob c H a t) : ∃ dx fs, H a = some (.ins (c.of t) dx fs) ∧ ∀ m, NoF m → fs.lookup m = none := by
  cases h with
  | never h => exact ⟨_, _, h, fun m _ => rfl⟩
  | always h => exact ⟨_, _, h, fun m _ => rfl⟩
  | lp h => exact ⟨_, _, h, fun m n => look_none n.1 rfl⟩
  | lq h => exact ⟨_, _, h, fun m n => look_none n.1 rfl⟩
  | no h _ => exact ⟨_, _, h, fun m n => look_none n.2.1 rfl⟩
  | fold h _ _ => exact ⟨_, _, h, fun m n => look_none n.2.2.1 (look_none n.2.2.2 rfl)⟩
structure Fx (K : PySem.W.Frag) (c : CCs) : Prop where
  cl : ∀ t, Cls K (c.of t)
  ha : ∀ t, PySem.W.findIn K (.ref (c.of t)) "__class__" = some (some (.builtin "object.__class__"))
  hm : ∀ t, PySem.W.mroIn K (c.of t) (.type "object") = some true
  ks : ∀ t, PySem.W.kitOne K (.ref (c.of t)) (.type "str") = some false
  hn : PySem.W.specialIn K (.builtin "object.__class__") "__get__" = some (some (.builtin "getset_descriptor.__get__"))
  tk : PySem.W.takesIn K (.builtin "object.__class__") = some true
  nName : NoAttr K c.le "name"
  nPart : NoAttr K c.no "part"
  nOne : ∀ w, NoAttr K (c.fold w) "one"
  nOther : ∀ w, NoAttr K (c.fold w) "other"
/-- the word of a tuple -/
def Tr.word : Tr → Str
  | .never => "never"
  | .always => "always"
  | .lp => "p"
  | .lq => "q"
  | .no _ => "not"
  | .fold u _ _ => u.str
/-! ### promises -/
def spMade (c : CCs) (t : Tr) : Sp := fun vs H Q _ => ∃ a, vs = [.ref a] ∧ Ob c H a t ∧ ∀ l us, H l = none → All2 (ObV c H) us t.kids → Q (.ref l) (upd H l (.lst us))
def spWord (c : CCs) (t : Tr) : Sp := fun vs H Q _ => ∃ a : Addr, vs = [.ref a] ∧ Ob c H a t ∧ Q (.str t.word) H
def spFolded (w : W5) : Sp := fun vs H Q _ => ∃ (a : Addr) (n x y : Int), vs = [.ref a, .int n, .int x, .int y] ∧ Q (.int (w.worth n x y)) H
def spWeigh (c : CCs) (t : Tr) : Sp := fun vs H Q _ => ∃ (a l : Addr) (n x y : Int) (R R' : List Int), vs = [.ref a, .ref l, .int n, .int x, .int y] ∧ Ob c H a t ∧ H l = some (.lst (R.reverse.map V.int)) ∧ R.length ≤ 1000 ∧ (worthAlg n x y).step R t = some R' ∧
  ∀ H', SB (.ref l) H H' → H' l = some (.lst (R'.reverse.map V.int)) → Q .non H'
def spLaid (c : CCs) (t : Tr) : Sp := fun vs H Q _ => ∃ a, vs = [.ref a] ∧ Ob c H a t ∧ t.size ≤ 1000 ∧ ∀ l us H', Same H H' → H l = none → H' l = some (.lst us) → All2 (ObV c H') us t.post → Q (.ref l) H'
def spOut (c : CCs) (t : Tr) : Sp := fun vs H Q _ => ∃ (a : Addr) (n x y : Int), vs = [.ref a, .int n, .int x, .int y] ∧ Ob c H a t ∧ t.size ≤ 1000 ∧ ∀ H', Same H H' → Q (.int (t.worth n x y)) H'
def spInit1 (C : Addr) (fl : V → List (Str × V)) : Sp := fun vs H Q _ => ∃ (a dx : Addr) (x : V), vs = [.ref a, x] ∧ H a = some (.ins C dx []) ∧ Q .non (upd H a (.ins C dx (fl x)))
def spInit2 (C : Addr) : Sp := fun vs H Q _ => ∃ (a dx : Addr) (x y : V), vs = [.ref a, x, y] ∧ H a = some (.ins C dx []) ∧ Q .non (upd H a (.ins C dx (fTwo x y)))
theorem putF_two (x y : V) : putF "other" y (putF "one" x []) = fTwo x y := by
  show (if ("one" : Str) = "other" then [(("one" : Str), y)] else (("one" : Str), x) :: putF "other" y []) = _
  rw [if_neg (by decide +kernel)]
  rfl
end Mine

namespace Mine
open PySem L2
def W5.cls : W5 → Str
  | .more => "More" | .less => "Less" | .greater => "Greater" | .lesser => "Lesser" | .leads => "Leads"
theorem is_pp : decide (V.str "p" = V.str "p") = true := decide_eq_true rfl
theorem is_qp : decide (V.str "q" = V.str "p") = false := decide_eq_false (fun z => absurd (V.str.inj z) (by decide +kernel))
theorem push_int (a : Int) (R : List Int) : R.reverse.map V.int ++ [V.int a] = (a :: R).reverse.map V.int := by rw [List.reverse_cons, List.map_append]; rfl
theorem stack_lt {R : List Int} (h : R.length ≤ 1000) : (R.reverse.map V.int).length < sizeLine := by
  rw [List.length_map, List.length_reverse]
  exact Nat.lt_of_le_of_lt h (by decide)
theorem step_leaf {α : Type} {G : Alg α} {R R' : List α} {t : Tr} (h : G.step R t = some R') (k : t.kids = []) : R' = G.leaf t :: R := by
  cases t with
  | no t => cases k
  | fold w a b => cases k
  | _ => cases R with
    | nil => exact (Option.some.inj h).symm
    | cons a R => cases R <;> exact (Option.some.inj h).symm
theorem step_no {α : Type} {G : Alg α} {R R' : List α} {t : Tr} (h : G.step R (.no t) = some R') : ∃ b R1, R = b :: R1 ∧ R' = G.no b :: R1 := by
  cases R with
  | nil => cases h
  | cons b R1 => cases R1 <;> exact ⟨b, _, rfl, (Option.some.inj h).symm⟩
theorem step_fold {α : Type} {G : Alg α} {R R' : List α} {w : W5} {t t' : Tr} (h : G.step R (.fold w t t') = some R') : ∃ b2 b1 R1, R = b2 :: b1 :: R1 ∧ R' = G.fold w b1 b2 :: R1 := by
  cases R with
  | nil => cases h
  | cons b R1 => cases R1 with
    | nil => cases h
    | cons b' R1 => exact ⟨b, b', R1, rfl, (Option.some.inj h).symm⟩
theorem upd_none {H : Hp} {l p : Addr} {o : HO} (h : upd H l o p = none) : H p = none := by
  by_cases e : p = l
  · subst e; rw [upd_same] at h; cases h
  · rw [upd_ne e] at h; exact h
/-- a new instance, its attributes stored -/
theorem same_made {H : Hp} {C z dz : Addr} {fs : List (Str × V)} (hz : H z = none) (hd : H dz = none) (ne : dz ≠ z) : Same H (upd (upd (upd H dz (.own z)) z (.ins C dz [])) z (.ins C dz fs)) := fun b o h => by
  rw [upd_ne (ne_of_none h hz), upd_ne (ne_of_none h hz), upd_ne (ne_of_none h hd)]
  exact h
theorem made_fold {c : CCs} {H : Hp} {z dz b d : Addr} {u : W5} {t t' : Tr} {Q : VK} (hz : H z = none) (hd : H dz = none) (ne : dz ≠ z) (o : Ob c H b t) (o' : Ob c H d t') (q : ∀ e H', Same H H' → Ob c H' e (.fold u t t') → Q (.ref e) H') :
    Q (.ref z) (upd (upd (upd H dz (.own z)) z (.ins (c.fold u) dz [])) z (.ins (c.fold u) dz (fTwo (.ref b) (.ref d)))) := by
  have sm := same_made (C := c.fold u) (fs := fTwo (.ref b) (.ref d)) hz hd ne
  exact q z _ sm (.fold upd_same (o.to (Kp.of sm)) (o'.to (Kp.of sm)))

end Mine
namespace Mine
open PySem L2
theorem flat_len : ∀ ts : List Tr, (ts.flatMap fun x => x.post.reverse).length = sizes ts
  | [] => rfl
  | t :: r => by
    rw [List.flatMap_cons, List.length_append, List.length_reverse, post_len, flat_len r]
    simp [sizes]
theorem sizes_rev (ts : List Tr) : sizes ts.reverse = sizes ts := by simp [sizes]
theorem len_sizes : ∀ ts : List Tr, ts.length ≤ sizes ts
  | [] => Nat.le_refl _
  | t :: r => by
    have h := len_sizes r
    have p := t.size_pos
    have e : sizes (t :: r) = t.size + sizes r := by simp [sizes]
    rw [e, List.length_cons]; omega
theorem kids_len (t : Tr) : t.kids.length ≤ 2 := by cases t <;> simp [Tr.kids]
theorem step_len {α : Type} {G : Alg α} {R R' : List α} {t : Tr} (h : G.step R t = some R') : R'.length ≤ R.length + 1 := by
  cases t with
  | no t => obtain ⟨b, R1, rfl, rfl⟩ := step_no h; simp
  | fold w x y => obtain ⟨b, b', R1, rfl, rfl⟩ := step_fold h; simp
  | _ => rw [step_leaf h rfl]; simp
theorem run_cons {α : Type} {G : Alg α} {R Z : List α} {t : Tr} {r : List Tr} (h : G.run R (t :: r) = some Z) : ∃ R', G.step R t = some R' ∧ G.run R' r = some Z := by
  unfold Alg.run at h
  cases e : G.step R t with
  | none => rw [e] at h; cases h
  | some R' => rw [e] at h; exact ⟨R', rfl, h⟩
theorem drop_at {α : Type} {xs : List α} {i : Nat} {x : α} (h : xs[i]? = some x) : xs.drop i = x :: xs.drop (i + 1) := by
  obtain ⟨hi, e⟩ := List.getElem?_eq_some_iff.mp h
  rw [List.drop_eq_getElem_cons hi, e]
end Mine


set_option Elab.async false
set_option linter.all false
set_option maxRecDepth 100000
set_option maxHeartbeats 4000000
namespace Mine
open PySem L2
theorem ite_yes {a b : Str} {A B : Prop} (h : a = b) (k : A) : if decide (V.str a = V.str b) = true then A else B := by
  rw [decide_eq_true (congrArg V.str h), if_pos rfl]
  exact k
theorem ite_no {a b : Str} {A B : Prop} (h : a ≠ b) (k : B) : if decide (V.str a = V.str b) = true then A else B := by
  rw [decide_eq_false (fun z => h (V.str.inj z)), if_neg Bool.false_ne_true]
  exact k
theorem in_yes {x : V} {xs : List V} {A B : Prop} (h : inV x xs = true) (k : A) : if (if false = true then !inV x xs else inV x xs) = true then A else B := by
  rw [if_neg Bool.false_ne_true, h, if_pos rfl]
  exact k
theorem in_no {x : V} {xs : List V} {A B : Prop} (h : inV x xs = false) (k : B) : if (if false = true then !inV x xs else inV x xs) = true then A else B := by
  rw [if_neg Bool.false_ne_true, h, if_neg Bool.false_ne_true]
  exact k
/-- a number that a script's cell may be -/
def Cel (m : Int) : Prop := 0 ≤ m ∧ Builtin.Int.intBits m ≤ 1048576
theorem cel0 : Cel 0 := ⟨Int.le_refl _, by decide⟩
theorem bits_abs (z : Int) : Builtin.Int.intBits (if z < 0 then -z else z) = Builtin.Int.intBits z := by
  unfold Builtin.Int.intBits
  by_cases h : z < 0
  · rw [if_pos h]
    simp
  · rw [if_neg h]
theorem cel_abs {z : Int} (h : Builtin.Int.intBits z ≤ 1048576) : Cel (if z < 0 then -z else z) := ⟨by split <;> omega, by rw [bits_abs]; exact h⟩
theorem cel_small {z : Int} (h0 : 0 ≤ z) (h : z < 2 ^ 64) : Cel z := ⟨h0, Nat.le_trans (intBits_le_64 (by omega) h) (by decide)⟩
theorem Scr.to {K : PySem.W.Frag} {H H' : Hp} {a : Addr} {ns : List Int} (h : Scr K H a ns) (e : Same H H') : Scr K H' a ns := h.ts e.ts
/-! ### promises of the law's own defs -/
def spMixed (K : PySem.W.Frag) : Sp := fun vs H Q _ => ∃ (a : Addr) (ns : List Int) (k : Int), vs = [.ref a, .int k] ∧ Scr K H a ns ∧ 0 ≤ k ∧ k ≤ 100 ∧ ∀ (D : Addr) (ms : List Int) (H' : Hp), Same H H' → H D = none → H' D = some (.lst (ms.map V.int)) → (∀ m ∈ ms, Cel m) → Q (.ref D) H'
def spNext : Sp := fun vs H Q _ => ∃ (l : Addr) (ms : List Int), vs = [.ref l] ∧ H l = some (.lst (ms.map V.int)) ∧ (∀ m ∈ ms, Cel m) ∧ ∀ (i : Int) (ms' : List Int) (H' : Hp), Cel i → (∀ m ∈ ms', Cel m) → SB (.ref l) H H' → H' l = some (.lst (ms'.map V.int)) → Q (.int i) H'
def spSaying (n : Nat) : Sp := fun vs H Q _ => ∃ (l : Addr) (ms : List Int) (r : Int) (b : Bool), vs = [.ref l, .int r, .bl b] ∧ H l = some (.lst (ms.map V.int)) ∧ (∀ m ∈ ms, Cel m) ∧ 1 ≤ r ∧ r ≤ n ∧
  ∀ (a : Addr) (t : Tr) (ms' : List Int) (H' : Hp), (t.size : Int) ≤ r → (∀ m ∈ ms', Cel m) → SB (.ref l) H H' → H' l = some (.lst (ms'.map V.int)) → Tu H' a t → Q (.ref a) H'
def spFoldF : Sp := fun vs H Q _ => ∃ (u : W5) (n x y : Int), vs = [.str u.str, .int n, .int x, .int y] ∧ Q (.int (u.worth n x y)) H
def spWorth (k : Nat) : Sp := fun vs H Q _ => ∃ (a : Addr) (t : Tr) (n x y : Int), vs = [.ref a, .int n, .int x, .int y] ∧ Tu H a t ∧ t.size ≤ k ∧ ∀ H', Same H H' → Q (.int (t.worth n x y)) H'
def spWholeL : Sp := fun vs H Q _ => ∃ i : Int, vs = [.int i] ∧ Q (.bl true) H
def spPoint : Sp := fun vs H Q _ => ∃ i j : Int, vs = [.int i, .int j] ∧ Cel i ∧ Cel j ∧ ∀ (n x y : Int) (p : Addr) (H' : Hp), 1 ≤ n → n ≤ 10 ^ 20 → 0 ≤ x → x ≤ n → 0 ≤ y → y ≤ n → Same H H' → H' p = some (.tup [.int n, .int x, .int y]) → Q (.ref p) H'
end Mine
namespace L2
open PySem PySem.Spec PyProof.Rows
/-! ### t[lo:hi], also the whole -/
namespace HT
variable {prog : Program} {w : World} {A : Around} {E : Value → Shared → Prop} {s : Shared}
theorem item_whole {t sl : Addr} {items : Array Value} {vl vu : Value} {lo hi : Option Int} {Q : Value → Shared → Prop} (ht : IsTup s.heap t items) (hs : s.heap.IsSliceOf sl vl vu .none) (pl : IsPart vl lo) (pu : IsPart vu hi)
    (h0 : _root_.HT.sIx items.size 0 lo = 0) (h1 : _root_.HT.sIx items.size items.size hi = items.size) (h : Q (.ref t) s) : wpAny (model prog w) A (getItem (.ref t) (.ref sl)) Q E s := by
  obtain ⟨os, hos, hcs, hds⟩ := id hs
  have hTs : s.TypeIs (.ref sl) "slice" := ⟨os, hos, hcs⟩
  unfold getItem
  try with_reducible refine wpAny_holding ?_
  first | refine wpAny_bind (wpAny_pure ?_) | skip
  refine wpAny_bind (wpAny_sequenceKey ht.typeIs (by decide) ?_)
  refine wpAny_bind (wpAny_callSpecial?_slot (name := Str.ofString "__getitem__") ht.typeIs PyProof.Rows.slot_tuple_getitem
    (wpAny_call_entry PyProof.Rows.slot_tuple_getitem ht.typeIs PyProof.Rows.entry_tuple_getitem ?_ (PyProof.Rows.args_tuple_getitem _ _)))
  show wpAny _ _ (Builtin.Tuple.tupleItemsOf (.ref t) >>= _) _ _ s
  refine wpAny_bind (PyProof.Rows.tupleItemsOf_ ht ?_)
  refine wpAny_bind (wpAny_typeOf hTs ?_)
  rw [if_pos (by decide)]
  refine wpAny_bind (_root_.HT.sliceApplied_gen hs pl pu ?_)
  have yes : (((_root_.HT.sIx items.size 0 lo : Nat) : Int) == 0 && (1 : Int) == 1 && (_root_.HT.sIx items.size items.size hi - _root_.HT.sIx items.size 0 lo) == items.size) = true := by rw [h0, h1]; simp
  show wpAny _ _ (if (((_root_.HT.sIx items.size 0 lo : Nat) : Int) == 0 && (1 : Int) == 1 && (_root_.HT.sIx items.size items.size hi - _root_.HT.sIx items.size 0 lo) == items.size) = true then _ else _) _ _ s
  rw [if_pos yes]
  unfold Builtin.Tuple.tupleIsExact
  refine wpAny_bind (wpAny_bind (wpAny_typeOf ht.typeIs (wpAny_pure ?_)))
  rw [if_pos (by decide)]
  exact wpAny_bind (wpAny_rule (wpAny_pure ⟨_, rfl, wpAny_pure h⟩))
end HT
section
variable {X : Cx}
def rSlA (K : PySem.W.Frag) : V → Option Int → Option Int → Hp → VK → Prop := fun x lo hi H Q => ∃ (a : Addr) (xs : List V), x = .ref a ∧ SqT K H a xs ∧ (_root_.HT.sIx xs.length 0 lo = 0 → _root_.HT.sIx xs.length xs.length hi = xs.length → Q (.ref a) H) ∧
  (¬ (_root_.HT.sIx xs.length 0 lo = 0 ∧ _root_.HT.sIx xs.length xs.length hi = xs.length) → ∀ p, H p = none → Q (.ref p) (upd H p (.tup (cutV xs lo hi))))
theorem sl_tupA : SlR X (rSlA X.K) := by
  intro pins s σ H x v vl vu lo hi sl Q I rx hs pl pu h
  obtain ⟨a, xs, rfl, hx, q1, q2⟩ := h
  by_cases hw : _root_.HT.sIx xs.length 0 lo = 0 ∧ _root_.HT.sIx xs.length xs.length hi = xs.length
  · cases rx
    obtain ⟨its, r, ht, hz⟩ := I.tuple hx
    have hlen : its.toArray.size = xs.length := by rw [List.size_toArray]; exact r.length.symm
    refine ⟨"tuple", _, PyProof.Rows.slot_tuple_getitem.lookup, ht.typeIs, ?_⟩
    exact HT.item_whole ht hs pl pu (by rw [hlen]; exact hw.1) (by rw [hlen]; exact hw.2) ⟨.ref a, H, I, rfl, q1 hw.1 hw.2⟩
  · exact sl_tup pins s σ H (.ref a) v vl vu lo hi sl Q I rx hs pl pu ⟨a, xs, rfl, hx, hw, q2 hw⟩
end
end L2
namespace Mine
open PySem L2
theorem cut_int (ms : List Int) (lo hi : Option Int) : ∃ ms' : List Int, cutV (ms.map V.int) lo hi = ms'.map V.int ∧ ∀ m ∈ ms', m ∈ ms := by
  refine ⟨(ms.drop (_root_.HT.sIx (ms.map V.int).length 0 lo)).take (_root_.HT.sIx (ms.map V.int).length (ms.map V.int).length hi - _root_.HT.sIx (ms.map V.int).length 0 lo), ?_, fun m h => List.mem_of_mem_drop (List.mem_of_mem_take h)⟩
  unfold cutV
  rw [List.map_take, List.map_drop]
theorem mul_ok_r {a b : Int} (h : Builtin.Int.intBits b ≤ 64) : IntMulOk a b := .of_right h
theorem mul_ok_l {a b : Int} (h : Builtin.Int.intBits a ≤ 64) : IntMulOk a b := .of_left h
abbrev mixNames : List Str := ["_law_script", "_law_least", "_law_as_they_stand", "_law_made", "_law_k", "_law_cell"]
end Mine
namespace Mine
open PySem L2
abbrev sayNames : List Str := ["_law_cells", "_law_room", "_law_two", "_law_cell", "_law_turn", "_law_left", "_law_one", "_law_word"]
theorem word_at (m : Int) (h0 : 0 ≤ m) (h : m < 5) : ∃ u : W5, atI [V.str "more", .str "less", .str "greater", .str "lesser", .str "leads"] m = some (.str u.str) := by
  have hm : m = 0 ∨ m = 1 ∨ m = 2 ∨ m = 3 ∨ m = 4 := by omega
  rcases hm with rfl | rfl | rfl | rfl | rfl
  · exact ⟨.more, rfl⟩
  · exact ⟨.less, rfl⟩
  · exact ⟨.greater, rfl⟩
  · exact ⟨.lesser, rfl⟩
  · exact ⟨.leads, rfl⟩
theorem two_at {x y : V} (m : Int) (h : m = 0 ∨ m = 1) : ∃ z, atI [x, y] m = some z ∧ (z = x ∨ z = y) := by
  rcases h with rfl | rfl
  · exact ⟨x, rfl, .inl rfl⟩
  · exact ⟨y, rfl, .inr rfl⟩
theorem lst_fx {H : Hp} {l : Addr} {xs : List V} (e : H l = some (.lst xs)) : ∀ a o, V.ref l = .ref a → H a = some o → fixO o = false := fun a o z1 z2 => by cases z1; rw [e] at z2; cases z2; rfl
end Mine
namespace Mine
open PySem L2
theorem pq_p : inV (.str "p") [V.str "p", .str "q"] = true := by decide +kernel
theorem pq_q : inV (.str "q") [V.str "p", .str "q"] = true := by decide +kernel
theorem pq_not : inV (.str "not") [V.str "p", .str "q"] = false := by decide +kernel
theorem pq_w (u : W5) : inV (.str u.str) [V.str "p", .str "q"] = false := by cases u <;> decide +kernel
theorem na_ne : inV (.str "never") [V.str "never", .str "always"] = true := by decide +kernel
theorem na_al : inV (.str "always") [V.str "never", .str "always"] = true := by decide +kernel
theorem na_p : inV (.str "p") [V.str "never", .str "always"] = false := by decide +kernel
theorem na_q : inV (.str "q") [V.str "never", .str "always"] = false := by decide +kernel
theorem na_not : inV (.str "not") [V.str "never", .str "always"] = false := by decide +kernel
theorem na_w (u : W5) : inV (.str u.str) [V.str "never", .str "always"] = false := by cases u <;> decide +kernel
theorem w_ne (u : W5) : u.str ≠ "never" := by cases u <;> decide +kernel
theorem w_al (u : W5) : u.str ≠ "always" := by cases u <;> decide +kernel
theorem same_made0 {H : Hp} {C z dz : Addr} (hz : H z = none) (hd : H dz = none) : Same H (upd (upd H dz (.own z)) z (.ins C dz [])) := fun b o h => by
  rw [upd_ne (ne_of_none h hz), upd_ne (ne_of_none h hd)]
  exact h
end Mine
namespace Mine
open PySem L2
theorem tNoIf_go {σ : St} {H : Hp} {A B : Hp → Prop} (h : A H) : tNoIf σ H fun b H4 => if b = true then A H4 else B H4 := by
  show if true = true then A H else B H
  rw [if_pos rfl]
  exact h
end Mine
namespace L2
open PySem PySem.Spec PyProof.Rows
end L2
namespace Mine
open PySem L2
def spLaw (K : PySem.W.Frag) : Sp := fun vs H Q _ => ∃ (a : Addr) (ns : List Int), vs = [.ref a] ∧ Scr K H a ns ∧ ∀ H', Q (.bl true) H'
/-! ### comprehensions without a test -/
theorem comp_from {wi : TI} {tc : TT} {te : TE} {js : List Nat} {σ : St} {H : Hp} {Q : VK} (h : wi σ H fun J H1 => tComp (fun _ H R => R J H) tc te js σ H1 Q) : tComp wi tc te js σ H Q := h
theorem comp_list {K : PySem.W.Frag} {wi : TI} {te : TE} {js : List Nat} {σ : St} {H0 : Hp} {Q : VK} {xs : List V} (Src : Addr → Hp → Prop) (hwi : ∀ R : It → Hp → Prop, (∀ l H, Src l H → R (Itl K l) H) → wi σ H0 R) (hsrc : ∀ l H, Src l H → H l = some (.lst xs)) (hx : xs.length ≤ 1000)
    (Pv : Addr → Addr → Nat → List V → Hp → Prop) (h0 : ∀ l H D, Src l H → H D = none → Pv l D 0 [] (upd H D (.lst [])))
    (hs : ∀ l D i v ys H', xs[i]? = some v → l ≠ D → H' l = some (.lst xs) → H' D = some (.lst ys) → Pv l D i ys H' → ∀ N : VK, (∀ y H'', H'' l = some (.lst xs) → H'' D = some (.lst ys) → Pv l D (i + 1) (ys ++ [y]) (upd H'' D (.lst (ys ++ [y]))) → N y H'') → te (some v :: cVals js σ) H' N)
    (hd : ∀ l D ys H', H' l = some (.lst xs) → H' D = some (.lst ys) → Pv l D xs.length ys H' → Q (.ref D) H') : tComp wi tNoIf te js σ H0 Q := by
  refine hwi _ fun l H src => ?_
  intro D hD
  have e := hsrc l H src
  have nl : l ≠ D := ne_of_none e hD
  refine ⟨fun i m H' => m = xs.length - i ∧ i ≤ xs.length ∧ H' l = some (.lst xs) ∧ ∃ ys, ys.length = i ∧ H' D = some (.lst ys) ∧ Pv l D i ys H', ⟨xs.length, rfl, Nat.zero_le _, by rw [upd_ne nl]; exact e, [], rfl, upd_same, h0 l H D src hD⟩, ?_⟩
  rintro i m H2 ⟨rfl, hi, e2, ys, hy, eD, p⟩
  by_cases hlt : i < xs.length
  · refine .inr ⟨⟨xs, xs[i], SqL.of e2, by simp [hlt]⟩, fun v H3 y => ?_⟩
    obtain ⟨eh, y⟩ := y
    subst eh
    refine tNoIf_go ?_
    refine hs l D i v ys _ (y xs (SqL.of e2)) nl e2 eD p _ fun y H5 z1 z2 z3 => ?_
    exact ⟨ys, z2, Nat.lt_of_le_of_lt (show ys.length ≤ 1000 by omega) (by decide), xs.length - (i + 1), by omega, rfl, hlt, by rw [upd_ne nl]; exact z1, ys ++ [y], by rw [List.length_append, hy]; rfl, upd_same, z3⟩
  · have ei : i = xs.length := by omega
    subst ei
    exact .inl ⟨⟨xs, SqL.of e2, Nat.le_refl _⟩, hd l D ys H2 e2 eD p⟩
theorem comp_tup {K : PySem.W.Frag} {wi : TI} {te : TE} {js : List Nat} {σ : St} {H0 : Hp} {Q : VK} {xs : List V} (Src : Addr → Hp → Prop) (hwi : ∀ R : It → Hp → Prop, (∀ l H, Src l H → R (Itt K l) H) → wi σ H0 R) (hsrc : ∀ l H, Src l H → H l = some (.tup xs)) (hx : xs.length ≤ 1000)
    (Pv : Addr → Addr → Nat → List V → Hp → Prop) (h0 : ∀ l H D, Src l H → H D = none → Pv l D 0 [] (upd H D (.lst [])))
    (hs : ∀ l D i v ys H', xs[i]? = some v → l ≠ D → H' l = some (.tup xs) → H' D = some (.lst ys) → Pv l D i ys H' → ∀ N : VK, (∀ y H'', H'' l = some (.tup xs) → H'' D = some (.lst ys) → Pv l D (i + 1) (ys ++ [y]) (upd H'' D (.lst (ys ++ [y]))) → N y H'') → te (some v :: cVals js σ) H' N)
    (hd : ∀ l D ys H', H' l = some (.tup xs) → H' D = some (.lst ys) → Pv l D xs.length ys H' → Q (.ref D) H') : tComp wi tNoIf te js σ H0 Q := by
  refine hwi _ fun l H src => ?_
  intro D hD
  have e := hsrc l H src
  have nl : l ≠ D := ne_of_none e hD
  refine ⟨fun i m H' => m = xs.length - i ∧ i ≤ xs.length ∧ H' l = some (.tup xs) ∧ ∃ ys, ys.length = i ∧ H' D = some (.lst ys) ∧ Pv l D i ys H', ⟨xs.length, rfl, Nat.zero_le _, by rw [upd_ne nl]; exact e, [], rfl, upd_same, h0 l H D src hD⟩, ?_⟩
  rintro i m H2 ⟨rfl, hi, e2, ys, hy, eD, p⟩
  by_cases hlt : i < xs.length
  · refine .inr ⟨⟨xs, xs[i], SqT.of e2, by simp [hlt]⟩, fun v H3 y => ?_⟩
    obtain ⟨eh, y⟩ := y
    subst eh
    refine tNoIf_go ?_
    refine hs l D i v ys _ (y xs (SqT.of e2)) nl e2 eD p _ fun y H5 z1 z2 z3 => ?_
    exact ⟨ys, z2, Nat.lt_of_le_of_lt (show ys.length ≤ 1000 by omega) (by decide), xs.length - (i + 1), by omega, rfl, hlt, by rw [upd_ne nl]; exact z1, ys ++ [y], by rw [List.length_append, hy]; rfl, upd_same, z3⟩
  · have ei : i = xs.length := by omega
    subst ei
    exact .inl ⟨⟨xs, SqT.of e2, Nat.le_refl _⟩, hd l D ys H2 e2 eD p⟩
theorem comp_mapT {α : Type} {K : PySem.W.Frag} {wi : TI} {te : TE} {js : List Nat} {σ : St} {H : Hp} {Q : VK} {xs : List V} {ts : List α} {R : Hp → V → α → Prop} (g : α → V) (hR : ∀ H H' v t, Same H H' → R H v t → R H' v t) (Src : Addr → Hp → Prop)
    (hwi : ∀ R : It → Hp → Prop, (∀ l H, Src l H → R (Itt K l) H) → wi σ H R) (hsrc : ∀ l H', Src l H' → H' l = some (.tup xs) ∧ Same H H') (hx : xs.length ≤ 1000) (o : All2 (R H) xs ts)
    (hs : ∀ v t H' (N : VK), t ∈ ts → R H' v t → (∀ H'', Same H' H'' → N (g t) H'') → te (some v :: cVals js σ) H' N) (hd : ∀ D H', Same H H' → H D = none → H' D = some (.lst (ts.map g)) → Q (.ref D) H') : tComp wi tNoIf te js σ H Q := by
  refine comp_tup Src hwi (fun l H src => (hsrc l H src).1) hx (fun l D i ys H' => H D = none ∧ Same H H' ∧ ys = (ts.take i).map g) (fun l H' D src hD => ⟨(hsrc l H' src).2.free hD, (hsrc l H' src).2.trans (same_new hD _), rfl⟩) (fun l D i v ys H' hv nl el eD h N hN => ?_) (fun l D ys H' el eD h => ?_)
  · obtain ⟨hD, sm, rfl⟩ := h
    obtain ⟨t, ht, hr⟩ := o.get i v hv
    refine hs v t H' N (List.mem_of_getElem? ht) (hR _ _ _ _ sm hr) fun H'' s2 => hN _ _ (s2 _ _ el) (s2 _ _ eD) ⟨hD, fun d u z => ?_, ?_⟩
    · rw [upd_ne (ne_of_none z hD)]
      exact s2 _ _ (sm _ _ z)
    · rw [List.take_add_one, ht, List.map_append]
      rfl
  · obtain ⟨hD, sm, rfl⟩ := h
    refine hd D H' sm hD ?_
    rw [o.len, List.take_length] at eD
    exact eD

end Mine
namespace Mine
open PySem L2
theorem w_not (u : W5) : u.str ≠ "not" := by cases u <;> decide +kernel
theorem cel_mul {i j : Int} (hi : Builtin.Int.intBits i ≤ 1048577) (hj : Builtin.Int.intBits j ≤ 1048577) : IntMulOk i j := by
  unfold IntMulOk
  have z : Builtin.Int.intTooBig ((Builtin.Int.intBits i : Int) + (Builtin.Int.intBits j : Int)) = false := by
    unfold Builtin.Int.intTooBig
    refine decide_eq_false ?_
    have : (bitsLine : Int) = 134217728 := by decide
    omega
  simp [z]
theorem bits_div {j : Int} (h : Cel j) : Builtin.Int.intBits (j / 7) ≤ 1048577 := by
  obtain ⟨h0, hb⟩ := h
  have hle : (j / 7).natAbs ≤ j.natAbs := by omega
  unfold Builtin.Int.intBits at hb ⊢
  by_cases z : j / 7 = 0
  · rw [if_pos (by simpa using z)]; omega
  · have z' : j ≠ 0 := fun e => z (by rw [e]; rfl)
    rw [if_neg (by simpa using z)]
    rw [if_neg (by simpa using z')] at hb
    have hl : (j / 7).natAbs.log2 ≤ j.natAbs.log2 := by
      by_cases q0 : (j / 7).natAbs = 0
      · exact absurd (Int.natAbs_eq_zero.mp q0) z
      · exact (Nat.le_log2 (by omega)).mpr (Nat.le_trans (Nat.log2_self_le q0) hle)
    omega
theorem bits_succ {i : Int} (h : Cel i) : Builtin.Int.intBits (i + 1) ≤ 1048577 := by
  obtain ⟨h0, hb⟩ := h
  unfold Builtin.Int.intBits at hb ⊢
  rw [if_neg (by simp; omega)]
  by_cases z : i = 0
  · subst z; decide
  · rw [if_neg (by simpa using z)] at hb
    have hlt : i.natAbs < 2 ^ 1048576 := (Nat.log2_lt (by omega)).mp (by omega)
    have : (i + 1).natAbs < 2 ^ 1048577 := by
      rw [show (1048577 : Nat) = 1048576 + 1 from rfl, Nat.pow_succ]
      have : (i + 1).natAbs = i.natAbs + 1 := by omega
      have : 0 < 2 ^ 1048576 := Nat.two_pow_pos _
      omega
    have := (Nat.log2_lt (show (i + 1).natAbs ≠ 0 by omega)).mpr this
    omega
end Mine


set_option Elab.async false
set_option linter.all false
set_option maxRecDepth 100000
set_option maxHeartbeats 4000000
namespace Mine
open PySem L2
/-! ### rows: a word and numbers of rows ahead -/
abbrev Rw := List Key
def rowK (x : Str) (is : List Nat) : Rw := .inr x :: is.map fun i : Nat => .inl (i : Int)
def idx (rs : List Rw) (r : Rw) : Option Nat := match rs with
  | [] => none
  | x :: t => if x = r then some 0 else (idx t r).map (· + 1)
def pushRow (rs : List Rw) (r : Rw) : List Rw × Nat := match idx rs r with
  | some i => (rs, i)
  | none => (rs ++ [r], rs.length)
theorem idx_lt : ∀ {rs : List Rw} {r : Rw} {i : Nat}, idx rs r = some i → i < rs.length
  | [], _, _, h => by cases h
  | x :: t, r, i, h => by
    unfold idx at h
    split at h
    · cases h; simp
    · cases e : idx t r with
      | none => rw [e] at h; cases h
      | some j => rw [e] at h; cases h; have := idx_lt e; simp; omega
theorem idx_at : ∀ {rs : List Rw} {r : Rw} {i : Nat}, idx rs r = some i → rs[i]? = some r
  | [], _, _, h => by cases h
  | x :: t, r, i, h => by
    unfold idx at h
    split at h
    · rename_i z; cases h; simp [z]
    · cases e : idx t r with
      | none => rw [e] at h; cases h
      | some j => rw [e] at h; cases h; have := idx_at e; simpa using this
theorem idx_app {rs : List Rw} {r s : Rw} : idx (rs ++ [r]) s = match idx rs s with | some i => some i | none => if r = s then some rs.length else none := by
  induction rs with
  | nil =>
    show (if r = s then some 0 else (idx [] s).map (· + 1)) = if r = s then some 0 else none
    rfl
  | cons x t ih =>
    show (if x = s then some 0 else (idx (t ++ [r]) s).map (· + 1)) = _
    by_cases z : x = s
    · rw [if_pos z]
      show _ = match (if x = s then some 0 else (idx t s).map (· + 1)) with | some i => some i | none => _
      rw [if_pos z]
    · rw [if_neg z, ih]
      show _ = match (if x = s then some 0 else (idx t s).map (· + 1)) with | some i => some i | none => if r = s then some (t.length + 1) else none
      rw [if_neg z]
      cases idx t s with
      | some i => rfl
      | none =>
        show (if r = s then some t.length else none).map (· + 1) = if r = s then some (t.length + 1) else none
        split <;> rfl
theorem push_len (rs : List Rw) (r : Rw) : (pushRow rs r).1.length ≤ rs.length + 1 := by
  unfold pushRow
  cases idx rs r <;> simp
def Tr.putR : Tr → List Rw → List Rw × Nat
  | .no t, rs => pushRow (t.putR rs).1 (rowK "not" [(t.putR rs).2])
  | .fold w a b, rs => pushRow (b.putR (a.putR rs).1).1 (rowK w.str [(a.putR rs).2, (b.putR (a.putR rs).1).2])
  | .never, rs => pushRow rs (rowK "never" [])
  | .always, rs => pushRow rs (rowK "always" [])
  | .lp, rs => pushRow rs (rowK "p" [])
  | .lq, rs => pushRow rs (rowK "q" [])
def Tr.rows (t : Tr) : List Rw := (t.putR []).1
theorem putR_len : ∀ (t : Tr) (rs : List Rw), (t.putR rs).1.length ≤ rs.length + t.size
  | .no t, rs => by
    have := putR_len t rs
    have := push_len (t.putR rs).1 (rowK "not" [(t.putR rs).2])
    simp only [Tr.putR, Tr.size]; omega
  | .fold w a b, rs => by
    have := putR_len a rs
    have := putR_len b (a.putR rs).1
    have := push_len (b.putR (a.putR rs).1).1 (rowK w.str [(a.putR rs).2, (b.putR (a.putR rs).1).2])
    simp only [Tr.putR, Tr.size]; omega
  | .never, rs => push_len _ _
  | .always, rs => push_len _ _
  | .lp, rs => push_len _ _
  | .lq, rs => push_len _ _
/-- one part more: its numbers from the end of what waits -/
def rstep (s : List Rw × List Nat) (x : Tr) : Option (List Rw × List Nat) :=
  if s.2.length < x.kids.length then none else
    some ((pushRow s.1 (rowK x.word (s.2.take x.kids.length).reverse)).1, (pushRow s.1 (rowK x.word (s.2.take x.kids.length).reverse)).2 :: s.2.drop x.kids.length)
def rrun : List Rw × List Nat → List Tr → Option (List Rw × List Nat)
  | s, [] => some s
  | s, t :: r => (rstep s t).bind fun s' => rrun s' r
theorem rrun_post : ∀ (t : Tr) (rs : List Rw) (st : List Nat) (r : List Tr), rrun (rs, st) (t.post ++ r) = rrun ((t.putR rs).1, (t.putR rs).2 :: st) r
  | .no t, rs, st, r => by
    show rrun (rs, st) (t.post ++ [.no t] ++ r) = _
    rw [List.append_assoc, rrun_post t rs st]
    rfl
  | .fold w a b, rs, st, r => by
    show rrun (rs, st) (a.post ++ b.post ++ [.fold w a b] ++ r) = _
    rw [List.append_assoc, List.append_assoc, rrun_post a rs st, rrun_post b _ _]
    rfl
  | .never, rs, st, r => rfl
  | .always, rs, st, r => rfl
  | .lp, rs, st, r => rfl
  | .lq, rs, st, r => rfl
theorem rrun_all (t : Tr) : rrun ([], []) t.post = some (t.rows, [(t.putR []).2]) := by
  have h := rrun_post t [] [] []
  rw [List.append_nil] at h
  rw [h]
  rfl
theorem rrun_cons {s Z : List Rw × List Nat} {t : Tr} {r : List Tr} (h : rrun s (t :: r) = some Z) : ∃ s', rstep s t = some s' ∧ rrun s' r = some Z := by
  unfold rrun at h
  cases e : rstep s t with
  | none => rw [e] at h; cases h
  | some s' => rw [e] at h; exact ⟨s', rfl, h⟩
theorem rstep_is {s s' : List Rw × List Nat} {x : Tr} (h : rstep s x = some s') : x.kids.length ≤ s.2.length ∧ s' = ((pushRow s.1 (rowK x.word (s.2.take x.kids.length).reverse)).1, (pushRow s.1 (rowK x.word (s.2.take x.kids.length).reverse)).2 :: s.2.drop x.kids.length) := by
  unfold rstep at h
  split at h
  · cases h
  · exact ⟨by omega, (Option.some.inj h).symm⟩
theorem catT_any {K : PySem.W.Frag} {H : Hp} {a b : Addr} {xs ys : List V} {Q : VK} (ea : H a = some (.tup xs)) (eb : H b = some (.tup ys)) (nx : xs ≠ []) (hz : xs.length + ys.length ≤ sizeLine) (h : ∀ p H', Same H H' → H' p = some (.tup (xs ++ ys)) → Q (.ref p) H') : rCatT K (.ref a) (.ref b) H Q := by
  refine ⟨a, b, xs, ys, rfl, rfl, SqT.of ea, SqT.of eb, nx, hz, fun z => ?_, fun _ p hp => h p _ (same_new hp _) upd_same⟩
  refine h a H (Same.refl _) ?_
  rw [z, List.append_nil]
  exact ea
/-- a row as a tuple on the heap -/
abbrev RwV (H : Hp) (v : V) (r : Rw) : Prop := ∃ a, v = .ref a ∧ H a = some (.tup (r.map kV))
theorem RwV.to {H H' : Hp} (e : Kp H H') (v : V) (r : Rw) (h : RwV H v r) : RwV H' v r := by
  obtain ⟨a, z, o⟩ := h
  exact ⟨a, z, e _ _ o rfl⟩
theorem rowK_kV (x : Str) (is : List Nat) : (rowK x is).map kV = V.str x :: is.map fun i : Nat => V.int (i : Int) := by
  unfold rowK
  rw [List.map_cons, List.map_map]
  rfl
/-- the dict of places -/
def PlO (kvs : List (Rw × V)) (rs : List Rw) : Prop := kvs.length = rs.length ∧ ∀ k, valV kvs k = (idx rs k).map fun i : Nat => V.int (i : Int)
theorem PlO.nil : PlO [] [] := ⟨rfl, fun _ => rfl⟩
theorem PlO.put {kvs : List (Rw × V)} {rs : List Rw} {r : Rw} (h : PlO kvs rs) (n : idx rs r = none) : PlO (putK kvs r (.int (rs.length : Int))) (rs ++ [r]) := by
  have hv : valV kvs r = none := by rw [h.2 r, n]; rfl
  refine ⟨by rw [putK_new _ hv, List.length_append, List.length_append, h.1]; rfl, fun k => ?_⟩
  rw [valV_put, idx_app]
  by_cases e : k = r
  · subst e
    rw [if_pos rfl, n]
    show _ = (if k = k then some rs.length else none).map _
    rw [if_pos rfl]; rfl
  · rw [if_neg e, h.2 k]
    cases idx rs k with
    | some i => rfl
    | none =>
      show _ = (if r = k then some rs.length else none).map _
      rw [if_neg fun z => e z.symm]
def spRowsOf (c : CCs) : Sp := fun vs H Q _ => ∃ (a : Addr) (t : Tr), vs = [.ref a] ∧ Ob c H a t ∧ t.size ≤ 1000 ∧ ∀ l us H', Same H H' → H l = none → H' l = some (.lst us) → All2 (RwV H') us t.rows → Q (.ref l) H'
end Mine


set_option Elab.async false
set_option linter.all false
set_option maxRecDepth 100000
set_option maxHeartbeats 4000000
namespace L2
open PySem PySem.Spec PyProof.Rows
section
variable {X : Cx} {pins : List (Addr × Obj)} {σ : St} {H H' : Hp} {s s' : Shared} {h' : Heap}
/-- several records of ours have turned -/
theorem Inv.turnedL {t' : Nat} {fp : List Addr} (I : Inv X pins σ H s) (kp : ∀ b o, b ∉ fp → s.heap.get? b = some o → h'.get? b = some o) (hf : ∀ b ∈ fp, FpOk X pins H b) : Inv X pins σ H { s with heap := h', toks := t' } := by
  have far : ∀ b u, H b = some u → b ∉ fp := fun b u e z => by
    have := (hf b z).1
    rw [e] at this; cases this
  refine I.step (ch := fp) (g' := s.gens) (d' := s.drawn) (fun b hb => ⟨(hf b hb).2.2.2.1, (hf b hb).2.1, (hf b hb).2.2.2.2.1, (hf b hb).2.2.2.2.2⟩) (fun b o _ _ hc e _ => kp b o hc e) (fun b o _ _ hc e _ => ⟨o.slots, kp b o hc e⟩) (fun _ _ _ _ n => n)
    (fun b o hc e => ⟨o, kp b o hc e⟩) (fun _ _ e => e) (fun _ _ _ e => e) (fun b ps e => ⟨#[], by rw [e]; simp⟩) (fun m hm => ?_) (fun b u e => ?_) I.bare
  · obtain ⟨o, es, ep, ho, r⟩ := hm
    exact ⟨o, es, ep, kp _ o (fun z => (hf _ z).2.1 rfl) ho, r⟩
  · exact (I.hok b u e).stay (fun c v hc q => kp c v (hc.elim (fun z => by rw [z]; exact far b u e) fun z => far c _ z) q) (fun _ q => q) fun _ _ q => q
/-- what lies there untracked is tracked from now on -/
theorem Inv.trackO {a : Addr} {o : HO} (I : Inv X pins σ H s) (n : H a = none) (new : X.s₀.heap.get? a = none) (hL : a ≠ X.env.locals) (hc : ∀ x c, X.env.cells.lookup x = some c → c ≠ a) (hp : ∀ p ∈ X.pn ++ pins, p.1 ≠ a)
    (p : ObjOk X.prog X.w (upd H a o) s.heap a o) : Inv X pins σ (upd H a o) s :=
  ⟨I.ok, I.os, I.bare, ⟨I.base.keep, I.base.slot, fun b o e z hx => by rw [upd_ne (fun q => by rw [q, new] at e; cases e)]; exact I.base.free b o e z hx, I.base.there,
      fun b xs e => by have q := I.base.tups b xs e; rw [upd_ne (ne_of_none q n)]; exact q, fun b o u e => by have q := I.base.frzs b o u e; rw [upd_ne (ne_of_none q n)]; exact q,
      fun b ps e => by obtain ⟨m, q⟩ := I.base.tbls b ps e; exact ⟨m, by rw [upd_ne (ne_of_none q n)]; exact q⟩⟩,
    I.loc, I.cell, by rw [upd_ne (Ne.symm hL)]; exact I.free, fun x c e => by rw [upd_ne (hc x c e)]; exact I.freeC x c e,
    fun q hq => by obtain ⟨a1, a2, a3⟩ := I.pin q hq; exact ⟨a1, by rw [upd_ne (hp q hq)]; exact a2, a3⟩,
    fun b u e => by
      by_cases hb : b = a
      · subst hb
        rw [upd_same] at e
        cases e
        exact p
      · rw [upd_ne hb] at e
        exact (I.hok b u e).stay (fun _ _ _ z => z) (fun c z => by rw [upd_ne (ne_of_none z n)]; exact z) fun c xs z => by rw [upd_ne (ne_of_none z n)]; exact z,
    I.len⟩
end

/-! ### what yields a new tuple at each turn -/
/-- src: what stands in the tuple of turn i -/
def ItT (go : Nat → Hp → Prop) (src : Nat → Hp → List V → Prop) (n : Nat → Hp → Prop) : It :=
  ⟨go, fun i H v H' => ∃ (T : Addr) (vs : List V), H T = none ∧ v = .ref T ∧ H' = upd H T (.tup vs) ∧ src i H vs, n⟩
/-- one turn, by the library's walk that yields tuples -/
theorem turn_item {X : Cx} {elts : List Expr} {kk : Nat} {tpos : Pos} {I₀ : Addr} {fp' wr fp : List Addr} {n : Nat} {Pt : Nat → Array Value → Prop} {St : Nat → Heap → Prop} {Mid : Nat → Addr → Heap → Prop} (W : WalksT X.prog X.w X.A I₀ fp' wr n Pt St Mid)
    {pins : List (Addr × Obj)} {s : Shared} {σ : L2.St} {H : Hp} {E : Value → Shared → Prop} {i : Nat} {vs : List V} {src : Nat → Hp → List V → Prop} {tn : Nat → Heap → Prop} (I : Inv X pins σ H s) (hf : ∀ b ∈ fp, FpOk X pins H b) (hob : ∀ b ∈ fp, ∃ o, s.heap.get? b = some o) (hw : ∀ b ∈ wr, b ∈ fp) (hi : i < n) (st : St i s.heap)
    (hv : ∀ vals, Pt i vals → Vals vs vals.toList) (hz : vs.length ≤ sizeLine) (hsrc : src i H vs) (htn : ∀ h, St (i + 1) h → tn (i + 1) h) {gop stp : Nat → Hp → Prop} :
    wpAny (model X.prog X.w) X.A (pyNext (.ref I₀)) (fun r s1 => ∃ u, r = some u ∧
      wpAny (model X.prog X.w) X.A (letOwnedTupleGo (.Tuple elts kk tpos) (.ref I₀) u) (fun _ s2 => ∃ x H', Inv X pins σ H' s2 ∧ RelV x u ∧ (ItT gop src stp).yld i H x H' ∧ tn (i + 1) s2.heap ∧ ∀ b ∈ fp, H' b = none) E s1) E s := by
  refine W.item i s _ _ hi st fun T vals h1 tk hP hT hTup hM kp => ?_
  refine ⟨.ref T, rfl, W.go elts kk tpos i T { s with heap := h1, toks := tk } _ _ hM fun h2 hst kp2 => ?_⟩
  have I1 : Inv X pins σ H { s with heap := h2, toks := tk } := I.turnedL (fun b o hb e => kp2 b o (fun z => hb (hw b z)) (kp b o (fun z => hb (hw b z)) e)) hf
  have nT : H T = none := I.hok.fresh hT
  have tup : h2.IsTuple T vals := by
    obtain ⟨o, e, r⟩ := hTup
    exact ⟨o, kp2 T o (W.apart i T h1 hM) e, r⟩
  have new : X.s₀.heap.get? T = none := by
    cases z : X.s₀.heap.get? T with
    | none => rfl
    | some o => exact absurd (Nat.lt_of_lt_of_le (Heap.lt_size z) (Nat.le_trans I.sz hT)) (Nat.lt_irrefl _)
  refine ⟨.ref T, upd H T (.tup vs), I1.trackO nT new (Nat.ne_of_gt (Nat.lt_of_lt_of_le I.lt hT)) (fun x c e z => ?_) (fun p hp z => ?_) ⟨hz, vals.toList, hv vals hP, (by rw [Array.toArray_toList]; exact tup)⟩, rfl, ⟨T, vs, nT, rfl, rfl, hsrc⟩, htn _ hst, fun b hb => ?_⟩
  · obtain ⟨v, o, ho, _⟩ := I.cell x c e
    exact absurd (Nat.lt_of_lt_of_le (Heap.lt_size ho) (by rw [z]; exact hT)) (Nat.lt_irrefl _)
  · exact absurd (Nat.lt_of_lt_of_le (Heap.lt_size (I.pin p hp).1) (by rw [z]; exact hT)) (Nat.lt_irrefl _)
  · have e0 := (hf b hb).1
    obtain ⟨o, ho⟩ := hob b hb
    have bT : b ≠ T := fun z => absurd (Nat.lt_of_lt_of_le (Heap.lt_size ho) (by rw [z]; exact hT)) (Nat.lt_irrefl _)
    rw [upd_ne bT]
    exact e0
/-! ### enumerate of a list -/
def srcE (K : PySem.W.Frag) (a : Addr) : Nat → Hp → List V → Prop := fun i H vs => ∃ x, vs = [.int i, x] ∧ ∀ xs, SqL K H a xs → xs[i]? = some x
def ItE (K : PySem.W.Frag) (a : Addr) : It := ItT (fun i H => ∃ xs x, SqL K H a xs ∧ xs[i]? = some x) (srcE K a) fun i H => ∃ xs, SqL K H a xs ∧ xs.length ≤ i
theorem isList_ne {h : Heap} {a b : Addr} {its : Array Value} {o : Obj} {T : String} (l : h.IsList a its) (e : h.get? b = some o) (c : o.cls = .type T) (n : T ≠ "list") : a ≠ b := fun z => by
  obtain ⟨o', e', c', _⟩ := l
  rw [z, e] at e'
  cases e'
  rw [c] at c'
  exact n (Value.type.inj c')
theorem turn_enum {P : Program} {w : World} {K : PySem.W.Frag} {elts : List Expr} {kk : Nat} {tpos : Pos} (a e it : Addr) (hei : e ≠ it) :
    Turn P w K (.Tuple elts kk tpos) (ItE K a) [e, it] e (fun i h => (∃ old, IsEnum h e it i old) ∧ h.IsListIter it a i) where
  mem := by simp
  obj := fun i h st b hb => by
    obtain ⟨⟨old, he⟩, o, ho, _, hd⟩ := st
    rcases List.mem_cons.mp hb with rfl | hb
    · exact ⟨_, he, fun v z => by cases z⟩
    · rw [List.mem_singleton.mp hb]
      exact ⟨o, ho, fun v z => by rw [hd] at z; cases z⟩
  keep := fun i h h' st k => by
    obtain ⟨⟨old, he⟩, l⟩ := st
    exact ⟨⟨old, k e (by simp) _ he⟩, l.at fun o z => k it (by simp) o z⟩
  item := by
    intro X hP hw hK hc i pins s σ H E I hf st hg
    subst hP hw hK
    obtain ⟨xs, x, hq, hx⟩ := hg
    obtain ⟨its, rv, p, hz⟩ := I.list hq
    obtain ⟨u, hu, ru⟩ := rv.get hx
    obtain ⟨⟨old, he⟩, hit⟩ := st
    have hL := p.isList
    have ne1 : a ≠ e := isList_ne hL he rfl (by decide)
    have ne2 : a ≠ it := by
      obtain ⟨o, ho, hc', _⟩ := id hit
      exact isList_ne hL ho hc' (by decide)
    have W := WalksT.enumerateD (A := X.A) (Draws.list (prog := X.prog) (w := X.w) (A := X.A.in1) (I.ok.hd hc) it a ne2 its.toArray) e hei (by simp; exact ⟨hei, Ne.symm ne1⟩) (by simp)
    refine turn_item (fp := [e, it]) (vs := [.int i, x]) (src := srcE X.K a) (tn := fun i h => (∃ old, IsEnum h e it i old) ∧ h.IsListIter it a i) W I hf (fun b hb => ?_) (fun b hb => hb) (by have := (List.getElem?_eq_some_iff.mp hu).1; simpa using this) ⟨⟨old, he⟩, hit, hL⟩ (fun vals hP => ?_) (by show 2 ≤ sizeLine; decide) ⟨x, rfl, fun ys hy => by rw [I.list_inj hy hq]; exact hx⟩ fun h st => ⟨?_, st.2.1⟩
    · rcases List.mem_cons.mp hb with rfl | hb
      · exact ⟨_, he⟩
      · rw [List.mem_singleton.mp hb]
        obtain ⟨o, ho, _⟩ := id hit
        exact ⟨o, ho⟩
    · obtain ⟨t, y, hy, rfl⟩ := hP
      have ey : y = u := by
        have : its[i]? = some y := by simpa using hy
        rw [hu] at this
        exact (Option.some.inj this).symm
      subst ey
      exact .cons ⟨t, rfl⟩ (.cons ru .nil)
    · obtain ⟨old', z⟩ := st.1
      exact ⟨old', z⟩
  done := by
    intro X hP hw hK hc i pins s σ H E I hf st hg
    subst hP hw hK
    obtain ⟨xs, hq, hx⟩ := hg
    obtain ⟨its, rv, p, hz⟩ := I.list hq
    obtain ⟨⟨old, he⟩, hit⟩ := st
    have hl := rv.length
    obtain ⟨f0, f1, f2, f3, f4, f5⟩ := hf it (by simp)
    exact wpAny_pyNext_enum_end (I.ok.hd hc) he hit p.isList (by simp; omega) fun h' eb => ⟨rfl, I.turned (t' := s.toks) (fun b o hb e => eb b o hb e) f0 f1 f3 f4 f5⟩
  self := fun _ _ _ _ _ st h => by
    obtain ⟨⟨old, he⟩, _⟩ := st
    exact wpAny_pyIter_enum he h
section
variable {X : Cx}
def iEnum (K : PySem.W.Frag) (tl : TE) : TI := fun σ H R => tl σ H fun x H1 => ∃ a, x = .ref a ∧ (∃ xs, SqL K H1 a xs) ∧ R (ItE K a) H1
theorem pi_enum {elts : List Expr} {kk : Nat} {tpos p pos : Pos} {e : Expr} {te : TE} (hg : Gl X "enumerate") (hm : X.mg "enumerate" = none) (he : PE X e te)
    (hs : starEach [e] X.env = [(false, eval e X.env)] := by rfl) : PI X (.Tuple elts kk tpos) (.Call (.Name "enumerate" p) [e] [] pos) (iEnum X.K te) := by
  intro pins s σ H R I h
  have b1 : bootBuiltins "enumerate" = some (.type "enumerate") := by decide +kernel
  refine wpAny_Call_Name_kw (ld_blt I hg hm b1 ?_ (by decide) (by decide))
  refine PyProof.Rows.callWith_type1 ?_ hs (by rfl)
  rw [hs]
  refine Calls.spliced_cons (thn (he pins s σ H _ I h) fun u s1 ⟨y, H1, I1, ry, a, ey, ⟨xs, hq⟩, q⟩ => ?_)
  subst ey
  have eu : u = Value.ref a := ry
  subst eu
  refine Calls.spliced_nil ?_
  obtain ⟨its, rv, pl, hz⟩ := I1.list hq
  refine call_enumerate_list pl.isList fun h' e1 e2 e3 kp => ?_
  have I2 : Inv X pins σ H1 { s1 with heap := h' } := I1.kept (t' := s1.toks) kp
  refine wpAny_pyIter_enum (s := { s1 with heap := h' }) e1 ?_
  refine ⟨_, [s1.heap.objs.size + 1, s1.heap.objs.size], _, ItE X.K a, H1, rfl, I2, turn_enum a _ _ (Nat.ne_of_gt (Nat.lt_succ_self _)), ⟨⟨_, e1⟩, e2⟩, fun b hb => ?_, q⟩
  have nb : s1.heap.objs.size ≤ b := by
    rcases List.mem_cons.mp hb with rfl | hb
    · exact Nat.le_succ _
    · rw [List.mem_singleton.mp hb]; exact Nat.le_refl _
  exact I1.fpOk nb (I1.hok.fresh nb)
end
/-- over a list that the body leaves as it is, with the turns' numbers -/
theorem for_enum {K : PySem.W.Frag} {a : Addr} {xs : List V} {g : TG} {tb : TS} {D : Ends} {σ : St} {H : Hp} (Pv : Nat → St → Hp → Prop) (h0 : Pv 0 σ H) (hl : ∀ i σ H, i ≤ xs.length → Pv i σ H → SqL K H a xs)
    (hs : ∀ i x T σ H, xs[i]? = some x → Pv i σ H → H T = none → g (.ref T) σ (upd H T (.tup [.int i, x])) fun σ2 H2 => tb { D with nx := Pv (i + 1), ct := Pv (i + 1), bk := D.nx } σ2 H2) (hd : ∀ σ H, Pv xs.length σ H → D.nx σ H) :
    ∃ W : Nat → Nat → St → Hp → Prop, (∃ m, W 0 m σ H) ∧ ∀ i m σ H, W i m σ H →
      ((ItE K a).stop i H ∧ D.nx σ H) ∨ ((ItE K a).go i H ∧ ∃ N : St → Hp → Prop, (∀ σ' H', N σ' H' → ∃ m', m' < m ∧ W (i + 1) m' σ' H') ∧ ∀ x H', (ItE K a).yld i H x H' → g x σ H' fun σ2 H2 => tb { D with nx := N, ct := N, bk := D.nx } σ2 H2) := by
  refine ⟨fun i m σ H => m = xs.length - i ∧ i ≤ xs.length ∧ Pv i σ H, ⟨xs.length, by simp, Nat.zero_le _, h0⟩, ?_⟩
  rintro i m σ H ⟨rfl, hi, p⟩
  have q := hl i σ H hi p
  by_cases hlt : i < xs.length
  · refine .inr ⟨⟨xs, xs[i], q, by simp [hlt]⟩, Pv (i + 1), fun σ' H' p' => ⟨xs.length - (i + 1), by omega, rfl, hlt, p'⟩, fun x H' y => ?_⟩
    obtain ⟨T, vs, nT, rfl, rfl, x, rfl, hx⟩ := y
    exact hs i x T σ H (hx xs q) p nT
  · have e : i = xs.length := by omega
    subst e
    exact .inl ⟨⟨xs, q, Nat.le_refl _⟩, hd σ H p⟩
end L2


set_option Elab.async false
set_option linter.all false
set_option maxRecDepth 100000
set_option maxHeartbeats 4000000
namespace L2
open PySem PySem.Spec PyProof.Rows PySem.AutoSeq1
/-! ### enumerate of a tuple -/
section
variable {prog : Program} {w : World} {A : Around} {E : Value → Shared → Prop} {s : Shared}
end
section
variable {X : Cx}
end
end L2


set_option Elab.async false
set_option linter.all false
set_option maxRecDepth 100000
set_option maxHeartbeats 4000000
namespace L2
open PySem PySem.Spec PyProof.Rows
/-! ### zip of two lists -/
section
variable {X : Cx}
end
end L2


set_option Elab.async false
set_option linter.all false
set_option maxRecDepth 100000
set_option maxHeartbeats 4000000
namespace L2
open PySem PySem.Spec PyProof.Rows
/-! ### list.insert at a place that is not below nought -/
section
variable {X : Cx}
end
end L2


set_option Elab.async false
set_option linter.all false
set_option maxRecDepth 100000
set_option maxHeartbeats 4000000
namespace L2
open PySem PySem.Spec PyProof.Rows
/-! ### in and not in, of data in a list -/
section
variable {X : Cx}
end
end L2


set_option Elab.async false
set_option linter.all false
set_option maxRecDepth 100000
set_option maxHeartbeats 4000000
namespace L2
open PySem PySem.Spec PyProof.Rows
section
variable {X : Cx}
/-! ### l.index(x) of data -/
end
end L2


set_option Elab.async false
set_option linter.all false
set_option maxRecDepth 100000
set_option maxHeartbeats 4000000
namespace Mine
open PySem L2
/-! ### rows as data -/
end Mine


set_option Elab.async false
set_option linter.all false
set_option maxRecDepth 100000
set_option maxHeartbeats 4000000
namespace Mine
open PySem L2
/-! ### rows by their kinds -/
inductive Gr where
  | ne | al | p | q
  | no (i : Nat)
  | fold (u : W5) (i j : Nat)
def Gr.word : Gr → Str
  | .ne => "never" | .al => "always" | .p => "p" | .q => "q" | .no _ => "not" | .fold u _ _ => u.str
def Gr.nums : Gr → List Nat
  | .no i => [i]
  | .fold _ i j => [i, j]
  | _ => []
def Gr.rw (g : Gr) : Rw := rowK g.word g.nums
/-- each of rows ahead -/
def GrOk (k : Nat) (g : Gr) : Prop := ∀ i ∈ g.nums, i < k
def GrsOk (gs : List Gr) : Prop := ∀ k g, gs[k]? = some g → GrOk k g
theorem Gr.len (g : Gr) : g.nums.length ≤ 2 := by cases g <;> simp [Gr.nums]
/-- a row's worth by those of the rows ahead -/
def Gr.worth (n x y : Int) (ws : List Int) : Gr → Int
  | .ne => 0 | .al => n | .p => x | .q => y
  | .no i => n - ws.getD i 0
  | .fold u i j => u.worth n (ws.getD i 0) (ws.getD j 0)
def worthsG (n x y : Int) : List Gr → List Int → List Int
  | [], ws => ws
  | g :: r, ws => worthsG n x y r (ws ++ [g.worth n x y ws])
def lastG (n x y : Int) (gs : List Gr) : Int := (worthsG n x y gs []).getLastD 0
theorem worthsG_len (n x y : Int) : ∀ (gs : List Gr) (ws : List Int), (worthsG n x y gs ws).length = ws.length + gs.length
  | [], ws => rfl
  | g :: r, ws => by
    show (worthsG n x y r (ws ++ [g.worth n x y ws])).length = _
    rw [worthsG_len n x y r, List.length_append, List.length_cons, List.length_cons, List.length_nil]; omega
/-- the worths so far -/
theorem worthsG_take (n x y : Int) (gs : List Gr) (i : Nat) (g : Gr) (h : gs[i]? = some g) : worthsG n x y (gs.take (i + 1)) [] = worthsG n x y (gs.take i) [] ++ [g.worth n x y (worthsG n x y (gs.take i) [])] := by
  have key : ∀ (a : List Gr) (ws : List Int), worthsG n x y (a ++ [g]) ws = worthsG n x y a ws ++ [g.worth n x y (worthsG n x y a ws)] := by
    intro a
    induction a with
    | nil => intro ws; rfl
    | cons b r ih => intro ws; exact ih _
  rw [List.take_add_one, h]
  exact key _ _
/-! ### each row a saying of letters -/
def Gr.tr : Gr → Tr
  | .ne => .never | .al => .always | .p => .lp | .q => .lq
  | .no _ => .no .lp
  | .fold u _ _ => .fold u .lp .lq
/-- the dict of how many each word takes -/
def TK : List (Str × Int) := [("never", 0), ("always", 0), ("p", 0), ("q", 0), ("not", 1), ("more", 2), ("less", 2), ("greater", 2), ("lesser", 2), ("leads", 2)]
theorem tk_of (g : Gr) : PyProof.Rows.KTD.datumAt g.word TK = some (g.nums.length : Int) := by
  cases g with
  | fold u i j =>
    show PyProof.Rows.KTD.datumAt u.str TK = some 2
    cases u <;> decide +kernel
  | no i => show PyProof.Rows.KTD.datumAt ("not" : Str) TK = some 1; decide +kernel
  | _ => decide +kernel
/-! ### the rows of a tree -/
end Mine


set_option Elab.async false
set_option linter.all false
set_option maxRecDepth 100000
set_option maxHeartbeats 4000000
namespace L2
open PySem PySem.Spec PyProof.Rows
variable {X : Cx}
/-! ### is True, is not True, of a truth -/
theorem bool_beq (b c : Bool) : (Value.bool b == Value.bool c) = (b == c) := by cases b <;> cases c <;> decide
theorem op_notB : OpR X (compareOp .IsNot) (fun x y H Q => ∃ b c, x = .bl b ∧ y = .bl c ∧ Q (.bl (!(b == c))) H) := by
  intro pins s σ H x y v u Q I rx ry h
  obtain ⟨b, c, rfl, rfl, q⟩ := h
  cases rx
  cases ry
  refine PySem.wpAny_isNot_plain (by cases b <;> cases c <;> decide) (fin_bl I q ?_)
  rw [bool_beq]
/-! ### methods of built-in things within a comprehension -/
theorem pe_bm0K {K : PySem.W.Frag} {T id : String} {name : Str} {r : V → List V → Hp → VK → Prop} {o : Expr} {to : TE} {apos cpos : Pos} (eK : X.K = K) (pa : PlainAttrs T) (slot : Slot T name id) (hty : typeOf (.builtin id) = pure (.type "method_descriptor")) (hm : MtR X id r) (ho : PE X o to)
    (hbase : attributeBase o name X.env (eval o X.env) = eval o X.env := by rfl) (hline : (apos.endLine == cpos.line) = true := by rfl) : PE X (.Call (.Attribute o name apos) [] [] cpos) (tBM0 K T r to) := eK ▸ pe_bm0 pa slot hty hm ho hbase hline
end L2


set_option Elab.async false
set_option linter.all false
set_option maxRecDepth 100000
set_option maxHeartbeats 4000000
namespace L2
open PySem PySem.Spec PyProof.Rows
/-! ### what is never come to -/
/-! ### sum of a list of ints -/
/-! ### TABLE.get(x) of a dict at a file's top -/
structure TopDict (K : PySem.W.Frag) (mg : Str → Option Value) (x : Str) (D : List (Str × Int)) : Prop where
  ex : ∃ a o es ep, mg x = some (.ref a) ∧ (a == sysModules) = false ∧ K.lookup a = some o ∧ o.ExactDict ∧ o.data = .dict es ep ∧ KTD.Rows (fun (n : Int) v => ∃ t, v = Value.int n t) es.toList D
theorem topdict_mk {K : PySem.W.Frag} {h : Heap} {mg : Str → Option Value} {x : Str} {a : Addr} {es : Array DictEntry} {ep : Nat} {D : List (Str × Int)} (X : K.In h) (G : h.Ns mainGlobals mg)
    (e : PySem.W.nsIn K mainGlobals x = some (some (.ref a))) (l : K.lookup a = some ⟨.type "dict", none, .dict es ep, #[]⟩) (hs : (a == sysModules) = false) (r : KTD.Rows (fun (n : Int) v => ∃ t, v = Value.int n t) es.toList D) : TopDict K mg x D :=
  ⟨a, _, es, ep, PySem.W.mg_of X G e, hs, l, ⟨rfl, rfl, rfl⟩, rfl, r⟩
def tTGet (D : List (Str × Int)) (ty : TE) : TE := fun σ H Q => ty σ H fun y H1 => ∃ k, y = .str k ∧ Q (match KTD.datumAt k D with | some n => .int n | none => .non) H1
theorem pe_tget {X : Cx} {x : Str} {D : List (Str × Int)} {e : Expr} {p apos cpos : Pos} {ty : TE} (T : TopDict X.K X.mg x D) (hg : Gl X x) (he : PE X e ty) (m : M1 X (.Name x p) "get" apos e cpos) (hdb : (x == ("__debug__" : Str)) = false := by decide) :
    PE X (.Call (.Attribute (.Name x p) "get" apos) [e] [] cpos) (tTGet D ty) := by
  intro pins s σ H Q I h
  obtain ⟨a, o, es, ep, hm, hs, lk, xd, dt, rw'⟩ := T.ex
  have tab : ∀ {s1 : Shared} {H1 : Hp}, Inv X pins σ H1 s1 → KTD.TextTab s1.heap a (D.map fun q => (q.1, KTD.Dat.flat (.int q.2))) := fun {s1 H1} I1 =>
    ⟨hs, o, es, ep, I1.kIn _ _ lk, xd, dt, KTD.Rows.mono (R' := KTD.Dat.At s1.heap) (f := fun n => KTD.Dat.flat (.int n)) (fun n v z => by obtain ⟨t, rfl⟩ := z; exact PyProof.V.Flat.int n t) rw'⟩
  refine wpAny_Call_method m.base m.few m.line PySem.F.plainAttrs_dict PySem.F.slot_dict_get PySem.F.type_dict_get (ld_glob I hg hm ?_ hdb)
  have T1 : KTD.Here s.heap s.heap a _ := ⟨tab I, fun _ _ z => z⟩
  refine ⟨T1.typeIs, T1.noDict, ?_⟩
  rw [m.trees]
  refine Calls.callWith_builtin rfl (Calls.evalArgs_plain (Calls.spliced_cons (thn (he pins s σ H _ I h) fun iv s2 ⟨y, H2, I2, ry, k, ek, q2⟩ => Calls.spliced_nil ?_)))
  subst ek
  obtain ⟨t, rfl⟩ := ry
  have T2 : KTD.Here s2.heap s2.heap a _ := ⟨tab I2, fun _ _ z => z⟩
  have dm : ∀ D' : List (Str × Int), KTD.datumAt k (D'.map fun q => (q.1, KTD.Dat.flat (.int q.2))) = (KTD.datumAt k D').map fun n => KTD.Dat.flat (.int n) := by
    intro D'
    induction D' with
    | nil => rfl
    | cons c D' ih =>
      show (if decide (k = c.1) = true then _ else KTD.datumAt k (D'.map _)) = Option.map _ (if decide (k = c.1) = true then _ else KTD.datumAt k D')
      split
      · rfl
      · exact ih
  refine call_meetsIn PySem.F.slot_dict_get T2.typeIs PySem.F.entry_dict_get (PySem.F.args_dict_get_2 _ _) KTD.meets_get1 ⟨T2, fun d v e1 e2 => ?_, fun e1 => ?_⟩
  · rw [dm] at e1
    cases hn : KTD.datumAt k D with
    | none => rw [hn] at e1; cases e1
    | some n =>
      rw [hn] at e1 q2
      cases e1
      obtain ⟨t', rfl⟩ := PyProof.V.Flat.int_inv e2
      exact ⟨.int n, H2, I2.tok _, ⟨t', rfl⟩, q2⟩
  · rw [dm] at e1
    cases hn : KTD.datumAt k D with
    | none =>
      rw [hn] at q2
      exact ⟨.non, H2, I2.tok _, rfl, q2⟩
    | some n => rw [hn] at e1; cases e1
end L2


set_option Elab.async false
set_option linter.all false
set_option maxRecDepth 100000
set_option maxHeartbeats 4000000
namespace L2
open PySem PySem.Spec PySem.Calls PyProof.Rows PySem.W
section
variable {P : Program} {w : World} {K : PySem.W.Frag} {mg : Str → Option Value} {base : Heap} {N : List Str} {qual : Str} {scope : Scope} {f : Addr} {cd : Value} {A : Around} {outer : List Env} {s : Shared} {H : Hp} {E : XK}
end
end L2


set_option Elab.async false
set_option linter.all false
set_option maxRecDepth 100000
set_option maxHeartbeats 4000000
namespace L2
open PySem PySem.Spec PyProof.Rows PySem.W
/-! ### try: f(..) except Y: suite -/
end L2


set_option Elab.async false
set_option linter.all false
set_option maxRecDepth 100000
set_option maxHeartbeats 4000000
namespace L2
open PySem PySem.Spec PyProof.Rows
variable {X : Cx}
/-! ### items without a star: by the constructor alone -/
def plainArg (e : Expr) : Bool := match e with
  | .Starred _ _ => false
  | _ => true
theorem star_plain {e : Expr} {es : List Expr} {env : Env} (h : plainArg e = true) : starEach (e :: es) env = (false, eval e env) :: starEach es env := by
  cases e <;> first | rfl | cases h
theorem paS {e : Expr} {es : List Expr} {te : TE} {t : TA} (ha : PE X e te) (hr : PA X es t) (h : plainArg e = true := by rfl) : PA X (e :: es) (tCons te t) := pa_cons ha hr (star_plain h)
end L2


set_option Elab.async false
set_option linter.all false
set_option maxRecDepth 100000
set_option maxHeartbeats 4000000
namespace L2
open PySem
/-- an own class of exceptions, above which others of one's own may stand, with an __init__ of its own -/
def XAt (h : Heap) (C : Addr) (bmB : List Value) (newId : String) (fI : Addr) : Prop :=
  ∃ nm qn N bs bm hd sn sub ab col dd k0 k1 k2 k3 k5 mN oI, h.get? C = some (excClassObj nm qn C N bs bm hd sn sub ab col dd k0 k1 k2 k3 k5 newId) ∧ h.Ns N mN ∧ mN "__init__" = some (.ref fI) ∧ OwnTail h bmB bm ∧ h.get? fI = some oI ∧ oI.cls = .type "function"
section
variable {prog : Program} {w : World} {A : Around} {E : Value → Shared → Prop} {h : Heap} {g : Array GenState} {d : Drawn} {t : Nat} {os : OsState}
variable {C fI : Addr} {bmB : List Value} {B newId initId : String}
/-- what the new exception and its tuple lie as -/
abbrev withTup (h : Heap) (us : List Value) : Heap := h.push { cls := .type "tuple", data := .seq us.toArray }
abbrev withExc (h : Heap) (C : Addr) (us : List Value) : Heap := (withTup h us).push { cls := .ref C, data := .fields #[.ref h.objs.size, .none, .none, .none, .bool false, .none] }
theorem withExc_keeps (us : List Value) {b : Addr} {o : Obj} (e : h.get? b = some o) : (withExc h C us).get? b = some o := Heap.get?_push_of_some _ (Heap.get?_push_of_some _ e)
theorem withExc_at (us : List Value) : (withExc h C us).get? (h.objs.size + 1) = some { cls := .ref C, data := .fields #[.ref h.objs.size, .none, .none, .none, .bool false, .none] } := by heap_get
theorem type_call_init (F : ExcBaseFacts B newId initId bmB) {us : List Value} {Q : Fin → Shared → Prop} (x : XAt h C bmB newId fI) (hz : us.length ≤ sizeLine)
    (hq : wpAny (model prog w) A (call (.ref fI) (.ref (h.objs.size + 1) :: us)) (fun r s' => r = .none ∧ Q (.done (.ret (.ref (h.objs.size + 1)))) s') E ⟨withExc h C us, g, d, t, os⟩) :
    wpAny (model prog w) A (Builtin.«type.__call__» ⟨.ref C :: us, []⟩) Q E ⟨h, g, d, t, os⟩ := by
  obtain ⟨nm, qn, N, bs, bm, hd, sn, sub, ab, col, dd, k0, k1, k2, k3, k5, mN, oI, hC, hn, hi, T, hfI, hfc⟩ := x
  have hself : (Value.ref C :: bm).contains (.ref C) = true := by simp
  have hC2 := withExc_keeps (C := C) us hC
  have hn2 : (withExc h C us).Ns N mN := hn.keeps fun b o e => withExc_keeps us e
  have T2 : OwnTail (withExc h C us) bmB bm := T.keeps fun b o e => withExc_keeps us e
  have he2 := withExc_at (h := h) (C := C) us
  repeat (first | with_reducible refine wpAny_loadPart_at hC ?_ | with_reducible refine wpAny_madeBy_exc hC ?_ | wp_step)
  refine codeAny_call_builtin_code (Code.quiet_builtin _ F.quiet) (wpAny_check_new_subT F T hC (codeAny_exc_new_subT F T hC ?_ hz))
  show wpAny _ _ _ _ _ _
  unfold isInstance
  repeat (first | with_reducible refine wpAny_loadPart_at he2 ?_ | (with_reducible refine wpAny_isSubtype_exc hC2 ?_; rw [hself]) | wp_step)
  show wpAny _ _ (typeLookup (.ref C) _) _ _ _
  refine wpAny_typeLookup_tail hC2 hn2 T2 F.mroIs F.init.lookup ?_
  rw [hi]
  refine wpAny_holding (wpAny_bind ?_)
  unfold bindSpecial
  refine wpAny_bind (wpAny_typeOf (T := "function") ⟨_, withExc_keeps us hfI, hfc⟩ ?_)
  rw [if_pos (by decide)]
  refine wpAny_pure (wpAny_bind (wpAny_mono hq (fun r s' z => ?_) fun _ _ z => z))
  obtain ⟨rfl, z⟩ := z
  wp_walk
  exact z
theorem call_init (F : ExcBaseFacts B newId initId bmB) {us : List Value} {Q : Value → Shared → Prop} (x : XAt h C bmB newId fI) (hz : us.length ≤ sizeLine)
    (hq : wpAny (model prog w) (A.under (.builtin "type.__call__" ⟨.ref C :: us, []⟩)) (call (.ref fI) (.ref (h.objs.size + 1) :: us)) (fun r s' => r = .none ∧ Q (.ref (h.objs.size + 1)) s') E ⟨withExc h C us, g, d, t, os⟩) :
    wpAny (model prog w) A (call (.ref C) us) Q E ⟨h, g, d, t, os⟩ := by
  obtain ⟨nm, qn, N, bs, bm, hd, sn, sub, ab, col, dd, k0, k1, k2, k3, k5, mN, oI, hC, r⟩ := id x
  have f1 := tc_lookup
  have f2 := tc_bind (.ref C)
  have hT : (⟨h, g, d, t, os⟩ : Shared).TypeIs (.ref C) "type" := ⟨_, hC, rfl⟩
  refine wpAny_call (codeAny_of_tree ?_)
  show wpAny _ _ (callAny (.ref C) _) _ _ _
  repeat (any_goals (first | assumption | with_reducible refine wpAny_loadPart_at hC ?_ | wp_step))
  exact ⟨rfl, codeAny_call_builtin_at (Code.quiet_builtin _ (by decide +kernel)) entry_typeCall (wpAny_check_type_call_sub hC (type_call_init F x hz hq))⟩
end
end L2


set_option Elab.async false
set_option linter.all false
set_option maxRecDepth 100000
set_option maxHeartbeats 4000000
namespace L2
open PySem
/-! ### an exception on its way, with its own dict: what is known of the object at e -/
def XTr (g base : Heap) (e : Addr) (cl : Value) (dc : Option Addr) (fl : Value) : Prop :=
  ∃ oe vs T oT ts, g.get? e = some oe ∧ (oe.cls = cl ∧ oe.dict = dc) ∧ oe.data = .fields vs ∧ vs[1]? = some (.ref T) ∧ base.get? T = none ∧ T ≠ e ∧ g.get? T = some oT ∧ oT.data = .fields ts ∧ ts[3]? = some fl
def XNote (base : Heap) (l : List Env) (e : Addr) (cl : Value) (dc : Option Addr) (fl : Value) (g g' : Heap) : Prop := base.StaysIn g' ∧ g'.FunFrames base l ∧ XTr g' base e cl dc fl ∧ g.UpToSlots g'
def XFly (base : Heap) (l : List Env) (e : Addr) (cl : Value) (dc : Option Addr) (fl : Value) (g : Heap) : Prop := base.StaysIn g ∧ base.get? e = none ∧ g.FunFrames base l ∧ XTr g base e cl dc fl
theorem no_record {g : Heap} {e b : Addr} {oe o : Obj} {vs : Array Value} (he : g.get? e = some oe) (hd : oe.data = .fields vs) (hb : g.get? b = some o) (n : ∀ ws, o.data ≠ .fields ws) : b ≠ e := fun z => by
  subst z
  rw [he] at hb
  cases hb
  exact n vs hd
theorem dict_mapFields (f : Array Value → Array Value) (o : Obj) : (Obj.mapFields f o).dict = o.dict := by
  obtain ⟨c, d, dt, sl⟩ := o
  cases dt <;> rfl
section
variable {M : Model} {A : Around} {E : Value → Shared → Prop} {s : Shared} {base : Heap} {env : Env} {outer l : List Env} {L e : Addr} {cl fl : Value} {dc : Option Addr} {Q : Unit → Shared → Prop}
/-- a new entry of the traceback is put at the exception's head -/
theorem entered {oe : Obj} {vs : Array Value} {hd0 : Value} {more : Bool} (hfr : A.frames = some (env :: outer)) (hl : s.heap.FunFrames base (env :: outer)) (hf : env.frame = some L)
    (he : s.heap.get? e = some oe) (kb : base.StaysIn s.heap) (en : base.get? e = none) (hd : oe.data = .fields vs) (z1 : 1 < vs.size) (k : ∀ g', XNote base (env :: outer) e oe.cls oe.dict (rawInt L) s.heap g' → Q () { s with heap := g' }) :
    wpAny M A (do let a ← frameOf env; let pl ← entryPlaceOf L more; let b ← EntryCells.newEntry hd0 a .none (rawInt L) .none pl; setField (.ref e) 1 b) Q E s := by
  have nf : e ∉ (env :: outer).filterMap (·.frame) := fun hm => by
    obtain ⟨_, o, ho, n⟩ := hl.mem hm
    exact no_record he hd ho n rfl
  refine wpAny_bind (wpAny_frameOf_fun hfr hl hf fun g1 sm => wpAny_bind (wpAny_entryPlaceOf fun pl hpl => ?_))
  unfold EntryCells.newEntry newFields
  refine wpAny_bind (wpAny_newObj_type ?_ (hpl.sizeOk5 _ _ _ _ _))
  have a1 : g1.get? e = some oe := (sm.2.1 e nf).trans he
  have b1 : base.StaysIn g1 := fun b o z => (sm.2.1 b fun hm => by rw [(hl.mem hm).1] at z; cases z).trans (kb b o z)
  have a2 := Heap.get?_push_of_some (h := g1) { cls := .type "traceback", dict := none, data := .fields ([hd0, .ref L, .none, rawInt L, .none] ++ (if pl.isEmpty then List.replicate 6 Value.none else pl)).toArray } a1
  refine wpAny_setField a2 hd z1 (k _ ?_)
  have ne : g1.objs.size ≠ e := Nat.ne_of_gt (Heap.lt_size a1)
  have d3 := Obj.data_mapFields hd (·.setIfInBounds 1 (Value.ref g1.objs.size))
  have a3 := Heap.get?_update_self (Obj.mapFields (·.setIfInBounds 1 (Value.ref g1.objs.size))) a2 (Obj.isFreed_of_fields d3)
  have t3 := (Heap.get?_update_other (g1.push { cls := .type "traceback", dict := none, data := .fields ([hd0, .ref L, .none, rawInt L, .none] ++ (if pl.isEmpty then List.replicate 6 Value.none else pl)).toArray })
    (Obj.mapFields (·.setIfInBounds 1 (Value.ref g1.objs.size))) (Ne.symm ne)).trans (Heap.get?_push_size g1 rfl)
  have stay : ∀ b o, b ≠ e → g1.get? b = some o → ((g1.push { cls := .type "traceback", dict := none, data := .fields ([hd0, .ref L, .none, rawInt L, .none] ++ (if pl.isEmpty then List.replicate 6 Value.none else pl)).toArray }).update e
      (Obj.mapFields (·.setIfInBounds 1 (Value.ref g1.objs.size)))).get? b = some o := fun b o z hb => by
    rw [Heap.get?_update_other _ _ (Ne.symm z)]
    exact Heap.get?_push_of_some _ hb
  refine ⟨fun b o z => stay b o (fun q => by rw [q, en] at z; cases z) (b1 b o z), hl.of_keeps fun b o hb n => ?_, ?_, fun b o hb n => ?_⟩
  · obtain ⟨sl, z⟩ := sm.2.2 b o hb
    exact ⟨_, stay b _ (no_record he hd hb n) z, rfl⟩
  · exact ⟨_, _, g1.objs.size, _, _, a3, ⟨Obj.cls_mapFields _ _, dict_mapFields _ _⟩, d3, by simp [z1], b1.fresh, ne, t3, rfl, by first | (simp; done) | (rcases hpl with rfl | ⟨_, _, _, _, _, _, _, rfl⟩ <;> simp)⟩
  · obtain ⟨sl, z⟩ := sm.2.2 b o hb
    exact ⟨sl, stay b _ (no_record he hd hb n) z⟩
/-- no frame holds the exception -/
theorem unheld (kb : base.StaysIn s.heap) (hl : s.heap.FunFrames base l) (ht : XTr s.heap base e cl dc fl) (k : ∀ g', XNote base l e cl dc .none s.heap g' → Q () { s with heap := g' }) : wpAny M A (setFlight (.ref e) none) Q E s := by
  obtain ⟨oe, vs, T, oT, ts, he, hc, hd, h1, nT, ne, hT, dT, h3⟩ := ht
  have z3 : 3 < ts.size := (Array.getElem?_eq_some_iff.mp h3).1
  have other : ∀ b, b ≠ T → (s.heap.update T (Obj.mapFields (·.setIfInBounds 3 ((none : Option Addr).elim Value.none fun f => rawInt f)))).get? b = s.heap.get? b := fun b z => Heap.get?_update_other _ _ (Ne.symm z)
  unfold setFlight
  refine wpAny_bind (wpAny_field he hd h1 ?_)
  rw [if_pos (show (Value.ref T != Value.none) = true by simp)]
  refine wpAny_setField hT dT z3 (k _ ⟨fun b o z => (other b fun q => by rw [q, nT] at z; cases z).trans (kb b o z), hl.of_keeps fun b o hb n => ⟨o, (other b (no_record hT dT hb n)).trans hb, rfl⟩, ?_, fun b o hb n => ⟨o.slots, (other b (no_record hT dT hb n)).trans hb⟩⟩)
  exact ⟨oe, vs, T, _, _, (other e (Ne.symm ne)).trans he, hc, hd, h1, nT, ne, Heap.get?_update_self _ hT (Obj.isFreed_of_fields (Obj.data_mapFields dT _)), Obj.data_mapFields dT _, by simp [z3]⟩
/-- the frame's entry, the first one -/
theorem noted_first {oe : Obj} {vs : Array Value} (hfr : A.frames = some (env :: outer)) (hl : s.heap.FunFrames base (env :: outer)) (hf : env.frame = some L) (he : s.heap.get? e = some oe) (kb : base.StaysIn s.heap) (en : base.get? e = none)
    (hd : oe.data = .fields vs) (h1 : vs[1]? = some .none) (k : ∀ g', XNote base (env :: outer) e oe.cls oe.dict (rawInt L) s.heap g' → Q () { s with heap := g' }) : wpAny M A (noteFrame (.ref e) env) Q E s := by
  unfold noteFrame
  simp only [hf]
  refine wpAny_bind (wpAny_field he hd h1 ?_)
  rw [if_neg (by decide)]
  exact entered hfr hl hf he kb en hd (Array.getElem?_eq_some_iff.mp h1).1 k
/-- .. a further one -/
theorem noted_next (hfr : A.frames = some (env :: outer)) (hl : s.heap.FunFrames base (env :: outer)) (hf : env.frame = some L) (ht : XTr s.heap base e cl dc .none) (kb : base.StaysIn s.heap) (en : base.get? e = none)
    (k : ∀ g', XNote base (env :: outer) e cl dc (rawInt L) s.heap g' → Q () { s with heap := g' }) : wpAny M A (noteFrame (.ref e) env) Q E s := by
  obtain ⟨oe, vs, T, oT, ts, he, ⟨rfl, rfl⟩, hd, h1, nT, ne, hT, dT, h3⟩ := ht
  unfold noteFrame
  simp only [hf]
  refine wpAny_bind (wpAny_field he hd h1 ?_)
  rw [if_pos (show (Value.ref T != Value.none) = true by simp)]
  refine wpAny_bind (wpAny_field hT dT h3 ?_)
  rw [if_neg (show ¬ ((Value.none == rawInt L) = true) by simp [rawInt])]
  refine wpAny_bind (wpAny_setField hT dT (Array.getElem?_eq_some_iff.mp h3).1 ?_)
  have other : ∀ b, b ≠ T → (s.heap.update T (Obj.mapFields (·.setIfInBounds 3 Value.none))).get? b = s.heap.get? b := fun b z => Heap.get?_update_other _ _ (Ne.symm z)
  refine entered hfr (hl.of_keeps fun b o hb n => ⟨o, (other b (no_record hT dT hb n)).trans hb, rfl⟩) hf ((other e (Ne.symm ne)).trans he) (fun b o z => (other b fun q => by rw [q, nT] at z; cases z).trans (kb b o z)) en hd (Array.getElem?_eq_some_iff.mp h1).1 fun g' x => k g' ?_
  exact ⟨x.1, x.2.1, x.2.2.1, fun b o hb n => x.2.2.2 b o ((other b (no_record hT dT hb n)).trans hb) n⟩
/-- the exception leaves the frame in which it was raised -/
theorem leaves_first {oe : Obj} {vs : Array Value} (hfr : A.frames = some (env :: outer)) (hl : s.heap.FunFrames base (env :: outer)) (hf : env.frame = some L) (he : s.heap.get? e = some oe) (kb : base.StaysIn s.heap) (en : base.get? e = none)
    (hd : oe.data = .fields vs) (h1 : vs[1]? = some .none) (k : ∀ g', XFly base outer e oe.cls oe.dict .none g' → s.heap.UpToSlots g' → Q () { s with heap := g' }) : wpAny M A (leaving env (.ref e)) Q E s := by
  unfold leaving
  refine wpAny_bind (noted_first hfr hl hf he kb en hd h1 fun g1 ⟨k1, k2, k3, k4⟩ => ?_)
  refine unheld (s := { s with heap := g1 }) k1 k2 k3 fun g2 ⟨j1, ⟨_, _, j2⟩, j3, j4⟩ => ?_
  exact k g2 ⟨j1, en, j2, j3⟩ (k4.trans j4)
/-- .. one through which it goes -/
theorem leaves_next (hfr : A.frames = some (env :: outer)) (hf : env.frame = some L) (x : XFly base (env :: outer) e cl dc .none s.heap) (k : ∀ g', XFly base outer e cl dc .none g' → s.heap.UpToSlots g' → Q () { s with heap := g' }) : wpAny M A (leaving env (.ref e)) Q E s := by
  obtain ⟨f1, f2, f3, f4⟩ := x
  unfold leaving
  refine wpAny_bind (noted_next hfr f3 hf f4 f1 f2 fun g1 ⟨k1, k2, k3, k4⟩ => ?_)
  refine unheld (s := { s with heap := g1 }) k1 k2 k3 fun g2 ⟨j1, ⟨_, _, j2⟩, j3, j4⟩ => ?_
  exact k g2 ⟨j1, f2, j2, j3⟩ (k4.trans j4)
/-- it is looked at by the frame that may catch it; it lands there -/
theorem looked (hfr : A.frames = some (env :: outer)) (hf : env.frame = some L) (x : XFly base (env :: outer) e cl dc .none s.heap) (k : ∀ g', XFly base (env :: outer) e cl dc (rawInt L) g' → s.heap.UpToSlots g' → Q () { s with heap := g' }) : wpAny M A (noteFrame (.ref e) env) Q E s := by
  obtain ⟨f1, f2, f3, f4⟩ := x
  exact noted_next hfr f3 hf f4 f1 f2 fun g1 ⟨k1, k2, k3, k4⟩ => k g1 ⟨k1, f2, k2, k3⟩ k4
theorem landed (x : XFly base l e cl dc fl s.heap) (k : ∀ g', XFly base l e cl dc .none g' → s.heap.UpToSlots g' → Q () { s with heap := g' }) : wpAny M A (setFlight (.ref e) none) Q E s := by
  obtain ⟨f1, f2, f3, f4⟩ := x
  exact unheld f1 f3 f4 fun g1 ⟨k1, k2, k3, k4⟩ => k g1 ⟨k1, f2, k2, k3⟩ k4
end
end L2


set_option Elab.async false
set_option linter.all false
set_option maxRecDepth 100000
set_option maxHeartbeats 4000000
namespace L2
open PySem PySem.Spec PySem.Calls PyProof.Rows PySem.W PySem.Builtin PySem.Builtin.ObjectAttr
/-- above the class stand own ones, then ValueError -/
def overV : List Value → Bool
  | [] => false
  | v :: r => (v :: r == bmV) || (match v with | .ref _ => overV r | _ => false)
theorem refuse_overV (self : Value) : ∀ {l : List Value}, overV l = true → refuseLoop self "__setattr__" l = pure ()
  | [], e => by cases e
  | v :: r, e => by
    rcases (Bool.or_eq_true _ _).mp e with z | z
    · rw [beq_iff_eq.mp z]
      exact PySem.F.store_ValueError.passes self
    · cases v with
      | ref c => rw [refuseLoop_ref]; exact refuse_overV self z
      | _ => cases z
/-- what the fragment says of such a class, for the fields of its exceptions -/
structure XFld (K : Frag) (C : Addr) : Prop where
  ex : ∃ cd, clsIn K C = some cd ∧ overV cd.mro = true ∧ cd.hasDict = true
  sa : findIn K (.ref C) "__setattr__" = some (some (.builtin "object.__setattr__"))
  ec : ExcCls K C
section
variable {prog : Program} {w : World} {A : Around} {s : Shared} {K : Frag} {x C : Addr} {ox : Obj} {od : Option Obj} {name : Str} {v : Value}
theorem x_osa {R : Result → Shared → Prop} {tk : Tok} (X : K.In s.heap) (c : XFld K C) (I : W.InstAt s.heap x ox C od) (ha : NoAttr K C name)
    (h : wpAny (model prog w) A.in1 (storeInOwnDict (.ref x) (.ref C) (.str name tk) name v false)
      (fun fin s' => match fin with | .done f => R (.ok f) s' | .again c' => c'.quiet = true ∧ codeAny (model prog w) A c' R s') (fun e s' => R (.error e) s') s) :
    codeAny (model prog w) A (.call (.builtin "object.__setattr__") ⟨[.ref x, .str name tk, v], []⟩) R s := by
  obtain ⟨cd, hc, ho, _⟩ := c.ex
  have SF := PySem.F.store_object
  have T := I.type (M := model prog w)
  have inst : Looks (model prog w) s.heap (isInstance (.ref x) (.type "object")) true := T.andThen (looks_mroIn X c.ec.hm)
  have mro : Looks (model prog w) s.heap (mroOf (.ref C)) cd.mro := (looks_clsIn X hc).andThen .now
  refine codeAny_call_builtin SF.slot.plain SF.entry (check_slot (M := model prog w) (s := s) (i := "object.__setattr__") (owner := "object") (n := "__setattr__") (self := .ref x) (rest := [.str name tk, v]) (kw := []) SF.kind SF.split inst (SF.args (.ref x) (.str name tk) v) ?_)
  rw [osa_eq, refuse_eq]
  refine wpAny_bind (wpAny_bind (T.here (wpAny_bind (mro.here ?_))))
  rw [refuse_overV _ ho]
  exact wpAny_pure (wpAny_bind (T.here (wpAny_bind ((looks_findIn X (show findIn K (.ref C) name = some none from ha)).here (wpAny_bind (wpAny_pure h))))))
/-- a field is put where there is a dict already -/
theorem x_put {E : Value → Shared → Prop} {dx : Addr} {mA : Str → Option Value} {ns : List Str} {Q : Unit → Shared → Prop} (X : K.In s.heap) (c : XFld K C) (hx : s.heap.get? x = some ox) (hcl : ox.cls = .ref C) (nc : notCls ox = true) (hd : ox.dict = some dx) (ne : dx ≠ x) (nsd : s.heap.Ns1 dx mA) (ha : NoAttr K C name)
    (hw : PySem.Within mA ns) (hsz : ns.length ≤ sizeLine) (h : ∀ h', h'.Ns1 dx (fun y => if y = name then some v else mA y) → Heap.SameBut dx s.heap h' → Q () { s with heap := h', toks := s.toks + 2 }) :
    wpAny (model prog w) A (setAttr (.ref x) name v) Q E s := by
  obtain ⟨ob, ho, _⟩ := lookIn_ns nsd
  have I : W.InstAt s.heap x ox C (some ob) := ⟨hx, hcl, nc, by rw [hd]; exact ho⟩
  refine set_plain X I c.sa (x_osa (s := { s with toks := s.toks + 1 }) X c I ha ?_)
  obtain ⟨cd, hc, _, hdd⟩ := c.ex
  obtain ⟨oc, odi, oda, osl⟩ := ox
  dsimp only at hcl hd
  subst hcl hd
  refine wpAny_bind (wpAny_pure (wpAny_bind (wpAny_bind (wpAny_loadPart hx (wpAny_bind (W.Looks.here (s := { s with toks := s.toks + 1 }) (looks_clsIn X hc) ?_))))))
  rw [hdd]
  refine wpAny_pure (a := some dx) (wpAny_bind (wpAny_pure (wpAny_bind ?_)))
  refine wpAny_nsSet1 (s := { s with toks := s.toks + 1 }) nsd fun h2 hn2 hs2 => ?_
  obtain ⟨oD, esD, epD, hoD, hdD, hcD⟩ := hn2.count (PySem.Within.cons name v hw)
  refine wpAny_bind (wpAny_lookBehind hoD (by rw [hdD]; exact pastItsLine_dict (Nat.le_trans hcD (by rw [List.length_cons]; omega))) ?_)
  exact wpAny_pure (h _ hn2 hs2)
/-- the first field: the dict is made -/
theorem x_put0 {E : Value → Shared → Prop} {Q : Unit → Shared → Prop} (X : K.In s.heap) (c : XFld K C) (hx : s.heap.get? x = some ox) (hcl : ox.cls = .ref C) (hdt : ∃ vs, ox.data = .fields vs) (hd : ox.dict = none) (ha : NoAttr K C name)
    (h : ∀ h', h'.get? x = some { ox with dict := some s.heap.objs.size } → h'.Ns1 s.heap.objs.size (fun y => if y = name then some v else none) → (∀ b o, b ≠ x → s.heap.get? b = some o → h'.get? b = some o) → Q () { s with heap := h', toks := s.toks + 2 }) :
    wpAny (model prog w) A (setAttr (.ref x) name v) Q E s := by
  obtain ⟨vs, hdt⟩ := hdt
  have I : W.InstAt s.heap x ox C none := ⟨hx, hcl, by unfold notCls; rw [hdt], by rw [hd]; exact True.intro⟩
  refine set_plain X I c.sa (x_osa (s := { s with toks := s.toks + 1 }) X c I ha ?_)
  obtain ⟨cd, hc, _, hdd⟩ := c.ex
  obtain ⟨oc, odi, oda, osl⟩ := ox
  dsimp only at hcl hd hdt
  subst hcl hd hdt
  have lt := Heap.lt_size hx
  have e1 : (s.heap.push { cls := .type "dict", data := .dict #[] }).get? x = some ⟨.ref C, none, .fields vs, osl⟩ := Heap.get?_push_of_some _ hx
  refine wpAny_bind (wpAny_pure (wpAny_bind (wpAny_bind (wpAny_loadPart hx (wpAny_bind (W.Looks.here (s := { s with toks := s.toks + 1 }) (looks_clsIn X hc) ?_))))))
  rw [hdd]
  have go : wpAny (model prog w) A.in1 (do let d ← alloc { cls := .type "dict", data := .dict #[] }; update x fun o => { o with dict := some d }; dictMade (.ref C) x d)
      (fun r s1 => ∃ h1, r = some s.heap.objs.size ∧ s1 = { s with heap := h1, toks := s.toks + 1 } ∧ h1.get? x = some ⟨.ref C, some s.heap.objs.size, .fields vs, osl⟩ ∧ h1.Ns s.heap.objs.size (fun _ => none) ∧ ∀ b o, b ≠ x → s.heap.get? b = some o → h1.get? b = some o) (fun _ _ => False) { s with toks := s.toks + 1 } := by
    refine wpAny_bind (wpAny_alloc' (wpAny_bind (wpAny_update' e1 (wpAny_pure ⟨_, rfl, rfl, ?_, ?_, ?_⟩))))
    · exact Heap.get?_update_self _ e1 rfl
    · exact ⟨_, #[], _, (Heap.get?_update_ne _ _ _ _ (Nat.ne_of_gt lt)).trans (Heap.get?_push_at rfl rfl), rfl, (fun e z => absurd z (by simp)), fun _ => rfl⟩
    · exact fun b o nb z => (Heap.get?_update_ne _ _ _ _ nb).trans (Heap.get?_push_of_some _ z)
  change wpAny (model prog w) A.in1 (do let d ← alloc { cls := .type "dict", data := .dict #[] }; update x fun o => { o with dict := some d }; dictMade (.ref C) x d) _ _ _
  refine wpAny_mono go (fun r s1 z => ?_) (fun _ _ z => z.elim)
  obtain ⟨h1, rfl, rfl, gx, gn, gk⟩ := z
  show wpAny _ _ (storeInDict s.heap.objs.size (.str name s.toks) name v) _ _ _
  unfold storeInDict newKeyGuard
  refine wpAny_bind (wpAny_pure (wpAny_bind (wpAny_nsSet1 (s := { s with heap := h1, toks := s.toks + 1 }) (Heap.Ns1.of_empty gn) fun h2 hn2 hs2 => ?_)))
  obtain ⟨oD, esD, epD, hoD, hdD, hcD⟩ := hn2.count (PySem.Within.cons name v PySem.Within.nil)
  refine wpAny_bind (wpAny_lookBehind hoD (by rw [hdD]; exact pastItsLine_dict (Nat.le_trans hcD (by rw [List.length_cons, List.length_nil, sizeLine_eq]; omega))) ?_)
  refine wpAny_pure (h _ ((hs2.2 x (Nat.ne_of_lt lt)).trans gx) hn2 fun b o nb z => (hs2.2 b (Nat.ne_of_lt (Heap.lt_size z))).trans (gk b o nb z))
end
end L2


set_option Elab.async false
set_option linter.all false
set_option maxRecDepth 100000
set_option maxHeartbeats 4000000
namespace L2
open PySem PySem.Spec PySem.Calls PyProof.Rows PySem.W
/-- an exception that was made and not yet raised: its class, its dict -/
def XNew (e C : Addr) (dc : Option Addr) (h : Heap) : Prop := ∃ t, h.get? e = some { cls := .ref C, dict := dc, data := .fields #[.ref t, .none, .none, .none, .bool false, .none] }
/-- the dict of an exception -/
def XDict (d : Addr) (fs : List (Str × V)) (h : Heap) : Prop := ∃ mA, h.Ns1 d mA ∧ (∀ f, RelO (fs.lookup f) (mA f)) ∧ PySem.Within mA (fs.map (·.1)) ∧ fs.length ≤ 100
/-- an exception that was caught -/
def XGot (e C : Addr) (dc : Option Addr) (h : Heap) : Prop := ∃ o vs, h.get? e = some o ∧ o.cls = .ref C ∧ o.dict = dc ∧ o.data = .fields vs
theorem XNew.stay {e C : Addr} {dc : Option Addr} {h1 h2 : Heap} (x : XNew e C dc h1) (k : ∀ o, h1.get? e = some o → h2.get? e = some o) : XNew e C dc h2 := let ⟨t, z⟩ := x; ⟨t, k _ z⟩
theorem XGot.stay {e C : Addr} {dc : Option Addr} {h1 h2 : Heap} (x : XGot e C dc h1) (k : ∀ o, h1.get? e = some o → h2.get? e = some o) : XGot e C dc h2 := let ⟨o, vs, z, r⟩ := x; ⟨o, vs, k _ z, r⟩
theorem XDict.stay {d : Addr} {fs : List (Str × V)} {h1 h2 : Heap} (x : XDict d fs h1) (k : ∀ o, h1.get? d = some o → h2.get? d = some o) : XDict d fs h2 := by
  obtain ⟨mA, ⟨od, es, ep, e, c⟩, r⟩ := x
  exact ⟨mA, ⟨od, es, ep, k _ e, c⟩, r⟩
theorem XDict.there {d : Addr} {fs : List (Str × V)} {h : Heap} (x : XDict d fs h) : ∃ o, h.get? d = some o := by
  obtain ⟨mA, ⟨od, es, ep, e, c⟩, r⟩ := x
  exact ⟨_, e⟩
section
variable {P : Program} {w : World} {H : Hp} {h : Heap} {e C d : Addr} {dc : Option Addr} {fs : List (Str × V)}
theorem xnew_ok (x : XNew e C dc h) : ObjOk P w H h e (.ext (XNew e C dc)) := ⟨x, let ⟨_, z⟩ := x; ⟨_, z⟩, fun _ _ a k => a.stay k⟩
theorem xdict_ok (x : XDict d fs h) : ObjOk P w H h d (.ext (XDict d fs)) := ⟨x, x.there, fun _ _ a k => a.stay k⟩
end
/-- the field put, as a map and as a list of pairs -/
theorem xdict_put {d : Addr} {fs : List (Str × V)} {h h' : Heap} {mA : Str → Option Value} {f : Str} {y : V} {u : Value} (r : ∀ g, RelO (fs.lookup g) (mA g)) (wi : PySem.Within mA (fs.map (·.1))) (z : fs.length < 100) (ry : RelV y u)
    (n : h'.Ns1 d (fun g => if g = f then some u else mA g)) : XDict d (putF f y fs) h' := by
  refine ⟨_, n, fun g => ?_, fun g hg => ?_, ?_⟩
  · show RelO ((putF f y fs).lookup g) (if g = f then some u else mA g)
    rw [lookup_putF]
    by_cases q : g = f
    · rw [if_pos q, if_pos q]; exact ry
    · rw [if_neg q, if_neg q]; exact r g
  · by_cases q : g = f
    · rw [q]; exact (keys_putF f y fs).1
    · exact (keys_putF f y fs).2 g (wi g fun z => hg (by show (if g = f then some u else mA g) = none; rw [if_neg q]; exact z))
  · have := length_putF f y fs
    omega
section
variable {X : Cx} {pins : List (Addr × Obj)} {σ : St} {H : Hp} {s : Shared} {a C d : Addr} {fs : List (Str × V)} {f : Str} {y : V} {u : Value} {A : Around} {E : Value → Shared → Prop} {Q : Unit → Shared → Prop}
theorem xset_ok (I : Inv X pins σ H s) (ea : H a = some (.ext (XNew a C (some d)))) (ed : H d = some (.ext (XDict d fs))) (ne : d ≠ a) (c : XFld X.K C) (n : NoAttr X.K C f) (hl : fs.length < 100) (ry : RelV y u)
    (h : ∀ s', Inv X pins σ (upd H d (.ext (XDict d (putF f y fs)))) s' → Q () s') : wpAny (model X.prog X.w) A (setAttr (.ref a) f u) Q E s := by
  obtain ⟨⟨t, gx⟩, _, _⟩ := (show ObjOk X.prog X.w H s.heap a (.ext (XNew a C (some d))) from I.hok a _ ea)
  obtain ⟨⟨mA, nsd, r, wi, _⟩, _, _⟩ := (show ObjOk X.prog X.w H s.heap d (.ext (XDict d fs)) from I.hok d _ ed)
  refine x_put I.kIn c gx rfl rfl rfl ne nsd n wi (by rw [List.length_map, sizeLine_eq]; omega) fun h' n' sb => h _ ?_
  have x' := xdict_put (d := d) (h := s.heap) r wi hl ry n'
  exact I.write (x := d) (e := d) (by rw [ed]; exact True.intro) (.inl rfl) (fun b q hb z => (sb.2 b hb).trans z) x'.there (xdict_ok x')
theorem xset0_ok (I : Inv X pins σ H s) (ea : H a = some (.ext (XNew a C none))) (c : XFld X.K C) (n : NoAttr X.K C f) (ry : RelV y u)
    (hL : ∀ b, s.heap.objs.size ≤ b → b ≠ X.env.locals ∧ (∀ x c, X.env.cells.lookup x = some c → c ≠ b) ∧ (∀ p ∈ X.pn ++ pins, p.1 ≠ b) ∧ X.s₀.heap.get? b = none)
    (h : ∀ s' b, H b = none → Inv X pins σ (upd (upd H a (.ext (XNew a C (some b)))) b (.ext (XDict b [(f, y)]))) s' → Q () s') : wpAny (model X.prog X.w) A (setAttr (.ref a) f u) Q E s := by
  obtain ⟨⟨t, gx⟩, _, _⟩ := (show ObjOk X.prog X.w H s.heap a (.ext (XNew a C none)) from I.hok a _ ea)
  refine x_put0 I.kIn c gx rfl ⟨_, rfl⟩ rfl n fun h' g' n' kp => ?_
  have fr : H s.heap.objs.size = none := I.hok.fresh (Nat.le_refl _)
  have ne : s.heap.objs.size ≠ a := fun z => by rw [z, ea] at fr; cases fr
  have x' : XDict s.heap.objs.size [(f, y)] h' := xdict_put (fs := []) (h := s.heap) (mA := fun _ => none) (fun _ => True.intro) (fun g z => absurd rfl z) (by decide) ry n'
  have I1 : Inv X pins σ (upd H a (.ext (XNew a C (some s.heap.objs.size)))) { s with heap := h', toks := s.toks + 2 } :=
    I.write (x := a) (e := a) (by rw [ea]; exact True.intro) (.inl rfl) (fun b q hb z => kp b q hb z) ⟨_, g'⟩ (xnew_ok ⟨t, g'⟩)
  obtain ⟨l1, l2, l3, l4⟩ := hL _ (Nat.le_refl _)
  exact h _ s.heap.objs.size fr (I1.track (by rw [upd_ne ne]; exact fr) l4 l1 l2 l3 x' x'.there fun _ _ z k => z.stay k)
end
/-- what is known of addresses above the heap -/
theorem Inv.above {X : Cx} {pins : List (Addr × Obj)} {σ : St} {H : Hp} {s : Shared} (I : Inv X pins σ H s) : ∀ b, s.heap.objs.size ≤ b → b ≠ X.env.locals ∧ (∀ x c, X.env.cells.lookup x = some c → c ≠ b) ∧ (∀ p ∈ X.pn ++ pins, p.1 ≠ b) ∧ X.s₀.heap.get? b = none := fun b hb => by
  have no : ∀ o, s.heap.get? b = some o → False := fun o z => absurd (Heap.lt_size z) (Nat.not_lt.mpr hb)
  refine ⟨fun z => ?_, fun x c k q => ?_, fun p hp q => ?_, ?_⟩
  · obtain ⟨mm, ⟨o, _, _, g, _⟩, _⟩ := I.loc
    rw [← z] at g
    exact no _ g
  · obtain ⟨v, o, g, _⟩ := I.cell x c k
    rw [q] at g
    exact no _ g
  · obtain ⟨g, _⟩ := I.pin p hp
    rw [q] at g
    exact no _ g
  · exact Heap.get?_none_of_le (Nat.le_trans I.sz hb)
/-! ### self.f = value, in the __init__ of an exception -/
def sFldX (K : Frag) (ta tv : TE) (f : Str) : TS := fun D σ H => tv σ H fun y H1 => ta σ H1 fun x H2 => ∃ a C, x = .ref a ∧ XFld K C ∧ NoAttr K C f ∧
  ((H2 a = some (.ext (XNew a C none)) ∧ ∀ d, H2 d = none → D.nx σ (upd (upd H2 a (.ext (XNew a C (some d)))) d (.ext (XDict d [(f, y)])))) ∨
   ∃ d fs, H2 a = some (.ext (XNew a C (some d))) ∧ H2 d = some (.ext (XDict d fs)) ∧ d ≠ a ∧ fs.length < 100 ∧ D.nx σ (upd H2 d (.ext (XDict d (putF f y fs)))))
theorem ps_fldX {X : Cx} {o value : Expr} {f : Str} {pos pos' : Pos} {ta tv : TE} (ha : PE X o ta) (hv : PE X value tv) (hs : swapsWith value (some (.Attribute o f pos')) pos.line X.env = pure false) : PS X (.Assign [.Attribute o f pos'] value pos) (sFldX X.K ta tv f) := by
  intro pins s σ H D I h
  refine plainObj_wpAny_Assign_Attribute (thn (hv pins s σ H _ I h) fun u s1 ⟨y, H1, I1, ry, q⟩ => thn (ha pins s1 σ H1 _ I1 q) fun ov s2 ⟨x, H2, I2, rx, a, C, ex, c, n, q2⟩ => ?_) hs
  subst ex
  cases (show ov = Value.ref a from rx)
  rcases q2 with ⟨ea, q2⟩ | ⟨d, fs, ea, ed, ne, l, q2⟩
  · exact xset0_ok I2 ea c n ry I2.above fun s3 b hb I3 => ⟨σ, _, I3, q2 b hb⟩
  · exact xset_ok I2 ea ed ne c n l ry fun s3 I3 => ⟨σ, _, I3, q2⟩
end L2


set_option Elab.async false
set_option linter.all false
set_option maxRecDepth 100000
set_option maxHeartbeats 4000000
namespace L2
open PySem PySem.Spec PySem.Calls PyProof.Rows PySem.W
/-! ### what the fragment says of a class of exceptions with an __init__ of its own -/
def excInI (K : Frag) (C : Addr) (bmB : List Value) (newId : String) (fI : Addr) : Bool := match K.lookup C with
  | some ⟨.type "type", _, .cls cl, sl⟩ => (match cl.mro, sl.toList with
    | .ref C1 :: bm, [_, _, _, _, some (.builtin i), _] => (C1 == C && i == newId && !cl.hasDel && tailIn K bmB bm) && (nsOkIn K cl.ns && nsIn K cl.ns "__init__" == some (some (.ref fI)) && isFn K (.ref fI))
    | _, _ => false)
  | _ => false
theorem ns_some_of {K : Frag} {h : Heap} {N : Addr} {m : Str → Option Value} {n : Str} {v : Value} (X : K.In h) (G : h.Ns N m) (q : nsIn K N n = some (some v)) : m n = some v := by
  obtain ⟨o, es, ep, ho, hd, _, hf⟩ := G
  unfold nsIn at q
  split at q
  · rename_i z
    have e := X _ _ z
    rw [ho] at e
    cases e
    cases hd
    split at q
    · rename_i en he
      cases q
      rw [← hf]
      unfold nsFind findBy
      rw [← Array.find?_toList, he]
      rfl
    · split at q <;> cases q
  · cases q
theorem xat_of {K : Frag} {h : Heap} {C fI : Addr} {bmB : List Value} {newId : String} (X : K.In h) (q : excInI K C bmB newId fI = true) : XAt h C bmB newId fI := by
  unfold excInI at q
  split at q
  · rename_i d0 c0 sl0 lk
    split at q
    · rename_i C1 bm1 j0 j1 j2 j3 n1 j5 em es
      simp only [Bool.not_eq_true', beq_iff_eq, Bool.and_eq_true] at q
      obtain ⟨⟨⟨⟨e1, e2⟩, nodel⟩, tl⟩, ⟨ok, ni⟩, fn⟩ := q
      subst e1 e2
      obtain ⟨nm1, bs1, mro1, ns1, qn1, hd1, sn1, sub1, ab1, col1, del1⟩ := c0
      dsimp only at em nodel ok ni
      subst em nodel
      have esl : sl0 = #[j0, j1, j2, j3, some (.builtin n1), j5] := by
        obtain ⟨l0⟩ := sl0
        simp only at es
        rw [es]
      subst esl
      have G : h.Ns ns1 (h.nsMap ns1) := .of_isNs (isNs_of_in X ok)
      obtain ⟨ob, ho, hc⟩ := Option.map_eq_some_iff.mp (show typeIn K (.ref fI) = some (.type "function") from beq_iff_eq.mp fn)
      exact ⟨_, _, _, _, _, _, _, _, _, _, _, _, _, _, _, _, _, ob, X _ _ lk, G, ns_some_of X G ni, tail_of_in X tl, X _ _ ho, hc⟩
    · cases q
  · cases q
/-! ### C(..) of such a class -/
section
variable {X : Cx} {k : Nat} {f C : Addr} {fd : FuncData} {ps : List Str} {sp : Sp} {x : Str} {p pos : Pos} {e : Expr} {es : List Expr} {t : TA}
theorem run_makeX0 {pins : List (Addr × Obj)} {σ : St} {H : Hp} {s : Shared} {R : Hp → Prop} {us : List Value} {vs : List V} (F : FnOk X.prog X.w X.K X.mg X.base CX0 k f fd ps sp) (xi : excInI X.K C bmV "ValueError.__new__" f = true) (hr : Room (k + 1) X.A) (hb : Binds X.K fd ps [])
    (I : Inv X pins σ H s) (r : Vals vs us) (hz : vs.length ≤ 1000) (q : sp (.ref (s.heap.objs.size + 1) :: vs) (upd H (s.heap.objs.size + 1) (.ext (XNew (s.heap.objs.size + 1) C none))) (fun v H2 => v = .non ∧ R H2) E0) : wpAny (model X.prog X.w) X.A (call (.ref C) us) (fun u s' => u = .ref (s.heap.objs.size + 1) ∧ ∃ H', Inv X pins σ H' s' ∧ R H') X.xe s := by
  have lz : us.length ≤ sizeLine := by rw [← r.length, sizeLine_eq]; omega
  have I1 : Inv X pins σ (upd H (s.heap.objs.size + 1) (.ext (XNew (s.heap.objs.size + 1) C none))) { s with heap := withExc s.heap C us, toks := s.toks } :=
    I.laid (fun b o z => withExc_keeps us z) (Nat.le_succ _) (xnew_ok ⟨_, withExc_at us⟩)
  have r1 : Vals (V.ref (s.heap.objs.size + 1) :: vs) (Value.ref (s.heap.objs.size + 1) :: us) := .cons rfl r
  have hl : (Value.ref (s.heap.objs.size + 1) :: us).length = ps.length := by rw [← r1.length]; exact F.len _ _ _ _ q
  have bnd := hb { s with heap := withExc s.heap C us, toks := s.toks } (Value.ref (s.heap.objs.size + 1) :: us) I1.kIn (by rw [List.append_nil]; exact hl)
  rw [List.append_nil] at bnd
  obtain ⟨hh, g, d, tk, os⟩ := s
  refine call_init PySem.F.excBase_ValueError (xat_of I.kIn xi) lz ?_
  refine wpAny_call (codeAny_mono (F.run _ X.stack _ _ ⟨_, []⟩ _ _ _ E0 (hr.make C us []) (I1.env0.make C us []) bnd r1 q) fun res s1 hq => ?_)
  cases res with
  | error ex => exact hq.elim
  | ok fl =>
    cases fl with
    | ret u =>
      obtain ⟨v, H2, I2, rv, ev, q2⟩ := I1.after hq
      subst ev
      exact ⟨rv, rfl, H2, I2, q2⟩
    | next => exact False.elim hq
    | brk => exact False.elim hq
    | cont => exact False.elim hq
end
/-! ### raise of an exception that was made -/
theorem x_raise {prog : Program} {w : World} {A : Around} {E : Value → Shared → Prop} {s : Shared} {env : Env} {ex : Expr} {pos : Pos} {Q : Flow → Shared → Prop} {C : Addr} {bmB : List Value} {newId : String} (hbase : bmB.contains (.type "BaseException") = true) (hh : A.handled = none)
    (h : wpAny (model prog w) A (eval ex env) (fun v s₁ => ∃ e dc, v = .ref e ∧ (∃ fI, XAt s₁.heap C bmB newId fI) ∧ XNew e C dc s₁.heap ∧ E (.ref e) s₁) E s) : wpAny (model prog w) A (exec (.Raise (some ex) none pos) env) Q E s := by
  rw [arm_exec_Raise]
  refine wpAny_bind (wpAny_standAt ?_)
  show wpAny _ _ (raiseStmt env (some (do let v ← eval ex env; standAt pos; pure v)) none) _ _ _
  unfold raiseStmt
  refine wpAny_bind (wpAny_bind (wpAny_mono h (fun v s1 z => wpAny_bind (wpAny_standAt (wpAny_pure ?_))) fun _ _ z => z))
  obtain ⟨e, dc, rfl, ⟨fI, nm, qn, N, bs, bm, hd, sn, sub, ab, col, dd, k0, k1, k2, k3, k5, mN, oI, gC, _, _, T, _, _⟩, ⟨t, ge⟩, hE⟩ := z
  have hcB : (Value.ref C :: bm).contains (.type "BaseException") = true := by rw [List.contains_cons, T.hasType hbase, Bool.or_true]
  obtain ⟨hp, g, d, tk, os⟩ := s1
  repeat (first | with_reducible refine wpAny_loadPart_at ge ?_ | with_reducible refine wpAny_loadPart_at gC ?_ | (with_reducible refine wpAny_isSubtype_exc gC ?_; rw [hcB]) | wp_step)
  exact wpAny_raiseNew_none hh hE
end L2


set_option Elab.async false
set_option linter.all false
set_option maxRecDepth 100000
set_option maxHeartbeats 4000000
namespace L2
open PySem PySem.Spec PySem.Calls PyProof.Rows PySem.W
/-- a is tracked no more -/
def del (a : Addr) (H : Hp) : Hp := fun b => if b = a then none else H b
theorem del_same {a : Addr} {H : Hp} : del a H a = none := if_pos rfl
theorem del_ne {a b : Addr} {H : Hp} (n : b ≠ a) : del a H b = H b := if_neg n
/-! ### how an exception lies behind a call: ea the object, C its class, dc its dict; whatever is tracked, or stood ahead of the call, stands in B, which stays -/
def FliesD (P : Program) (w : World) (outer : List Env) (H : Hp) (s : Shared) (ea : Addr) (C : Value) (dc : Option Addr) (H' : Hp) (s' : Shared) : Prop := ∃ (B : Heap),
  s'.os = s.os ∧ AllBare s'.gens ∧ Un (frs outer) [] H H' s.heap s'.heap ∧ HOk P w H' s'.heap ∧ XFly B outer ea C dc .none s'.heap ∧ H' ea = none ∧ s.heap.get? ea = none ∧
  ∀ b o, s'.heap.get? b = some o → b ∉ frs outer → ((∃ u, H' b = some u) ∨ ∃ o', s.heap.get? b = some o') → B.get? b = some o
def CXd (P : Program) (w : World) : CXT := fun outer H s E e s' => ∃ (ea : Addr) (C : Value) (dc : Option Addr) (H' : Hp), e = .ref ea ∧ FliesD P w outer H s ea C dc H' s' ∧ E C dc H'
theorem passd {P : Program} {w : World} {X : Cx} : Passes (CXd P w) X E0 := fun _ _ _ _ _ _ _ ⟨_, _, _, _, _, _, h⟩ => h.elim
section
variable {P : Program} {w : World} {K : PySem.W.Frag} {mg : Str → Option Value} {base : Heap} {N : List Str} {qual : Str} {scope : Scope} {f : Addr} {cd : Value} {A : Around} {outer : List Env} {s : Shared} {H : Hp} {E : XK}
/-- the one that was made here leaves the def -/
theorem leaves_made {pins : List (Addr × Obj)} {σ : St} {H1 : Hp} {s₂ : Shared} {ea C : Addr} {dc : Option Addr} (I : Inv (cxOf (CXd P w) P w K mg base N qual scope f cd A outer s H E) pins σ H1 s₂)
    (hx : H1 ea = some (.ext (XNew ea C dc))) (new : s.heap.get? ea = none) (q : E (.ref C) dc (del ea H1)) : (cxOf (CXd P w) P w K mg base N qual scope f cd A outer s H E).xe (.ref ea) s₂ := by
  have FR : ∀ b, b ∈ frs (envOfC qual scope s.heap.objs.size f cd :: outer) → b = s.heap.objs.size ∨ b ∈ frs outer := fun b z => List.mem_cons.mp (I.stkSub b z)
  have hin : ∀ en ∈ (envOfC qual scope s.heap.objs.size f cd :: outer), ∀ b, en.frame = some b → b ∈ ea :: frs (envOfC qual scope s.heap.objs.size f cd :: outer) := fun en he b hb => List.mem_cons_of_mem _ (List.mem_filterMap.mpr ⟨en, he, hb⟩)
  obtain ⟨⟨t, ge⟩, _, _⟩ := (show ObjOk P w H1 s₂.heap ea (.ext (XNew ea C dc)) from I.hok ea _ hx)
  show wpAny (model P w) (A.deeper (envOfC qual scope s.heap.objs.size f cd)) (leaving (envOfC qual scope s.heap.objs.size f cd) (.ref ea)) _ _ _
  refine leaves_first (base := PySem.W.hideAll s₂.heap (ea :: frs (envOfC qual scope s.heap.objs.size f cd :: outer))) I.ok.frames (PySem.W.funFrames_hide I.stack hin) rfl ge (fun b o z => PySem.W.of_hideAll _ z) (PySem.W.hideAll_none _ List.mem_cons_self) rfl rfl fun h'' fl up => ?_
  have trk : ∀ b u, H1 b = some u → b ∉ frs (envOfC qual scope s.heap.objs.size f cd :: outer) := fun b u e z => by
    have := I.stkFree b z
    rw [e] at this; cases this
  have keepB : ∀ b o, s₂.heap.get? b = some o → b ≠ ea → b ∉ frs (envOfC qual scope s.heap.objs.size f cd :: outer) → h''.get? b = some o := fun b o e z n =>
    fl.1 b o (PySem.W.hideAll_get _ e fun k => (List.mem_cons.mp k).elim z n)
  have neS : ∀ b o, s.heap.get? b = some o → b ≠ ea := fun b o e z => by rw [z, new] at e; cases e
  have notF : ∀ b o, s.heap.get? b = some o → b ∉ frs outer → b ∉ frs (envOfC qual scope s.heap.objs.size f cd :: outer) := fun b o e n z =>
    (FR b z).elim (fun z => absurd (Nat.lt_of_lt_of_le (Heap.lt_size e) I.ok.above) (by rw [z]; exact Nat.lt_irrefl _)) n
  have hthere : ∀ b o, s.heap.get? b = some o → ∃ o', s₂.heap.get? b = some o' := fun b o e => I.base.there b o e (fun z => nomatch z)
  have slotK : ∀ b o, s.heap.get? b = some o → b ∈ frs outer → ∃ sl, h''.get? b = some { o with slots := sl } := fun b o e hb => by
    obtain ⟨sl, e1⟩ := I.base.slot b o e (I.ok.frf b hb) hb (fun z => nomatch z)
    obtain ⟨_, o', e2, nf⟩ := I.ok.funs.mem hb
    have e3 : some o' = some o := e2.symm.trans e
    cases e3
    obtain ⟨sl', e4⟩ := up b _ e1 nf
    exact ⟨sl', e4⟩
  refine ⟨ea, .ref C, dc, del ea H1, rfl, ⟨_, I.os, I.bare, ⟨?_, ?_, ?_, ?_, ?_, ?_, ?_⟩, ?_, fl, del_same, new, ?_⟩, q⟩
  · exact fun b o e n hb z => keepB b o (I.base.keep b o e n hb z) (neS b o e) (notF b o e hb)
  · exact fun b o e n hb z => slotK b o e hb
  · exact fun b o e n z => by rw [del_ne (neS b o e)]; exact I.base.free b o e n z
  · intro b o e z
    by_cases hb : b ∈ frs outer
    · obtain ⟨sl, e1⟩ := slotK b o e hb
      exact ⟨_, e1⟩
    · obtain ⟨o', e1⟩ := hthere b o e
      exact ⟨o', keepB b o' e1 (neS b o e) (notF b o e hb)⟩
  · intro b xs e
    have z := I.base.tups b xs e
    rw [del_ne fun k => by rw [k, hx] at z; cases z]
    exact z
  · intro b o u e
    have z := I.base.frzs b o u e
    rw [del_ne fun k => by rw [k, hx] at z; cases z]
    exact z
  · intro b ps e
    obtain ⟨m, z⟩ := I.base.tbls b ps e
    exact ⟨m, by rw [del_ne fun k => by rw [k, hx] at z; cases z]; exact z⟩
  · intro b u e
    have nb : b ≠ ea := fun z => by rw [z, del_same] at e; cases e
    rw [del_ne nb] at e
    refine (I.hok b u e).stay (fun c v hc e' => ?_) (fun c z => ?_) fun c xs z => ?_
    · have tc : ∃ v', H1 c = some v' ∧ c ≠ ea := hc.elim (fun z => ⟨u, by rw [z]; exact e, by rw [z]; exact nb⟩) fun z => ⟨_, z, fun k => by rw [k, hx] at z; cases z⟩
      obtain ⟨v', z1, z2⟩ := tc
      exact keepB c v e' z2 (trk c v' z1)
    · rw [del_ne fun k => by rw [k, hx] at z; cases z]
      exact z
    · rw [del_ne fun k => by rw [k, hx] at z; cases z]
      exact z
  · intro b o e n hb
    have key : ∃ o2, s₂.heap.get? b = some o2 ∧ b ≠ ea ∧ b ∉ frs (envOfC qual scope s.heap.objs.size f cd :: outer) := by
      rcases hb with ⟨u, hu⟩ | ⟨o', ho⟩
      · have nb : b ≠ ea := fun z => by rw [z, del_same] at hu; cases hu
        rw [del_ne nb] at hu
        obtain ⟨ob, e2⟩ := (I.hok b u hu).there
        exact ⟨ob, e2, nb, trk b u hu⟩
      · obtain ⟨o2, e2⟩ := hthere b o' ho
        exact ⟨o2, e2, neS b o' ho, notF b o' ho n⟩
    obtain ⟨o2, e2, n1, n2⟩ := key
    have e3 := keepB b o2 e2 n1 n2
    rw [e] at e3
    cases e3
    exact PySem.W.hideAll_get _ e2 fun k => (List.mem_cons.mp k).elim n1 n2
/-! ### raise C(..) -/
end
end L2


set_option Elab.async false
set_option linter.all false
set_option maxRecDepth 100000
set_option maxHeartbeats 4000000
namespace L2
open PySem PySem.Spec PySem.Calls PyProof.Rows PySem.W PySem.Builtin.Getset_descriptor
theorem XFly.got {base g : Heap} {l : List Env} {e C : Addr} {fl : Value} {dc : Option Addr} (x : XFly base l e (.ref C) dc fl g) : XGot e C dc g := by
  obtain ⟨_, _, _, oe, vs, _, _, _, a, b, c, _⟩ := x
  exact ⟨oe, vs, a, b.1, b.2, c⟩
theorem XGot.of {e C : Addr} {dc : Option Addr} {h : Heap} (x : XGot e C dc h) : OfCls e C h := let ⟨o, _, a, b, _⟩ := x; ⟨o, a, b⟩
/-! ### a def that may raise an exception with fields -/
structure DefD (P : Program) (w : World) (K : Frag) (mg : Str → Option Value) (base : Heap) (n : Nat) (x : Str) (ps : List Str) (sp : Sp) : Prop where
  ex : ∃ (f : Addr) (fd : FuncData), FnOk P w K mg base (CXd P w) n f fd ps sp ∧ Binds K fd ps [] ∧ keepIn K (.ref f) = true ∧ mg x = some (.ref f)
theorem defd_of {P : Program} {w : World} {K : Frag} {mg : Str → Option Value} {base : Heap} {x : Str} {st : Stmt} {N ps : List Str} {k : Nat} {sp : Sp} (T : TopDef K mg x st) (S : FnScope N ps (defScope st))
    (bd : ∀ (kV doc pm : Value) (an : Option Addr) (cdv ct : Value) (us : List Value), us.length = ps.length → bindArgs (fnOf x x (defArgs st) (defBody st) (defScope st) .none kV doc pm an cdv ct) ⟨us, []⟩ = pure (ps.zip us))
    (len : ∀ vs H Q E, sp vs H Q E → vs.length = ps.length)
    (body : ∀ (f : Addr) (cdv : Value) (A : Around) (outer : List Env) (s : Shared) (H : Hp) (vs : List V) (Q : VK) (E : XK), Room k (A.deeper (envOfC x (defScope st) s.heap.objs.size f cdv)) → sp vs H Q E →
      ∃ t, PSs (cxOf (CXd P w) P w K mg base N x (defScope st) f cdv A outer s H E) (defBody st) t ∧ t { nx := fun _ H' => Q .non H', rt := Q } (start N vs) H) :
    DefD P w K mg base (k + 1) x ps sp := by
  obtain ⟨f, fd, F, m⟩ := T.ex
  obtain ⟨oc, od, kV, doc, pm, an, cdv, ct, osl, rfl, lk, hcd⟩ := id F.ex
  exact ⟨f, _, fn_of lk hcd S len fun A outer s H vs Q E hr h => body f cdv A outer s H vs Q E hr h, F.binds bd, F.kp, m⟩
/-- a call of it that raises nothing -/
theorem pe_defD {X : Cx} {n : Nat} {x : Str} {ps : List Str} {sp : Sp} {e : Expr} {es : List Expr} {t : TA} {p pos : Pos} (D : DefD X.prog X.w X.K X.mg X.base n x ps sp) (hr : Room n X.A) (hg : Gl X x) (ha : PA X (e :: es) t)
    (hdb : (x == ("__debug__" : Str)) = false := by decide) (he : starEach (e :: es) X.env = (false, eval e X.env) :: starEach es X.env := by rfl) (hpl : (backTo pos (starEach es X.env)).any (·.1) = false := by rfl) :
    PE X (.Call (.Name x p) (e :: es) [] pos) (tCall sp [] E0 t) := by
  obtain ⟨f, fd, F, b, kp, m⟩ := D.ex
  exact pe_call F hr hg m kp b .nil passd ha hdb he hpl
section
variable {P : Program} {w : World} {K : PySem.W.Frag} {mg : Str → Option Value} {base : Heap} {N : List Str} {qual : Str} {scope : Scope} {f : Addr} {cd : Value} {A : Around} {outer : List Env} {s : Shared} {H : Hp} {E : XK}
/-- a callee's exception goes on through this def -/
theorem pass_on : Passes (CXd P w) (cxOf (CXd P w) P w K mg base N qual scope f cd A outer s H E) E := by
  intro pins σ H1 s1 e s' I hq
  obtain ⟨ea, C, dc, H2, rfl, ⟨B, ho, hgn, un, hok, fl, h0, h1, cov⟩, q⟩ := hq
  have hthere : ∀ b o, s.heap.get? b = some o → ∃ o', s1.heap.get? b = some o' := fun b o z => I.base.there b o z (fun z => nomatch z)
  show wpAny (model P w) (A.deeper (envOfC qual scope s.heap.objs.size f cd)) (leaving (envOfC qual scope s.heap.objs.size f cd) (.ref ea)) _ _ _
  refine leaves_next I.ok.frames rfl fl fun g fl2 up => ?_
  have I2 : Inv (cxOf (CXd P w) P w K mg base N qual scope f cd A outer s H E) pins σ H2 { s' with heap := g, toks := s'.toks } := I.caught (C := C) (ea := ea) (t := ea) ho hgn un hok cov fl2.1 up
  have new : s.heap.get? ea = none := by
    cases z : s.heap.get? ea with
    | none => rfl
    | some o => obtain ⟨o', e'⟩ := hthere ea o z; rw [h1] at e'; cases e'
  refine ⟨ea, C, dc, H2, rfl, ⟨B, I2.os, I2.bare, I2.base, I2.hok, fl2, h0, new, fun b o z n hb => ?_⟩, q⟩
  have nf : b ∉ frs (envOfC qual scope s.heap.objs.size f cd :: outer) := fun k => by
    rcases hb with ⟨u, hu⟩ | ⟨o', ho'⟩
    · have := I2.stkFree b k
      rw [hu] at this; cases this
    · exact (List.mem_cons.mp (I.stkSub b k)).elim (fun y => absurd (Nat.lt_of_lt_of_le (Heap.lt_size ho') I.ok.above) (by rw [y]; exact Nat.lt_irrefl _)) n
  have key : (∃ o1, s'.heap.get? b = some o1) ∧ ((∃ u, H2 b = some u) ∨ ∃ o', s1.heap.get? b = some o') := by
    rcases hb with ⟨u, hu⟩ | ⟨o', ho'⟩
    · exact ⟨(hok b u hu).there, .inl ⟨u, hu⟩⟩
    · obtain ⟨o2, e2⟩ := hthere b o' ho'
      exact ⟨un.there b o2 e2 (fun z => nomatch z), .inr ⟨o2, e2⟩⟩
  obtain ⟨⟨o1, e1⟩, k2⟩ := key
  have e2 := cov b o1 e1 nf k2
  have e3 := fl2.1 b o1 e2
  have e4 : some o = some o1 := z.symm.trans e3
  cases e4
  exact e2
theorem pe_defP {n : Nat} {x : Str} {ps : List Str} {sp : Sp} {e : Expr} {es : List Expr} {t : TA} {p pos : Pos} (D : DefD P w K mg base n x ps sp) (hr : Room n (cxOf (CXd P w) P w K mg base N qual scope f cd A outer s H E).A) (hg : Gl (cxOf (CXd P w) P w K mg base N qual scope f cd A outer s H E) x) (ha : PA (cxOf (CXd P w) P w K mg base N qual scope f cd A outer s H E) (e :: es) t)
    (hdb : (x == ("__debug__" : Str)) = false := by decide) (he : starEach (e :: es) (envOfC qual scope s.heap.objs.size f cd) = (false, eval e (envOfC qual scope s.heap.objs.size f cd)) :: starEach es (envOfC qual scope s.heap.objs.size f cd) := by rfl) (hpl : (backTo pos (starEach es (envOfC qual scope s.heap.objs.size f cd))).any (·.1) = false := by rfl) :
    PE (cxOf (CXd P w) P w K mg base N qual scope f cd A outer s H E) (.Call (.Name x p) (e :: es) [] pos) (tCall sp [] E t) := by
  obtain ⟨g, fd, F, b, kp, m⟩ := D.ex
  exact pe_call F hr hg m kp b .nil pass_on ha hdb he hpl
end
/-! ### e.f of an exception that was caught -/
section
variable {X : Cx}
/-! ### isinstance(such an exception, c) -/
theorem call_isiGK {K : Frag} (eK : X.K = K) : CallR X (.builtin "isinstance") (fun xs H Q => ∃ (ea : Addr) (c : V) (cv : Value) (C : Addr) (dc : Option Addr) (k : Bool), xs = [.ref ea, c] ∧ (∀ u, RelV c u → u = cv) ∧ H ea = some (.ext (XGot ea C dc)) ∧ ExcCls K C ∧ kitOne K (.ref C) cv = some k ∧ Q (.bl k) H) := by
  subst eK
  intro pins s σ H xs us Q I r h
  obtain ⟨ea, c, cv, C, dc, k, rfl, hc, he, ec, kt, q⟩ := h
  obtain ⟨u, w', rfl, r1, r2⟩ := vals2 r
  have e := hc _ r2
  subst e
  cases (show u = Value.ref ea from r1)
  obtain ⟨p, _, _⟩ := (show ObjOk X.prog X.w H s.heap ea (.ext (XGot ea C dc)) from I.hok ea _ he)
  exact kia_one (kitx_exc ec) I.kIn p.of kt (fun z => nomatch z) fun tk => ⟨.bl k, H, I.tok tk, rfl, q⟩
theorem call_isiG : CallR X (.builtin "isinstance") (fun xs H Q => ∃ (ea : Addr) (c : V) (cv : Value) (C : Addr) (dc : Option Addr) (k : Bool), xs = [.ref ea, c] ∧ (∀ u, RelV c u → u = cv) ∧ H ea = some (.ext (XGot ea C dc)) ∧ ExcCls X.K C ∧ kitOne X.K (.ref C) cv = some k ∧ Q (.bl k) H) := call_isiGK rfl
end
/-! ### try: z = f(..) except Y as n: suite -/
end L2


set_option Elab.async false
set_option linter.all false
set_option maxRecDepth 100000
set_option maxHeartbeats 4000000
namespace L2
open PySem PySem.Spec PySem.Calls PyProof.Rows PySem.W
/-! ### a function of the text, by its address -/
structure FunE (K : Frag) (x qual : Str) (st : Stmt) (f : Addr) : Prop where
  ex : ∃ fd : FuncData, Fun K x qual st f fd
theorem funE_mk {K : Frag} {x qual : Str} {st : Stmt} {f : Addr} {oc kV doc pm cdv ct : Value} {od an : Option Addr} {osl : Array (Option Value)} (l : K.lookup f = some ⟨oc, od, .func (fnOf x qual (defArgs st) (defBody st) (defScope st) .none kV doc pm an cdv ct), osl⟩)
    (c : codeIn K cdv qual = true) (k : keepIn K (.ref f) = true) : FunE K x qual st f := ⟨⟨_, fun_mk l c k⟩⟩
/-- the class's own facts in one -/
def xfldIn (K : Frag) (C : Addr) : Bool := (clsIn K C).any fun cd => overV cd.mro && cd.hasDict
theorem xfld_mk {K : Frag} {C : Addr} (a : xfldIn K C = true) (s : findIn K (.ref C) "__setattr__" = some (some (.builtin "object.__setattr__"))) (e : ExcCls K C) : XFld K C := by
  refine ⟨?_, s, e⟩
  unfold xfldIn at a
  cases h : clsIn K C with
  | none => rw [h] at a; cases a
  | some cd =>
    rw [h] at a
    have z : (overV cd.mro && cd.hasDict) = true := a
    exact ⟨cd, rfl, (Bool.and_eq_true_iff.mp z).1, (Bool.and_eq_true_iff.mp z).2⟩
/-! ### an exception with the fields word and at, or at alone -/
/-- what an __init__ that puts fields leaves: the exception, its dict with the fields -/
def Put (a C d : Addr) (fs : List (Str × V)) (H H' : Hp) : Prop := H d = none ∧ d ≠ a ∧ H' a = some (.ext (XNew a C (some d))) ∧ H' d = some (.ext (XDict d fs)) ∧ ∀ b, b ≠ a → b ≠ d → H' b = H b
theorem Put.del {a C d : Addr} {fs : List (Str × V)} {H H' : Hp} (n : H a = none) (p : Put a C d fs (upd H a (.ext (XNew a C none))) H') : del a H' = upd H d (.ext (XDict d fs)) ∧ H d = none := by
  obtain ⟨h1, h2, h3, h4, h5⟩ := p
  rw [upd_ne h2] at h1
  refine ⟨funext fun b => ?_, h1⟩
  by_cases z : b = a
  · subst z
    rw [del_same, upd_ne (Ne.symm h2)]
    exact n.symm
  · rw [del_ne z]
    by_cases y : b = d
    · subst y
      rw [upd_same]
      exact h4
    · rw [upd_ne y, h5 b z y, upd_ne z]
def spInit1 (C : Addr) (f : Str) : Sp := fun vs H Q _ => ∃ a y, vs = [.ref a, y] ∧ H a = some (.ext (XNew a C none)) ∧ ∀ d H', Put a C d [(f, y)] H H' → Q .non H'
section
variable {P : Program} {w : World} {K : PySem.W.Frag} {mg : Str → Option Value} {base : Heap} {N : List Str} {qual : Str} {scope : Scope} {f : Addr} {cd : Value} {A : Around} {outer : List Env} {s : Shared} {H : Hp} {E : XK}
end
end L2


set_option Elab.async false
set_option linter.all false
set_option maxRecDepth 100000
set_option maxHeartbeats 4000000
namespace L2
open PySem PySem.Spec PySem.Calls PyProof.Rows PySem.W PySem.Builtin.Getset_descriptor
theorem ar0 {p : List Value → Prop} (h : p []) (us : List Value) (e : us.length = 0) : p us := by
  rw [List.eq_nil_of_length_eq_zero e]
  exact h
theorem arS {p : List Value → Prop} {n : Nat} (h : ∀ a us, us.length = n → p (a :: us)) (us : List Value) (e : us.length = n + 1) : p us := by
  cases us with
  | nil => exact absurd e.symm (Nat.succ_ne_zero n)
  | cons a t => exact h a t (Nat.succ.inj e)
theorem ar1 {p : List Value → Prop} (h : ∀ a, p [a]) : ∀ us : List Value, us.length = 1 → p us := arS fun a => ar0 (h a)
theorem ar2 {p : List Value → Prop} (h : ∀ a b, p [a, b]) : ∀ us : List Value, us.length = 2 → p us := arS fun a => ar1 (h a)
theorem ar3 {p : List Value → Prop} (h : ∀ a b c, p [a, b, c]) : ∀ us : List Value, us.length = 3 → p us := arS fun a => ar2 (h a)
/-- a class of exceptions with one field, by its name in the text -/
structure XC1 (P : Program) (w : World) (K : Frag) (mg : Str → Option Value) (base : Heap) (x : Str) (C : Addr) (f : Str) : Prop where
  m : mg x = some (.ref C)
  kc : keepIn K (.ref C) = true
  ex : ∃ (fI : Addr) (fd : FuncData) (ps : List Str), FnOk P w K mg base CX0 1 fI fd ps (spInit1 C f) ∧ Binds K fd ps [] ∧ excInI K C bmV "ValueError.__new__" fI = true
  fl : XFld K C
  n1 : NoAttr K C f
def tRaise1 (C : Addr) (f : Str) (E : XK) (ta : TA) : TS := fun _ σ H => ta σ H fun vs H1 => ∃ y, vs = [y] ∧ ∀ d, H1 d = none → E (.ref C) (some d) (upd H1 d (.ext (XDict d [(f, y)])))
section
variable {P : Program} {w : World} {K : PySem.W.Frag} {mg : Str → Option Value} {base : Heap} {N : List Str} {qual : Str} {scope : Scope} {f : Addr} {cd : Value} {A : Around} {outer : List Env} {s : Shared} {H : Hp} {E : XK}
theorem ps_raise1 {C : Addr} {x f1 : Str} {e₀ : Expr} {es : List Expr} {ta : TA} {np cpos pos : Pos} (c : XC1 P w K mg base x C f1)
    (hr : Room 2 (cxOf (CXd P w) P w K mg base N qual scope f cd A outer s H E).A) (hg : Gl (cxOf (CXd P w) P w K mg base N qual scope f cd A outer s H E) x) (ha : PA (cxOf (CXd P w) P w K mg base N qual scope f cd A outer s H E) (e₀ :: es) ta)
    (hdb : (x == ("__debug__" : Str)) = false := by decide) (he : starEach (e₀ :: es) (envOfC qual scope s.heap.objs.size f cd) = (false, eval e₀ (envOfC qual scope s.heap.objs.size f cd)) :: starEach es (envOfC qual scope s.heap.objs.size f cd) := by rfl)
    (hpl : (backTo cpos (starEach es (envOfC qual scope s.heap.objs.size f cd))).any (·.1) = false := by rfl) :
    PS (cxOf (CXd P w) P w K mg base N qual scope f cd A outer s H E) (.Raise (some (.Call (.Name x np) (e₀ :: es) [] cpos)) none pos) (tRaise1 C f1 E ta) := by
  obtain ⟨fI, fd, ps, F, b, xi⟩ := c.ex
  intro pins s₁ σ H1 D I h
  refine x_raise (C := C) (bmB := bmV) (newId := "ValueError.__new__") (by decide) (I.ok.hd rfl) ?_
  refine wpAny_Call_Name_kw (ld_glob I hg c.m ?_ hdb)
  refine callWith_K (h₀ := base) I.ok.mod.kin c.kc (thn (ha cpos pins s₁ σ H1 _ I h) fun us s2 zz => ?_) he hpl
  obtain ⟨vs, H2, I2, r, y, ev, q⟩ := zz
  refine ⟨I2.kIn, ?_⟩
  subst ev
  have fr : H2 (s2.heap.objs.size + 1) = none := I2.hok.fresh (Nat.le_succ _)
  refine wpAny_mono (run_makeX0 (R := fun H3 => ∃ dc, H3 (s2.heap.objs.size + 1) = some (.ext (XNew (s2.heap.objs.size + 1) C dc)) ∧ E (.ref C) dc (del (s2.heap.objs.size + 1) H3)) F xi hr b I2 r (by show 1 ≤ 1000; decide) ⟨_, y, rfl, upd_same, fun d H3 p => ⟨rfl, some d, p.2.2.1, ?_⟩⟩) (fun v s3 t => ?_) fun _ _ t => t
  · obtain ⟨e1, e2⟩ := p.del fr
    rw [e1]
    exact q d e2
  · obtain ⟨rfl, H3, I3, dc, hx, hE⟩ := t
    have nw : s.heap.get? (s2.heap.objs.size + 1) = none := Heap.get?_none_of_le (Nat.le_trans I2.sz (Nat.le_succ _))
    exact ⟨_, dc, rfl, ⟨fI, xat_of I3.kIn xi⟩, (show ObjOk P w H3 s3.heap _ (.ext (XNew _ C dc)) from I3.hok _ _ hx).1, leaves_made I3 hx nw hE⟩
end
/-! ### try: f(..) except Y as n: suite -/
def tTryH (K : Frag) (j : Nat) (Dc : Addr) (sp : Sp) (ta : TA) (ts : TS) : TS := fun D σ H => ta σ H fun vs H1 => sp vs H1 (fun _ H2 => D.nx σ H2) fun C dc H2 => ∃ Cn, C = .ref Cn ∧ mroIn K Cn (.ref Dc) = some true ∧
  ∀ ea, H2 ea = none → ts { nx := fun σ' H3 => D.nx (σ'.set j none) H3, rt := D.rt, bk := fun σ' H3 => D.bk (σ'.set j none) H3, ct := fun σ' H3 => D.ct (σ'.set j none) H3 } (σ.set j (some (.ref ea))) (upd H2 ea (.ext (XGot ea Cn dc)))
end L2


set_option Elab.async false
set_option linter.all false
set_option maxRecDepth 100000
set_option maxHeartbeats 4000000
namespace L2
open PySem PySem.Spec PySem.Calls PyProof.Rows PySem.W PySem.Builtin.Getset_descriptor
/-! ### an exception without fields is one whose dict is not asked for -/
theorem Flies.d {P : Program} {w : World} {outer : List Env} {H : Hp} {s : Shared} {ea : Addr} {C : Value} {H' : Hp} {s' : Shared} (h : Flies P w outer H s ea C H' s') : ∃ dc, FliesD P w outer H s ea C dc H' s' := by
  obtain ⟨t, B, h1, h2, h3, h4, ⟨f1, f2, f3, oe, vs, T, oT, ts, a, b, c⟩, h5⟩ := h
  exact ⟨oe.dict, B, h1, h2, h3, h4, ⟨f1, f2, f3, oe, vs, T, oT, ts, a, ⟨b.1, rfl⟩, c⟩, h5⟩
/-- the promise of a def that raises exceptions without fields, where others have some -/
def spD (sp : Sp) : Sp := fun vs H Q E => sp vs H Q fun C _ H' => ∀ dc, E C dc H'
theorem FnOk.d {P : Program} {w : World} {K : Frag} {mg : Str → Option Value} {base : Heap} {n : Nat} {f : Addr} {fd : FuncData} {ps : List Str} {sp : Sp} (F : FnOk P w K mg base (CXr P w) n f fd ps sp) : FnOk P w K mg base (CXd P w) n f fd ps (spD sp) := by
  refine ⟨fun vs H Q E q => F.len vs H Q _ q, fun A outer s H args us vs Q E hr he hb hv hs => ?_⟩
  refine codeAny_mono (F.run A outer s H args us vs Q _ hr he hb hv hs) fun res s' hq => ?_
  cases res with
  | ok fl => cases fl <;> exact hq
  | error ex =>
    obtain ⟨ea, C, H', e, fl, q⟩ := hq
    obtain ⟨dc, fd⟩ := fl.d
    exact ⟨ea, C, dc, H', e, fd, q dc⟩
theorem DefX.d {P : Program} {w : World} {K : Frag} {mg : Str → Option Value} {base : Heap} {n : Nat} {x : Str} {ps : List Str} {sp : Sp} (D : DefX P w K mg base n x ps sp) : DefD P w K mg base n x ps (spD sp) := by
  obtain ⟨f, fd, F, b, kp, m⟩ := D.ex
  exact ⟨f, fd, F.d, b, kp, m⟩
/-! ### try: (if c: f(..) else: g(..)) except Y as n: suite -/
def TryOk (X : Cx) (pins : List (Addr × Obj)) (D : Ends) (hd : ExceptHandler) (b : List Stmt) (s : Shared) : Prop :=
  wpAny (model X.prog X.w) X.A (execs b X.env) (fun f s₁ => match f with | .next => wpAny (model X.prog X.w) X.A (execs [] X.env) (SP X pins D) X.xe s₁ | f => SP X pins D f s₁)
    (fun e s₁ => wpAny (model X.prog X.w) X.A (noteFrame e X.env) (fun _ s₂ => wpAny (model X.prog X.w) X.A (setFlight e none) (fun _ s₃ => wpAny (model X.prog X.w) X.A (handleBy e X.env [hd]) (SP X pins D) X.xe s₃) X.xe s₂) X.xe s₁) s
theorem try_ok {X : Cx} {m j : Nat} {x y n : Str} {ps : List Str} {sp : Sp} {e : Expr} {es : List Expr} {ta : TA} {ts : TS} {p pos pos' np hpos : Pos} {b₀ : Stmt} {suite : List Stmt} {Dc : Addr} {pins : List (Addr × Obj)} {σ : St} {H : Hp} {D : Ends} {s : Shared}
    (hxe : X.xe = fun _ _ => False) (hstk : X.stack = X.env :: X.outer) (hfr : X.env.frame = some X.env.locals) (hex : X.ex = [])
    (Df : DefD X.prog X.w X.K X.mg X.base m x ps sp) (hr : Room m X.A) (hg : Gl X x) (ha : PA X (e :: es) ta) (hgy : Gl X y) (hmy : X.mg y = some (.ref Dc)) (cc : CatchCls X.K Dc)
    (hN : X.N.Nodup) (hj : X.N[j]? = some n) (hl : X.env.scope.names.lookup n = some .local) (hs : ∀ ea, PSs (X.mark ea) (b₀ :: suite) ts)
    (hdb : (x == ("__debug__" : Str)) = false) (hdy : (y == ("__debug__" : Str)) = false) (he : starEach (e :: es) X.env = (false, eval e X.env) :: starEach es X.env)
    (hpl : (backTo pos (starEach es X.env)).any (·.1) = false) (hsw : swapsWith (.Call (.Name x p) (e :: es) [] pos) none pos'.line X.env = pure false)
    (I : Inv X pins σ H s) (h : tTryH X.K j Dc sp ta ts D σ H) : TryOk X pins D (.ExceptHandler (some (.Name y np)) (some n) (b₀ :: suite) hpos) [.Expr (.Call (.Name x p) (e :: es) [] pos) pos'] s := by
  unfold TryOk
  obtain ⟨f, fd, F, b, kp, mf⟩ := Df.ex
  refine wpAny_execs_cons (wpAny_Expr_any ?_ I.quiet hsw)
  refine wpAny_Call_Name_kw (ld_glob I hg mf ?_ hdb)
  refine callWith_K (h₀ := X.base) I.ok.mod.kin kp (wpAny_mono (ha pos pins s σ H _ I h) (fun us s1 z => ?_) (fun _ _ z => by rw [hxe] at z; exact z.elim)) he hpl
  obtain ⟨vs, H1, I1, r, q⟩ := z
  refine ⟨I1.kIn, ?_⟩
  have hlen : us.length = ps.length := by rw [← r.length]; exact F.len _ _ _ _ q
  have bnd : BindsTo s1 fd ⟨us, []⟩ (ps.zip us) := by
    have z := b s1 us I1.kIn (by rw [List.append_nil]; exact hlen)
    rw [List.append_nil] at z
    exact z
  refine wpAny_call (codeAny_mono (F.run X.A X.stack s1 H1 ⟨us, []⟩ us vs _ _ hr I1.env0 bnd r q) fun res s' hq => ?_)
  cases res with
  | ok fl =>
    cases fl with
    | ret u =>
      obtain ⟨v, H2, I2, rv, q2⟩ := I1.after hq
      exact wpAny_execs_nil (wpAny_execs_nil ⟨σ, H2, I2, q2⟩)
    | next => exact False.elim hq
    | brk => exact False.elim hq
    | cont => exact False.elim hq
  | error ex =>
    obtain ⟨ea, C, dc, H2, rfl, ⟨B, ho, hgn, un, hok, fl, h0, h1, cov⟩, Cn, rfl, hm, q3⟩ := hq
    have hfrm : X.A.frames = some (X.env :: X.outer) := by rw [← hstk]; exact I.ok.frames
    rw [hstk] at fl
    refine looked (L := X.env.locals) hfrm hfr fl fun h4 held up4 => ?_
    refine landed (s := { s' with heap := h4 }) held fun h5 fl5 up5' => ?_
    have up5 := up4.trans up5'
    have I5 : Inv X pins σ H2 { s' with heap := h5 } := I1.caught (C := .ref Cn) (ea := ea) (t := ea) (tk := s'.toks) ho hgn un hok cov fl5.1 up5
    refine wpAny_handleBy_cons (codeAny_handlers_test (ld_glob (X := X.mark ea) (I5.mark ea) hgy hmy ?_ hdy)) (by intro z; cases z)
    refine exc_matches (K := X.K) I5.kIn fl5.got.of cc hm ?_
    show codeAny _ _ (.handlers (.ref ea) [.ExceptHandler none (some n) (b₀ :: suite) hpos] X.env) _ _
    refine codeAny_handlers_suite_as ?_
    refine landed (s := { s' with heap := h5 }) fl5 fun h6 fl6 up6 => ?_
    have I6 : Inv X pins σ H2 { s' with heap := h6 } := I1.caught (C := .ref Cn) (ea := ea) (t := ea) (tk := s'.toks) ho hgn un hok cov fl6.1 (up5.trans up6)
    have new : X.s₀.heap.get? ea = none := by
      cases z : X.s₀.heap.get? ea with
      | none => rfl
      | some o => obtain ⟨o', e'⟩ := I1.base.there ea o z (by rw [hex]; simp); rw [h1] at e'; cases e'
    have nl : ea ≠ X.env.locals := fun z => by
      obtain ⟨mm, ⟨o, _, _, g, _⟩, _⟩ := I1.loc
      rw [← z, h1] at g; cases g
    have nc : ∀ z c, X.env.cells.lookup z = some c → c ≠ ea := fun z c k q => by
      obtain ⟨v, o, g, _⟩ := I1.cell z c k
      rw [q, h1] at g; cases g
    have np' : ∀ z ∈ X.pn ++ pins, z.1 ≠ ea := fun z hz q => by
      obtain ⟨g, _⟩ := I1.pin z hz
      rw [q, h1] at g; cases g
    have I7 := I6.track (a := ea) (φ := XGot ea Cn dc) h0 new nl nc np' fl6.got (let ⟨o, _, z, _⟩ := fl6.got; ⟨o, z⟩) fun _ _ z k => z.stay k
    refine store_ok (X := X.mark ea) (I7.mark ea) hN hj (.inl hl) (v := .ref ea) rfl (fun s7 I8 => ?_) (.inr hl)
    refine wpAny_mono (hs ea pins s7 _ _ _ I8 (q3 ea h0)) (fun fl8 s8 q8 => ?_) (fun ee ss z => by
      have z' : X.xe ee ss := z
      rw [hxe] at z'
      exact z'.elim)
    have hcls : (X.env.scope.kind == .class || (X.env.scope.kind == .module && X.env.locals != X.env.globals)) = false := by rw [I.ok.kind]; rfl
    cases fl8 with
    | next =>
      obtain ⟨σ8, H8, J, n8⟩ := q8
      have J' := J.unmark I.ok
      obtain ⟨mm, hn, _⟩ := id J'.loc
      exact wpAny_nameGoes_keeps hl hn hcls fun h9 v9 hn9 hs9 => ⟨_, H8, J'.unname hN hj hn hn9 hs9, n8⟩
    | brk =>
      obtain ⟨σ8, H8, J, n8⟩ := q8
      have J' := J.unmark I.ok
      obtain ⟨mm, hn, _⟩ := id J'.loc
      exact wpAny_nameGoes_keeps hl hn hcls fun h9 v9 hn9 hs9 => ⟨_, H8, J'.unname hN hj hn hn9 hs9, n8⟩
    | cont =>
      obtain ⟨σ8, H8, J, n8⟩ := q8
      have J' := J.unmark I.ok
      obtain ⟨mm, hn, _⟩ := id J'.loc
      exact wpAny_nameGoes_keeps hl hn hcls fun h9 v9 hn9 hs9 => ⟨_, H8, J'.unname hN hj hn hn9 hs9, n8⟩
    | ret u =>
      obtain ⟨v, σ8, H8, J, rv, n8⟩ := q8
      have J' := J.unmark I.ok
      obtain ⟨mm, hn, _⟩ := id J'.loc
      exact wpAny_nameGoes_keeps hl hn hcls fun h9 v9 hn9 hs9 => ⟨v, _, H8, J'.unname hN hj hn hn9 hs9, rv, n8⟩
def tTryIf (tc : TT) (t u : TS) : TS := fun D σ H => tc σ H fun b H1 => if b = true then t D σ H1 else u D σ H1
theorem ps_tryIf {X : Cx} {m j m' : Nat} {x y n x' : Str} {ps ps' : List Str} {sp sp' : Sp} {c e e' : Expr} {es es' : List Expr} {tc : TT} {ta ta' : TA} {ts : TS} {p pos pos' p1 pos1 pos1' np hpos tpos ipos : Pos} {b₀ : Stmt} {suite : List Stmt} {Dc : Addr}
    (hxe : X.xe = fun _ _ => False) (hstk : X.stack = X.env :: X.outer) (hfr : X.env.frame = some X.env.locals) (hex : X.ex = []) (hc : PT X c tc)
    (Df : DefD X.prog X.w X.K X.mg X.base m x ps sp) (hr : Room m X.A) (hg : Gl X x) (ha : PA X (e :: es) ta) (Df' : DefD X.prog X.w X.K X.mg X.base m' x' ps' sp') (hr' : Room m' X.A) (hg' : Gl X x') (ha' : PA X (e' :: es') ta') (hgy : Gl X y) (hmy : X.mg y = some (.ref Dc)) (cc : CatchCls X.K Dc)
    (hN : X.N.Nodup) (hj : X.N[j]? = some n) (hl : X.env.scope.names.lookup n = some .local) (hs : ∀ ea, PSs (X.mark ea) (b₀ :: suite) ts)
    (hdb : (x == ("__debug__" : Str)) = false := by decide) (hdb' : (x' == ("__debug__" : Str)) = false := by decide) (hdy : (y == ("__debug__" : Str)) = false := by decide) (he : starEach (e :: es) X.env = (false, eval e X.env) :: starEach es X.env := by rfl) (he' : starEach (e' :: es') X.env = (false, eval e' X.env) :: starEach es' X.env := by rfl)
    (hpl : (backTo pos (starEach es X.env)).any (·.1) = false := by rfl) (hpl' : (backTo pos1 (starEach es' X.env)).any (·.1) = false := by rfl) (hsw : swapsWith (.Call (.Name x p) (e :: es) [] pos) none pos'.line X.env = pure false := by rfl) (hsw' : swapsWith (.Call (.Name x' p1) (e' :: es') [] pos1) none pos1'.line X.env = pure false := by rfl) :
    PS X (.Try [.If c [.Expr (.Call (.Name x p) (e :: es) [] pos) pos'] [.Expr (.Call (.Name x' p1) (e' :: es') [] pos1) pos1'] ipos] [.ExceptHandler (some (.Name y np)) (some n) (b₀ :: suite) hpos] [] [] tpos) (tTryIf tc (tTryH X.K j Dc sp ta ts) (tTryH X.K j Dc sp' ta' ts)) := by
  intro pins s σ H D I h
  refine wpAny_Try_except (wpAny_execs_cons (wpAny_If (wpAny_mono (hc pins s σ H _ I h) (fun d s1 z => ?_) (fun _ _ z => by rw [hxe] at z; exact z.elim))))
  obtain ⟨H1, I1, q1⟩ := z
  cases d with
  | true =>
    refine wpAny_mono (try_ok (np := np) (hpos := hpos) hxe hstk hfr hex Df hr hg ha hgy hmy cc hN hj hl hs hdb hdy he hpl hsw I1 q1) (fun fl s2 z => ?_) (fun _ _ z => z)
    cases fl with
    | next => exact wpAny_execs_nil z
    | brk => exact z
    | cont => exact z
    | ret u => exact z
  | false =>
    refine wpAny_mono (try_ok (np := np) (hpos := hpos) hxe hstk hfr hex Df' hr' hg' ha' hgy hmy cc hN hj hl hs hdb' hdy he' hpl' hsw' I1 q1) (fun fl s2 z => ?_) (fun _ _ z => z)
    cases fl with
    | next => exact wpAny_execs_nil z
    | brk => exact z
    | cont => exact z
    | ret u => exact z
end L2


set_option Elab.async false
set_option linter.all false
set_option maxRecDepth 100000
set_option maxHeartbeats 4000000
namespace Mine
open PySem L2
def top (i : Nat) : Stmt := PySem.Challenge.pw_leansay_k07_no_points.main.body.getD i (.Pass ⟨0, 0, 0, 0⟩)
abbrev s_NoRows_init : Stmt := inClass (top 3) 0
abbrev s_Saying_made_of : Stmt := inClass (top 12) 0
abbrev s_Saying_laid_out : Stmt := inClass (top 12) 2
abbrev s_Saying_out_of : Stmt := inClass (top 12) 4
abbrev s_Never_making_word : Stmt := inClass (top 13) 0
abbrev s_Never_weigh : Stmt := inClass (top 13) 1
abbrev s_Always_making_word : Stmt := inClass (top 14) 0
abbrev s_Always_weigh : Stmt := inClass (top 14) 1
abbrev s_Letter_init : Stmt := inClass (top 15) 0
abbrev s_Letter_making_word : Stmt := inClass (top 15) 1
abbrev s_Letter_weigh : Stmt := inClass (top 15) 2
abbrev s_Not_init : Stmt := inClass (top 16) 0
abbrev s_Not_made_of : Stmt := inClass (top 16) 1
abbrev s_Not_making_word : Stmt := inClass (top 16) 2
abbrev s_Not_weigh : Stmt := inClass (top 16) 4
abbrev s_Fold_init : Stmt := inClass (top 17) 0
abbrev s_Fold_made_of : Stmt := inClass (top 17) 1
abbrev s_Fold_weigh : Stmt := inClass (top 17) 3
abbrev s_More_making_word : Stmt := inClass (top 18) 0
abbrev s_More_folded : Stmt := inClass (top 18) 1
abbrev s_Less_making_word : Stmt := inClass (top 19) 0
abbrev s_Less_folded : Stmt := inClass (top 19) 1
abbrev s_Greater_making_word : Stmt := inClass (top 20) 0
abbrev s_Greater_folded : Stmt := inClass (top 20) 1
abbrev s_Lesser_making_word : Stmt := inClass (top 21) 0
abbrev s_Lesser_folded : Stmt := inClass (top 21) 1
abbrev s_Leads_making_word : Stmt := inClass (top 22) 0
abbrev s_Leads_folded : Stmt := inClass (top 22) 1
abbrev sLaid : Stmt := s_Saying_laid_out
abbrev sOut : Stmt := s_Saying_out_of
abbrev s_is_whole : Stmt := top 6
abbrev s_is_point : Stmt := top 7
abbrev s_must_be_point : Stmt := top 8
abbrev s_worth : Stmt := top 9
abbrev s_how_many_it_takes : Stmt := top 23
abbrev s_leaf_by : Stmt := top 24
abbrev s_fold_by : Stmt := top 25
abbrev s_is_place_ahead : Stmt := top 28
abbrev s_is_row : Stmt := top 29
abbrev s_rows_fault : Stmt := top 30
abbrev s_must_be_rows : Stmt := top 31
abbrev s_rows_of : Stmt := top 32
abbrev s_row_worth : Stmt := top 33
abbrev s_worth_of_rows : Stmt := top 34
abbrev s_l_mixed : Stmt := top 36
abbrev sMixed : Stmt := top 36
abbrev s_l_next : Stmt := top 37
abbrev sNext : Stmt := top 37
abbrev s_l_saying : Stmt := top 38
abbrev sSaying : Stmt := top 38
abbrev s_l_object : Stmt := top 39
abbrev sObject : Stmt := top 39
abbrev s_l_fold : Stmt := top 40
abbrev sFoldF : Stmt := top 40
abbrev s_l_worth : Stmt := top 41
abbrev sWorth : Stmt := top 41
abbrev s_l_point : Stmt := top 42
abbrev sPoint : Stmt := top 42
abbrev s_l_odd : Stmt := top 43
abbrev s_l_refused : Stmt := top 44
abbrev s_law : Stmt := top 45
abbrev sLaw : Stmt := top 45
end Mine

namespace Mine
open PySem L2
section
variable {P : Program} {w : World} {K : PySem.W.Frag} {mg : Str → Option Value} {base : Heap}
theorem sc_iLetter : FnScope ["self", "name"] ["self", "name"] (defScope s_Letter_init) := ⟨rfl, rfl, rfl, by decide +kernel, rfl, by decide +kernel, by decide +kernel⟩
theorem ok_iLetter {x : Str} {C : Addr} (T : MkF K mg x C "Letter.__init__" s_Letter_init) (n : NoAttr K C "name") : MkOk P w K mg base x C 1 ["self", "name"] (spInit1 C fName) := by
  refine mk_of T sc_iLetter (fun _ _ _ _ _ _ us hl => match us, hl with | [_, _], _ => rfl) (fun vs H Q E h => ?_) (fun f cdv A outer s H vs Q E hr h => ?_)
  · obtain ⟨a, dx, y, rfl, e, q⟩ := h
    rfl
  obtain ⟨a, dx, y, rfl, e, q⟩ := h
  have nd := sc_iLetter.nd
  refine ⟨_, (pss_one (ps_fld (pv 0) (pv 1) rfl)), ?_⟩
  exact ⟨_, rfl, _, rfl, a, C, dx, [], rfl, e, T.cl, n, (by show 0 < 1000; decide), q⟩
theorem sc_iNot : FnScope ["self", "part"] ["self", "part"] (defScope s_Not_init) := ⟨rfl, rfl, rfl, by decide +kernel, rfl, by decide +kernel, by decide +kernel⟩
theorem ok_iNot {x : Str} {C : Addr} (T : MkF K mg x C "Not.__init__" s_Not_init) (n : NoAttr K C "part") : MkOk P w K mg base x C 1 ["self", "part"] (spInit1 C fPart) := by
  refine mk_of T sc_iNot (fun _ _ _ _ _ _ us hl => match us, hl with | [_, _], _ => rfl) (fun vs H Q E h => ?_) (fun f cdv A outer s H vs Q E hr h => ?_)
  · obtain ⟨a, dx, y, rfl, e, q⟩ := h
    rfl
  obtain ⟨a, dx, y, rfl, e, q⟩ := h
  have nd := sc_iNot.nd
  refine ⟨_, (pss_one (ps_fld (pv 0) (pv 1) rfl)), ?_⟩
  exact ⟨_, rfl, _, rfl, a, C, dx, [], rfl, e, T.cl, n, (by show 0 < 1000; decide), q⟩
theorem sc_iFold : FnScope ["self", "one", "other"] ["self", "one", "other"] (defScope s_Fold_init) := ⟨rfl, rfl, rfl, by decide +kernel, rfl, by decide +kernel, by decide +kernel⟩
theorem ok_iFold {x : Str} {C : Addr} (T : MkF K mg x C "Fold.__init__" s_Fold_init) (n : NoAttr K C "one") (n' : NoAttr K C "other") : MkOk P w K mg base x C 1 ["self", "one", "other"] (spInit2 C) := by
  refine mk_of T sc_iFold (fun _ _ _ _ _ _ us hl => match us, hl with | [_, _, _], _ => rfl) (fun vs H Q E h => ?_) (fun f cdv A outer s H vs Q E hr h => ?_)
  · obtain ⟨a, dx, y, z, rfl, e, q⟩ := h
    rfl
  obtain ⟨a, dx, y, z, rfl, e, q⟩ := h
  have nd := sc_iFold.nd
  refine ⟨_, (pss_cons (ps_fld (pv 0) (pv 1) rfl)
    (pss_one (ps_fld (pv 0) (pv 2) rfl))), ?_⟩
  refine ⟨_, rfl, _, rfl, a, C, dx, [], rfl, e, T.cl, n, (by show 0 < 1000; decide), ?_⟩
  refine ⟨_, rfl, _, rfl, a, C, dx, _, rfl, upd_same, T.cl, n', (by show 1 < 1000; decide), ?_⟩
  rw [putF_two, upd_upd]
  exact q
theorem sc_mS : FnScope ["self"] ["self"] (defScope s_Saying_made_of) := ⟨rfl, rfl, rfl, by decide +kernel, rfl, by decide +kernel, by decide +kernel⟩
theorem ok_mS {c : CCs} {C : Addr} {t : Tr} (T : MethF K C "made_of" "Saying.made_of" s_Saying_made_of) (ht : t.kids = []) : MethOk P w K mg base C "made_of" 1 ["self"] (spMade c t) := by
  refine meth_of T sc_mS (fun _ _ _ _ _ _ us hl => match us, hl with | [_], _ => rfl) (fun vs H Q E h => ?_) (fun f cdv A outer s H vs Q E hr h => ?_)
  · obtain ⟨a, rfl, o, q⟩ := h
    rfl
  obtain ⟨a, rfl, o, q⟩ := h
  have nd := sc_mS.nd
  refine ⟨_, (pss_one (ps_ret (pe_lst pa_nil))), ?_⟩
  refine ⟨(by show 0 ≤ sizeLine; decide), fun l hl => q l [] hl ?_⟩
  rw [ht]
  exact .nil
theorem sc_mNot : FnScope ["self"] ["self"] (defScope s_Not_made_of) := ⟨rfl, rfl, rfl, by decide +kernel, rfl, by decide +kernel, by decide +kernel⟩
theorem ok_mNot {c : CCs} {t : Tr} (T : MethF K c.no "made_of" "Not.made_of" s_Not_made_of) (F : Fx K c) : MethOk P w K mg base c.no "made_of" 1 ["self"] (spMade c (.no t)) := by
  refine meth_of T sc_mNot (fun _ _ _ _ _ _ us hl => match us, hl with | [_], _ => rfl) (fun vs H Q E h => ?_) (fun f cdv A outer s H vs Q E hr h => ?_)
  · obtain ⟨a, rfl, o, q⟩ := h
    rfl
  obtain ⟨a, rfl, o, q⟩ := h
  have nd := sc_mNot.nd
  refine ⟨_, (pss_one (ps_ret (pe_lst (pa_cons (pe_fld (pv 0) rfl) pa_nil)))), ?_⟩
  cases o with
  | no e o =>
    refine ⟨_, rfl, a, c.no, _, _, _, rfl, e, T.cl, F.nPart, look_part _, (by show 1 ≤ sizeLine; decide), fun l hl => q l _ hl ?_⟩
    exact .cons ⟨_, rfl, o⟩ .nil
theorem sc_mFold : FnScope ["self"] ["self"] (defScope s_Fold_made_of) := ⟨rfl, rfl, rfl, by decide +kernel, rfl, by decide +kernel, by decide +kernel⟩
theorem ok_mFold {c : CCs} {u : W5} {t t' : Tr} (T : MethF K (c.fold u) "made_of" "Fold.made_of" s_Fold_made_of) (F : Fx K c) : MethOk P w K mg base (c.fold u) "made_of" 1 ["self"] (spMade c (.fold u t t')) := by
  refine meth_of T sc_mFold (fun _ _ _ _ _ _ us hl => match us, hl with | [_], _ => rfl) (fun vs H Q E h => ?_) (fun f cdv A outer s H vs Q E hr h => ?_)
  · obtain ⟨a, rfl, o, q⟩ := h
    rfl
  obtain ⟨a, rfl, o, q⟩ := h
  have nd := sc_mFold.nd
  refine ⟨_, (pss_one (ps_ret (pe_lst (pa_cons (pe_fld (pv 0) rfl) (pa_cons (pe_fld (pv 0) rfl) pa_nil))))), ?_⟩
  cases o with
  | fold e o o' =>
    refine ⟨_, rfl, a, _, _, _, _, rfl, e, T.cl, F.nOne u, look_one _ _, _, rfl, a, _, _, _, _, rfl, e, T.cl, F.nOther u, look_other _ _, (by show 2 ≤ sizeLine; decide), fun l hl => q l _ hl ?_⟩
    exact .cons ⟨_, rfl, o⟩ (.cons ⟨_, rfl, o'⟩ .nil)
theorem sc_wNever : FnScope ["self"] ["self"] (defScope s_Never_making_word) := ⟨rfl, rfl, rfl, by decide +kernel, rfl, by decide +kernel, by decide +kernel⟩
theorem ok_wNever {c : CCs} {C : Addr} (T : MethF K C "making_word" "Never.making_word" s_Never_making_word) : MethOk P w K mg base C "making_word" 1 ["self"] (spWord c .never) := by
  refine meth_of T sc_wNever (fun _ _ _ _ _ _ us hl => match us, hl with | [_], _ => rfl) (fun vs H Q E h => ?_) (fun f cdv A outer s H vs Q E hr h => ?_)
  · obtain ⟨a, rfl, o, q⟩ := h
    rfl
  obtain ⟨a, rfl, o, q⟩ := h
  have nd := sc_wNever.nd
  refine ⟨_, (pss_one (ps_ret pe_str)), ?_⟩
  exact q
theorem sc_wAlways : FnScope ["self"] ["self"] (defScope s_Always_making_word) := ⟨rfl, rfl, rfl, by decide +kernel, rfl, by decide +kernel, by decide +kernel⟩
theorem ok_wAlways {c : CCs} {C : Addr} (T : MethF K C "making_word" "Always.making_word" s_Always_making_word) : MethOk P w K mg base C "making_word" 1 ["self"] (spWord c .always) := by
  refine meth_of T sc_wAlways (fun _ _ _ _ _ _ us hl => match us, hl with | [_], _ => rfl) (fun vs H Q E h => ?_) (fun f cdv A outer s H vs Q E hr h => ?_)
  · obtain ⟨a, rfl, o, q⟩ := h
    rfl
  obtain ⟨a, rfl, o, q⟩ := h
  have nd := sc_wAlways.nd
  refine ⟨_, (pss_one (ps_ret pe_str)), ?_⟩
  exact q
theorem sc_wLp : FnScope ["self"] ["self"] (defScope s_Letter_making_word) := ⟨rfl, rfl, rfl, by decide +kernel, rfl, by decide +kernel, by decide +kernel⟩
theorem ok_wLp {c : CCs} (T : MethF K c.le "making_word" "Letter.making_word" s_Letter_making_word) (F : Fx K c) : MethOk P w K mg base c.le "making_word" 1 ["self"] (spWord c .lp) := by
  refine meth_of T sc_wLp (fun _ _ _ _ _ _ us hl => match us, hl with | [_], _ => rfl) (fun vs H Q E h => ?_) (fun f cdv A outer s H vs Q E hr h => ?_)
  · obtain ⟨a, rfl, o, q⟩ := h
    rfl
  obtain ⟨a, rfl, o, q⟩ := h
  have nd := sc_wLp.nd
  refine ⟨_, (pss_one (ps_ret (pe_fld (pv 0) rfl))), ?_⟩
  cases o with
  | lp e => exact ⟨_, rfl, a, _, _, _, _, rfl, e, T.cl, F.nName, look_name _, q⟩
theorem sc_wLq : FnScope ["self"] ["self"] (defScope s_Letter_making_word) := ⟨rfl, rfl, rfl, by decide +kernel, rfl, by decide +kernel, by decide +kernel⟩
theorem ok_wLq {c : CCs} (T : MethF K c.le "making_word" "Letter.making_word" s_Letter_making_word) (F : Fx K c) : MethOk P w K mg base c.le "making_word" 1 ["self"] (spWord c .lq) := by
  refine meth_of T sc_wLq (fun _ _ _ _ _ _ us hl => match us, hl with | [_], _ => rfl) (fun vs H Q E h => ?_) (fun f cdv A outer s H vs Q E hr h => ?_)
  · obtain ⟨a, rfl, o, q⟩ := h
    rfl
  obtain ⟨a, rfl, o, q⟩ := h
  have nd := sc_wLq.nd
  refine ⟨_, (pss_one (ps_ret (pe_fld (pv 0) rfl))), ?_⟩
  cases o with
  | lq e => exact ⟨_, rfl, a, _, _, _, _, rfl, e, T.cl, F.nName, look_name _, q⟩
theorem sc_wNot : FnScope ["self"] ["self"] (defScope s_Not_making_word) := ⟨rfl, rfl, rfl, by decide +kernel, rfl, by decide +kernel, by decide +kernel⟩
theorem ok_wNot {c : CCs} {C : Addr} {t : Tr} (T : MethF K C "making_word" "Not.making_word" s_Not_making_word) : MethOk P w K mg base C "making_word" 1 ["self"] (spWord c (.no t)) := by
  refine meth_of T sc_wNot (fun _ _ _ _ _ _ us hl => match us, hl with | [_], _ => rfl) (fun vs H Q E h => ?_) (fun f cdv A outer s H vs Q E hr h => ?_)
  · obtain ⟨a, rfl, o, q⟩ := h
    rfl
  obtain ⟨a, rfl, o, q⟩ := h
  have nd := sc_wNot.nd
  refine ⟨_, (pss_one (ps_ret pe_str)), ?_⟩
  exact q
theorem sc_wMore : FnScope ["self"] ["self"] (defScope s_More_making_word) := ⟨rfl, rfl, rfl, by decide +kernel, rfl, by decide +kernel, by decide +kernel⟩
theorem ok_wMore {c : CCs} {C : Addr} {t t' : Tr} (T : MethF K C "making_word" "More.making_word" s_More_making_word) : MethOk P w K mg base C "making_word" 1 ["self"] (spWord c (.fold .more t t')) := by
  refine meth_of T sc_wMore (fun _ _ _ _ _ _ us hl => match us, hl with | [_], _ => rfl) (fun vs H Q E h => ?_) (fun f cdv A outer s H vs Q E hr h => ?_)
  · obtain ⟨a, rfl, o, q⟩ := h
    rfl
  obtain ⟨a, rfl, o, q⟩ := h
  have nd := sc_wMore.nd
  refine ⟨_, (pss_one (ps_ret pe_str)), ?_⟩
  exact q
theorem sc_fMore : FnScope ["self", "n", "first", "second"] ["self", "n", "first", "second"] (defScope s_More_folded) := ⟨rfl, rfl, rfl, by decide +kernel, rfl, by decide +kernel, by decide +kernel⟩
theorem ok_fMore {C : Addr} (T : MethF K C "folded" "More.folded" s_More_folded) (Z_min : mg "min" = none) : MethOk P w K mg base C "folded" 1 ["self", "n", "first", "second"] (spFolded .more) := by
  refine meth_of T sc_fMore (fun _ _ _ _ _ _ us hl => match us, hl with | [_, _, _, _], _ => rfl) (fun vs H Q E h => ?_) (fun f cdv A outer s H vs Q E hr h => ?_)
  · obtain ⟨a, n, i, j, rfl, q⟩ := h
    rfl
  obtain ⟨a, n, i, j, rfl, q⟩ := h
  have nd := sc_fMore.nd
  refine ⟨_, (pss_one (ps_ret (pe_callB (call_min2 rfl) rfl Z_min (by decide +kernel) (pa_cons (pe_op op_add (pv 2) (pv 3)) (pa_cons (pv 1) pa_nil))))), ?_⟩
  refine ⟨_, rfl, _, rfl, _, _, rfl, rfl, _, rfl, _, _, rfl, ?_⟩
  rw [min_is]
  exact q
theorem sc_wLess : FnScope ["self"] ["self"] (defScope s_Less_making_word) := ⟨rfl, rfl, rfl, by decide +kernel, rfl, by decide +kernel, by decide +kernel⟩
theorem ok_wLess {c : CCs} {C : Addr} {t t' : Tr} (T : MethF K C "making_word" "Less.making_word" s_Less_making_word) : MethOk P w K mg base C "making_word" 1 ["self"] (spWord c (.fold .less t t')) := by
  refine meth_of T sc_wLess (fun _ _ _ _ _ _ us hl => match us, hl with | [_], _ => rfl) (fun vs H Q E h => ?_) (fun f cdv A outer s H vs Q E hr h => ?_)
  · obtain ⟨a, rfl, o, q⟩ := h
    rfl
  obtain ⟨a, rfl, o, q⟩ := h
  have nd := sc_wLess.nd
  refine ⟨_, (pss_one (ps_ret pe_str)), ?_⟩
  exact q
theorem sc_fLess : FnScope ["self", "n", "first", "second"] ["self", "n", "first", "second"] (defScope s_Less_folded) := ⟨rfl, rfl, rfl, by decide +kernel, rfl, by decide +kernel, by decide +kernel⟩
theorem ok_fLess {C : Addr} (T : MethF K C "folded" "Less.folded" s_Less_folded) (Z_max : mg "max" = none) : MethOk P w K mg base C "folded" 1 ["self", "n", "first", "second"] (spFolded .less) := by
  refine meth_of T sc_fLess (fun _ _ _ _ _ _ us hl => match us, hl with | [_, _, _, _], _ => rfl) (fun vs H Q E h => ?_) (fun f cdv A outer s H vs Q E hr h => ?_)
  · obtain ⟨a, n, i, j, rfl, q⟩ := h
    rfl
  obtain ⟨a, n, i, j, rfl, q⟩ := h
  have nd := sc_fLess.nd
  refine ⟨_, (pss_one (ps_ret (pe_callB (call_max2 rfl) rfl Z_max (by decide +kernel) (pa_cons (pe_op op_sub (pe_op op_add (pv 2) (pv 3)) (pv 1)) (pa_cons pe_int pa_nil))))), ?_⟩
  refine ⟨_, rfl, _, rfl, _, _, rfl, rfl, _, rfl, _, _, rfl, rfl, _, _, rfl, ?_⟩
  rw [max_is]
  exact q
theorem sc_wGreater : FnScope ["self"] ["self"] (defScope s_Greater_making_word) := ⟨rfl, rfl, rfl, by decide +kernel, rfl, by decide +kernel, by decide +kernel⟩
theorem ok_wGreater {c : CCs} {C : Addr} {t t' : Tr} (T : MethF K C "making_word" "Greater.making_word" s_Greater_making_word) : MethOk P w K mg base C "making_word" 1 ["self"] (spWord c (.fold .greater t t')) := by
  refine meth_of T sc_wGreater (fun _ _ _ _ _ _ us hl => match us, hl with | [_], _ => rfl) (fun vs H Q E h => ?_) (fun f cdv A outer s H vs Q E hr h => ?_)
  · obtain ⟨a, rfl, o, q⟩ := h
    rfl
  obtain ⟨a, rfl, o, q⟩ := h
  have nd := sc_wGreater.nd
  refine ⟨_, (pss_one (ps_ret pe_str)), ?_⟩
  exact q
theorem sc_fGreater : FnScope ["self", "n", "first", "second"] ["self", "n", "first", "second"] (defScope s_Greater_folded) := ⟨rfl, rfl, rfl, by decide +kernel, rfl, by decide +kernel, by decide +kernel⟩
theorem ok_fGreater {C : Addr} (T : MethF K C "folded" "Greater.folded" s_Greater_folded) (Z_max : mg "max" = none) : MethOk P w K mg base C "folded" 1 ["self", "n", "first", "second"] (spFolded .greater) := by
  refine meth_of T sc_fGreater (fun _ _ _ _ _ _ us hl => match us, hl with | [_, _, _, _], _ => rfl) (fun vs H Q E h => ?_) (fun f cdv A outer s H vs Q E hr h => ?_)
  · obtain ⟨a, n, i, j, rfl, q⟩ := h
    rfl
  obtain ⟨a, n, i, j, rfl, q⟩ := h
  have nd := sc_fGreater.nd
  refine ⟨_, (pss_one (ps_ret (pe_callB (call_max2 rfl) rfl Z_max (by decide +kernel) (pa_cons (pv 2) (pa_cons (pv 3) pa_nil))))), ?_⟩
  refine ⟨_, rfl, _, rfl, _, _, rfl, ?_⟩
  rw [max_is]
  exact q
theorem sc_wLesser : FnScope ["self"] ["self"] (defScope s_Lesser_making_word) := ⟨rfl, rfl, rfl, by decide +kernel, rfl, by decide +kernel, by decide +kernel⟩
theorem ok_wLesser {c : CCs} {C : Addr} {t t' : Tr} (T : MethF K C "making_word" "Lesser.making_word" s_Lesser_making_word) : MethOk P w K mg base C "making_word" 1 ["self"] (spWord c (.fold .lesser t t')) := by
  refine meth_of T sc_wLesser (fun _ _ _ _ _ _ us hl => match us, hl with | [_], _ => rfl) (fun vs H Q E h => ?_) (fun f cdv A outer s H vs Q E hr h => ?_)
  · obtain ⟨a, rfl, o, q⟩ := h
    rfl
  obtain ⟨a, rfl, o, q⟩ := h
  have nd := sc_wLesser.nd
  refine ⟨_, (pss_one (ps_ret pe_str)), ?_⟩
  exact q
theorem sc_fLesser : FnScope ["self", "n", "first", "second"] ["self", "n", "first", "second"] (defScope s_Lesser_folded) := ⟨rfl, rfl, rfl, by decide +kernel, rfl, by decide +kernel, by decide +kernel⟩
theorem ok_fLesser {C : Addr} (T : MethF K C "folded" "Lesser.folded" s_Lesser_folded) (Z_min : mg "min" = none) : MethOk P w K mg base C "folded" 1 ["self", "n", "first", "second"] (spFolded .lesser) := by
  refine meth_of T sc_fLesser (fun _ _ _ _ _ _ us hl => match us, hl with | [_, _, _, _], _ => rfl) (fun vs H Q E h => ?_) (fun f cdv A outer s H vs Q E hr h => ?_)
  · obtain ⟨a, n, i, j, rfl, q⟩ := h
    rfl
  obtain ⟨a, n, i, j, rfl, q⟩ := h
  have nd := sc_fLesser.nd
  refine ⟨_, (pss_one (ps_ret (pe_callB (call_min2 rfl) rfl Z_min (by decide +kernel) (pa_cons (pv 2) (pa_cons (pv 3) pa_nil))))), ?_⟩
  refine ⟨_, rfl, _, rfl, _, _, rfl, ?_⟩
  rw [min_is]
  exact q
theorem sc_wLeads : FnScope ["self"] ["self"] (defScope s_Leads_making_word) := ⟨rfl, rfl, rfl, by decide +kernel, rfl, by decide +kernel, by decide +kernel⟩
theorem ok_wLeads {c : CCs} {C : Addr} {t t' : Tr} (T : MethF K C "making_word" "Leads.making_word" s_Leads_making_word) : MethOk P w K mg base C "making_word" 1 ["self"] (spWord c (.fold .leads t t')) := by
  refine meth_of T sc_wLeads (fun _ _ _ _ _ _ us hl => match us, hl with | [_], _ => rfl) (fun vs H Q E h => ?_) (fun f cdv A outer s H vs Q E hr h => ?_)
  · obtain ⟨a, rfl, o, q⟩ := h
    rfl
  obtain ⟨a, rfl, o, q⟩ := h
  have nd := sc_wLeads.nd
  refine ⟨_, (pss_one (ps_ret pe_str)), ?_⟩
  exact q
theorem sc_fLeads : FnScope ["self", "n", "first", "second"] ["self", "n", "first", "second"] (defScope s_Leads_folded) := ⟨rfl, rfl, rfl, by decide +kernel, rfl, by decide +kernel, by decide +kernel⟩
theorem ok_fLeads {C : Addr} (T : MethF K C "folded" "Leads.folded" s_Leads_folded) (Z_min : mg "min" = none) : MethOk P w K mg base C "folded" 1 ["self", "n", "first", "second"] (spFolded .leads) := by
  refine meth_of T sc_fLeads (fun _ _ _ _ _ _ us hl => match us, hl with | [_, _, _, _], _ => rfl) (fun vs H Q E h => ?_) (fun f cdv A outer s H vs Q E hr h => ?_)
  · obtain ⟨a, n, i, j, rfl, q⟩ := h
    rfl
  obtain ⟨a, n, i, j, rfl, q⟩ := h
  have nd := sc_fLeads.nd
  refine ⟨_, (pss_one (ps_ret (pe_callB (call_min2 rfl) rfl Z_min (by decide +kernel) (pa_cons (pe_op op_add (pe_op op_sub (pv 1) (pv 2)) (pv 3)) (pa_cons (pv 1) pa_nil))))), ?_⟩
  refine ⟨_, rfl, _, rfl, _, _, rfl, rfl, _, rfl, _, _, rfl, rfl, _, rfl, _, _, rfl, ?_⟩
  rw [min_is]
  exact q
theorem sc_wgNever : FnScope ["self", "worths", "n", "x", "y"] ["self", "worths", "n", "x", "y"] (defScope s_Never_weigh) := ⟨rfl, rfl, rfl, by decide +kernel, rfl, by decide +kernel, by decide +kernel⟩
theorem ok_wgNever {c : CCs} {C : Addr} (T : MethF K C "weigh" "Never.weigh" s_Never_weigh) : MethOk P w K mg base C "weigh" 2 ["self", "worths", "n", "x", "y"] (spWeigh c .never) := by
  refine meth_of T sc_wgNever (fun _ _ _ _ _ _ us hl => match us, hl with | [_, _, _, _, _], _ => rfl) (fun vs H Q E h => ?_) (fun f cdv A outer s H vs Q E hr h => ?_)
  · obtain ⟨a, l, n, i, j, R, R', rfl, o, e, hz, hs, q⟩ := h
    rfl
  obtain ⟨a, l, n, i, j, R, R', rfl, o, e, hz, hs, q⟩ := h
  have nd := sc_wgNever.nd
  refine ⟨_, (pss_one (ps_expr (pe_bm PySem.F.plainAttrs_list PySem.F.slot_list_append PySem.F.type_list_append mt_append (pv 1) (pa_cons pe_int pa_nil)))), ?_⟩
  have es : R' = (worthAlg n i j).leaf .never :: R := step_leaf hs rfl
  subst es
  refine ⟨_, rfl, .inl ⟨rfl, _, SqL.of e⟩, l, _, _, rfl, rfl, e, stack_lt hz, ?_⟩
  exact q _ (sb_upd _ _) (by rw [upd_same]; exact congrArg _ (congrArg _ (push_int _ _)))
theorem sc_wgAlways : FnScope ["self", "worths", "n", "x", "y"] ["self", "worths", "n", "x", "y"] (defScope s_Always_weigh) := ⟨rfl, rfl, rfl, by decide +kernel, rfl, by decide +kernel, by decide +kernel⟩
theorem ok_wgAlways {c : CCs} {C : Addr} (T : MethF K C "weigh" "Always.weigh" s_Always_weigh) : MethOk P w K mg base C "weigh" 2 ["self", "worths", "n", "x", "y"] (spWeigh c .always) := by
  refine meth_of T sc_wgAlways (fun _ _ _ _ _ _ us hl => match us, hl with | [_, _, _, _, _], _ => rfl) (fun vs H Q E h => ?_) (fun f cdv A outer s H vs Q E hr h => ?_)
  · obtain ⟨a, l, n, i, j, R, R', rfl, o, e, hz, hs, q⟩ := h
    rfl
  obtain ⟨a, l, n, i, j, R, R', rfl, o, e, hz, hs, q⟩ := h
  have nd := sc_wgAlways.nd
  refine ⟨_, (pss_one (ps_expr (pe_bm PySem.F.plainAttrs_list PySem.F.slot_list_append PySem.F.type_list_append mt_append (pv 1) (pa_cons (pv 2) pa_nil)))), ?_⟩
  have es : R' = (worthAlg n i j).leaf .always :: R := step_leaf hs rfl
  subst es
  refine ⟨_, rfl, .inl ⟨rfl, _, SqL.of e⟩, _, rfl, l, _, _, rfl, rfl, e, stack_lt hz, ?_⟩
  exact q _ (sb_upd _ _) (by rw [upd_same]; exact congrArg _ (congrArg _ (push_int _ _)))
theorem sc_wgLp : FnScope ["self", "worths", "n", "x", "y"] ["self", "worths", "n", "x", "y"] (defScope s_Letter_weigh) := ⟨rfl, rfl, rfl, by decide +kernel, rfl, by decide +kernel, by decide +kernel⟩
theorem ok_wgLp {c : CCs} (T : MethF K c.le "weigh" "Letter.weigh" s_Letter_weigh) (F : Fx K c) : MethOk P w K mg base c.le "weigh" 2 ["self", "worths", "n", "x", "y"] (spWeigh c .lp) := by
  refine meth_of T sc_wgLp (fun _ _ _ _ _ _ us hl => match us, hl with | [_, _, _, _, _], _ => rfl) (fun vs H Q E h => ?_) (fun f cdv A outer s H vs Q E hr h => ?_)
  · obtain ⟨a, l, n, i, j, R, R', rfl, o, e, hz, hs, q⟩ := h
    rfl
  obtain ⟨a, l, n, i, j, R, R', rfl, o, e, hz, hs, q⟩ := h
  have nd := sc_wgLp.nd
  refine ⟨_, (pss_one (ps_expr (pe_bm PySem.F.plainAttrs_list PySem.F.slot_list_append PySem.F.type_list_append mt_append (pv 1) (pa_cons (pe_ifExp (pt_cmpR op_eq (pe_fld (pv 0) rfl) pe_str (nomark _)) (pv 3) (pv 4)) pa_nil)))), ?_⟩
  have es : R' = (worthAlg n i j).leaf .lp :: R := step_leaf hs rfl
  subst es
  cases o with
  | lp eo =>
    refine ⟨_, rfl, .inl ⟨rfl, _, SqL.of e⟩, _, rfl, a, _, _, _, _, rfl, eo, T.cl, F.nName, look_name _, rfl, _, rfl, ?_⟩
    rw [is_pp]
    refine iteT ⟨_, rfl, l, _, _, rfl, rfl, e, stack_lt hz, ?_⟩
    exact q _ (sb_upd _ _) (by rw [upd_same]; exact congrArg _ (congrArg _ (push_int _ _)))
theorem sc_wgLq : FnScope ["self", "worths", "n", "x", "y"] ["self", "worths", "n", "x", "y"] (defScope s_Letter_weigh) := ⟨rfl, rfl, rfl, by decide +kernel, rfl, by decide +kernel, by decide +kernel⟩
theorem ok_wgLq {c : CCs} (T : MethF K c.le "weigh" "Letter.weigh" s_Letter_weigh) (F : Fx K c) : MethOk P w K mg base c.le "weigh" 2 ["self", "worths", "n", "x", "y"] (spWeigh c .lq) := by
  refine meth_of T sc_wgLq (fun _ _ _ _ _ _ us hl => match us, hl with | [_, _, _, _, _], _ => rfl) (fun vs H Q E h => ?_) (fun f cdv A outer s H vs Q E hr h => ?_)
  · obtain ⟨a, l, n, i, j, R, R', rfl, o, e, hz, hs, q⟩ := h
    rfl
  obtain ⟨a, l, n, i, j, R, R', rfl, o, e, hz, hs, q⟩ := h
  have nd := sc_wgLq.nd
  refine ⟨_, (pss_one (ps_expr (pe_bm PySem.F.plainAttrs_list PySem.F.slot_list_append PySem.F.type_list_append mt_append (pv 1) (pa_cons (pe_ifExp (pt_cmpR op_eq (pe_fld (pv 0) rfl) pe_str (nomark _)) (pv 3) (pv 4)) pa_nil)))), ?_⟩
  have es : R' = (worthAlg n i j).leaf .lq :: R := step_leaf hs rfl
  subst es
  cases o with
  | lq eo =>
    refine ⟨_, rfl, .inl ⟨rfl, _, SqL.of e⟩, _, rfl, a, _, _, _, _, rfl, eo, T.cl, F.nName, look_name _, rfl, _, rfl, ?_⟩
    rw [is_qp]
    refine iteF ⟨_, rfl, l, _, _, rfl, rfl, e, stack_lt hz, ?_⟩
    exact q _ (sb_upd _ _) (by rw [upd_same]; exact congrArg _ (congrArg _ (push_int _ _)))
theorem sc_wgNot : FnScope ["self", "worths", "n", "x", "y"] ["self", "worths", "n", "x", "y"] (defScope s_Not_weigh) := ⟨rfl, rfl, rfl, by decide +kernel, rfl, by decide +kernel, by decide +kernel⟩
theorem ok_wgNot {c : CCs} {C : Addr} {t : Tr} (T : MethF K C "weigh" "Not.weigh" s_Not_weigh) : MethOk P w K mg base C "weigh" 2 ["self", "worths", "n", "x", "y"] (spWeigh c (.no t)) := by
  refine meth_of T sc_wgNot (fun _ _ _ _ _ _ us hl => match us, hl with | [_, _, _, _, _], _ => rfl) (fun vs H Q E h => ?_) (fun f cdv A outer s H vs Q E hr h => ?_)
  · obtain ⟨a, l, n, i, j, R, R', rfl, o, e, hz, hs, q⟩ := h
    rfl
  obtain ⟨a, l, n, i, j, R, R', rfl, o, e, hz, hs, q⟩ := h
  have nd := sc_wgNot.nd
  refine ⟨_, (pss_one (ps_expr (pe_bm PySem.F.plainAttrs_list PySem.F.slot_list_append PySem.F.type_list_append mt_append (pv 1) (pa_cons (pe_op op_sub (pv 2) (pe_bm0 PySem.F.plainAttrs_list PySem.F.slot_list_pop PySem.F.type_list_pop mt_pop (pv 1))) pa_nil)))), ?_⟩
  obtain ⟨b, R1, rfl, rfl⟩ := step_no hs
  have hz' : R1.length < 1000 := hz
  have el : H l = some (.lst (R1.reverse.map V.int ++ [V.int b])) := by rw [e]; exact congrArg _ (congrArg _ (push_int b R1).symm)
  refine ⟨_, rfl, .inl ⟨rfl, _, SqL.of el⟩, _, rfl, _, rfl, .inl ⟨rfl, _, SqL.of el⟩, l, _, _, rfl, rfl, el, snoc_last _ _, ?_⟩
  rw [List.dropLast_concat]
  refine ⟨_, _, rfl, rfl, l, _, _, rfl, rfl, upd_same, by rw [List.length_map, List.length_reverse]; exact Nat.lt_trans hz' (by decide), ?_⟩
  rw [upd_upd]
  exact q _ (sb_upd _ _) (by rw [upd_same]; exact congrArg _ (congrArg _ (push_int _ _)))
theorem sc_wgFold : FnScope ["self", "worths", "n", "x", "y", "second", "first"] ["self", "worths", "n", "x", "y"] (defScope s_Fold_weigh) := ⟨rfl, rfl, rfl, by decide +kernel, rfl, by decide +kernel, by decide +kernel⟩
theorem ok_wgFold {c : CCs} {u : W5} {t t' : Tr} (T : MethF K (c.fold u) "weigh" "Fold.weigh" s_Fold_weigh) (G : MethOk P w K mg base (c.fold u) "folded" 1 ["self", "n", "first", "second"] (spFolded u)) : MethOk P w K mg base (c.fold u) "weigh" 2 ["self", "worths", "n", "x", "y"] (spWeigh c (.fold u t t')) := by
  refine meth_of T sc_wgFold (fun _ _ _ _ _ _ us hl => match us, hl with | [_, _, _, _, _], _ => rfl) (fun vs H Q E h => ?_) (fun f cdv A outer s H vs Q E hr h => ?_)
  · obtain ⟨a, l, n, i, j, R, R', rfl, o, e, hz, hs, q⟩ := h
    rfl
  obtain ⟨a, l, n, i, j, R, R', rfl, o, e, hz, hs, q⟩ := h
  have nd := sc_wgFold.nd
  refine ⟨_, (pss_cons (ps_set (i := 5) nd rfl (Or.inl rfl) (pe_bm0 PySem.F.plainAttrs_list PySem.F.slot_list_pop PySem.F.type_list_pop mt_pop (pv 1)))
    (pss_cons (ps_set (i := 6) nd rfl (Or.inl rfl) (pe_bm0 PySem.F.plainAttrs_list PySem.F.slot_list_pop PySem.F.type_list_pop mt_pop (pv 1)))
    (pss_one (ps_expr (pe_bm PySem.F.plainAttrs_list PySem.F.slot_list_append PySem.F.type_list_append mt_append (pv 1) (pa_cons (pe_methD (k := 1) (pv 0) (hr.mono (by decide)) (pa_cons (pv 2) (pa_cons (pv 6) (pa_cons (pv 5) pa_nil)))) pa_nil)))))), ?_⟩
  obtain ⟨b2, b1, R1, rfl, rfl⟩ := step_fold hs
  have hz' : R1.length + 1 < 1000 := hz
  have el : H l = some (.lst (R1.reverse.map V.int ++ [V.int b1] ++ [V.int b2])) := by rw [e, push_int, push_int]
  obtain ⟨dx, fs, ea, nf⟩ := o.cls
  have nal : a ≠ l := ne_of ea e (by intro z; cases z)
  refine ⟨_, rfl, .inl ⟨rfl, _, SqL.of el⟩, l, _, _, rfl, rfl, el, snoc_last _ _, ?_⟩
  rw [List.dropLast_concat]
  refine ⟨_, rfl, .inl ⟨rfl, _, SqL.of upd_same⟩, l, _, _, rfl, rfl, upd_same, snoc_last _ _, ?_⟩
  rw [List.dropLast_concat, upd_upd]
  refine ⟨_, rfl, .inl ⟨rfl, _, SqL.of upd_same⟩, _, rfl, a, _, _, _, _, _, rfl, by rw [upd_ne nal]; exact ea, nf _ (by decide +kernel), G, _, rfl, _, rfl, _, rfl, a, n, b1, b2, rfl, ?_⟩
  refine ⟨l, _, _, rfl, rfl, upd_same, by rw [List.length_map, List.length_reverse]; exact Nat.lt_trans (Nat.lt_of_succ_lt hz') (by decide), ?_⟩
  rw [upd_upd]
  exact q _ (sb_upd _ _) (by rw [upd_same]; exact congrArg _ (congrArg _ (push_int _ _)))
end
end Mine




set_option Elab.async false
set_option linter.all false
set_option maxRecDepth 100000
set_option maxHeartbeats 4000000
namespace Mine
open PySem L2
structure Ms (P : Program) (w : World) (K : PySem.W.Frag) (mg : Str → Option Value) (base : Heap) (c : CCs) : Prop where
  made : ∀ t, MethOk P w K mg base (c.of t) "made_of" 1 ["self"] (spMade c t)
  word : ∀ t, MethOk P w K mg base (c.of t) "making_word" 1 ["self"] (spWord c t)
  weigh : ∀ t, MethOk P w K mg base (c.of t) "weigh" 2 ["self", "worths", "n", "x", "y"] (spWeigh c t)
end Mine

namespace Mine
open PySem L2
section
variable {P : Program} {w : World} {K : PySem.W.Frag} {mg : Str → Option Value} {base : Heap} {c : CCs}
theorem sc_laid : FnScope ["self", "laid", "waiting", "part"] ["self"] (defScope sLaid) := ⟨rfl, rfl, rfl, by decide +kernel, rfl, by decide +kernel, by decide +kernel⟩
theorem ok_laid {C : Addr} {t : Tr} (T : MethF K C "laid_out" "Saying.laid_out" sLaid) (M : Ms P w K mg base c) : MethOk P w K mg base C "laid_out" 2 ["self"] (spLaid c t) := by
  refine meth_of T sc_laid (fun _ _ _ _ _ _ us hl => match us, hl with | [_], _ => rfl) (fun vs H Q E h => ?_) (fun f cdv A outer s H vs Q E hr h => ?_)
  · obtain ⟨a, rfl, _⟩ := h
    rfl
  obtain ⟨a, rfl, oa, ht, q⟩ := h
  have nd := sc_laid.nd
  refine ⟨_, (pss_cons (ps_set (i := 1) nd rfl (Or.inl rfl) (pe_lst pa_nil))
    (pss_cons (ps_set (i := 2) nd rfl (Or.inl rfl) (pe_lst (pa_cons (pv 0) pa_nil)))
    (pss_cons (ps_while PassesOwn.never (pt_truth (pv 2) (fun _ => rfl)) (pss_cons (ps_set (i := 3) nd rfl (Or.inl rfl) (pe_bm0 PySem.F.plainAttrs_list PySem.F.slot_list_pop PySem.F.type_list_pop mt_pop (pv 2)))
    (pss_cons (ps_expr (pe_bm PySem.F.plainAttrs_list PySem.F.slot_list_append PySem.F.type_list_append mt_append (pv 1) (pa_cons (pv 3) pa_nil)))
    (pss_one (ps_expr (pe_bm PySem.F.plainAttrs_list PySem.F.slot_list_extend PySem.F.type_list_extend mt_extend (pv 2) (pa_cons (pe_methD0 (k := 1) (pv 3) (hr.mono (by decide))) pa_nil)))))))
    (pss_cons (ps_expr (pe_bm0 PySem.F.plainAttrs_list PySem.F.slot_list_reverse PySem.F.type_list_reverse mt_reverse (pv 1)))
    (pss_one (ps_ret (pv 1))))))), ?_⟩
  refine ⟨(by show 0 ≤ sizeLine; decide), fun l1 h1 => ?_⟩
  refine ⟨_, rfl, (by show 1 ≤ sizeLine; decide), fun l2 h2' => ?_⟩
  have h2 : H l2 = none := upd_none h2'
  have n12 : l1 ≠ l2 := fun e => by subst e; rw [upd_same] at h2'; cases h2'
  have smI : Same H (upd (upd H l1 (.lst [])) l2 (.lst [.ref a])) := fun b o e => by rw [upd_ne (ne_of_none e h2), upd_ne (ne_of_none e h1)]; exact e
  refine ⟨fun m σ H' => ∃ (L W : List V) (Lt Wt : List Tr) (o : Option V), σ = [some (.ref a), some (.ref l1), some (.ref l2), o] ∧ Same H H' ∧ H' l1 = some (.lst L) ∧ H' l2 = some (.lst W) ∧ All2 (ObV c H') L Lt ∧ All2 (ObV c H') W Wt ∧
      Lt ++ (Wt.reverse.flatMap fun x => x.post.reverse) = t.post.reverse ∧ m = sizes Wt,
    ⟨_, [], [.ref a], [], [t], _, rfl, smI, by rw [upd_ne n12, upd_same], upd_same, .nil, .cons ⟨a, rfl, oa.to (Kp.of smI)⟩ .nil, by simp, rfl⟩, ?_⟩
  rintro m σ H' ⟨L, W, Lt, Wt, o, rfl, sm, e1, e2, oL, oW, hp, rfl⟩
  have hlen : Lt.length + sizes Wt = t.size := by
    have z := congrArg List.length hp
    rw [List.length_append, flat_len, sizes_rev, List.length_reverse, post_len] at z
    exact z
  have hLl := oL.len
  by_cases hw : W = []
  · subst hw
    cases oW
    refine ⟨_, rfl, false, .inl ⟨[], SqL.of e2, rfl⟩, iteF ?_⟩
    refine ⟨_, rfl, .inl ⟨rfl, _, SqL.of e1⟩, l1, _, rfl, rfl, e1, ?_⟩
    have eL : Lt = t.post.reverse := by simpa using hp
    have kp := kp_mut (u := .lst L.reverse) e1 rfl
    refine ⟨_, rfl, q l1 L.reverse _ (fun b o z => ?_) h1 upd_same ?_⟩
    · rw [upd_ne (ne_of_none z h1)]; exact sm b o z
    · have := (oL.imp (ObV.to kp)).rev
      rw [eL, List.reverse_reverse] at this
      exact this
  · obtain ⟨W', v, Wt', x, rfl, rfl, ⟨b, rfl, ob⟩, oW'⟩ := oW.last hw
    refine ⟨_, rfl, true, .inl ⟨_, SqL.of e2, by cases W' <;> rfl⟩, iteT ?_⟩
    have sz : sizes (Wt' ++ [x]) = sizes Wt' + x.size := by rw [sizes_app]; simp [sizes]
    refine ⟨fun σ' H'' => ∃ m', m' < sizes (Wt' ++ [x]) ∧ ∃ (L W : List V) (Lt Wt : List Tr) (o : Option V), σ' = [some (.ref a), some (.ref l1), some (.ref l2), o] ∧ Same H H'' ∧ H'' l1 = some (.lst L) ∧ H'' l2 = some (.lst W) ∧ All2 (ObV c H'') L Lt ∧ All2 (ObV c H'') W Wt ∧
      Lt ++ (Wt.reverse.flatMap fun x => x.post.reverse) = t.post.reverse ∧ m' = sizes Wt, fun _ _ z => z, ?_⟩
    refine ⟨_, rfl, .inl ⟨rfl, _, SqL.of e2⟩, l2, _, _, rfl, rfl, e2, snoc_last _ _, ?_⟩
    rw [List.dropLast_concat]
    have e1' : upd H' l2 (.lst W') l1 = some (.lst L) := by rw [upd_ne n12]; exact e1
    refine ⟨_, rfl, .inl ⟨rfl, _, SqL.of e1'⟩, _, rfl, l1, _, _, rfl, rfl, e1', by rw [hLl]; exact Nat.lt_of_le_of_lt (show Lt.length ≤ 1000 by omega) (by decide), ?_⟩
    have k1 : Kp H' (upd (upd H' l2 (.lst W')) l1 (.lst (L ++ [.ref b]))) := (kp_mut e2 rfl).trans (kp_mut e1' rfl)
    have e2' : upd (upd H' l2 (.lst W')) l1 (.lst (L ++ [.ref b])) l2 = some (.lst W') := by rw [upd_ne n12.symm, upd_same]
    have ob1 := ob.to k1
    obtain ⟨dx, fs, eb, nf⟩ := ob1.cls
    refine ⟨_, rfl, .inl ⟨rfl, _, SqL.of e2'⟩, _, rfl, b, _, _, _, _, _, rfl, eb, nf _ (by decide +kernel), M.made x, b, rfl, ob1, fun l us hl ou => ?_⟩
    have nl2 : l2 ≠ l := ne_of_none e2' hl
    have nl1 : l1 ≠ l := ne_of_none (upd_same (H := upd H' l2 (.lst W'))) hl
    have e2'' : upd (upd (upd H' l2 (.lst W')) l1 (.lst (L ++ [.ref b]))) l (.lst us) l2 = some (.lst W') := by rw [upd_ne nl2]; exact e2'
    have hWl := oW'.len
    have hul := ou.len
    have hkl := kids_len x
    have hWs := len_sizes Wt'
    refine ⟨l2, l, _, _, rfl, rfl, e2'', upd_same, by rw [hWl, hul]; exact Nat.le_trans (show _ ≤ 1002 by omega) (by decide), ?_⟩
    have k2 : Kp (upd (upd H' l2 (.lst W')) l1 (.lst (L ++ [.ref b]))) (upd (upd (upd (upd H' l2 (.lst W')) l1 (.lst (L ++ [.ref b]))) l (.lst us)) l2 (.lst (W' ++ us))) := (kp_new hl _).trans (kp_mut e2'' rfl)
    have k3 := k1.trans k2
    have ks := kids_size x
    refine ⟨sizes (Wt' ++ x.kids), by rw [sz, sizes_app]; omega, L ++ [.ref b], W' ++ us, Lt ++ [x], Wt' ++ x.kids, _, rfl, fun d o z => ?_, by rw [upd_ne n12, upd_ne nl1, upd_same], upd_same, (oL.imp (ObV.to k3)).app (.cons ⟨b, rfl, ob.to k3⟩ .nil), (oW'.imp (ObV.to k3)).app (ou.imp (ObV.to k2)), ?_, rfl⟩
    · have z1 : upd (upd H' l2 (.lst W')) l1 (.lst (L ++ [.ref b])) d = some o := by rw [upd_ne (ne_of_none z h1), upd_ne (ne_of_none z h2)]; exact sm d o z
      rw [upd_ne (ne_of_none z h2), upd_ne (ne_of_none z1 hl)]
      exact z1
    · rw [← hp]
      simp only [List.reverse_append, List.flatMap_append, List.reverse_cons, List.reverse_nil, List.nil_append, List.append_assoc, List.flatMap_cons, List.flatMap_nil, List.append_nil, List.singleton_append, post_rev x, List.cons_append]
end
end Mine

namespace Mine
open PySem L2
section
variable {P : Program} {w : World} {K : PySem.W.Frag} {mg : Str → Option Value} {base : Heap} {c : CCs}
theorem sc_out : FnScope ["self", "n", "x", "y", "worths", "part"] ["self", "n", "x", "y"] (defScope sOut) := ⟨rfl, rfl, rfl, by decide +kernel, rfl, by decide +kernel, by decide +kernel⟩
theorem ok_out {C : Addr} {t : Tr} (T : MethF K C "out_of" "Saying.out_of" sOut) (M : Ms P w K mg base c) (G : ∀ t, MethOk P w K mg base (c.of t) "laid_out" 2 ["self"] (spLaid c t)) : MethOk P w K mg base C "out_of" 3 ["self", "n", "x", "y"] (spOut c t) := by
  refine meth_of T sc_out (fun _ _ _ _ _ _ us hl => match us, hl with | [_, _, _, _], _ => rfl) (fun vs H Q E h => ?_) (fun f cdv A outer s H vs Q E hr h => ?_)
  · obtain ⟨a, n, x, y, rfl, _⟩ := h
    rfl
  obtain ⟨a, n, x, y, rfl, oa, ht, q⟩ := h
  have nd := sc_out.nd
  refine ⟨_, (pss_cons (ps_set (i := 4) nd rfl (Or.inl rfl) (pe_lst pa_nil))
    (pss_cons (ps_for PassesOwn.never rfl (pi_list (pe_methD0 (k := 2) (pv 0) (hr.mono (by omega)))) (pg_name (i := 5) nd rfl (Or.inl rfl)) (pss_one (ps_expr (pe_methD (k := 2) (pv 5) (hr.mono (by decide)) (pa_cons (pv 4) (pa_cons (pv 1) (pa_cons (pv 2) (pa_cons (pv 3) pa_nil))))))))
    (pss_one (ps_ret (pe_bm0 PySem.F.plainAttrs_list PySem.F.slot_list_pop PySem.F.type_list_pop mt_pop (pv 4)))))), ?_⟩
  refine ⟨(by show 0 ≤ sizeLine; decide), fun l1 h1 => ?_⟩
  have sm1 : Same H (upd H l1 (.lst [])) := same_new h1 _
  have oa1 := oa.to (Kp.of sm1)
  obtain ⟨dx, fs, ea, nf⟩ := oa1.cls
  refine ⟨_, rfl, a, _, _, _, _, _, rfl, ea, nf _ (by decide +kernel), G t, a, rfl, oa1, ht, fun l us H' sm hl el ou => ⟨l, rfl, ⟨_, SqL.of el⟩, ?_⟩⟩
  have nl : l ≠ l1 := fun e => by subst e; rw [upd_same] at hl; cases hl
  refine for_list (xs := us) (fun i σ H2 => ∃ (o : Option V) (R : List Int), σ = [some (.ref a), some (.int n), some (.int x), some (.int y), some (.ref l1), o] ∧ SB (.ref l1) H' H2 ∧ H2 l1 = some (.lst (R.reverse.map V.int)) ∧ R.length ≤ i ∧ (worthAlg n x y).run R (t.post.drop i) = some [t.worth n x y])
    ⟨none, [], rfl, SB.refl _ _, sm _ _ upd_same, Nat.le_refl _, run_all _ t⟩ (fun i σ H2 _ h => ?_) (fun i v σ H2 hi h => ?_) (fun σ H2 h => ?_)
  · obtain ⟨o, R, _, sb, _⟩ := h
    exact SqL.of (sb _ _ el fun z => nl (V.ref.inj z))
  · obtain ⟨o, R, rfl, sb, e, hR, hrun⟩ := h
    obtain ⟨z, hz, b, rfl, ob⟩ := ou.get i v hi
    rw [drop_at hz] at hrun
    obtain ⟨R', hs, hrun'⟩ := run_cons hrun
    have kp : Kp H' H2 := sb.kp fun a' o' z1 z2 => by cases z1; rw [sm _ _ upd_same] at z2; cases z2; rfl
    have ob2 := ob.to kp
    obtain ⟨dx', fs', eb, nf'⟩ := ob2.cls
    have hil : i < t.post.length := (List.getElem?_eq_some_iff.mp hz).1
    rw [post_len] at hil
    refine ⟨_, rfl, b, _, _, _, _, _, rfl, eb, nf' _ (by decide +kernel), M.weigh z, _, rfl, _, rfl, _, rfl, _, rfl, b, l1, n, x, y, R, R', rfl, ob2, e, by omega, hs, fun H3 sb3 e3 => ?_⟩
    exact ⟨_, R', rfl, sb.trans sb3, e3, Nat.le_trans (step_len hs) (Nat.succ_le_succ hR), hrun'⟩
  · obtain ⟨o, R, rfl, sb, e, hR, hrun⟩ := h
    have ul := ou.len
    rw [ul, List.drop_length] at hrun
    have eR : R = [t.worth n x y] := Option.some.inj hrun
    subst eR
    refine ⟨_, rfl, .inl ⟨rfl, _, SqL.of e⟩, l1, _, _, rfl, rfl, e, rfl, q _ fun b o z => ?_⟩
    rw [upd_ne (ne_of_none z h1)]
    exact sb b o (sm b o (sm1 b o z)) fun z1 => (ne_of_none z h1) (V.ref.inj z1)
end
end Mine

namespace Mine
open PySem L2
/-! ### t[1:] of a tuple -/
theorem cut1 (x : V) (us : List V) : cutV (x :: us) (some 1) none = us := by
  unfold cutV
  rw [show _root_.HT.sIx (x :: us).length 0 (some 1) = 1 from by
    rw [show (some (1 : Int)) = some ((1 : Nat) : Int) from rfl, _root_.HT.sIx_nat, List.length_cons]; omega, _root_.HT.sIx_none]
  show List.take ((x :: us).length - 1) us = us
  rw [List.length_cons, Nat.add_sub_cancel, List.take_length]
theorem sl1 {K : PySem.W.Frag} {H : Hp} {a : Addr} {x : V} {us : List V} {Q : VK} (e : H a = some (.tup (x :: us))) (h : ∀ p, H p = none → Q (.ref p) (upd H p (.tup us))) : rSlA K (.ref a) (some 1) none H Q := by
  refine ⟨a, _, rfl, SqT.of e, fun z => ?_, fun _ p => ?_⟩
  · have hix0 : _root_.HT.sIx (x :: us).length 0 (some 1) = 1 := by
      rw [show (some (1 : Int)) = some ((1 : Nat) : Int) from rfl, _root_.HT.sIx_nat, List.length_cons]; omega
    exact absurd (hix0.symm.trans z) (by decide)
  · intro hp'
    rw [cut1]
    exact h _ hp'
end Mine

namespace Mine
open PySem L2
/-- a point that is one -/
def Pt (H : Hp) (p : Addr) (n x y : Int) : Prop := H p = some (.tup [.int n, .int x, .int y]) ∧ 1 ≤ n ∧ 0 ≤ x ∧ x ≤ n ∧ 0 ≤ y ∧ y ≤ n
section
variable {P : Program} {w : World} {K : PySem.W.Frag} {mg : Str → Option Value} {base : Heap} {c : CCs}
theorem sc_isWhole : FnScope ["thing"] ["thing"] (defScope s_is_whole) := ⟨rfl, rfl, rfl, by decide +kernel, rfl, by decide +kernel, by decide +kernel⟩
theorem ok_isWhole (T : TopDef K mg "is_whole" s_is_whole) (Z_isinstance : mg "isinstance" = none) (Z_int : mg "int" = none) (Z_bool : mg "bool" = none) (kb : PySem.W.kitOne K (.type "int") (.type "bool") = some false) : Def P w K mg base 1 "is_whole" ["thing"] spWholeL := by
  refine def_of T sc_isWhole (fun _ _ _ _ _ _ us hl => match us, hl with | [_], _ => rfl) (fun vs H Q E h => ?_) (fun f cdv A outer s H vs Q E hr h => ?_)
  · obtain ⟨i, rfl, _⟩ := h
    rfl
  obtain ⟨i, rfl, q⟩ := h
  have nd := sc_isWhole.nd
  refine ⟨_, (pss_one (ps_ret (pe_and (pe_callB call_isi rfl Z_isinstance (by decide +kernel) (pa_cons (pv 0) (pa_cons (pe_bltn (v := V.ty "int") rfl Z_int (by decide +kernel) rfl) pa_nil))) (pe_one (pe_not (pe_callB call_isi rfl Z_isinstance (by decide +kernel) (pa_cons (pv 0) (pa_cons (pe_bltn (v := V.ty "bool") rfl Z_bool (by decide +kernel) rfl) pa_nil)))))))), ?_⟩
  exact ⟨_, rfl, _, _, _, _, true, rfl, (fun _ h => h), TyOf.int _, kit_same, _, rfl, iteT ⟨_, rfl, _, _, _, _, false, rfl, (fun _ h => h), TyOf.int _, kb, _, rfl, q⟩⟩
abbrev ptN : List Str := ["thing", "n"]
theorem sc_isPoint : FnScope ptN ["thing"] (defScope s_is_point) := ⟨rfl, rfl, rfl, by decide +kernel, rfl, by decide +kernel, by decide +kernel⟩
abbrev ptAt (i : Nat) : Stmt := (defBody s_is_point).getD i (.Pass ⟨0, 0, 0, 0⟩)
def allArg (s : Stmt) : Expr := match s with
  | .If (.UnaryOp _ (.Call _ [e] _ _) _) _ _ _ => e
  | _ => .Constant .none 0 ⟨0, 0, 0, 0⟩
theorem sc_mustPt : FnScope ["thing"] ["thing"] (defScope s_must_be_point) := ⟨rfl, rfl, rfl, by decide +kernel, rfl, by decide +kernel, by decide +kernel⟩
theorem Pt.to {H H' : Hp} {p : Addr} {n x y : Int} (h : Pt H p n x y) (s : Same H H') : Pt H' p n x y := ⟨s _ _ h.1, h.2⟩
end
end Mine

namespace Mine
open PySem L2
theorem TyOf.same {K : PySem.W.Frag} {H H' : Hp} {v : V} {T : Value} (h : TyOf K H v T) (s : Same H H') : TyOf K H' v T := by
  cases h with
  | non => exact .non
  | bl x => exact .bl x
  | int i => exact .int i
  | str x => exact .str x
  | flt x => exact .flt x
  | lst e => exact .lst (s _ _ e)
  | frz e => exact .frz (s _ _ e)
  | tup e => exact .tup (s _ _ e)
  | dK e => exact .dK (s _ _ e)
  | dT e => exact .dT (s _ _ e)
  | ins e c1 c2 c3 c4 c5 => exact .ins (s _ _ e) c1 c2 c3 c4 c5
/-- whether it is a whole number -/
def Wh (K : PySem.W.Frag) (H : Hp) (v : V) (b : Bool) : Prop := ∃ T b1, TyOf K H v T ∧ PySem.W.kitOne K T (.type "int") = some b1 ∧ ((b1 = false ∧ b = false) ∨ (b1 = true ∧ ∃ b2, PySem.W.kitOne K T (.type "bool") = some b2 ∧ b = !b2))
theorem Wh.same {K : PySem.W.Frag} {H H' : Hp} {v : V} {b : Bool} (h : Wh K H v b) (s : Same H H') : Wh K H' v b := by
  obtain ⟨T, b1, t, k⟩ := h
  exact ⟨T, b1, TyOf.same t s, k⟩
def spWhG (K : PySem.W.Frag) : Sp := fun vs H Q _ => ∃ v b, vs = [v] ∧ Wh K H v b ∧ Q (.bl b) H
inductive Odd (K : PySem.W.Frag) (H : Hp) : V → Prop where
  | no {v : V} {T : Value} : TyOf K H v T → PySem.W.kitOne K T (.type "tuple") = some false → Odd K H v
  | len {p : Addr} {xs : List V} : H p = some (.tup xs) → xs.length ≠ 3 → Odd K H (.ref p)
  | el {p : Addr} {xs : List V} {bs : List Bool} : H p = some (.tup xs) → xs.length = 3 → All2 (Wh K H) xs bs → bs.all id = false → Odd K H (.ref p)
  | out {p : Addr} {a b c : Int} : H p = some (.tup [.int a, .int b, .int c]) → ¬ (1 ≤ a ∧ 0 ≤ b ∧ b ≤ a ∧ 0 ≤ c ∧ c ≤ a) → Odd K H (.ref p)
theorem Odd.same {K : PySem.W.Frag} {H H' : Hp} {v : V} (h : Odd K H v) (s : Same H H') : Odd K H' v := by
  cases h with
  | no t k => exact .no (TyOf.same t s) k
  | len e n => exact .len (s _ _ e) n
  | el e n a b => exact .el (s _ _ e) n (a.imp fun _ _ z => z.same s) b
  | out e n => exact .out (s _ _ e) n
def spIsPtG (K : PySem.W.Frag) : Sp := fun vs H Q _ => ∃ v, vs = [v] ∧ ((∃ p n x y, v = .ref p ∧ Pt H p n x y ∧ ∀ H', Same H H' → Q (.bl true) H') ∨ (Odd K H v ∧ ∀ H', Same H H' → Q (.bl false) H'))
/-- must be a point: raised where it is none -/
def spMustG (K : PySem.W.Frag) (C : Addr) : Sp := fun vs H Q E => ∃ v, vs = [v] ∧ ((∃ p n x y, v = .ref p ∧ Pt H p n x y ∧ ∀ H', Same H H' → Q .non H') ∨ (Odd K H v ∧ ∀ H', Same H H' → E (.ref C) none H'))
section
variable {P : Program} {w : World} {K : PySem.W.Frag} {mg : Str → Option Value} {base : Heap} {c : CCs}
theorem ok_isWholeG (T : TopDef K mg "is_whole" s_is_whole) (Z_isinstance : mg "isinstance" = none) (Z_int : mg "int" = none) (Z_bool : mg "bool" = none) : Def P w K mg base 1 "is_whole" ["thing"] (spWhG K) := by
  refine def_of T sc_isWhole (fun _ _ _ _ _ _ us hl => match us, hl with | [_], _ => rfl) (fun vs H Q E h => ?_) (fun f cdv A outer s H vs Q E hr h => ?_)
  · obtain ⟨v, b, rfl, _⟩ := h
    rfl
  obtain ⟨v, b, rfl, ⟨Ty, b1, ty, k1, k2⟩, q⟩ := h
  have nd := sc_isWhole.nd
  refine ⟨_, (pss_one (ps_ret (pe_and (pe_callB call_isi rfl Z_isinstance (by decide +kernel) (pa_cons (pv 0) (pa_cons (pe_bltn (v := V.ty "int") rfl Z_int (by decide +kernel) rfl) pa_nil))) (pe_one (pe_not (pe_callB call_isi rfl Z_isinstance (by decide +kernel) (pa_cons (pv 0) (pa_cons (pe_bltn (v := V.ty "bool") rfl Z_bool (by decide +kernel) rfl) pa_nil)))))))), ?_⟩
  refine ⟨_, rfl, _, _, _, _, b1, rfl, (fun _ h => h), ty, k1, _, rfl, ?_⟩
  rcases k2 with ⟨rfl, rfl⟩ | ⟨rfl, b2, k2, rfl⟩
  · exact iteF q
  · exact iteT ⟨_, rfl, _, _, _, _, b2, rfl, (fun _ h => h), ty, k2, _, rfl, q⟩
theorem ok_isPointG (T : TopDef K mg "is_point" s_is_point) (Z_isinstance : mg "isinstance" = none) (Z_tuple : mg "tuple" = none) (Z_len : mg "len" = none) (Z_all : mg "all" = none) (ki : PySem.W.kitOne K (.type "int") (.type "bool") = some false) (D_is_whole : Def P w K mg base 1 "is_whole" ["thing"] (spWhG K)) : Def P w K mg base 2 "is_point" ["thing"] (spIsPtG K) := by
  refine def_of T sc_isPoint (fun _ _ _ _ _ _ us hl => match us, hl with | [_], _ => rfl) (fun vs H Q E h => ?_) (fun f cdv A outer s H vs Q E hr h => ?_)
  · obtain ⟨v, rfl, _⟩ := h
    rfl
  obtain ⟨v, rfl, h⟩ := h
  have nd := sc_isPoint.nd
  have ex1 : ∃ te, PE (cxOf CX0 P w K mg base ptN "is_point" (defScope s_is_point) f cdv A outer s H E).nox (allArg (ptAt 1)) te ∧ ∀ (Q' : VK) (o1 : Option V) (p : Addr) (xs : List V) (bs : List Bool), H p = some (.tup xs) → xs.length = 3 → All2 (Wh K H) xs bs → (∀ l H', Same H H' → H' l = some (.lst (bs.map V.bl)) → Q' (.ref l) H') → te [some (.ref p), o1] H Q' := by
    refine ⟨_, (pe_compF rfl (pi_tup (pv 0)) rfl (by decide +kernel) (by decide +kernel) rfl (show ∀ p ∈ Scope.names _, p.2 = NameKind.free → List.lookup p.1 (defScope s_is_point).names = some .cell ∨ List.lookup p.1 (defScope s_is_point).names = some .free by decide +kernel) fa_nil (show (["number"] : List Str).Nodup by decide +kernel) (fun _ _ _ _ => pif_nil) (fun _ _ _ _ => (pe_def D_is_whole (hr.mono (by decide)) rfl (pa_cons (pv 0) pa_nil)))), ?_⟩
    intro Q' o1 p xs bs e hl al fin
    refine comp_mapT (K := K) (ts := bs) (R := fun H v b => Wh K H v b) (xs := xs) (fun b => .bl b) (fun _ _ v t s h => h.same s) (fun l H' => l = p ∧ H' = H) (fun R h => ⟨_, rfl, p, rfl, ⟨_, SqT.of e⟩, h p _ ⟨rfl, rfl⟩⟩) (fun l H' h => by obtain ⟨rfl, rfl⟩ := h; exact ⟨e, Same.refl _⟩) (by omega)
      al (fun v t H' N _ hv hN => ?_) (fun D H6 s6 hD eD => fin D H6 s6 eD)
    exact ⟨_, rfl, v, t, rfl, hv, hN _ (Same.refl _)⟩
  obtain ⟨tC, htC, hqC⟩ := ex1
  refine ⟨_, (pss_cons (ps_if (PW.pt (pw_or (pt_not (pt_val (pe_callB call_isi rfl Z_isinstance (by decide +kernel) (pa_cons (pv 0) (pa_cons (pe_bltn (v := V.ty "tuple") rfl Z_tuple (by decide +kernel) rfl) pa_nil))))) (pw_or1 (pt_cmpR op_ne (pe_callB call_len rfl Z_len (by decide +kernel) (pa_cons (pv 0) pa_nil)) pe_int (nomark _))))) (pss_one (ps_ret pe_bl)) pss_nil)
    (pss_cons (ps_if (pt_not (pt_val (pe_callB (call_all rfl) rfl Z_all (by decide +kernel) (pa_cons htC pa_nil)))) (pss_one (ps_ret pe_bl)) pss_nil)
    (pss_cons (ps_set (i := 1) nd rfl (Or.inl rfl) (pe_ix ix_tup (pv 0) pe_int (fun _ _ => rfl)))
    (pss_one (ps_ret (pe_and (pe_cmpR op_ge (pv 1) pe_int (nomark _)) (pe_and (pe_chain op_le op_le pe_int (pe_ix ix_tup (pv 0) pe_int (fun _ _ => rfl)) (pv 1)) (pe_one (pe_chain op_le op_le pe_int (pe_ix ix_tup (pv 0) pe_int (fun _ _ => rfl)) (pv 1)))))))))), ?_⟩
  have wi : ∀ i : Int, Wh K H (.int i) true := fun i => ⟨_, true, .int i, kit_same, .inr ⟨rfl, false, ki, rfl⟩⟩
  have hh : (∃ (p : Addr) (a b d : Int), v = .ref p ∧ H p = some (.tup [.int a, .int b, .int d]) ∧ ∀ H', Same H H' → Q (.bl (decide (1 ≤ a ∧ 0 ≤ b ∧ b ≤ a ∧ 0 ≤ d ∧ d ≤ a))) H') ∨
      (((∃ T, TyOf K H v T ∧ PySem.W.kitOne K T (.type "tuple") = some false) ∨ (∃ (p : Addr) (xs : List V), v = .ref p ∧ H p = some (.tup xs) ∧ xs.length ≠ 3) ∨ (∃ (p : Addr) (xs : List V) (bs : List Bool), v = .ref p ∧ H p = some (.tup xs) ∧ xs.length = 3 ∧ All2 (Wh K H) xs bs ∧ bs.all id = false)) ∧ ∀ H', Same H H' → Q (.bl false) H') := by
    rcases h with ⟨p, n, x, y, rfl, ⟨e, g1, g2, g3, g4, g5⟩, q⟩ | ⟨o, q⟩
    · refine .inl ⟨p, n, x, y, rfl, e, fun H' s' => ?_⟩
      rw [decide_eq_true ⟨g1, g2, g3, g4, g5⟩]
      exact q H' s'
    · cases o with
      | no t k => exact .inr ⟨.inl ⟨_, t, k⟩, q⟩
      | len e n => exact .inr ⟨.inr (.inl ⟨_, _, rfl, e, n⟩), q⟩
      | el e n a b => exact .inr ⟨.inr (.inr ⟨_, _, _, rfl, e, n, a, b⟩), q⟩
      | out e n =>
        refine .inl ⟨_, _, _, _, rfl, e, fun H' s' => ?_⟩
        rw [decide_eq_false n]
        exact q H' s'
  clear h
  rcases hh with ⟨p, a, b, d, rfl, e, q⟩ | ⟨⟨T, ty, k⟩ | ⟨p, xs, rfl, e, n3⟩ | ⟨p, xs, bs, rfl, e, n3, al, hb⟩, q⟩
  · refine ⟨_, rfl, _, _, _, _, true, rfl, (fun _ h => h), TyOf.tup e, kit_same, _, rfl, iteF ?_⟩
    refine ⟨_, rfl, _, 3, rfl, .inr ⟨_, SqT.of e, rfl⟩, rfl, _, rfl, iteNS rfl ?_⟩
    refine hqC _ _ p _ [true, true, true] e rfl (.cons (wi a) (.cons (wi b) (.cons (wi d) .nil))) fun l H1 s1 el => ?_
    have e1 := s1 _ _ e
    refine ⟨l, [true, true, true], rfl, SqL.of el, _, rfl, iteF ?_⟩
    refine ⟨_, rfl, _, _, _, _, rfl, rfl, SqT.of e1, rfl, ?_⟩
    refine ⟨_, rfl, _, _, rfl, rfl, _, rfl, ?_⟩
    have q1 := q H1 s1
    refine ite2 (fun g1 => ?_) (fun g1 => ?_)
    · have g1' : 1 ≤ a := of_decide_eq_true g1
      refine ⟨_, rfl, _, _, _, _, rfl, rfl, SqT.of e1, rfl, _, _, rfl, rfl, _, rfl, ?_⟩
      refine ite2 (fun g2 => ?_) (fun g2 => ?_)
      · have g2' : 0 ≤ b := of_decide_eq_true g2
        refine ⟨_, rfl, _, _, rfl, rfl, _, rfl, ?_⟩
        refine ite2 (fun g3 => ?_) (fun g3 => ?_)
        · have g3' : b ≤ a := of_decide_eq_true g3
          refine ⟨_, rfl, _, _, _, _, rfl, rfl, SqT.of e1, rfl, _, _, rfl, rfl, _, rfl, ?_⟩
          refine ite2 (fun g4 => ?_) (fun g4 => ?_)
          · have g4' : 0 ≤ d := of_decide_eq_true g4
            refine ⟨_, rfl, _, _, rfl, rfl, ?_⟩
            show Q (.bl (decide (d ≤ a))) H1
            rw [show decide (1 ≤ a ∧ 0 ≤ b ∧ b ≤ a ∧ 0 ≤ d ∧ d ≤ a) = decide (d ≤ a) by simp [g1', g2', g3', g4']] at q1
            exact q1
          · rw [decide_eq_false (fun z => g4 (decide_eq_true z.2.2.2.1))] at q1
            exact q1
        · rw [decide_eq_false (fun z => g3 (decide_eq_true z.2.2.1))] at q1
          first | exact q1 | exact ⟨_, rfl, iteF q1⟩
      · rw [decide_eq_false (fun z => g2 (decide_eq_true z.2.1))] at q1
        exact ⟨_, rfl, iteF q1⟩
    · rw [decide_eq_false (fun z => g1 (decide_eq_true z.1))] at q1
      exact q1
  · exact ⟨_, rfl, _, _, _, _, false, rfl, (fun _ h => h), ty, k, _, rfl, iteT (q _ (Same.refl _))⟩
  · refine ⟨_, rfl, _, _, _, _, true, rfl, (fun _ h => h), TyOf.tup e, kit_same, _, rfl, iteF ?_⟩
    refine ⟨_, rfl, _, xs.length, rfl, .inr ⟨_, SqT.of e, rfl⟩, rfl, _, rfl, ?_⟩
    rw [decide_eq_false (show ¬ V.int ((xs.length : Nat) : Int) = V.int 3 from fun z => n3 (by have := V.int.inj z; omega))]
    exact iteT (q _ (Same.refl _))
  · refine ⟨_, rfl, _, _, _, _, true, rfl, (fun _ h => h), TyOf.tup e, kit_same, _, rfl, iteF ?_⟩
    refine ⟨_, rfl, _, xs.length, rfl, .inr ⟨_, SqT.of e, rfl⟩, rfl, _, rfl, iteNS (by rw [n3]; rfl) ?_⟩
    refine hqC _ _ p _ bs e n3 al fun l H1 s1 el => ?_
    refine ⟨l, bs, rfl, SqL.of el, _, rfl, ?_⟩
    rw [hb]
    exact iteT (q _ s1)
theorem ok_mustG {CP : Addr} (T : TopDef K mg "must_be_point" s_must_be_point) (M_NoPoint : mg "NoPoint" = some (.ref CP)) (X_NoPoint : PySem.W.excIn K CP bmV "ValueError.__new__" = true) (D_is_point : Def P w K mg base 2 "is_point" ["thing"] (spIsPtG K)) : DefX P w K mg base 3 "must_be_point" ["thing"] (spMustG K CP) := by
  refine defx_of T sc_mustPt (fun _ _ _ _ _ _ us hl => match us, hl with | [_], _ => rfl) (fun vs H Q E h => ?_) (fun f cdv A outer s H vs Q E hr h => ?_)
  · obtain ⟨v, rfl, _⟩ := h
    rfl
  obtain ⟨v, rfl, h⟩ := h
  have nd := sc_mustPt.nd
  refine ⟨_, (pss_one (ps_if (pt_not (pt_val (pe_def D_is_point (hr.mono (by decide)) rfl (pa_cons (pv 0) pa_nil)))) (pss_one (ps_raise rfl M_NoPoint X_NoPoint (pa_cons pe_str pa_nil))) pss_nil)), ?_⟩
  rcases h with ⟨p, n, x, y, rfl, g, q⟩ | ⟨o, q⟩
  · exact ⟨_, rfl, _, rfl, .inl ⟨p, n, x, y, rfl, g, fun H' s' => ⟨_, rfl, iteF (q _ s')⟩⟩⟩
  · exact ⟨_, rfl, _, rfl, .inr ⟨o, fun H' s' => ⟨_, rfl, iteT ⟨(by show 1 ≤ sizeLine; decide), q _ s'⟩⟩⟩⟩
end
end Mine





set_option Elab.async false
set_option linter.all false
set_option maxRecDepth 100000
set_option maxHeartbeats 4000000
namespace Mine
open PySem L2
abbrev roN : List Str := ["saying", "rows", "place_of", "waiting", "part", "taken", "row"]
abbrev roAt (i j : Nat) : Stmt := match (defBody s_rows_of).getD i (.Pass ⟨0, 0, 0, 0⟩) with
  | .For _ _ b _ _ => b.getD j (.Pass ⟨0, 0, 0, 0⟩)
  | _ => .Pass ⟨0, 0, 0, 0⟩
theorem take_pop {α : Type} : ∀ {R : List α} {k : Nat}, k < R.length → ∃ x R1, R.drop k = x :: R1 ∧ R.take (k + 1) = R.take k ++ [x] ∧ R.drop (k + 1) = R1 := by
  intro R k h
  refine ⟨R[k], R.drop (k + 1), List.drop_eq_getElem_cons h, ?_, rfl⟩
  rw [List.take_add_one, List.getElem?_eq_getElem h]
  rfl
section
variable {P : Program} {w : World} {K : PySem.W.Frag} {mg : Str → Option Value} {base : Heap} {c : CCs}
theorem sc_rowsOf : FnScope roN ["saying"] (defScope s_rows_of) := ⟨rfl, rfl, rfl, by decide +kernel, rfl, by decide +kernel, by decide +kernel⟩
theorem ok_rowsOf (T : TopDef K mg "rows_of" s_rows_of) (Z_len : mg "len" = none) (Z_tuple : mg "tuple" = none) (M : Ms P w K mg base c) (G : ∀ t, MethOk P w K mg base (c.of t) "laid_out" 2 ["self"] (spLaid c t)) : Def P w K mg base 3 "rows_of" ["saying"] (spRowsOf c) := by
  refine def_of T sc_rowsOf (fun _ _ _ _ _ _ us hl => match us, hl with | [_], _ => rfl) (fun vs H Q E h => ?_) (fun f cdv A outer s H vs Q E hr h => ?_)
  · obtain ⟨a, t, rfl, _⟩ := h
    rfl
  obtain ⟨a, t, rfl, oa, ht, q⟩ := h
  have nd := sc_rowsOf.nd
  have hu := hu_of hr
  -- what is taken
  have stT : ∃ ts, PS (cxOf CX0 P w K mg base roN "rows_of" (defScope s_rows_of) f cdv A outer s H E).nox (roAt 3 0) ts ∧ ∀ (D : Ends) (o5 o6 : Option V) (l1 d1 l3 b : Addr) (x : Tr) (R : List Nat) (H1 : Hp), Ob c H1 b x → H1 l3 = some (.lst (R.reverse.map fun i : Nat => V.int (i : Int))) → x.kids.length ≤ R.length →
      (∀ l4 H2, l4 ≠ l3 → H1 l4 = none → (∀ d o, H1 d = some o → d ≠ l3 → H2 d = some o) → H2 l3 = some (.lst ((R.drop x.kids.length).reverse.map fun i : Nat => V.int (i : Int))) → H2 l4 = some (.lst ((R.take x.kids.length).map fun i : Nat => V.int (i : Int))) →
        D.nx [some (.ref a), some (.ref l1), some (.ref d1), some (.ref l3), some (.ref b), some (.ref l4), o6] H2) →
      ts D [some (.ref a), some (.ref l1), some (.ref d1), some (.ref l3), some (.ref b), o5, o6] H1 := by
    refine ⟨_, (ps_setF (i := 5) nd rfl (Or.inl rfl) (Or.inl rfl) rfl rfl (pi_list (pe_methD0 (k := 1) (pv 4) (hr.mono (by decide)))) rfl (by decide +kernel) (by decide +kernel) rfl (show ∀ p ∈ Scope.names _, p.2 = NameKind.free → List.lookup p.1 (defScope s_rows_of).names = some .cell ∨ List.lookup p.1 (defScope s_rows_of).names = some .free by decide +kernel) (fa_cons (j := 3) rfl (Or.inl rfl) (by decide +kernel) (Or.inl rfl) fa_nil) (show (["piece", "waiting"] : List Str).Nodup by decide +kernel) (fun _ _ _ _ => pif_nil) (fun _ _ _ _ => (pe_bm0K (K := K) rfl PySem.F.plainAttrs_list PySem.F.slot_list_pop PySem.F.type_list_pop mt_pop (pv 1)))), ?_⟩
    intro D o5 o6 l1 d1 l3 b x R H1 ob e3 hk fin
    obtain ⟨dx, fs, eb, nf⟩ := ob.cls
    unfold tAsgC
    refine comp_from ?_
    refine ⟨_, rfl, b, _, _, _, _, _, rfl, eb, nf _ (by decide +kernel), M.made x, b, rfl, ob, fun l us hl ou => ⟨l, rfl, ⟨_, SqL.of upd_same⟩, ?_⟩⟩
    have hul := ou.len
    have nl : l ≠ l3 := (ne_of_none e3 hl).symm
    refine comp_list (K := K) (xs := us) (fun l' H' => l' = l ∧ H' = upd H1 l (.lst us)) (fun R' h => h l _ ⟨rfl, rfl⟩) (fun l' H' h => by obtain ⟨rfl, rfl⟩ := h; exact upd_same) (by rw [hul]; have := kids_len x; omega)
      (fun l' D' i ys H' => l' = l ∧ H1 D' = none ∧ D' ≠ l3 ∧ ys = ((R.take i).map fun i : Nat => V.int (i : Int)) ∧ H' l3 = some (.lst ((R.drop i).reverse.map fun i : Nat => V.int (i : Int))) ∧ ∀ d o, H1 d = some o → d ≠ l3 → H' d = some o)
      (fun l' H' D' h hD => ?_) (fun l' D' i v ys H' hv nl' el eD h N hN => ?_) (fun l' D' ys H' el eD h => ?_)
    · obtain ⟨rfl, rfl⟩ := h
      have hD' := upd_none hD
      refine ⟨rfl, hD', (ne_of_none e3 hD').symm, rfl, ?_, fun d o z _ => ?_⟩
      · rw [upd_ne (ne_of_none e3 hD'), upd_ne nl.symm]; exact e3
      · rw [upd_ne (ne_of_none z hD'), upd_ne (ne_of_none z hl)]; exact z
    · obtain ⟨rfl, hD', nD, rfl, e3', sm⟩ := h
      have hi : i < R.length := by
        have := (List.getElem?_eq_some_iff.mp hv).1
        omega
      obtain ⟨y, R1, d1', d2', d3'⟩ := take_pop hi
      rw [d1', List.reverse_cons, List.map_append] at e3'
      refine ⟨_, rfl, .inl ⟨rfl, _, SqL.of e3'⟩, l3, _, _, rfl, rfl, e3', snoc_last _ _, ?_⟩
      refine hN _ _ (by rw [upd_ne nl]; exact el) (by rw [upd_ne nD]; exact eD) ⟨rfl, hD', nD, ?_, ?_, fun d o z n => ?_⟩
      · rw [d2', List.map_append]; rfl
      · rw [upd_ne nD.symm, upd_same, d3']
        exact congrArg some (congrArg HO.lst List.dropLast_concat)
      · rw [upd_ne (ne_of_none z hD'), upd_ne n]; exact sm d o z n
    · obtain ⟨rfl, hD', nD, rfl, e3', sm⟩ := h
      rw [hul] at e3' eD
      exact fin D' H' nD hD' sm e3' eD
  obtain ⟨tsT, htT, hqT⟩ := stT
  refine ⟨_, pss_cons (ps_set (i := 1) nd rfl (Or.inl rfl) (pe_lst pa_nil)) (pss_cons (ps_set (i := 2) nd rfl (Or.inl rfl) pe_dnewT) (pss_cons (ps_set (i := 3) nd rfl (Or.inr rfl) (pe_lst pa_nil)) (pss_cons (ps_for PassesOwn.never rfl (pi_list (pe_methD0 (k := 2) (pv 0) (hr.mono (by omega)))) (pg_name (i := 4) nd rfl (Or.inl rfl)) (pss_cons htT (pss_cons (ps_expr (pe_bm0 PySem.F.plainAttrs_list PySem.F.slot_list_reverse PySem.F.type_list_reverse mt_reverse (pv 5)))
    (pss_cons (ps_set (i := 6) nd rfl (Or.inl rfl) (pe_op op_catT (pe_tup (pa_cons (pe_methD0 (k := 1) (pv 4) (hr.mono (by decide))) pa_nil)) (pe_callTy call_tuple_of rfl Z_tuple (by decide +kernel) (pa_cons (pv 5) pa_nil))))
    (pss_cons (ps_if (pt_cmp (pc_dnotin hu (pv 6) (pv 2))) (pss_cons (ps_dput hu (pv 2) (pv 6) (pe_callB call_len rfl Z_len (by decide +kernel) (pa_cons (pv 1) pa_nil)) rfl)
    (pss_one (ps_expr (pe_bm PySem.F.plainAttrs_list PySem.F.slot_list_append PySem.F.type_list_append mt_append (pv 1) (pa_cons (pv 6) pa_nil))))) pss_nil)
    (pss_one (ps_expr (pe_bm PySem.F.plainAttrs_list PySem.F.slot_list_append PySem.F.type_list_append mt_append (pv 3) (pa_cons (pe_dget hu (pv 2) (pv 6) (fun _ _ => rfl)) pa_nil))))))))) (pss_one (ps_ret (pv 1)))))), ?_⟩
  refine ⟨(by show 0 ≤ sizeLine; decide), fun l1 h1 => ?_⟩
  intro d1 h2'
  refine ⟨(by show 0 ≤ sizeLine; decide), fun l3 h3' => ?_⟩
  have h2 : H d1 = none := upd_none h2'
  have n12 : l1 ≠ d1 := fun e => by subst e; rw [upd_same] at h2'; cases h2'
  have h3a : upd H l1 (.lst []) l3 = none := upd_none h3'
  have h3 : H l3 = none := upd_none h3a
  have n13 : l1 ≠ l3 := fun e => by subst e; rw [upd_same] at h3a; cases h3a
  have n23 : d1 ≠ l3 := fun e => by subst e; rw [upd_same] at h3'; cases h3'
  have sm0 : Same H (upd (upd (upd H l1 (.lst [])) d1 (.dT [])) l3 (.lst [])) := fun b o e => by rw [upd_ne (ne_of_none e h3), upd_ne (ne_of_none e h2), upd_ne (ne_of_none e h1)]; exact e
  have oa0 := oa.to (Kp.of sm0)
  obtain ⟨dx, fs, ea, nf⟩ := oa0.cls
  refine ⟨_, rfl, a, _, _, _, _, _, rfl, ea, nf _ (by decide +kernel), G t, a, rfl, oa0, ht, fun l us H' sm hl el ou => ⟨l, rfl, ⟨_, SqL.of el⟩, ?_⟩⟩
  have ul := ou.len
  rw [post_len] at ul
  have g1 : H' l1 = some (.lst []) := sm _ _ (by rw [upd_ne n13, upd_ne n12, upd_same])
  have g2 : H' d1 = some (.dT []) := sm _ _ (by rw [upd_ne n23, upd_same])
  have g3 : H' l3 = some (.lst []) := sm _ _ upd_same
  have hl0 : H l = none := by
    cases z : H l with
    | none => rfl
    | some o => rw [sm0 _ _ z] at hl; cases hl
  have nl1 : l ≠ l1 := fun e => by subst e; rw [upd_ne n13, upd_ne n12, upd_same] at hl; cases hl
  have nl3 : l ≠ l3 := fun e => by subst e; rw [upd_same] at hl; cases hl
  have nld : l ≠ d1 := fun e => by subst e; rw [upd_ne n23, upd_same] at hl; cases hl
  refine for_list (xs := us) (fun i σ H2 => ∃ (o4 o5 o6 : Option V) (rs : List Rw) (R : List Nat) (kvs : List (Rw × V)) (vs : List V), σ = [some (.ref a), some (.ref l1), some (.ref d1), some (.ref l3), o4, o5, o6] ∧ (∀ d o, H' d = some o → d ≠ l1 → d ≠ d1 → d ≠ l3 → H2 d = some o) ∧
      H2 l1 = some (.lst vs) ∧ All2 (RwV H2) vs rs ∧ H2 d1 = some (.dT kvs) ∧ PlO kvs rs ∧ H2 l3 = some (.lst (R.reverse.map fun i : Nat => V.int (i : Int))) ∧ R.length ≤ i ∧ rs.length ≤ i ∧ rrun (rs, R) (t.post.drop i) = some (t.rows, [(t.putR []).2]))
    ⟨_, _, _, [], [], [], [], rfl, fun d o z _ _ _ => z, g1, .nil, g2, PlO.nil, g3, Nat.le_refl _, Nat.le_refl _, rrun_all t⟩ (fun i σ H2 _ h => ?_) (fun i v σ H2 hi h => ?_) (fun σ H2 h => ?_)
  · obtain ⟨o4, o5, o6, rs, R, kvs, vs, _, sb, _⟩ := h
    exact SqL.of (sb _ _ el nl1 nld nl3)
  · obtain ⟨o4, o5, o6, rs, R, kvs, vs, rfl, sb, e1, rv, e2, pl, e3, hR, hrs, hrun⟩ := h
    obtain ⟨x, hx, b, rfl, ob⟩ := ou.get i v hi
    rw [drop_at hx] at hrun
    obtain ⟨s', hs', hrun'⟩ := rrun_cons hrun
    obtain ⟨hk, rfl⟩ := rstep_is hs'
    have hil : i < us.length := (List.getElem?_eq_some_iff.mp hi).1
    have kp : Kp H' H2 := fun d o z f => sb d o z (fun e => by subst e; rw [g1] at z; cases z; cases f) (fun e => by subst e; rw [g2] at z; cases z; cases f) (fun e => by subst e; rw [g3] at z; cases z; cases f)
    have ob2 := ob.to kp
    refine hqT _ _ _ l1 d1 l3 b x R H2 ob2 e3 hk fun l4 H3 n43 h4 sm3 e33 e34 => ?_
    have nl41 : l4 ≠ l1 := (ne_of_none e1 h4).symm
    have nl4d : l4 ≠ d1 := (ne_of_none e2 h4).symm
    have e31 : H3 l1 = some (.lst vs) := sm3 _ _ e1 n13
    have e3d : H3 d1 = some (.dT kvs) := sm3 _ _ e2 n23
    have kp3 : Kp H2 H3 := fun d o z f => sm3 d o z (fun e => by subst e; rw [e3] at z; cases z; cases f)
    -- taken.reverse()
    refine ⟨_, rfl, .inl ⟨rfl, _, SqL.of e34⟩, l4, _, rfl, rfl, e34, ?_⟩
    have kp4 : Kp H3 (upd H3 l4 (.lst ((R.take x.kids.length).map fun i : Nat => V.int (i : Int)).reverse)) := kp_mut e34 rfl
    rw [← List.map_reverse] at kp4 ⊢
    have ob4 := (ob2.to kp3).to kp4
    obtain ⟨dx', fs', eb, nf'⟩ := ob4.cls
    refine ⟨_, rfl, b, _, _, _, _, _, rfl, eb, nf' _ (by decide +kernel), M.word x, b, rfl, ob4, (by show 1 ≤ sizeLine; decide), fun p1 hp1 => ?_⟩
    have kx := kids_len x
    have e44 : upd H3 l4 (.lst ((R.take x.kids.length).reverse.map fun i : Nat => V.int (i : Int))) l4 = _ := upd_same
    have np1 : l4 ≠ p1 := ne_of_none e44 hp1
    refine ⟨_, rfl, l4, _, rfl, .inl ⟨SqL.of (by rw [upd_ne np1]; exact e44), fun p2 hp2 => ?_⟩⟩
    have np12 : p1 ≠ p2 := ne_of_none (upd_same (H := upd H3 l4 (.lst ((R.take x.kids.length).reverse.map fun i : Nat => V.int (i : Int))))) hp2
    refine catT_any (K := K) (by rw [upd_ne np12, upd_same]) upd_same (by simp) (by simp only [List.length_cons, List.length_nil, List.length_map, List.length_reverse, List.length_take]; exact Nat.le_trans (show _ ≤ 3 by omega) (by decide)) fun rw' H6 s6 e6 => ?_
    have s46 : Same (upd H3 l4 (.lst ((R.take x.kids.length).reverse.map fun i : Nat => V.int (i : Int)))) H6 := ((same_new hp1 _).trans (same_new hp2 _)).trans s6
    have e6' : H6 rw' = some (.tup ((rowK x.word (R.take x.kids.length).reverse).map kV)) := by rw [rowK_kV]; exact e6
    generalize hr0 : rowK x.word (R.take x.kids.length).reverse = r at e6' hrun'
    have g1' : H6 l1 = some (.lst vs) := s46 _ _ (by rw [upd_ne nl41.symm]; exact e31)
    have gd' : H6 d1 = some (.dT kvs) := s46 _ _ (by rw [upd_ne nl4d.symm]; exact e3d)
    have g3' : H6 l3 = some (.lst ((R.drop x.kids.length).reverse.map fun i : Nat => V.int (i : Int))) := s46 _ _ (by rw [upd_ne n43.symm]; exact e33)
    have kp6 : Kp H2 H6 := (kp3.trans kp4).trans (Kp.of s46)
    have sb6 : ∀ d o, H' d = some o → d ≠ l1 → d ≠ d1 → d ≠ l3 → H6 d = some o := fun d o z z1 z2 z3 => by
      have y2 := sb d o z z1 z2 z3
      exact s46 _ _ (by rw [upd_ne (ne_of_none y2 h4)]; exact sm3 d o y2 z3)
    have rv6 := rv.imp (RwV.to kp6)
    have vl := rv.len
    refine ⟨_, rfl, _, rfl, d1, _, rfl, DGet.t gd' e6', _, rfl, ?_⟩
    have hv := pl.2 r
    have big : kvs.length < sizeLine := by rw [pl.1]; exact Nat.lt_of_le_of_lt (show rs.length ≤ 1000 by omega) (by decide)
    cases hx0 : idx rs r with
    | some j =>
      rw [hx0] at hv
      rw [hv]
      refine iteF ?_
      have hp : pushRow rs r = (rs, j) := by unfold pushRow; rw [hx0]
      rw [hp] at hrun'
      refine ⟨_, rfl, .inl ⟨rfl, _, SqL.of g3'⟩, _, rfl, _, rfl, d1, _, rfl, (by have z := DGet.t gd' e6'; rw [hv] at z; exact z), l3, _, _, rfl, rfl, g3', ?_, ?_⟩
      · rw [List.length_map, List.length_reverse]; exact Nat.lt_of_le_of_lt (show _ ≤ 1000 by rw [List.length_drop]; omega) (by decide)
      · have km : Kp H6 (upd H6 l3 (.lst (((R.drop x.kids.length).reverse.map fun i : Nat => V.int (i : Int)) ++ [V.int (j : Int)]))) := kp_mut g3' rfl
        refine ⟨_, _, _, rs, j :: R.drop x.kids.length, kvs, vs, rfl, fun d o z z1 z2 z3 => by rw [upd_ne z3]; exact sb6 d o z z1 z2 z3, by rw [upd_ne n13]; exact g1', rv6.imp (RwV.to km), by rw [upd_ne n23]; exact gd', pl, by rw [upd_same, List.reverse_cons, List.map_append]; rfl, ?_, by omega, hrun'⟩
        rw [List.length_cons, List.length_drop]; omega
    | none =>
      rw [hx0] at hv
      rw [hv]
      refine iteT ?_
      have hp : pushRow rs r = (rs ++ [r], rs.length) := by unfold pushRow; rw [hx0]
      rw [hp] at hrun'
      refine ⟨_, rfl, _, vs.length, rfl, .inl ⟨_, SqL.of g1', rfl⟩, _, rfl, _, rfl, d1, _, rfl, DPut.t gd' e6' big, ?_⟩
      rw [vl]
      have gA : upd H6 d1 (.dT (putK kvs r (.int (rs.length : Int)))) l1 = some (.lst vs) := by rw [upd_ne n12]; exact g1'
      refine ⟨_, rfl, .inl ⟨rfl, _, SqL.of gA⟩, _, rfl, l1, _, _, rfl, rfl, gA, by rw [vl]; exact Nat.lt_of_le_of_lt (show rs.length ≤ 1000 by omega) (by decide), ?_⟩
      have k7 : Kp H6 (upd (upd H6 d1 (.dT (putK kvs r (.int (rs.length : Int))))) l1 (.lst (vs ++ [.ref rw']))) := (kp_mut gd' rfl).trans (kp_mut gA rfl)
      have gB : upd (upd H6 d1 (.dT (putK kvs r (.int (rs.length : Int))))) l1 (.lst (vs ++ [.ref rw'])) d1 = some (.dT (putK kvs r (.int (rs.length : Int)))) := by rw [upd_ne n12.symm, upd_same]
      have gC : upd (upd H6 d1 (.dT (putK kvs r (.int (rs.length : Int))))) l1 (.lst (vs ++ [.ref rw'])) l3 = some (.lst ((R.drop x.kids.length).reverse.map fun i : Nat => V.int (i : Int))) := by rw [upd_ne n13.symm, upd_ne n23.symm]; exact g3'
      have e7 := k7 _ _ e6' rfl
      have pl' := pl.put hx0
      have hv' : valV (putK kvs r (.int (rs.length : Int))) r = some (.int (rs.length : Int)) := by rw [valV_put, if_pos rfl]
      refine ⟨_, rfl, .inl ⟨rfl, _, SqL.of gC⟩, _, rfl, _, rfl, d1, _, rfl, (by have z := DGet.t gB e7; rw [hv'] at z; exact z), l3, _, _, rfl, rfl, gC, ?_, ?_⟩
      · rw [List.length_map, List.length_reverse]; exact Nat.lt_of_le_of_lt (show _ ≤ 1000 by rw [List.length_drop]; omega) (by decide)
      · have km := kp_mut (u := .lst (((R.drop x.kids.length).reverse.map fun i : Nat => V.int (i : Int)) ++ [V.int (rs.length : Int)])) gC rfl
        refine ⟨_, _, _, rs ++ [r], rs.length :: R.drop x.kids.length, _, vs ++ [.ref rw'], rfl, fun d o z z1 z2 z3 => by rw [upd_ne z3, upd_ne z1, upd_ne z2]; exact sb6 d o z z1 z2 z3, by rw [upd_ne n13, upd_same], ?_, by rw [upd_ne n23]; exact gB, pl', by rw [upd_same, List.reverse_cons, List.map_append]; rfl, ?_, by rw [List.length_append]; simp; omega, hrun'⟩
        · exact ((rv6.imp (RwV.to k7)).imp (RwV.to km)).app (.cons ⟨rw', rfl, km _ _ e7 rfl⟩ .nil)
        · rw [List.length_cons, List.length_drop]; omega
  · obtain ⟨o4, o5, o6, rs, R, kvs, vs, rfl, sb, e1, rv, e2, pl, e3, hR, hrs, hrun⟩ := h
    rw [ul, ← post_len, List.drop_length] at hrun
    cases hrun
    refine ⟨_, rfl, q l1 vs H2 (fun d o z => ?_) h1 e1 rv⟩
    exact sb d o (sm _ _ (sm0 _ _ z)) (ne_of_none z h1) (ne_of_none z h2) (ne_of_none z h3)
end
end Mine




set_option Elab.async false
set_option linter.all false
set_option maxRecDepth 100000
set_option maxHeartbeats 4000000
namespace Mine
open PySem L2
section
variable {P : Program} {w : World} {K : PySem.W.Frag} {mg : Str → Option Value} {base : Heap} {c : CCs}
theorem sc_next : FnScope ["_law_cells"] ["_law_cells"] (defScope sNext) := ⟨rfl, rfl, rfl, by decide +kernel, rfl, by decide +kernel, by decide +kernel⟩
theorem ok_next (T : TopDef K mg "_law_next" sNext) (Z_len : mg "len" = none) : Def P w K mg base 1 "_law_next" ["_law_cells"] spNext := by
  refine def_of T sc_next (fun _ _ _ _ _ _ us hl => match us, hl with | [_], _ => rfl) (fun vs H Q E h => ?_) (fun f cdv A outer s H vs Q E hr h => ?_)
  · obtain ⟨l, ms, rfl, _⟩ := h
    rfl
  obtain ⟨l, ms, rfl, e, hc, q⟩ := h
  have nd := sc_next.nd
  refine ⟨_, (pss_cons (ps_if (pt_cmpR op_eq (pe_callB call_len rfl Z_len (by decide +kernel) (pa_cons (pv 0) pa_nil)) pe_int (nomark _)) (pss_one (ps_ret pe_int)) pss_nil)
    (pss_one (ps_ret (pe_bm PySem.F.plainAttrs_list PySem.F.slot_list_pop PySem.F.type_list_pop mt_popAt (pv 0) (pa_cons pe_int pa_nil))))), ?_⟩
  refine ⟨_, rfl, _, _, rfl, .inl ⟨_, SqL.of e, rfl⟩, rfl, _, rfl, ?_⟩
  refine ite2 (fun z => ?_) (fun z => ?_)
  · exact q 0 ms H cel0 hc (SB.refl _ _) e
  · cases ms with
    | nil => exact absurd (decide_eq_true rfl) z
    | cons m r =>
      refine ⟨_, rfl, .inl ⟨rfl, _, SqL.of e⟩, l, _, 0, 0, V.int m, rfl, rfl, e, by decide, by decide, seqIndex_of (Int.le_refl 0) (by rw [List.length_map, List.length_cons]; omega), rfl, ?_⟩
      exact q m r _ (hc m (by simp)) (fun n hn => hc n (List.mem_cons_of_mem _ hn)) (sb_upd _ _) upd_same
end
end Mine

namespace Mine
open PySem L2
section
variable {P : Program} {w : World} {K : PySem.W.Frag} {mg : Str → Option Value} {base : Heap} {c : CCs}
theorem sc_foldF : FnScope ["_law_word", "_law_n", "_law_one", "_law_other"] ["_law_word", "_law_n", "_law_one", "_law_other"] (defScope sFoldF) := ⟨rfl, rfl, rfl, by decide +kernel, rfl, by decide +kernel, by decide +kernel⟩
theorem ok_foldF (T : TopDef K mg "_law_fold" sFoldF) (Z_min : mg "min" = none) (Z_max : mg "max" = none) : Def P w K mg base 1 "_law_fold" ["_law_word", "_law_n", "_law_one", "_law_other"] spFoldF := by
  refine def_of T sc_foldF (fun _ _ _ _ _ _ us hl => match us, hl with | [_, _, _, _], _ => rfl) (fun vs H Q E h => ?_) (fun f cdv A outer s H vs Q E hr h => ?_)
  · obtain ⟨u, n, x, y, rfl, _⟩ := h
    rfl
  obtain ⟨u, n, x, y, rfl, q⟩ := h
  have nd := sc_foldF.nd
  refine ⟨_, (pss_cons (ps_if (pt_cmpR op_eq (pv 0) pe_str (nomark _)) (pss_one (ps_ret (pe_callB (call_min2 rfl) rfl Z_min (by decide +kernel) (pa_cons (pv 1) (pa_cons (pe_op op_add (pv 2) (pv 3)) pa_nil))))) pss_nil)
    (pss_cons (ps_if (pt_cmpR op_eq (pv 0) pe_str (nomark _)) (pss_one (ps_ret (pe_callB (call_max2 rfl) rfl Z_max (by decide +kernel) (pa_cons pe_int (pa_cons (pe_op op_sub (pe_op op_add (pv 2) (pv 3)) (pv 1)) pa_nil))))) pss_nil)
    (pss_cons (ps_if (pt_cmpR op_eq (pv 0) pe_str (nomark _)) (pss_one (ps_ret (pe_callB (call_max2 rfl) rfl Z_max (by decide +kernel) (pa_cons (pv 2) (pa_cons (pv 3) pa_nil))))) pss_nil)
    (pss_cons (ps_if (pt_cmpR op_eq (pv 0) pe_str (nomark _)) (pss_one (ps_ret (pe_callB (call_min2 rfl) rfl Z_min (by decide +kernel) (pa_cons (pv 2) (pa_cons (pv 3) pa_nil))))) pss_nil)
    (pss_one (ps_ret (pe_callB (call_min2 rfl) rfl Z_min (by decide +kernel) (pa_cons (pv 1) (pa_cons (pe_op op_add (pe_op op_sub (pv 1) (pv 2)) (pv 3)) pa_nil))))))))), ?_⟩
  cases u with
  | more =>
    refine ⟨_, rfl, rfl, _, rfl, ite_yes rfl ⟨_, rfl, _, rfl, _, rfl, _, _, rfl, rfl, _, _, rfl, ?_⟩⟩
    rw [min_is, Int.min_comm]
    exact q
  | less =>
    refine ⟨_, rfl, rfl, _, rfl, ite_no (by decide +kernel) ⟨_, rfl, rfl, _, rfl, ite_yes rfl ⟨_, rfl, _, rfl, _, _, rfl, rfl, _, rfl, _, _, rfl, rfl, _, _, rfl, ?_⟩⟩⟩
    rw [max_is, Int.max_comm]
    exact q
  | greater =>
    refine ⟨_, rfl, rfl, _, rfl, ite_no (by decide +kernel) ⟨_, rfl, rfl, _, rfl, ite_no (by decide +kernel) ⟨_, rfl, rfl, _, rfl, ite_yes rfl ⟨_, rfl, _, rfl, _, _, rfl, ?_⟩⟩⟩⟩
    rw [max_is]
    exact q
  | lesser =>
    refine ⟨_, rfl, rfl, _, rfl, ite_no (by decide +kernel) ⟨_, rfl, rfl, _, rfl, ite_no (by decide +kernel) ⟨_, rfl, rfl, _, rfl, ite_no (by decide +kernel) ⟨_, rfl, rfl, _, rfl, ite_yes rfl ⟨_, rfl, _, rfl, _, _, rfl, ?_⟩⟩⟩⟩⟩
    rw [min_is]
    exact q
  | leads =>
    refine ⟨_, rfl, rfl, _, rfl, ite_no (by decide +kernel) ⟨_, rfl, rfl, _, rfl, ite_no (by decide +kernel) ⟨_, rfl, rfl, _, rfl, ite_no (by decide +kernel) ⟨_, rfl, rfl, _, rfl, ite_no (by decide +kernel) ⟨_, rfl, _, rfl, _, rfl, _, _, rfl, rfl, _, rfl, _, _, rfl, rfl, _, _, rfl, ?_⟩⟩⟩⟩⟩
    rw [min_is, Int.min_comm]
    exact q
end
end Mine

namespace Mine
open PySem L2
section
variable {P : Program} {w : World} {K : PySem.W.Frag} {mg : Str → Option Value} {base : Heap} {c : CCs}
theorem sc_point : FnScope ["_law_cell", "_law_other", "_law_n"] ["_law_cell", "_law_other"] (defScope sPoint) := ⟨rfl, rfl, rfl, by decide +kernel, rfl, by decide +kernel, by decide +kernel⟩
theorem ok_point (T : TopDef K mg "_law_point" sPoint) : Def P w K mg base 1 "_law_point" ["_law_cell", "_law_other"] spPoint := by
  refine def_of T sc_point (fun _ _ _ _ _ _ us hl => match us, hl with | [_, _], _ => rfl) (fun vs H Q E h => ?_) (fun f cdv A outer s H vs Q E hr h => ?_)
  · obtain ⟨i, j, rfl, _⟩ := h
    rfl
  obtain ⟨i, j, rfl, ci, cj, q⟩ := h
  have nd := sc_point.nd
  have tail : ∃ t, PSs (cxOf CX0 P w K mg base ["_law_cell", "_law_other", "_law_n"] "_law_point" (defScope sPoint) f cdv A outer s H E).nox ((defBody sPoint).drop 2) t ∧ ∀ n : Int, 1 ≤ n → n ≤ 10 ^ 20 → t { nx := fun _ H' => Q .non H', rt := Q } [some (.int i), some (.int j), some (.int n)] H := by
    refine ⟨_, (pss_one (ps_ret (pe_tup (pa_cons (pv 2) (pa_cons (pe_op op_mod (pv 1) (pe_op op_add (pv 2) pe_int)) (pa_cons (pe_op op_mod (pe_op op_mulK (pe_op op_fdiv (pv 1) pe_int) (pe_op op_add (pv 0) pe_int)) (pe_op op_add (pv 2) pe_int)) pa_nil)))))), ?_⟩
    intro n hn hn2
    refine ⟨_, rfl, _, rfl, _, rfl, _, _, rfl, rfl, _, _, rfl, rfl, (show (0 : Int) < n + 1 by omega), _, rfl, _, _, rfl, rfl, ⟨by decide, by decide⟩, _, rfl, _, _, rfl, rfl, _, _, rfl, rfl, cel_mul (bits_div cj) (bits_succ ci), _, rfl, _, _, rfl, rfl, _, _, rfl, rfl, (show (0 : Int) < n + 1 by omega), (by show 3 ≤ sizeLine; decide), fun p hp => ?_⟩
    exact q _ _ _ p _ hn hn2 (Int.emod_nonneg _ (by omega)) (Int.le_of_lt_add_one (Int.emod_lt_of_pos _ (by omega))) (Int.emod_nonneg _ (by omega)) (Int.le_of_lt_add_one (Int.emod_lt_of_pos _ (by omega))) (same_new hp _) upd_same
  obtain ⟨t1, ht1, hq1⟩ := tail
  refine ⟨_, pss_cons (ps_set (i := 2) nd rfl (Or.inl rfl) (pe_op op_add pe_int (pe_op op_mod (pv 0) pe_int))) (pss_cons (ps_if (pt_cmpR op_eq (pe_op op_mod (pe_op op_fdiv (pv 0) pe_int) pe_int) pe_int (nomark _)) (pss_one (ps_set (i := 2) nd rfl (Or.inl rfl) (pe_op op_add pe_int (pe_op op_mod (pe_op op_mulK (pv 0) (pv 1)) (pe_op op_pow pe_int pe_int))))) pss_nil) ht1), ?_⟩
  refine ⟨_, rfl, _, _, rfl, rfl, (show (0 : Int) < 12 by decide), _, _, rfl, rfl, ?_⟩
  refine ⟨_, rfl, _, _, rfl, rfl, ⟨by decide, by decide⟩, _, _, rfl, rfl, (show (0 : Int) < 3 by decide), rfl, _, rfl, ?_⟩
  refine ite2 (fun g => ?_) (fun g => ?_)
  · refine ⟨_, rfl, _, rfl, _, _, rfl, rfl, cel_mul (Nat.le_trans ci.2 (by decide)) (Nat.le_trans cj.2 (by decide)), _, _, rfl, rfl, ⟨by decide, by decide, by decide⟩, _, _, rfl, rfl, (show (0 : Int) < 10 ^ (Int.toNat 20) by decide +kernel), _, _, rfl, rfl, ?_⟩
    have hn : 0 ≤ i * j % 10 ^ (Int.toNat 20) := Int.emod_nonneg _ (by decide +kernel)
    have hm : i * j % 10 ^ (Int.toNat 20) < 10 ^ 20 := Int.emod_lt_of_pos _ (by decide +kernel)
    exact hq1 _ (by omega) (by omega)
  · have hn : 0 ≤ i % 12 := Int.emod_nonneg _ (by decide)
    have hm : i % 12 < 12 := Int.emod_lt_of_pos _ (by decide)
    exact hq1 _ (by omega) (Int.le_trans (show 1 + i % 12 ≤ 12 by omega) (by decide +kernel))

end
end Mine

namespace Mine
open PySem L2
section
variable {P : Program} {w : World} {K : PySem.W.Frag} {mg : Str → Option Value} {base : Heap} {c : CCs}
theorem sc_mixed : FnScope mixNames ["_law_script", "_law_least"] (defScope sMixed) := ⟨rfl, rfl, rfl, by decide +kernel, rfl, by decide +kernel, by decide +kernel⟩
theorem ok_mixed (T : TopDef K mg "_law_mixed" sMixed) (Z_len : mg "len" = none) (Z_max : mg "max" = none) (Z_min : mg "min" = none) (Z_range : mg "range" = none) (Z_abs : mg "abs" = none) (Z_int : mg "int" = none) : Def P w K mg base 1 "_law_mixed" ["_law_script", "_law_least"] (spMixed K) := by
  refine def_of T sc_mixed (fun _ _ _ _ _ _ us hl => match us, hl with | [_, _], _ => rfl) (fun vs H Q E h => ?_) (fun f cdv A outer s H vs Q E hr h => ?_)
  · obtain ⟨a, ns, k, rfl, _⟩ := h
    rfl
  obtain ⟨a, ns, k, rfl, S, k0, k1, q⟩ := h
  have nd := sc_mixed.nd
  have hlen := S.few
  have tail : ∃ t, PSs (cxOf CX0 P w K mg base mixNames "_law_mixed" (defScope sMixed) f cdv A outer s H E).nox ((defBody sMixed).drop 1) t ∧ ∀ b : Bool, t { nx := fun _ H' => Q .non H', rt := Q } [some (.ref a), some (.int k), some (.bl b), none, none, none] H := by
    refine ⟨_, (pss_cons (ps_set (i := 3) nd rfl (Or.inl rfl) (pe_lst pa_nil))
    (pss_cons (ps_for PassesOwn.never rfl (pi_range1 rfl Z_range (pa_cons (pe_callB (call_max2 rfl) rfl Z_max (by decide +kernel) (pa_cons (pe_op op_add (pv 1) pe_int) (pa_cons (pe_callB (call_min2 rfl) rfl Z_min (by decide +kernel) (pa_cons pe_int (pa_cons (pe_callB call_len rfl Z_len (by decide +kernel) (pa_cons (pv 0) pa_nil)) pa_nil))) pa_nil))) pa_nil)) (pg_name (i := 4) nd rfl (Or.inl rfl)) (pss_cons (ps_set (i := 5) nd rfl (Or.inl rfl) pe_int)
    (pss_cons (ps_if (pt_cmpR op_lt (pv 4) (pe_callB call_len rfl Z_len (by decide +kernel) (pa_cons (pv 0) pa_nil)) (nomark _)) (pss_one (ps_set (i := 5) nd rfl (Or.inl rfl) (pe_ix ix_list (pv 0) (pv 4) (fun _ _ => rfl)))) pss_nil)
    (pss_one (ps_if (PW.pt (pw_and (pt_truth (pv 2) (fun _ => rfl)) (pw_and1 (pt_chain op_lt op_lt pe_int (pv 4) (pe_callB call_len rfl Z_len (by decide +kernel) (pa_cons (pv 0) pa_nil)))))) (pss_one (ps_expr (pe_bm PySem.F.plainAttrs_list PySem.F.slot_list_append PySem.F.type_list_append mt_append (pv 3) (pa_cons (pe_callB call_abs rfl Z_abs (by decide +kernel) (pa_cons (pv 5) pa_nil)) pa_nil)))) (pss_one (ps_expr (pe_bm PySem.F.plainAttrs_list PySem.F.slot_list_append PySem.F.type_list_append mt_append (pv 3) (pa_cons (pe_op op_mod (pe_op op_mulK (pe_op op_mod (pe_op op_add (pe_op op_mulK (pe_op op_mod (pv 5) (pe_op op_pow pe_int pe_int)) pe_int) (pe_op op_mulK pe_int (pe_op op_add (pv 4) pe_int))) pe_int) pe_int) pe_int) pa_nil)))))))))
    (pss_one (ps_ret (pe_slice sl_list (pv 3) (po_some (pe_callTy call_int1 rfl Z_int (by decide +kernel) (pa_cons (pv 2) pa_nil))) po_none))))), ?_⟩
    intro b
    refine ⟨(by show 0 ≤ sizeLine; decide), fun D hD => ?_⟩
    refine ⟨_, rfl, _, _, rfl, rfl, _, rfl, _, _, rfl, .inl ⟨_, (same_new hD _).seq S.l, rfl⟩, _, _, rfl, _, _, rfl, _, rfl, ?_, ?_, ?_⟩
    · rw [min_is, max_is, List.length_map]; omega
    · rw [min_is, max_is, List.length_map]; omega
    rw [min_is, max_is, List.length_map]
    have hN : (max (k + 1) (min 63 (ns.length : Int))).toNat ≤ 1000 := by omega
    refine for_range (fun i σ H2 => ∃ (ms : List Int) (o4 o5 : Option V), σ = [some (.ref a), some (.int k), some (.bl b), some (.ref D), o4, o5] ∧ Same H H2 ∧ H2 D = some (.lst (ms.map V.int)) ∧ ms.length = i ∧ ∀ m ∈ ms, Cel m)
      ⟨[], _, _, rfl, same_new hD _, upd_same, rfl, fun _ h => nomatch h⟩ (fun i σ H2 hi h => ?_) (fun σ H2 h => ?_)
    · obtain ⟨ms, o4, o5, rfl, sm, e, hm, hc⟩ := h
      have S2 := S.to sm
      have next : ∀ v : Int, Cel v → ∀ z : Int, ∃ (ms' : List Int) (o4 o5 : Option V), [some (V.ref a), some (.int k), some (.bl b), some (.ref D), some (.int (0 + (i : Int))), some (.int z)] = [some (V.ref a), some (.int k), some (.bl b), some (.ref D), o4, o5] ∧ Same H (upd H2 D (.lst (ms.map V.int ++ [V.int v]))) ∧
          upd H2 D (.lst (ms.map V.int ++ [V.int v])) D = some (.lst (ms'.map V.int)) ∧ ms'.length = i + 1 ∧ ∀ m ∈ ms', Cel m := fun v cv z => by
        refine ⟨ms ++ [v], _, _, rfl, fun d o zz => ?_, by rw [upd_same, List.map_append]; rfl, by rw [List.length_append, hm]; rfl, fun m hm' => ?_⟩
        · rw [upd_ne (ne_of_none zz hD)]; exact sm d o zz
        · rcases List.mem_append.mp hm' with zz | zz
          · exact hc m zz
          · have : m = v := by simpa using zz
            rw [this]; exact cv
      have ml : (ms.map V.int).length < sizeLine := by rw [List.length_map, hm]; exact Nat.lt_of_lt_of_le hi (Nat.le_trans hN (by decide))
      have lenV : ∃ xs, SqL K H2 a xs ∧ (ns.length : Nat) = xs.length := ⟨_, S2.l, (List.length_map _).symm⟩
      refine ⟨_, rfl, _, rfl, _, ns.length, rfl, .inl lenV, _, _, rfl, rfl, _, rfl, ?_⟩
      have cellOk : ∃ z : Int, Builtin.Int.intBits z ≤ 1048576 ∧ (decide ((0 + (i : Int)) < (ns.length : Int)) = true → atI (ns.map V.int) (0 + (i : Int)) = some (V.int z)) ∧ (¬ decide ((0 + (i : Int)) < (ns.length : Int)) = true → z = 0) := by
        by_cases hlt : i < ns.length
        · refine ⟨ns[i], S.bit _ (List.getElem_mem hlt), fun _ => ?_, fun z => absurd (decide_eq_true (by omega)) z⟩
          rw [Int.zero_add]
          exact atI_nat (by rw [List.getElem?_map, List.getElem?_eq_getElem hlt]; rfl)
        · exact ⟨0, by decide, fun z => absurd (of_decide_eq_true z) (by omega), fun _ => rfl⟩
      obtain ⟨z, hz, hz1, hz2⟩ := cellOk
      refine ite2 (fun g => ?a) (fun g => ?b)
      case' a => refine ⟨_, rfl, _, rfl, _, _, _, _, rfl, rfl, S2.l, hz1 g, ?_⟩
      case' b => have ez := hz2 g; subst ez
      all_goals
        cases b with
        | false =>
          refine ⟨_, rfl, false, rfl, iteF (iteF ?_)⟩
          refine ⟨_, rfl, .inl ⟨rfl, _, SqL.of e⟩, _, rfl, _, _, rfl, rfl, ⟨by decide, by decide, by decide⟩, _, _, rfl, rfl, (show (0 : Int) < 10 ^ (Int.toNat 18) by decide +kernel), _, _, rfl, rfl, mul_ok_r (by decide +kernel), _, rfl, _, _, rfl, rfl, _, _, rfl, rfl, mul_ok_l (by decide +kernel), _, _, rfl, rfl, _, _, rfl, rfl, (show (0 : Int) < 2147483647 by decide), _, _, rfl, rfl, mul_ok_r (by decide +kernel), _, _, rfl, rfl, (show (0 : Int) < 2147483629 by decide), D, _, _, rfl, rfl, e, ml, ?_⟩
          exact next _ (cel_small (Int.emod_nonneg _ (by decide)) (Int.lt_trans (Int.emod_lt_of_pos _ (by decide)) (by decide))) _
        | true =>
          refine ⟨_, rfl, true, rfl, iteT ?_⟩
          refine ⟨_, rfl, _, _, rfl, rfl, _, rfl, ?_⟩
          refine ite2 (fun g1 => ?_) (fun g1 => ?_)
          · refine ⟨_, rfl, _, ns.length, rfl, .inl lenV, _, _, rfl, rfl, _, rfl, ?_⟩
            refine ite2 (fun g2 => ?_) (fun g2 => ?_)
            · refine ⟨_, rfl, .inl ⟨rfl, _, SqL.of e⟩, _, rfl, _, rfl, D, _, _, rfl, rfl, e, ml, ?_⟩
              exact next _ (cel_abs hz) _
            · refine ⟨_, rfl, .inl ⟨rfl, _, SqL.of e⟩, _, rfl, _, _, rfl, rfl, ⟨by decide, by decide, by decide⟩, _, _, rfl, rfl, (show (0 : Int) < 10 ^ (Int.toNat 18) by decide +kernel), _, _, rfl, rfl, mul_ok_r (by decide +kernel), _, rfl, _, _, rfl, rfl, _, _, rfl, rfl, mul_ok_l (by decide +kernel), _, _, rfl, rfl, _, _, rfl, rfl, (show (0 : Int) < 2147483647 by decide), _, _, rfl, rfl, mul_ok_r (by decide +kernel), _, _, rfl, rfl, (show (0 : Int) < 2147483629 by decide), D, _, _, rfl, rfl, e, ml, ?_⟩
              exact next _ (cel_small (Int.emod_nonneg _ (by decide)) (Int.lt_trans (Int.emod_lt_of_pos _ (by decide)) (by decide))) _
          · refine ⟨_, rfl, iteF ?_⟩
            refine ⟨_, rfl, .inl ⟨rfl, _, SqL.of e⟩, _, rfl, _, _, rfl, rfl, ⟨by decide, by decide, by decide⟩, _, _, rfl, rfl, (show (0 : Int) < 10 ^ (Int.toNat 18) by decide +kernel), _, _, rfl, rfl, mul_ok_r (by decide +kernel), _, rfl, _, _, rfl, rfl, _, _, rfl, rfl, mul_ok_l (by decide +kernel), _, _, rfl, rfl, _, _, rfl, rfl, (show (0 : Int) < 2147483647 by decide), _, _, rfl, rfl, mul_ok_r (by decide +kernel), _, _, rfl, rfl, (show (0 : Int) < 2147483629 by decide), D, _, _, rfl, rfl, e, ml, ?_⟩
            exact next _ (cel_small (Int.emod_nonneg _ (by decide)) (Int.lt_trans (Int.emod_lt_of_pos _ (by decide)) (by decide))) _
    · obtain ⟨ms, o4, o5, rfl, sm, e, hm, hc⟩ := h
      refine ⟨_, rfl, _, rfl, .inr ⟨b, rfl, _, rfl, D, _, rfl, SqL.of e, fun p hp => ?_⟩⟩
      obtain ⟨ms', em, hm'⟩ := cut_int ms (some (if b then 1 else 0)) none
      rw [em]
      have np : H p = none := sm.free hp
      exact q p ms' _ (fun d o zz => by rw [upd_ne (ne_of_none zz np)]; exact sm d o zz) np upd_same fun m h => hc m (hm' m h)
  obtain ⟨t1, ht1, hq1⟩ := tail
  refine ⟨_, pss_cons (ps_set (i := 2) nd rfl (Or.inl rfl) (pe_and (pe_cmpR op_gt (pe_callB call_len rfl Z_len (by decide +kernel) (pa_cons (pv 0) pa_nil)) pe_int (nomark _)) (pe_one (pe_cmpR op_eq (pe_op op_mod (pe_ix ix_list (pv 0) pe_int (fun _ _ => rfl)) pe_int) pe_int (nomark _))))) ht1, ?_⟩
  refine ⟨_, rfl, _, ns.length, rfl, .inl ⟨_, S.l, (List.length_map _).symm⟩, _, _, rfl, rfl, _, rfl, ?_⟩
  refine ite2 (fun g => ?_) (fun g => ?_)
  · cases ns with
    | nil => exact absurd (of_decide_eq_true g) (by decide)
    | cons n r => exact ⟨_, rfl, _, _, _, _, rfl, rfl, S.l, atI_nat (j := 0) rfl, _, _, rfl, rfl, (show (0 : Int) < 2 by decide), rfl, hq1 _⟩
  · exact hq1 false

end
end Mine




set_option Elab.async false
set_option linter.all false
set_option maxRecDepth 100000
set_option maxHeartbeats 4000000
namespace Mine
open PySem L2
section
variable {P : Program} {w : World} {K : PySem.W.Frag} {mg : Str → Option Value} {base : Heap} {c : CCs}
theorem sc_saying : FnScope sayNames ["_law_cells", "_law_room", "_law_two"] (defScope sSaying) := ⟨rfl, rfl, rfl, by decide +kernel, rfl, by decide +kernel, by decide +kernel⟩
theorem ok_saying (T : TopDef K mg "_law_saying" sSaying) (Z_int : mg "int" = none) (D_law_next : Def P w K mg base 1 "_law_next" ["_law_cells"] spNext) : ∀ n : Nat, Def P w K mg base (n + 2) "_law_saying" ["_law_cells", "_law_room", "_law_two"] (spSaying n) := by
  intro n
  induction n with
  | zero =>
    refine def_of T sc_saying (fun _ _ _ _ _ _ us hl => match us, hl with | [_, _, _], _ => rfl) (fun vs H Q E h => ?_) (fun f cdv A outer s H vs Q E hr h => ?_)
    · obtain ⟨l, ms, r, b, rfl, _⟩ := h
      rfl
    · obtain ⟨l, ms, r, b, rfl, _, _, z1, z2, _⟩ := h
      have : (r : Int) ≤ ((0 : Nat) : Int) := z2
      omega
  | succ n D_law_saying =>
    refine def_of T sc_saying (fun _ _ _ _ _ _ us hl => match us, hl with | [_, _, _], _ => rfl) (fun vs H Q E h => ?_) (fun f cdv A outer s H vs Q E hr h => ?_)
    · obtain ⟨l, ms, r, b, rfl, _⟩ := h
      rfl
    obtain ⟨l, ms, r, b, rfl, e, hc, r1, r2, q⟩ := h
    have nd := sc_saying.nd
    have r2' : r ≤ (n : Int) + 1 := by exact_mod_cast r2
    -- a leaf
    have tail4 : ∃ t, PSs (cxOf CX0 P w K mg base sayNames "_law_saying" (defScope sSaying) f cdv A outer s H E).nox ((defBody sSaying).drop 4) t ∧ ∀ (i : Int) (ms1 : List Int) (H1 : Hp), (∀ m ∈ ms1, Cel m) → SB (.ref l) H H1 → H1 l = some (.lst (ms1.map V.int)) →
        t { nx := fun _ H' => Q .non H', rt := Q } [some (.ref l), some (.int r), some (.bl b), some (.int i), some (.int (i / 16)), none, none, none] H1 := by
      refine ⟨_, (pss_cons (ps_if (pt_cmpR op_gt (pe_op op_mod (pv 4) pe_int) pe_int (nomark _)) (pss_one (ps_ret (pe_tup (pa_cons (pe_ix ix_tup (pe_tup (pa_cons pe_str (pa_cons pe_str pa_nil))) (pe_op op_sub (pe_op op_mod (pv 4) pe_int) pe_int) (fun _ _ => rfl)) pa_nil)))) pss_nil)
    (pss_one (ps_ret (pe_tup (pa_cons (pe_ix ix_tup (pe_tup (pa_cons pe_str (pa_cons pe_str pa_nil))) (pe_op op_mulK (pe_op op_mod (pv 4) pe_int) (pe_callTy call_int1 rfl Z_int (by decide +kernel) (pa_cons (pv 2) pa_nil))) (fun _ _ => rfl)) pa_nil))))), ?_⟩
      intro i ms1 H1 hc1 sb1 e1
      have fin : ∀ (p p2 : Addr) (xs : List V) (x : Str) (t : Tr), t.size = 1 → H1 p = none → upd H1 p (.tup xs) p2 = none → Tu (upd (upd H1 p (.tup xs)) p2 (.tup [V.str x])) p2 t → Q (.ref p2) (upd (upd H1 p (.tup xs)) p2 (.tup [V.str x])) := fun p p2 xs x t ht hp hp2 tu => by
        have s1 := same_new hp (.tup xs)
        have s2 := same_new hp2 (.tup [V.str x])
        exact q p2 t ms1 _ (by rw [ht]; exact r1) hc1 (sb1.trans (SB.of (s1.trans s2))) (s2 _ _ (s1 _ _ e1)) tu
      refine ⟨_, rfl, _, _, rfl, rfl, (show (0 : Int) < 9 by decide), _, _, rfl, rfl, _, rfl, ?_⟩
      refine ite2 (fun g => ?_) (fun g => ?_)
      · have g1 : 6 < i / 16 % 9 := of_decide_eq_true g
        have g2 : i / 16 % 9 < 9 := Int.emod_lt_of_pos _ (by decide)
        refine ⟨(by show 2 ≤ sizeLine; decide), fun p hp => ?_⟩
        obtain ⟨z, hz, hzz⟩ := two_at (x := V.str "never") (y := V.str "always") (i / 16 % 9 - 7) (by omega)
        refine ⟨_, rfl, _, _, rfl, rfl, (show (0 : Int) < 9 by decide), _, _, rfl, rfl, _, _, _, _, rfl, rfl, SqT.of upd_same, hz, (by show 1 ≤ sizeLine; decide), fun p2 hp2 => ?_⟩
        rcases hzz with rfl | rfl
        · exact fin p p2 _ _ .never rfl hp hp2 (.never upd_same)
        · exact fin p p2 _ _ .always rfl hp hp2 (.always upd_same)
      · have g2 : i / 16 % 2 < 2 := Int.emod_lt_of_pos _ (by decide)
        have g3 : 0 ≤ i / 16 % 2 := Int.emod_nonneg _ (by decide)
        refine ⟨(by show 2 ≤ sizeLine; decide), fun p hp => ?_⟩
        have hi : i / 16 % 2 * (if b then 1 else 0) = 0 ∨ i / 16 % 2 * (if b then 1 else 0) = 1 := by cases b <;> simp <;> omega
        obtain ⟨z, hz, hzz⟩ := two_at (x := V.str "p") (y := V.str "q") (i / 16 % 2 * (if b then 1 else 0)) hi
        refine ⟨_, rfl, _, _, rfl, rfl, (show (0 : Int) < 2 by decide), _, rfl, .inr ⟨b, rfl, _, _, rfl, rfl, mul_ok_r (by cases b <;> decide +kernel), _, _, _, _, rfl, rfl, SqT.of upd_same, hz, (by show 1 ≤ sizeLine; decide), fun p2 hp2 => ?_⟩⟩
        rcases hzz with rfl | rfl
        · exact fin p p2 _ _ .lp rfl hp hp2 (.lp upd_same)
        · exact fin p p2 _ _ .lq rfl hp hp2 (.lq upd_same)
    obtain ⟨t4, ht4, hq4⟩ := tail4
    have tail3 : ∃ t, PSs (cxOf CX0 P w K mg base sayNames "_law_saying" (defScope sSaying) f cdv A outer s H E).nox ((defBody sSaying).drop 3) t ∧ ∀ (i : Int) (ms1 : List Int) (H1 : Hp), (∀ m ∈ ms1, Cel m) → SB (.ref l) H H1 → H1 l = some (.lst (ms1.map V.int)) →
        t { nx := fun _ H' => Q .non H', rt := Q } [some (.ref l), some (.int r), some (.bl b), some (.int i), some (.int (i / 16)), none, none, none] H1 := by
      refine ⟨_, pss_cons (ps_if (PW.pt (pw_and (pt_cmpR op_gt (pv 1) pe_int (nomark _)) (pw_and1 (pt_cmpR op_lt (pe_op op_mod (pv 3) pe_int) pe_int (nomark _))))) (pss_one (ps_ret (pe_tup (pa_cons pe_str (pa_cons (pe_def D_law_saying (hr.mono (by omega)) rfl (pa_cons (pv 0) (pa_cons (pe_op op_sub (pv 1) pe_int) (pa_cons (pv 2) pa_nil)))) pa_nil))))) pss_nil) ht4, ?_⟩
      intro i ms1 H1 hc1 sb1 e1
      refine ⟨_, rfl, _, _, rfl, rfl, _, rfl, ?_⟩
      refine ite2 (fun g => ?_) (fun g => ?_)
      · have g1 : 1 < r := of_decide_eq_true g
        refine ⟨_, rfl, _, _, rfl, rfl, (show (0 : Int) < 16 by decide), _, _, rfl, rfl, _, rfl, ?_⟩
        refine ite2 (fun g' => ?_) (fun g' => hq4 i ms1 H1 hc1 sb1 e1)
        refine ⟨_, rfl, _, rfl, _, _, rfl, rfl, _, rfl, l, ms1, r - 1, b, rfl, e1, hc1, by omega, by omega, fun a1 t1 ms2 H2 z1 hc2 sb2 e2 tu => ?_⟩
        refine ⟨(by show 2 ≤ sizeLine; decide), fun p hp => ?_⟩
        have s3 := same_new hp (.tup [V.str "not", .ref a1])
        exact q p (.no t1) ms2 _ (by show ((t1.size + 1 : Nat) : Int) ≤ r; omega) hc2 ((sb1.trans sb2).trans (SB.of s3)) (s3 _ _ e2) (.no upd_same (tu.to (Kp.of s3)))
      · exact iteF (hq4 i ms1 H1 hc1 sb1 e1)
    obtain ⟨t3, ht3, hq3⟩ := tail3
    refine ⟨_, pss_cons (ps_set (i := 3) nd rfl (Or.inl rfl) (pe_def D_law_next (hr.mono (by omega)) rfl (pa_cons (pv 0) pa_nil))) (pss_cons (ps_set (i := 4) nd rfl (Or.inl rfl) (pe_op op_fdiv (pv 3) pe_int)) (pss_cons (ps_if (PW.pt (pw_and (pt_cmpR op_gt (pv 1) pe_int (nomark _)) (pw_and1 (pt_cmpR op_gt (pe_op op_mod (pv 3) pe_int) pe_int (nomark _))))) (pss_cons (ps_set (i := 5) nd rfl (Or.inl rfl) (pe_op op_add pe_int (pe_op op_mod (pe_op op_fdiv (pv 4) pe_int) (pe_op op_sub (pv 1) pe_int))))
    (pss_cons (ps_set (i := 6) nd rfl (Or.inl rfl) (pe_def D_law_saying (hr.mono (by omega)) rfl (pa_cons (pv 0) (pa_cons (pv 5) (pa_cons (pv 2) pa_nil)))))
    (pss_cons (ps_set (i := 7) nd rfl (Or.inl rfl) (pe_ix ix_tup (pe_tup (pa_cons pe_str (pa_cons pe_str (pa_cons pe_str (pa_cons pe_str (pa_cons pe_str pa_nil)))))) (pe_op op_mod (pv 4) pe_int) (fun _ _ => rfl)))
    (pss_one (ps_ret (pe_tup (pa_cons (pv 7) (pa_cons (pv 6) (pa_cons (pe_def D_law_saying (hr.mono (by omega)) rfl (pa_cons (pv 0) (pa_cons (pe_op op_sub (pe_op op_sub (pv 1) pe_int) (pv 5)) (pa_cons (pv 2) pa_nil)))) pa_nil))))))))) pss_nil) ht3)), ?_⟩
    refine ⟨_, rfl, l, ms, rfl, e, hc, fun i ms1 H1 ci hc1 sb1 e1 => ?_⟩
    refine ⟨_, rfl, _, _, rfl, rfl, ⟨by decide, by decide⟩, ?_⟩
    refine ⟨_, rfl, _, _, rfl, rfl, _, rfl, ?_⟩
    refine ite2 (fun g => ?_) (fun g => iteF (hq3 i ms1 H1 hc1 sb1 e1))
    have g1 : 2 < r := of_decide_eq_true g
    refine ⟨_, rfl, _, _, rfl, rfl, (show (0 : Int) < 16 by decide), _, _, rfl, rfl, _, rfl, ?_⟩
    refine ite2 (fun g' => ?_) (fun g' => hq3 i ms1 H1 hc1 sb1 e1)
    have b1 : 0 ≤ i / 16 / 5 % (r - 2) := Int.emod_nonneg _ (by omega)
    have b2 : i / 16 / 5 % (r - 2) < r - 2 := Int.emod_lt_of_pos _ (by omega)
    refine ⟨_, rfl, _, _, rfl, rfl, ⟨by decide, by decide⟩, _, rfl, _, _, rfl, rfl, _, _, rfl, rfl, (show (0 : Int) < r - 2 by omega), _, _, rfl, rfl, ?_⟩
    refine ⟨_, rfl, _, rfl, _, rfl, l, ms1, _, b, rfl, e1, hc1, by omega, by omega, fun a1 x1 ms2 H2 z1 hc2 sb2 e2 tu1 => ?_⟩
    refine ⟨(by show 5 ≤ sizeLine; decide), fun p hp => ?_⟩
    obtain ⟨u, hu⟩ := word_at (i / 16 % 5) (Int.emod_nonneg _ (by decide)) (Int.emod_lt_of_pos _ (by decide))
    refine ⟨_, rfl, _, _, rfl, rfl, (show (0 : Int) < 5 by decide), _, _, _, _, rfl, rfl, SqT.of upd_same, hu, ?_⟩
    have s2 := same_new hp (.tup [V.str "more", .str "less", .str "greater", .str "lesser", .str "leads"])
    refine ⟨_, rfl, _, rfl, _, rfl, _, rfl, _, _, rfl, rfl, _, rfl, _, _, rfl, rfl, _, rfl, l, ms2, _, b, rfl, s2 _ _ e2, hc2, by omega, by omega, fun a2 x2 ms3 H3 z2 hc3 sb3 e3 tu2 => ?_⟩
    refine ⟨(by show 3 ≤ sizeLine; decide), fun p2 hp2 => ?_⟩
    have s4 := same_new hp2 (.tup [V.str u.str, .ref a1, .ref a2])
    have k3 : Kp (upd H2 p (.tup [V.str "more", .str "less", .str "greater", .str "lesser", .str "leads"])) H3 := sb3.kp (lst_fx (s2 _ _ e2))
    exact q p2 (.fold u x1 x2) ms3 _ (by show ((x1.size + x2.size + 1 : Nat) : Int) ≤ r; omega) hc3 ((((sb1.trans sb2).trans (SB.of s2)).trans sb3).trans (SB.of s4)) (s4 _ _ e3) (.fold upd_same (tu1.to (((Kp.of s2).trans k3).trans (Kp.of s4))) (tu2.to (Kp.of s4)))
end
end Mine




set_option Elab.async false
set_option linter.all false
set_option maxRecDepth 100000
set_option maxHeartbeats 4000000
namespace Mine
open PySem L2
def spObj1 (c : CCs) (n : Nat) : Sp := fun vs H Q _ => ∃ (a : Addr) (t : Tr), vs = [.ref a] ∧ Tu H a t ∧ t.size ≤ n ∧ ∀ x H', Same H H' → Ob c H' x t → Q (.ref x) H'
section
variable {P : Program} {w : World} {K : PySem.W.Frag} {mg : Str → Option Value} {base : Heap} {c : CCs}
theorem sc_obj06 : FnScope ["_law_tree", "_law_one", "_law_other"] ["_law_tree"] (defScope sObject) := ⟨rfl, rfl, rfl, by decide +kernel, rfl, by decide +kernel, by decide +kernel⟩
theorem ok_obj06 (T : TopDef K mg "_law_object" sObject) (N_never : Mk0 K c.ne) (M_never : mg "Never" = some (.ref c.ne)) (N_always : Mk0 K c.al) (M_always : mg "Always" = some (.ref c.al)) (K_letter : MkOk P w K mg base "Letter" c.le 1 ["self", "name"] (spInit1 c.le fName)) (K_not : MkOk P w K mg base "Not" c.no 1 ["self", "part"] (spInit1 c.no fPart)) (K_fold : ∀ u : W5, MkOk P w K mg base u.cls (c.fold u) 1 ["self", "one", "other"] (spInit2 (c.fold u))) : ∀ n : Nat, Def P w K mg base (n + 3) "_law_object" ["_law_tree"] (spObj1 c n) := by
  intro n
  induction n with
  | zero =>
    refine def_of T sc_obj06 (fun _ _ _ _ _ _ us hl => match us, hl with | [_], _ => rfl) (fun vs H Q E h => ?_) (fun f cdv A outer s H vs Q E hr h => ?_)
    · obtain ⟨a, t, rfl, _⟩ := h
      rfl
    · obtain ⟨a, t, rfl, _, z, _⟩ := h
      have := t.size_pos
      omega
  | succ n D_law_object =>
    refine def_of T sc_obj06 (fun _ _ _ _ _ _ us hl => match us, hl with | [_], _ => rfl) (fun vs H Q E h => ?_) (fun f cdv A outer s H vs Q E hr h => ?_)
    · obtain ⟨a, t, rfl, _⟩ := h
      rfl
    obtain ⟨a, t, rfl, tu, hz, q⟩ := h
    have nd := sc_obj06.nd
    refine ⟨_, (pss_cons (ps_if (pt_cmpR op_eq (pe_ix ix_tup (pv 0) pe_int (fun _ _ => rfl)) pe_str (nomark _)) (pss_one (ps_ret (pe_makeN N_never rfl M_never))) pss_nil)
    (pss_cons (ps_if (pt_cmpR op_eq (pe_ix ix_tup (pv 0) pe_int (fun _ _ => rfl)) pe_str (nomark _)) (pss_one (ps_ret (pe_makeN N_always rfl M_always))) pss_nil)
    (pss_cons (ps_if (pt_cmpR op_in_seq (pe_ix ix_tup (pv 0) pe_int (fun _ _ => rfl)) (pe_tup (pa_cons pe_str (pa_cons pe_str pa_nil))) rfl) (pss_one (ps_ret (pe_mk K_letter (hr.mono (by omega)) rfl (pa_cons (pe_ix ix_tup (pv 0) pe_int (fun _ _ => rfl)) pa_nil)))) pss_nil)
    (pss_cons (ps_if (pt_cmpR op_eq (pe_ix ix_tup (pv 0) pe_int (fun _ _ => rfl)) pe_str (nomark _)) (pss_one (ps_ret (pe_mk K_not (hr.mono (by omega)) rfl (pa_cons (pe_def D_law_object (hr.mono (by omega)) rfl (pa_cons (pe_ix ix_tup (pv 0) pe_int (fun _ _ => rfl)) pa_nil)) pa_nil)))) pss_nil)
    (pss_cons (ps_set (i := 1) nd rfl (Or.inl rfl) (pe_def D_law_object (hr.mono (by omega)) rfl (pa_cons (pe_ix ix_tup (pv 0) pe_int (fun _ _ => rfl)) pa_nil)))
    (pss_cons (ps_set (i := 2) nd rfl (Or.inl rfl) (pe_def D_law_object (hr.mono (by omega)) rfl (pa_cons (pe_ix ix_tup (pv 0) pe_int (fun _ _ => rfl)) pa_nil)))
    (pss_cons (ps_if (pt_cmpR op_eq (pe_ix ix_tup (pv 0) pe_int (fun _ _ => rfl)) pe_str (nomark _)) (pss_one (ps_ret (pe_mk (K_fold .more) (hr.mono (by omega)) rfl (pa_cons (pv 1) (pa_cons (pv 2) pa_nil))))) pss_nil)
    (pss_cons (ps_if (pt_cmpR op_eq (pe_ix ix_tup (pv 0) pe_int (fun _ _ => rfl)) pe_str (nomark _)) (pss_one (ps_ret (pe_mk (K_fold .less) (hr.mono (by omega)) rfl (pa_cons (pv 1) (pa_cons (pv 2) pa_nil))))) pss_nil)
    (pss_cons (ps_if (pt_cmpR op_eq (pe_ix ix_tup (pv 0) pe_int (fun _ _ => rfl)) pe_str (nomark _)) (pss_one (ps_ret (pe_mk (K_fold .greater) (hr.mono (by omega)) rfl (pa_cons (pv 1) (pa_cons (pv 2) pa_nil))))) pss_nil)
    (pss_cons (ps_if (pt_cmpR op_eq (pe_ix ix_tup (pv 0) pe_int (fun _ _ => rfl)) pe_str (nomark _)) (pss_one (ps_ret (pe_mk (K_fold .lesser) (hr.mono (by omega)) rfl (pa_cons (pv 1) (pa_cons (pv 2) pa_nil))))) pss_nil)
    (pss_one (ps_ret (pe_mk (K_fold .leads) (hr.mono (by omega)) rfl (pa_cons (pv 1) (pa_cons (pv 2) pa_nil))))))))))))))), ?_⟩
    cases tu with
    | never e =>
      refine ⟨_, rfl, _, _, _, _, rfl, rfl, SqT.of e, rfl, rfl, _, rfl, ite_yes rfl (fun z dz h1 h2 ne => ?_)⟩
      exact q z _ (same_made0 (C := c.ne) h1 h2) (.never upd_same)
    | always e =>
      refine ⟨_, rfl, _, _, _, _, rfl, rfl, SqT.of e, rfl, rfl, _, rfl, ite_no (by decide +kernel) ?_⟩
      refine ⟨_, rfl, _, _, _, _, rfl, rfl, SqT.of e, rfl, rfl, _, rfl, ite_yes rfl (fun z dz h1 h2 ne => ?_)⟩
      exact q z _ (same_made0 (C := c.al) h1 h2) (.always upd_same)
    | lp e =>
      refine ⟨_, rfl, _, _, _, _, rfl, rfl, SqT.of e, rfl, rfl, _, rfl, ite_no (by decide +kernel) ?_⟩
      refine ⟨_, rfl, _, _, _, _, rfl, rfl, SqT.of e, rfl, rfl, _, rfl, ite_no (by decide +kernel) ?_⟩
      refine ⟨_, rfl, _, _, _, _, rfl, rfl, SqT.of e, rfl, (by show 2 ≤ sizeLine; decide), fun p hp => ⟨p, _, rfl, .inr (SqT.of upd_same), rfl, rfl, _, rfl, in_yes pq_p ?_⟩⟩
      have s0 := same_new hp (.tup [V.str "p", .str "q"])
      refine ⟨_, rfl, _, _, _, _, rfl, rfl, SqT.of (s0 _ _ e), rfl, fun z dz h1 h2 ne => ⟨z, dz, _, rfl, upd_same, rfl, ?_⟩⟩
      exact q z _ (s0.trans (same_made (C := c.le) (fs := fName (.str "p")) h1 h2 ne)) (.lp upd_same)
    | lq e =>
      refine ⟨_, rfl, _, _, _, _, rfl, rfl, SqT.of e, rfl, rfl, _, rfl, ite_no (by decide +kernel) ?_⟩
      refine ⟨_, rfl, _, _, _, _, rfl, rfl, SqT.of e, rfl, rfl, _, rfl, ite_no (by decide +kernel) ?_⟩
      refine ⟨_, rfl, _, _, _, _, rfl, rfl, SqT.of e, rfl, (by show 2 ≤ sizeLine; decide), fun p hp => ⟨p, _, rfl, .inr (SqT.of upd_same), rfl, rfl, _, rfl, in_yes pq_q ?_⟩⟩
      have s0 := same_new hp (.tup [V.str "p", .str "q"])
      refine ⟨_, rfl, _, _, _, _, rfl, rfl, SqT.of (s0 _ _ e), rfl, fun z dz h1 h2 ne => ⟨z, dz, _, rfl, upd_same, rfl, ?_⟩⟩
      exact q z _ (s0.trans (same_made (C := c.le) (fs := fName (.str "q")) h1 h2 ne)) (.lq upd_same)
    | @no _ b x e tb =>
      have hz' : x.size + 1 ≤ n + 1 := hz
      refine ⟨_, rfl, _, _, _, _, rfl, rfl, SqT.of e, rfl, rfl, _, rfl, ite_no (by decide +kernel) ?_⟩
      refine ⟨_, rfl, _, _, _, _, rfl, rfl, SqT.of e, rfl, rfl, _, rfl, ite_no (by decide +kernel) ?_⟩
      refine ⟨_, rfl, _, _, _, _, rfl, rfl, SqT.of e, rfl, (by show 2 ≤ sizeLine; decide), fun p hp => ⟨p, _, rfl, .inr (SqT.of upd_same), rfl, rfl, _, rfl, in_no pq_not ?_⟩⟩
      have s0 := same_new hp (.tup [V.str "p", .str "q"])
      refine ⟨_, rfl, _, _, _, _, rfl, rfl, SqT.of (s0 _ _ e), rfl, rfl, _, rfl, ite_yes rfl ?_⟩
      refine ⟨_, rfl, _, _, _, _, rfl, rfl, SqT.of (s0 _ _ e), rfl, b, x, rfl, tb.to (Kp.of s0), by omega, fun y H2 s2 oy => ?_⟩
      have s02 := s0.trans s2
      refine fun z dz h1 h2 ne => ⟨z, dz, _, rfl, upd_same, rfl, ?_⟩
      have sm := same_made (C := c.no) (fs := fPart (.ref y)) h1 h2 ne
      exact q z _ (s02.trans sm) (.no upd_same (oy.to (Kp.of sm)))
    | @fold _ b d u x y e tb td =>
      have hz' : x.size + y.size + 1 ≤ n + 1 := hz
      refine ⟨_, rfl, _, _, _, _, rfl, rfl, SqT.of e, rfl, rfl, _, rfl, ite_no (w_ne u) ?_⟩
      refine ⟨_, rfl, _, _, _, _, rfl, rfl, SqT.of e, rfl, rfl, _, rfl, ite_no (w_al u) ?_⟩
      refine ⟨_, rfl, _, _, _, _, rfl, rfl, SqT.of e, rfl, (by show 2 ≤ sizeLine; decide), fun p hp => ⟨p, _, rfl, .inr (SqT.of upd_same), rfl, rfl, _, rfl, in_no (pq_w u) ?_⟩⟩
      have s0 := same_new hp (.tup [V.str "p", .str "q"])
      refine ⟨_, rfl, _, _, _, _, rfl, rfl, SqT.of (s0 _ _ e), rfl, rfl, _, rfl, ite_no (w_not u) ?_⟩
      refine ⟨_, rfl, _, _, _, _, rfl, rfl, SqT.of (s0 _ _ e), rfl, b, x, rfl, tb.to (Kp.of s0), by omega, fun v1 H2 s2 o1 => ?_⟩
      have s02 := s0.trans s2
      refine ⟨_, rfl, _, _, _, _, rfl, rfl, SqT.of (s02 _ _ e), rfl, d, y, rfl, td.to (Kp.of s02), by omega, fun v2 H3 s3 o2 => ?_⟩
      have s03 := s02.trans s3
      have o1' := o1.to (Kp.of s3)
      have e3 := s03 _ _ e
      have fin : ∀ (z dz : Addr), H3 z = none → H3 dz = none → dz ≠ z → Q (.ref z) (upd (upd (upd H3 dz (.own z)) z (.ins (c.fold u) dz [])) z (.ins (c.fold u) dz (fTwo (.ref v1) (.ref v2)))) := fun z dz h1 h2 ne => made_fold (Q := Q) h1 h2 ne o1' o2 fun e' H' s' o' => q e' H' (s03.trans s') o'
      cases u
      · refine ⟨_, rfl, _, _, _, _, rfl, rfl, SqT.of e3, rfl, rfl, _, rfl, ite_yes rfl ?_⟩
        exact ⟨_, rfl, _, rfl, fun z dz h1 h2 ne => ⟨z, dz, _, _, rfl, upd_same, rfl, fin z dz h1 h2 ne⟩⟩
      · refine ⟨_, rfl, _, _, _, _, rfl, rfl, SqT.of e3, rfl, rfl, _, rfl, ite_no (by decide +kernel) ?_⟩
        refine ⟨_, rfl, _, _, _, _, rfl, rfl, SqT.of e3, rfl, rfl, _, rfl, ite_yes rfl ?_⟩
        exact ⟨_, rfl, _, rfl, fun z dz h1 h2 ne => ⟨z, dz, _, _, rfl, upd_same, rfl, fin z dz h1 h2 ne⟩⟩
      · refine ⟨_, rfl, _, _, _, _, rfl, rfl, SqT.of e3, rfl, rfl, _, rfl, ite_no (by decide +kernel) ?_⟩
        refine ⟨_, rfl, _, _, _, _, rfl, rfl, SqT.of e3, rfl, rfl, _, rfl, ite_no (by decide +kernel) ?_⟩
        refine ⟨_, rfl, _, _, _, _, rfl, rfl, SqT.of e3, rfl, rfl, _, rfl, ite_yes rfl ?_⟩
        exact ⟨_, rfl, _, rfl, fun z dz h1 h2 ne => ⟨z, dz, _, _, rfl, upd_same, rfl, fin z dz h1 h2 ne⟩⟩
      · refine ⟨_, rfl, _, _, _, _, rfl, rfl, SqT.of e3, rfl, rfl, _, rfl, ite_no (by decide +kernel) ?_⟩
        refine ⟨_, rfl, _, _, _, _, rfl, rfl, SqT.of e3, rfl, rfl, _, rfl, ite_no (by decide +kernel) ?_⟩
        refine ⟨_, rfl, _, _, _, _, rfl, rfl, SqT.of e3, rfl, rfl, _, rfl, ite_no (by decide +kernel) ?_⟩
        refine ⟨_, rfl, _, _, _, _, rfl, rfl, SqT.of e3, rfl, rfl, _, rfl, ite_yes rfl ?_⟩
        exact ⟨_, rfl, _, rfl, fun z dz h1 h2 ne => ⟨z, dz, _, _, rfl, upd_same, rfl, fin z dz h1 h2 ne⟩⟩
      · refine ⟨_, rfl, _, _, _, _, rfl, rfl, SqT.of e3, rfl, rfl, _, rfl, ite_no (by decide +kernel) ?_⟩
        refine ⟨_, rfl, _, _, _, _, rfl, rfl, SqT.of e3, rfl, rfl, _, rfl, ite_no (by decide +kernel) ?_⟩
        refine ⟨_, rfl, _, _, _, _, rfl, rfl, SqT.of e3, rfl, rfl, _, rfl, ite_no (by decide +kernel) ?_⟩
        refine ⟨_, rfl, _, _, _, _, rfl, rfl, SqT.of e3, rfl, rfl, _, rfl, ite_no (by decide +kernel) ?_⟩
        exact ⟨_, rfl, _, rfl, fun z dz h1 h2 ne => ⟨z, dz, _, _, rfl, upd_same, rfl, fin z dz h1 h2 ne⟩⟩
end
end Mine




set_option Elab.async false
set_option linter.all false
set_option maxRecDepth 100000
set_option maxHeartbeats 4000000
namespace Mine
open PySem L2
section
variable {P : Program} {w : World} {K : PySem.W.Frag} {mg : Str → Option Value} {base : Heap} {c : CCs}
theorem sc_worth : FnScope ["_law_tree", "_law_n", "_law_x", "_law_y"] ["_law_tree", "_law_n", "_law_x", "_law_y"] (defScope sWorth) := ⟨rfl, rfl, rfl, by decide +kernel, rfl, by decide +kernel, by decide +kernel⟩
theorem ok_worth (T : TopDef K mg "_law_worth" sWorth) (Z_int : mg "int" = none) (D_law_fold : Def P w K mg base 1 "_law_fold" ["_law_word", "_law_n", "_law_one", "_law_other"] spFoldF) : ∀ k : Nat, Def P w K mg base (k + 2) "_law_worth" ["_law_tree", "_law_n", "_law_x", "_law_y"] (spWorth k) := by
  intro k
  induction k with
  | zero =>
    refine def_of T sc_worth (fun _ _ _ _ _ _ us hl => match us, hl with | [_, _, _, _], _ => rfl) (fun vs H Q E h => ?_) (fun f cdv A outer s H vs Q E hr h => ?_)
    · obtain ⟨a, t, n, x, y, rfl, _⟩ := h
      rfl
    · obtain ⟨a, t, n, x, y, rfl, _, z, _⟩ := h
      have := t.size_pos
      omega
  | succ k D_law_worth =>
    refine def_of T sc_worth (fun _ _ _ _ _ _ us hl => match us, hl with | [_, _, _, _], _ => rfl) (fun vs H Q E h => ?_) (fun f cdv A outer s H vs Q E hr h => ?_)
    · obtain ⟨a, t, n, x, y, rfl, _⟩ := h
      rfl
    obtain ⟨a, t, n, x, y, rfl, tu, hz, q⟩ := h
    have nd := sc_worth.nd
    refine ⟨_, (pss_cons (ps_if (pt_cmpR op_in_seq (pe_ix ix_tup (pv 0) pe_int (fun _ _ => rfl)) (pe_tup (pa_cons pe_str (pa_cons pe_str pa_nil))) rfl) (pss_one (ps_ret (pe_op op_mulK (pv 1) (pe_callTy call_int1 rfl Z_int (by decide +kernel) (pa_cons (pe_cmpR op_eq (pe_ix ix_tup (pv 0) pe_int (fun _ _ => rfl)) pe_str (nomark _)) pa_nil))))) pss_nil)
    (pss_cons (ps_if (pt_cmpR op_in_seq (pe_ix ix_tup (pv 0) pe_int (fun _ _ => rfl)) (pe_tup (pa_cons pe_str (pa_cons pe_str pa_nil))) rfl) (pss_one (ps_ret (pe_ix ix_list (pe_lst (pa_cons (pv 2) (pa_cons (pv 3) pa_nil))) (pe_callTy call_int1 rfl Z_int (by decide +kernel) (pa_cons (pe_cmpR op_eq (pe_ix ix_tup (pv 0) pe_int (fun _ _ => rfl)) pe_str (nomark _)) pa_nil)) (fun _ _ => rfl)))) pss_nil)
    (pss_cons (ps_if (pt_cmpR op_eq (pe_ix ix_tup (pv 0) pe_int (fun _ _ => rfl)) pe_str (nomark _)) (pss_one (ps_ret (pe_op op_sub (pv 1) (pe_def D_law_worth (hr.mono (by omega)) rfl (pa_cons (pe_ix ix_tup (pv 0) pe_int (fun _ _ => rfl)) (pa_cons (pv 1) (pa_cons (pv 2) (pa_cons (pv 3) pa_nil)))))))) pss_nil)
    (pss_one (ps_ret (pe_def D_law_fold (hr.mono (by omega)) rfl (pa_cons (pe_ix ix_tup (pv 0) pe_int (fun _ _ => rfl)) (pa_cons (pv 1) (pa_cons (pe_def D_law_worth (hr.mono (by omega)) rfl (pa_cons (pe_ix ix_tup (pv 0) pe_int (fun _ _ => rfl)) (pa_cons (pv 1) (pa_cons (pv 2) (pa_cons (pv 3) pa_nil))))) (pa_cons (pe_def D_law_worth (hr.mono (by omega)) rfl (pa_cons (pe_ix ix_tup (pv 0) pe_int (fun _ _ => rfl)) (pa_cons (pv 1) (pa_cons (pv 2) (pa_cons (pv 3) pa_nil))))) pa_nil)))))))))), ?_⟩
    cases tu with
    | never e =>
      refine ⟨_, rfl, _, _, _, _, rfl, rfl, SqT.of e, rfl, (by show 2 ≤ sizeLine; decide), fun p hp => ⟨p, _, rfl, .inr (SqT.of upd_same), rfl, rfl, _, rfl, in_yes na_ne ?_⟩⟩
      have s0 := same_new hp (.tup [V.str "never", .str "always"])
      refine ⟨_, rfl, _, rfl, _, _, _, _, rfl, rfl, SqT.of (s0 _ _ e), rfl, rfl, .inr ⟨_, rfl, _, _, rfl, rfl, ?_⟩⟩
      rw [decide_eq_false (fun z : V.str "never" = V.str "always" => absurd (V.str.inj z) (by decide +kernel))]
      refine ⟨mul_ok_r (by decide +kernel), ?_⟩
      have z : n * (if false = true then 1 else 0) = Tr.worth n x y .never := by show n * 0 = 0; omega
      exact (show Q (V.int (n * (if false = true then 1 else 0))) _ from by rw [z]; exact q _ s0)
    | always e =>
      refine ⟨_, rfl, _, _, _, _, rfl, rfl, SqT.of e, rfl, (by show 2 ≤ sizeLine; decide), fun p hp => ⟨p, _, rfl, .inr (SqT.of upd_same), rfl, rfl, _, rfl, in_yes na_al ?_⟩⟩
      have s0 := same_new hp (.tup [V.str "never", .str "always"])
      refine ⟨_, rfl, _, rfl, _, _, _, _, rfl, rfl, SqT.of (s0 _ _ e), rfl, rfl, .inr ⟨_, rfl, _, _, rfl, rfl, ?_⟩⟩
      rw [decide_eq_true (rfl : V.str "always" = V.str "always")]
      refine ⟨mul_ok_r (by decide +kernel), ?_⟩
      have z : n * (if true = true then 1 else 0) = Tr.worth n x y .always := by show n * 1 = n; omega
      exact (show Q (V.int (n * (if true = true then 1 else 0))) _ from by rw [z]; exact q _ s0)
    | lp e =>
      refine ⟨_, rfl, _, _, _, _, rfl, rfl, SqT.of e, rfl, (by show 2 ≤ sizeLine; decide), fun p hp => ⟨p, _, rfl, .inr (SqT.of upd_same), rfl, rfl, _, rfl, in_no na_p ?_⟩⟩
      have s0 := same_new hp (.tup [V.str "never", .str "always"])
      refine ⟨_, rfl, _, _, _, _, rfl, rfl, SqT.of (s0 _ _ e), rfl, (by show 2 ≤ sizeLine; decide), fun p1 hp1 => ⟨p1, _, rfl, .inr (SqT.of upd_same), rfl, rfl, _, rfl, in_yes pq_p ?_⟩⟩
      have s1 := s0.trans (same_new hp1 (.tup [V.str "p", .str "q"]))
      refine ⟨_, rfl, _, rfl, (by show 2 ≤ sizeLine; decide), fun l hl => ?_⟩
      have s2 := s1.trans (same_new hl (.lst [V.int x, .int y]))
      refine ⟨_, rfl, _, _, _, _, rfl, rfl, SqT.of (s2 _ _ e), rfl, rfl, .inr ⟨_, rfl, l, _, _, _, rfl, rfl, SqL.of upd_same, ?_, q _ s2⟩⟩
      rw [decide_eq_false (fun z : V.str "p" = V.str "q" => absurd (V.str.inj z) (by decide +kernel))]
      rfl
    | lq e =>
      refine ⟨_, rfl, _, _, _, _, rfl, rfl, SqT.of e, rfl, (by show 2 ≤ sizeLine; decide), fun p hp => ⟨p, _, rfl, .inr (SqT.of upd_same), rfl, rfl, _, rfl, in_no na_q ?_⟩⟩
      have s0 := same_new hp (.tup [V.str "never", .str "always"])
      refine ⟨_, rfl, _, _, _, _, rfl, rfl, SqT.of (s0 _ _ e), rfl, (by show 2 ≤ sizeLine; decide), fun p1 hp1 => ⟨p1, _, rfl, .inr (SqT.of upd_same), rfl, rfl, _, rfl, in_yes pq_q ?_⟩⟩
      have s1 := s0.trans (same_new hp1 (.tup [V.str "p", .str "q"]))
      refine ⟨_, rfl, _, rfl, (by show 2 ≤ sizeLine; decide), fun l hl => ?_⟩
      have s2 := s1.trans (same_new hl (.lst [V.int x, .int y]))
      refine ⟨_, rfl, _, _, _, _, rfl, rfl, SqT.of (s2 _ _ e), rfl, rfl, .inr ⟨_, rfl, l, _, _, _, rfl, rfl, SqL.of upd_same, ?_, q _ s2⟩⟩
      rw [decide_eq_true (rfl : V.str "q" = V.str "q")]
      rfl
    | @no _ b t e tb =>
      have hz' : t.size + 1 ≤ k + 1 := hz
      refine ⟨_, rfl, _, _, _, _, rfl, rfl, SqT.of e, rfl, (by show 2 ≤ sizeLine; decide), fun p hp => ⟨p, _, rfl, .inr (SqT.of upd_same), rfl, rfl, _, rfl, in_no na_not ?_⟩⟩
      have s0 := same_new hp (.tup [V.str "never", .str "always"])
      refine ⟨_, rfl, _, _, _, _, rfl, rfl, SqT.of (s0 _ _ e), rfl, (by show 2 ≤ sizeLine; decide), fun p1 hp1 => ⟨p1, _, rfl, .inr (SqT.of upd_same), rfl, rfl, _, rfl, in_no pq_not ?_⟩⟩
      have s1 := s0.trans (same_new hp1 (.tup [V.str "p", .str "q"]))
      refine ⟨_, rfl, _, _, _, _, rfl, rfl, SqT.of (s1 _ _ e), rfl, rfl, _, rfl, ite_yes rfl ?_⟩
      refine ⟨_, rfl, _, rfl, _, _, _, _, rfl, rfl, SqT.of (s1 _ _ e), rfl, _, rfl, _, rfl, _, rfl, b, t, n, x, y, rfl, tb.to (Kp.of s1), by omega, fun H2 s2 => ⟨_, _, rfl, rfl, q _ (s1.trans s2)⟩⟩
    | @fold _ b d u t t' e tb td =>
      have hz' : t.size + t'.size + 1 ≤ k + 1 := hz
      refine ⟨_, rfl, _, _, _, _, rfl, rfl, SqT.of e, rfl, (by show 2 ≤ sizeLine; decide), fun p hp => ⟨p, _, rfl, .inr (SqT.of upd_same), rfl, rfl, _, rfl, in_no (na_w u) ?_⟩⟩
      have s0 := same_new hp (.tup [V.str "never", .str "always"])
      refine ⟨_, rfl, _, _, _, _, rfl, rfl, SqT.of (s0 _ _ e), rfl, (by show 2 ≤ sizeLine; decide), fun p1 hp1 => ⟨p1, _, rfl, .inr (SqT.of upd_same), rfl, rfl, _, rfl, in_no (pq_w u) ?_⟩⟩
      have s1 := s0.trans (same_new hp1 (.tup [V.str "p", .str "q"]))
      refine ⟨_, rfl, _, _, _, _, rfl, rfl, SqT.of (s1 _ _ e), rfl, rfl, _, rfl, ite_no (w_not u) ?_⟩
      refine ⟨_, rfl, _, _, _, _, rfl, rfl, SqT.of (s1 _ _ e), rfl, _, rfl, _, rfl, _, _, _, _, rfl, rfl, SqT.of (s1 _ _ e), rfl, _, rfl, _, rfl, _, rfl, b, t, n, x, y, rfl, tb.to (Kp.of s1), by omega, fun H2 s2 => ?_⟩
      have s12 := s1.trans s2
      refine ⟨_, rfl, _, _, _, _, rfl, rfl, SqT.of (s12 _ _ e), rfl, _, rfl, _, rfl, _, rfl, d, t', n, x, y, rfl, td.to (Kp.of s12), by omega, fun H3 s3 => ?_⟩
      exact ⟨u, n, _, _, rfl, q _ (s12.trans s3)⟩
end
end Mine




set_option Elab.async false
set_option linter.all false
set_option maxRecDepth 100000
set_option maxHeartbeats 4000000
namespace Mine
open PySem L2
structure Kits (K : PySem.W.Frag) : Prop where
  l : PySem.W.kitOne K (.type "list") (.type "tuple") = some false
  n : PySem.W.kitOne K (.type "NoneType") (.type "tuple") = some false
  i : PySem.W.kitOne K (.type "int") (.type "tuple") = some false
  s : PySem.W.kitOne K (.type "str") (.type "tuple") = some false
  dt : PySem.W.kitOne K (.type "dict") (.type "tuple") = some false
  bt : PySem.W.kitOne K (.type "bool") (.type "tuple") = some false
  ni : PySem.W.kitOne K (.type "NoneType") (.type "int") = some false
  si : PySem.W.kitOne K (.type "str") (.type "int") = some false
  t : PySem.W.kitOne K (.type "tuple") (.type "int") = some false
  li : PySem.W.kitOne K (.type "list") (.type "int") = some false
  b : PySem.W.kitOne K (.type "bool") (.type "int") = some true
  ib : PySem.W.kitOne K (.type "int") (.type "bool") = some false
def litOf (s : Stmt) : Expr := match s with
  | .Assign _ (.BinOp _ _ e _) _ => e
  | .Assign _ e _ => e
  | _ => .Constant .none 0 ⟨0, 0, 0, 0⟩
def itemAt (e : Expr) (i : Nat) : Expr := match e with
  | .List es _ => es.getD i (.Constant .none 0 ⟨0, 0, 0, 0⟩)
  | _ => .Constant .none 0 ⟨0, 0, 0, 0⟩
theorem log20 {x : Int} (h : 0 ≤ x) (k : x ≤ 10 ^ 20) : x.natAbs.log2 < 1920 := by
  by_cases z : x.natAbs = 0
  · rw [z]; decide
  · exact (Nat.log2_lt z).mpr (Nat.lt_of_le_of_lt (show x.natAbs ≤ 10 ^ 20 by omega) (by decide +kernel))
def spOdd (K : PySem.W.Frag) : Sp := fun vs H Q _ => ∃ (p : Addr) (i n x y : Int), vs = [.ref p, .int i] ∧ Pt H p n x y ∧ n ≤ 10 ^ 20 ∧ ∀ v H', Same H H' → Odd K H' v → Q v H'
abbrev odN : List Str := ["_law_point_here", "_law_cell", "_law_n", "_law_x", "_law_y", "_law_some"]
section
variable {P : Program} {w : World} {K : PySem.W.Frag} {mg : Str → Option Value} {base : Heap} {c : CCs}
theorem sc_odd : FnScope odN ["_law_point_here", "_law_cell"] (defScope s_l_odd) := ⟨rfl, rfl, rfl, by decide +kernel, rfl, by decide +kernel, by decide +kernel⟩
theorem ok_odd (T : TopDef K mg "_law_odd" s_l_odd) (Z_len : mg "len" = none) (Z_str : mg "str" = none) (kk : Kits K) : Def P w K mg base 1 "_law_odd" ["_law_point_here", "_law_cell"] (spOdd K) := by
  refine def_of T sc_odd (fun _ _ _ _ _ _ => ar2 fun _ _ => rfl) (fun vs H Q E h => ?_) (fun f cdv A outer s H vs Q E hr h => ?_)
  · obtain ⟨p, i, n, x, y, rfl, _⟩ := h
    rfl
  obtain ⟨p, i, n, x, y, rfl, ⟨ep, g1, g2, g3, g4, g5⟩, big, q⟩ := h
  have nd := sc_odd.nd
  have lg := log20 g2 (Int.le_trans g3 big)
  have wi : ∀ (H' : Hp) (i : Int), Wh K H' (.int i) true := fun H' i => ⟨_, true, .int i, kit_same, .inr ⟨rfl, false, kk.ib, rfl⟩⟩
  have wn : ∀ (H' : Hp), Wh K H' .non false := fun H' => ⟨_, false, .non, kk.ni, .inl ⟨rfl, rfl⟩⟩
  have ws : ∀ (H' : Hp) (x : Str), Wh K H' (.str x) false := fun H' x => ⟨_, false, .str x, kk.si, .inl ⟨rfl, rfl⟩⟩
  have wb : ∀ (H' : Hp) (b : Bool), Wh K H' (.bl b) false := fun H' b => ⟨_, true, .bl b, kk.b, .inr ⟨rfl, true, kit_same, rfl⟩⟩
  have x0 : ∃ te, PE (cxOf CX0 P w K mg base odN "_law_odd" (defScope s_l_odd) f cdv A outer s H E).nox (itemAt (litOf ((defBody s_l_odd).getD 1 (.Pass ⟨0, 0, 0, 0⟩))) 0) te ∧ ∀ (o5 : Option V) (H1 : Hp) (Q' : VK), (∀ v H', Same H1 H' → Odd K H' v → Q' v H') → te [some (.ref p), some (.int i), some (.int n), some (.int x), some (.int y), o5] H1 Q' :=
    ⟨_, (pe_tup (pa_cons (pv 2) (pa_cons (pe_op op_sub (pe_un un_neg pe_int) (pv 3)) (pa_cons (pv 4) pa_nil)))), fun o5 H1 Q' fin => ⟨_, rfl, _, rfl, _, rfl, _, _, rfl, rfl, _, rfl, (by show 3 ≤ sizeLine; decide), fun p hp => fin _ _ (same_new hp _) (.out (a := n) (b := -1 - x) (c := y) upd_same (by omega))⟩⟩
  obtain ⟨t0, h0, q0⟩ := x0
  have x1 : ∃ te, PE (cxOf CX0 P w K mg base odN "_law_odd" (defScope s_l_odd) f cdv A outer s H E).nox (itemAt (litOf ((defBody s_l_odd).getD 1 (.Pass ⟨0, 0, 0, 0⟩))) 1) te ∧ ∀ (o5 : Option V) (H1 : Hp) (Q' : VK), (∀ v H', Same H1 H' → Odd K H' v → Q' v H') → te [some (.ref p), some (.int i), some (.int n), some (.int x), some (.int y), o5] H1 Q' :=
    ⟨_, (pe_tup (pa_cons (pv 2) (pa_cons (pv 3) (pa_cons (pe_op op_sub (pe_un un_neg pe_int) (pv 4)) pa_nil)))), fun o5 H1 Q' fin => ⟨_, rfl, _, rfl, _, rfl, _, rfl, _, _, rfl, rfl, (by show 3 ≤ sizeLine; decide), fun p hp => fin _ _ (same_new hp _) (.out (a := n) (b := x) (c := -1 - y) upd_same (by omega))⟩⟩
  obtain ⟨t1, h1, q1⟩ := x1
  have x2 : ∃ te, PE (cxOf CX0 P w K mg base odN "_law_odd" (defScope s_l_odd) f cdv A outer s H E).nox (itemAt (litOf ((defBody s_l_odd).getD 1 (.Pass ⟨0, 0, 0, 0⟩))) 2) te ∧ ∀ (o5 : Option V) (H1 : Hp) (Q' : VK), (∀ v H', Same H1 H' → Odd K H' v → Q' v H') → te [some (.ref p), some (.int i), some (.int n), some (.int x), some (.int y), o5] H1 Q' :=
    ⟨_, (pe_tup (pa_cons (pv 2) (pa_cons (pe_op op_add (pv 2) pe_int) (pa_cons (pv 4) pa_nil)))), fun o5 H1 Q' fin => ⟨_, rfl, _, rfl, _, _, rfl, rfl, _, rfl, (by show 3 ≤ sizeLine; decide), fun p hp => fin _ _ (same_new hp _) (.out (a := n) (b := n + 1) (c := y) upd_same (by omega))⟩⟩
  obtain ⟨t2, h2, q2⟩ := x2
  have x3 : ∃ te, PE (cxOf CX0 P w K mg base odN "_law_odd" (defScope s_l_odd) f cdv A outer s H E).nox (itemAt (litOf ((defBody s_l_odd).getD 1 (.Pass ⟨0, 0, 0, 0⟩))) 3) te ∧ ∀ (o5 : Option V) (H1 : Hp) (Q' : VK), (∀ v H', Same H1 H' → Odd K H' v → Q' v H') → te [some (.ref p), some (.int i), some (.int n), some (.int x), some (.int y), o5] H1 Q' :=
    ⟨_, (pe_tup (pa_cons (pv 2) (pa_cons (pv 3) (pa_cons (pe_op op_add (pe_op op_add (pv 2) pe_int) (pv 4)) pa_nil)))), fun o5 H1 Q' fin => ⟨_, rfl, _, rfl, _, rfl, _, _, rfl, rfl, _, rfl, _, _, rfl, rfl, (by show 3 ≤ sizeLine; decide), fun p hp => fin _ _ (same_new hp _) (.out (a := n) (b := x) (c := n + 1 + y) upd_same (by omega))⟩⟩
  obtain ⟨t3, h3, q3⟩ := x3
  have x4 : ∃ te, PE (cxOf CX0 P w K mg base odN "_law_odd" (defScope s_l_odd) f cdv A outer s H E).nox (itemAt (litOf ((defBody s_l_odd).getD 1 (.Pass ⟨0, 0, 0, 0⟩))) 4) te ∧ ∀ (o5 : Option V) (H1 : Hp) (Q' : VK), (∀ v H', Same H1 H' → Odd K H' v → Q' v H') → te [some (.ref p), some (.int i), some (.int n), some (.int x), some (.int y), o5] H1 Q' :=
    ⟨_, (pe_tup (pa_cons pe_int (pa_cons pe_int (pa_cons pe_int pa_nil)))), fun o5 H1 Q' fin => ⟨(by show 3 ≤ sizeLine; decide), fun p hp => fin _ _ (same_new hp _) (.out (a := 0) (b := 0) (c := 0) upd_same (by omega))⟩⟩
  obtain ⟨t4, h4, q4⟩ := x4
  have x5 : ∃ te, PE (cxOf CX0 P w K mg base odN "_law_odd" (defScope s_l_odd) f cdv A outer s H E).nox (itemAt (litOf ((defBody s_l_odd).getD 1 (.Pass ⟨0, 0, 0, 0⟩))) 5) te ∧ ∀ (o5 : Option V) (H1 : Hp) (Q' : VK), (∀ v H', Same H1 H' → Odd K H' v → Q' v H') → te [some (.ref p), some (.int i), some (.int n), some (.int x), some (.int y), o5] H1 Q' :=
    ⟨_, (pe_tup (pa_cons (pe_un un_neg (pv 2)) (pa_cons (pe_un un_neg (pv 3)) (pa_cons (pe_un un_neg (pv 4)) pa_nil)))), fun o5 H1 Q' fin => ⟨_, rfl, _, rfl, _, rfl, _, rfl, _, rfl, _, rfl, (by show 3 ≤ sizeLine; decide), fun p hp => fin _ _ (same_new hp _) (.out (a := -n) (b := -x) (c := -y) upd_same (by omega))⟩⟩
  obtain ⟨t5, h5, q5⟩ := x5
  have x6 : ∃ te, PE (cxOf CX0 P w K mg base odN "_law_odd" (defScope s_l_odd) f cdv A outer s H E).nox (itemAt (litOf ((defBody s_l_odd).getD 1 (.Pass ⟨0, 0, 0, 0⟩))) 6) te ∧ ∀ (o5 : Option V) (H1 : Hp) (Q' : VK), (∀ v H', Same H1 H' → Odd K H' v → Q' v H') → te [some (.ref p), some (.int i), some (.int n), some (.int x), some (.int y), o5] H1 Q' :=
    ⟨_, (pe_tup (pa_cons (pe_un un_neg (pv 2)) (pa_cons (pv 3) (pa_cons (pv 4) pa_nil)))), fun o5 H1 Q' fin => ⟨_, rfl, _, rfl, _, rfl, _, rfl, (by show 3 ≤ sizeLine; decide), fun p hp => fin _ _ (same_new hp _) (.out (a := -n) (b := x) (c := y) upd_same (by omega))⟩⟩
  obtain ⟨t6, h6, q6⟩ := x6
  have x7 : ∃ te, PE (cxOf CX0 P w K mg base odN "_law_odd" (defScope s_l_odd) f cdv A outer s H E).nox (itemAt (litOf ((defBody s_l_odd).getD 2 (.Pass ⟨0, 0, 0, 0⟩))) 0) te ∧ ∀ (o5 : Option V) (H1 : Hp) (Q' : VK), (∀ v H', Same H1 H' → Odd K H' v → Q' v H') → te [some (.ref p), some (.int i), some (.int n), some (.int x), some (.int y), o5] H1 Q' :=
    ⟨_, (pe_tup (pa_cons (pv 2) (pa_cons (pv 3) pa_nil))), fun o5 H1 Q' fin => ⟨_, rfl, _, rfl, (by show 2 ≤ sizeLine; decide), fun p hp => fin _ _ (same_new hp _) (.len upd_same (by show 2 ≠ 3; decide))⟩⟩
  obtain ⟨t7, h7, q7⟩ := x7
  have x8 : ∃ te, PE (cxOf CX0 P w K mg base odN "_law_odd" (defScope s_l_odd) f cdv A outer s H E).nox (itemAt (litOf ((defBody s_l_odd).getD 2 (.Pass ⟨0, 0, 0, 0⟩))) 1) te ∧ ∀ (o5 : Option V) (H1 : Hp) (Q' : VK), (∀ v H', Same H1 H' → Odd K H' v → Q' v H') → te [some (.ref p), some (.int i), some (.int n), some (.int x), some (.int y), o5] H1 Q' :=
    ⟨_, (pe_tup (pa_cons (pv 2) (pa_cons (pv 3) (pa_cons (pv 4) (pa_cons pe_int pa_nil))))), fun o5 H1 Q' fin => ⟨_, rfl, _, rfl, _, rfl, (by show 4 ≤ sizeLine; decide), fun p hp => fin _ _ (same_new hp _) (.len upd_same (by show 4 ≠ 3; decide))⟩⟩
  obtain ⟨t8, h8, q8⟩ := x8
  have x9 : ∃ te, PE (cxOf CX0 P w K mg base odN "_law_odd" (defScope s_l_odd) f cdv A outer s H E).nox (itemAt (litOf ((defBody s_l_odd).getD 2 (.Pass ⟨0, 0, 0, 0⟩))) 2) te ∧ ∀ (o5 : Option V) (H1 : Hp) (Q' : VK), (∀ v H', Same H1 H' → Odd K H' v → Q' v H') → te [some (.ref p), some (.int i), some (.int n), some (.int x), some (.int y), o5] H1 Q' :=
    ⟨_, (pe_lst (pa_cons (pv 2) (pa_cons (pv 3) (pa_cons (pv 4) pa_nil)))), fun o5 H1 Q' fin => ⟨_, rfl, _, rfl, _, rfl, (by show 3 ≤ sizeLine; decide), fun p hp => fin _ _ (same_new hp _) (.no (.lst upd_same) kk.l)⟩⟩
  obtain ⟨t9, h9, q9⟩ := x9
  have x10 : ∃ te, PE (cxOf CX0 P w K mg base odN "_law_odd" (defScope s_l_odd) f cdv A outer s H E).nox (itemAt (litOf ((defBody s_l_odd).getD 2 (.Pass ⟨0, 0, 0, 0⟩))) 3) te ∧ ∀ (o5 : Option V) (H1 : Hp) (Q' : VK), (∀ v H', Same H1 H' → Odd K H' v → Q' v H') → te [some (.ref p), some (.int i), some (.int n), some (.int x), some (.int y), o5] H1 Q' :=
    ⟨_, pe_non, fun o5 H1 Q' fin => fin _ _ (Same.refl _) (.no .non kk.n)⟩
  obtain ⟨t10, h10, q10⟩ := x10
  have x11 : ∃ te, PE (cxOf CX0 P w K mg base odN "_law_odd" (defScope s_l_odd) f cdv A outer s H E).nox (itemAt (litOf ((defBody s_l_odd).getD 2 (.Pass ⟨0, 0, 0, 0⟩))) 4) te ∧ ∀ (o5 : Option V) (H1 : Hp) (Q' : VK), (∀ v H', Same H1 H' → Odd K H' v → Q' v H') → te [some (.ref p), some (.int i), some (.int n), some (.int x), some (.int y), o5] H1 Q' :=
    ⟨_, pe_str, fun o5 H1 Q' fin => fin _ _ (Same.refl _) (.no (.str _) kk.s)⟩
  obtain ⟨t11, h11, q11⟩ := x11
  have x12 : ∃ te, PE (cxOf CX0 P w K mg base odN "_law_odd" (defScope s_l_odd) f cdv A outer s H E).nox (itemAt (litOf ((defBody s_l_odd).getD 2 (.Pass ⟨0, 0, 0, 0⟩))) 5) te ∧ ∀ (o5 : Option V) (H1 : Hp) (Q' : VK), (∀ v H', Same H1 H' → Odd K H' v → Q' v H') → te [some (.ref p), some (.int i), some (.int n), some (.int x), some (.int y), o5] H1 Q' :=
    ⟨_, (pv 2), fun o5 H1 Q' fin => ⟨_, rfl, fin _ _ (Same.refl _) (.no (.int n) kk.i)⟩⟩
  obtain ⟨t12, h12, q12⟩ := x12
  have x13 : ∃ te, PE (cxOf CX0 P w K mg base odN "_law_odd" (defScope s_l_odd) f cdv A outer s H E).nox (itemAt (litOf ((defBody s_l_odd).getD 2 (.Pass ⟨0, 0, 0, 0⟩))) 6) te ∧ ∀ (o5 : Option V) (H1 : Hp) (Q' : VK), (∀ v H', Same H1 H' → Odd K H' v → Q' v H') → te [some (.ref p), some (.int i), some (.int n), some (.int x), some (.int y), o5] H1 Q' :=
    ⟨_, (pe_tup pa_nil), fun o5 H1 Q' fin => ⟨(by show 0 ≤ sizeLine; decide), fun p hp => fin _ _ (same_new hp _) (.len upd_same (by show 0 ≠ 3; decide))⟩⟩
  obtain ⟨t13, h13, q13⟩ := x13
  have x14 : ∃ te, PE (cxOf CX0 P w K mg base odN "_law_odd" (defScope s_l_odd) f cdv A outer s H E).nox (itemAt (litOf ((defBody s_l_odd).getD 2 (.Pass ⟨0, 0, 0, 0⟩))) 7) te ∧ ∀ (o5 : Option V) (H1 : Hp) (Q' : VK), (∀ v H', Same H1 H' → Odd K H' v → Q' v H') → te [some (.ref p), some (.int i), some (.int n), some (.int x), some (.int y), o5] H1 Q' :=
    ⟨_, (pe_tup (pa_cons pe_bl (pa_cons pe_int (pa_cons pe_int pa_nil)))), fun o5 H1 Q' fin => ⟨(by show 3 ≤ sizeLine; decide), fun p hp => fin _ _ (same_new hp _) (.el (bs := [false, true, true]) upd_same rfl (.cons (wb _ _) (.cons (wi _ _) (.cons (wi _ _) .nil))) rfl)⟩⟩
  obtain ⟨t14, h14, q14⟩ := x14
  have x15 : ∃ te, PE (cxOf CX0 P w K mg base odN "_law_odd" (defScope s_l_odd) f cdv A outer s H E).nox (itemAt (litOf ((defBody s_l_odd).getD 2 (.Pass ⟨0, 0, 0, 0⟩))) 8) te ∧ ∀ (o5 : Option V) (H1 : Hp) (Q' : VK), (∀ v H', Same H1 H' → Odd K H' v → Q' v H') → te [some (.ref p), some (.int i), some (.int n), some (.int x), some (.int y), o5] H1 Q' :=
    ⟨_, (pe_tup (pa_cons (pv 2) (pa_cons pe_bl (pa_cons (pv 4) pa_nil)))), fun o5 H1 Q' fin => ⟨_, rfl, _, rfl, (by show 3 ≤ sizeLine; decide), fun p hp => fin _ _ (same_new hp _) (.el (bs := [true, false, true]) upd_same rfl (.cons (wi _ _) (.cons (wb _ _) (.cons (wi _ _) .nil))) rfl)⟩⟩
  obtain ⟨t15, h15, q15⟩ := x15
  have x16 : ∃ te, PE (cxOf CX0 P w K mg base odN "_law_odd" (defScope s_l_odd) f cdv A outer s H E).nox (itemAt (litOf ((defBody s_l_odd).getD 3 (.Pass ⟨0, 0, 0, 0⟩))) 0) te ∧ ∀ (o5 : Option V) (H1 : Hp) (Q' : VK), (∀ v H', Same H1 H' → Odd K H' v → Q' v H') → te [some (.ref p), some (.int i), some (.int n), some (.int x), some (.int y), o5] H1 Q' :=
    ⟨_, (pe_tup (pa_cons (pv 2) (pa_cons (pv 3) (pa_cons pe_bl pa_nil)))), fun o5 H1 Q' fin => ⟨_, rfl, _, rfl, (by show 3 ≤ sizeLine; decide), fun p hp => fin _ _ (same_new hp _) (.el (bs := [true, true, false]) upd_same rfl (.cons (wi _ _) (.cons (wi _ _) (.cons (wb _ _) .nil))) rfl)⟩⟩
  obtain ⟨t16, h16, q16⟩ := x16
  have x17 : ∃ te, PE (cxOf CX0 P w K mg base odN "_law_odd" (defScope s_l_odd) f cdv A outer s H E).nox (itemAt (litOf ((defBody s_l_odd).getD 4 (.Pass ⟨0, 0, 0, 0⟩))) 0) te ∧ ∀ (o5 : Option V) (H1 : Hp) (Q' : VK), (∀ v H', Same H1 H' → Odd K H' v → Q' v H') → te [some (.ref p), some (.int i), some (.int n), some (.int x), some (.int y), o5] H1 Q' :=
    ⟨_, (pe_tup (pa_cons (pv 2) (pa_cons (pe_callTy call_str_int rfl Z_str (by decide +kernel) (pa_cons (pv 3) pa_nil)) (pa_cons (pv 4) pa_nil)))), fun o5 H1 Q' fin => ⟨_, rfl, _, rfl, x, rfl, lg, _, rfl, (by show 3 ≤ sizeLine; decide), fun p hp => fin _ _ (same_new hp _) (.el (bs := [true, false, true]) upd_same rfl (.cons (wi _ _) (.cons (ws _ _) (.cons (wi _ _) .nil))) rfl)⟩⟩
  obtain ⟨t17, h17, q17⟩ := x17
  have x18 : ∃ te, PE (cxOf CX0 P w K mg base odN "_law_odd" (defScope s_l_odd) f cdv A outer s H E).nox (itemAt (litOf ((defBody s_l_odd).getD 4 (.Pass ⟨0, 0, 0, 0⟩))) 1) te ∧ ∀ (o5 : Option V) (H1 : Hp) (Q' : VK), (∀ v H', Same H1 H' → Odd K H' v → Q' v H') → te [some (.ref p), some (.int i), some (.int n), some (.int x), some (.int y), o5] H1 Q' :=
    ⟨_, (pe_tup (pa_cons (pv 2) (pa_cons (pe_tup (pa_cons (pv 3) (pa_cons pe_int pa_nil))) (pa_cons (pv 4) pa_nil)))), fun o5 H1 Q' fin => ⟨_, rfl, _, rfl, (by show 2 ≤ sizeLine; decide), fun p0 hp0 => ⟨_, rfl, (by show 3 ≤ sizeLine; decide), fun p hp => fin _ _ ((same_new hp0 _).trans (same_new hp _)) (.el (bs := [true, false, true]) upd_same rfl (.cons (wi _ _) (.cons ⟨_, false, .tup (same_new hp _ _ _ upd_same), kk.t, .inl ⟨rfl, rfl⟩⟩ (.cons (wi _ _) .nil))) rfl)⟩⟩⟩
  obtain ⟨t18, h18, q18⟩ := x18
  have x19 : ∃ te, PE (cxOf CX0 P w K mg base odN "_law_odd" (defScope s_l_odd) f cdv A outer s H E).nox (itemAt (litOf ((defBody s_l_odd).getD 4 (.Pass ⟨0, 0, 0, 0⟩))) 2) te ∧ ∀ (o5 : Option V) (H1 : Hp) (Q' : VK), (∀ v H', Same H1 H' → Odd K H' v → Q' v H') → te [some (.ref p), some (.int i), some (.int n), some (.int x), some (.int y), o5] H1 Q' :=
    ⟨_, (pe_tup (pa_cons (pv 2) (pa_cons (pv 3) (pa_cons pe_non pa_nil)))), fun o5 H1 Q' fin => ⟨_, rfl, _, rfl, (by show 3 ≤ sizeLine; decide), fun p hp => fin _ _ (same_new hp _) (.el (bs := [true, true, false]) upd_same rfl (.cons (wi _ _) (.cons (wi _ _) (.cons (wn _) .nil))) rfl)⟩⟩
  obtain ⟨t19, h19, q19⟩ := x19
  have x20 : ∃ te, PE (cxOf CX0 P w K mg base odN "_law_odd" (defScope s_l_odd) f cdv A outer s H E).nox (itemAt (litOf ((defBody s_l_odd).getD 4 (.Pass ⟨0, 0, 0, 0⟩))) 3) te ∧ ∀ (o5 : Option V) (H1 : Hp) (Q' : VK), (∀ v H', Same H1 H' → Odd K H' v → Q' v H') → te [some (.ref p), some (.int i), some (.int n), some (.int x), some (.int y), o5] H1 Q' :=
    ⟨_, (pe_tup (pa_cons (pe_tup (pa_cons (pv 2) (pa_cons (pv 3) (pa_cons (pv 4) pa_nil)))) pa_nil)), fun o5 H1 Q' fin => ⟨_, rfl, _, rfl, _, rfl, (by show 3 ≤ sizeLine; decide), fun p0 hp0 => ⟨(by show 1 ≤ sizeLine; decide), fun p hp => fin _ _ ((same_new hp0 _).trans (same_new hp _)) (.len upd_same (by show 1 ≠ 3; decide))⟩⟩⟩
  obtain ⟨t20, h20, q20⟩ := x20
  have x21 : ∃ te, PE (cxOf CX0 P w K mg base odN "_law_odd" (defScope s_l_odd) f cdv A outer s H E).nox (itemAt (litOf ((defBody s_l_odd).getD 4 (.Pass ⟨0, 0, 0, 0⟩))) 4) te ∧ ∀ (o5 : Option V) (H1 : Hp) (Q' : VK), (∀ v H', Same H1 H' → Odd K H' v → Q' v H') → te [some (.ref p), some (.int i), some (.int n), some (.int x), some (.int y), o5] H1 Q' :=
    ⟨_, (pe_tup (pa_cons (pv 2) (pa_cons (pe_lst (pa_cons (pv 3) pa_nil)) (pa_cons (pv 4) pa_nil)))), fun o5 H1 Q' fin => ⟨_, rfl, _, rfl, (by show 1 ≤ sizeLine; decide), fun p0 hp0 => ⟨_, rfl, (by show 3 ≤ sizeLine; decide), fun p hp => fin _ _ ((same_new hp0 _).trans (same_new hp _)) (.el (bs := [true, false, true]) upd_same rfl (.cons (wi _ _) (.cons ⟨_, false, .lst (same_new hp _ _ _ upd_same), kk.li, .inl ⟨rfl, rfl⟩⟩ (.cons (wi _ _) .nil))) rfl)⟩⟩⟩
  obtain ⟨t21, h21, q21⟩ := x21
  have x22 : ∃ te, PE (cxOf CX0 P w K mg base odN "_law_odd" (defScope s_l_odd) f cdv A outer s H E).nox (itemAt (litOf ((defBody s_l_odd).getD 4 (.Pass ⟨0, 0, 0, 0⟩))) 5) te ∧ ∀ (o5 : Option V) (H1 : Hp) (Q' : VK), (∀ v H', Same H1 H' → Odd K H' v → Q' v H') → te [some (.ref p), some (.int i), some (.int n), some (.int x), some (.int y), o5] H1 Q' :=
    ⟨_, (pe_disp (pps_cons (pv 2) (pv 3) pps_nil) rfl rfl (by intro z; cases z) (by decide)), fun o5 H1 Q' fin => fun p hp => ⟨_, rfl, _, rfl, upd_same, [(.inl n, .int x)], rfl, (by show 1 ≤ 15; decide), fin _ _ (same_mut (same_new hp _) hp _) (.no (.dK upd_same) kk.dt)⟩⟩
  obtain ⟨t22, h22, q22⟩ := x22
  have x23 : ∃ te, PE (cxOf CX0 P w K mg base odN "_law_odd" (defScope s_l_odd) f cdv A outer s H E).nox (itemAt (litOf ((defBody s_l_odd).getD 4 (.Pass ⟨0, 0, 0, 0⟩))) 6) te ∧ ∀ (o5 : Option V) (H1 : Hp) (Q' : VK), (∀ v H', Same H1 H' → Odd K H' v → Q' v H') → te [some (.ref p), some (.int i), some (.int n), some (.int x), some (.int y), o5] H1 Q' :=
    ⟨_, pe_bl, fun o5 H1 Q' fin => fin _ _ (Same.refl _) (.no (.bl true) kk.bt)⟩
  obtain ⟨t23, h23, q23⟩ := x23
  refine ⟨_, pss_cons (ps_asg (pv 0) (pg_tup rfl (pgs_cons (pg_name (i := 2) nd rfl (Or.inl rfl)) (pgs_cons (pg_name (i := 3) nd rfl (Or.inl rfl)) (pgs_cons (pg_name (i := 4) nd rfl (Or.inl rfl)) pgs_nil))))) (pss_cons (ps_set (i := 5) nd rfl (Or.inl rfl) (pe_lst (paS h0 (paS h1 (paS h2 (paS h3 (paS h4 (paS h5 (paS h6 pa_nil))))))))) (pss_cons (ps_set (i := 5) nd rfl (Or.inl rfl) (pe_op op_cat (pv 5) (pe_lst (paS h7 (paS h8 (paS h9 (paS h10 (paS h11 (paS h12 (paS h13 (paS h14 (paS h15 pa_nil)))))))))))) (pss_cons (ps_set (i := 5) nd rfl (Or.inl rfl) (pe_op op_cat (pv 5) (pe_lst (paS h16 pa_nil)))) (pss_cons (ps_set (i := 5) nd rfl (Or.inl rfl) (pe_op op_cat (pv 5) (pe_lst (paS h17 (paS h18 (paS h19 (paS h20 (paS h21 (paS h22 (paS h23 pa_nil)))))))))) (pss_one (ps_ret (pe_ix ix_list (pv 5) (pe_op op_modN (pv 1) (pe_callB call_len rfl Z_len (by decide +kernel) (pa_cons (pv 5) pa_nil))) (fun _ _ => rfl)))))))), ?_⟩
  refine ⟨_, rfl, p, _, rfl, SqT.of ep, rfl, _, _, rfl, _, _, rfl, _, _, rfl, rfl, ?_⟩
  refine q0 _ _ _ fun v0 H0 s0 o0 => ?_
  refine q1 _ _ _ fun v1 H1 s1 o1 => ?_
  refine q2 _ _ _ fun v2 H2 s2 o2 => ?_
  refine q3 _ _ _ fun v3 H3 s3 o3 => ?_
  refine q4 _ _ _ fun v4 H4 s4 o4 => ?_
  refine q5 _ _ _ fun v5 H5 s5 o5 => ?_
  refine q6 _ _ _ fun v6 H6 s6 o6 => ?_
  refine ⟨(by show 7 ≤ sizeLine; decide), fun lb0 hlb0 => ?_⟩
  have sb0 : Same H H6 := ((((((s0.trans s1).trans s2).trans s3).trans s4).trans s5).trans s6)
  have A0 : ∀ v ∈ [v0, v1, v2, v3, v4, v5, v6], Odd K H6 v := by
    intro v hv
    simp only [List.mem_cons, List.mem_nil_iff, or_false] at hv
    rcases hv with rfl | rfl | rfl | rfl | rfl | rfl | rfl
    · exact o0.same (((((((Same.refl _).trans s1).trans s2).trans s3).trans s4).trans s5).trans s6)
    · exact o1.same ((((((Same.refl _).trans s2).trans s3).trans s4).trans s5).trans s6)
    · exact o2.same (((((Same.refl _).trans s3).trans s4).trans s5).trans s6)
    · exact o3.same ((((Same.refl _).trans s4).trans s5).trans s6)
    · exact o4.same (((Same.refl _).trans s5).trans s6)
    · exact o5.same ((Same.refl _).trans s6)
    · exact o6.same (Same.refl _)
  have sl0 := same_new hlb0 (.lst [v0, v1, v2, v3, v4, v5, v6])
  have Z0 : ∀ v ∈ [v0, v1, v2, v3, v4, v5, v6], Odd K (upd H6 lb0 (.lst [v0, v1, v2, v3, v4, v5, v6])) v := fun v hv => (A0 v hv).same sl0
  have S0 := sb0.trans sl0
  have N0 : ([v0, v1, v2, v3, v4, v5, v6] : List V).length = 7 := rfl
  have E0 : upd H6 lb0 (.lst [v0, v1, v2, v3, v4, v5, v6]) lb0 = some (.lst [v0, v1, v2, v3, v4, v5, v6]) := upd_same
  generalize upd H6 lb0 (.lst [v0, v1, v2, v3, v4, v5, v6]) = G0 at S0 Z0 E0 ⊢
  generalize [v0, v1, v2, v3, v4, v5, v6] = L0 at Z0 N0 E0 ⊢
  have D0 : ∃ l, l = lb0 := ⟨_, rfl⟩
  obtain ⟨l0, rfl⟩ := D0
  refine ⟨_, rfl, ?_⟩
  refine q7 _ _ _ fun v7 H7 s7 o7 => ?_
  refine q8 _ _ _ fun v8 H8 s8 o8 => ?_
  refine q9 _ _ _ fun v9 H9 s9 o9 => ?_
  refine q10 _ _ _ fun v10 H10 s10 o10 => ?_
  refine q11 _ _ _ fun v11 H11 s11 o11 => ?_
  refine q12 _ _ _ fun v12 H12 s12 o12 => ?_
  refine q13 _ _ _ fun v13 H13 s13 o13 => ?_
  refine q14 _ _ _ fun v14 H14 s14 o14 => ?_
  refine q15 _ _ _ fun v15 H15 s15 o15 => ?_
  refine ⟨(by show 9 ≤ sizeLine; decide), fun lb1 hlb1 => ?_⟩
  have sb1 : Same G0 H15 := ((((((((s7.trans s8).trans s9).trans s10).trans s11).trans s12).trans s13).trans s14).trans s15)
  have A1 : ∀ v ∈ [v7, v8, v9, v10, v11, v12, v13, v14, v15], Odd K H15 v := by
    intro v hv
    simp only [List.mem_cons, List.mem_nil_iff, or_false] at hv
    rcases hv with rfl | rfl | rfl | rfl | rfl | rfl | rfl | rfl | rfl
    · exact o7.same (((((((((Same.refl _).trans s8).trans s9).trans s10).trans s11).trans s12).trans s13).trans s14).trans s15)
    · exact o8.same ((((((((Same.refl _).trans s9).trans s10).trans s11).trans s12).trans s13).trans s14).trans s15)
    · exact o9.same (((((((Same.refl _).trans s10).trans s11).trans s12).trans s13).trans s14).trans s15)
    · exact o10.same ((((((Same.refl _).trans s11).trans s12).trans s13).trans s14).trans s15)
    · exact o11.same (((((Same.refl _).trans s12).trans s13).trans s14).trans s15)
    · exact o12.same ((((Same.refl _).trans s13).trans s14).trans s15)
    · exact o13.same (((Same.refl _).trans s14).trans s15)
    · exact o14.same ((Same.refl _).trans s15)
    · exact o15.same (Same.refl _)
  have sl1 := same_new hlb1 (.lst [v7, v8, v9, v10, v11, v12, v13, v14, v15])
  have E0' : upd H15 lb1 (.lst [v7, v8, v9, v10, v11, v12, v13, v14, v15]) l0 = some (.lst L0) := sl1 _ _ (sb1 _ _ E0)
  refine ⟨l0, lb1, _, _, rfl, rfl, E0', upd_same, (Nat.le_trans (Nat.le_of_eq (show L0.length + 9 = 16 by rw [N0])) (by decide)), fun l1 hl1 => ?_⟩
  have sc1 := same_new hl1 (.lst (L0 ++ [v7, v8, v9, v10, v11, v12, v13, v14, v15]))
  have S1 := ((S0.trans sb1).trans sl1).trans sc1
  have Z1 : ∀ v ∈ L0 ++ [v7, v8, v9, v10, v11, v12, v13, v14, v15], Odd K (upd (upd H15 lb1 (.lst [v7, v8, v9, v10, v11, v12, v13, v14, v15])) l1 (.lst (L0 ++ [v7, v8, v9, v10, v11, v12, v13, v14, v15]))) v := fun v hv => by
    rcases List.mem_append.mp hv with hv | hv
    · exact (((Z0 v hv).same sb1).same sl1).same sc1
    · exact ((A1 v hv).same sl1).same sc1
  have N1 : (L0 ++ [v7, v8, v9, v10, v11, v12, v13, v14, v15]).length = 16 := by rw [List.length_append, N0]; rfl
  have E1 : upd (upd H15 lb1 (.lst [v7, v8, v9, v10, v11, v12, v13, v14, v15])) l1 (.lst (L0 ++ [v7, v8, v9, v10, v11, v12, v13, v14, v15])) l1 = some (.lst (L0 ++ [v7, v8, v9, v10, v11, v12, v13, v14, v15])) := upd_same
  generalize upd (upd H15 lb1 (.lst [v7, v8, v9, v10, v11, v12, v13, v14, v15])) l1 (.lst (L0 ++ [v7, v8, v9, v10, v11, v12, v13, v14, v15])) = G1 at S1 Z1 E1 ⊢
  generalize L0 ++ [v7, v8, v9, v10, v11, v12, v13, v14, v15] = L1 at Z1 N1 E1 ⊢
  refine ⟨_, rfl, ?_⟩
  refine q16 _ _ _ fun v16 H16 s16 o16 => ?_
  refine ⟨(by show 1 ≤ sizeLine; decide), fun lb2 hlb2 => ?_⟩
  have sb2 : Same G1 H16 := s16
  have A2 : ∀ v ∈ [v16], Odd K H16 v := by
    intro v hv
    simp only [List.mem_cons, List.mem_nil_iff, or_false] at hv
    subst hv
    exact o16
  have sl2 := same_new hlb2 (.lst [v16])
  have E1' : upd H16 lb2 (.lst [v16]) l1 = some (.lst L1) := sl2 _ _ (sb2 _ _ E1)
  refine ⟨l1, lb2, _, _, rfl, rfl, E1', upd_same, (Nat.le_trans (Nat.le_of_eq (show L1.length + 1 = 17 by rw [N1])) (by decide)), fun l2 hl2 => ?_⟩
  have sc2 := same_new hl2 (.lst (L1 ++ [v16]))
  have S2 := ((S1.trans sb2).trans sl2).trans sc2
  have Z2 : ∀ v ∈ L1 ++ [v16], Odd K (upd (upd H16 lb2 (.lst [v16])) l2 (.lst (L1 ++ [v16]))) v := fun v hv => by
    rcases List.mem_append.mp hv with hv | hv
    · exact (((Z1 v hv).same sb2).same sl2).same sc2
    · exact ((A2 v hv).same sl2).same sc2
  have N2 : (L1 ++ [v16]).length = 17 := by rw [List.length_append, N1]; rfl
  have E2 : upd (upd H16 lb2 (.lst [v16])) l2 (.lst (L1 ++ [v16])) l2 = some (.lst (L1 ++ [v16])) := upd_same
  generalize upd (upd H16 lb2 (.lst [v16])) l2 (.lst (L1 ++ [v16])) = G2 at S2 Z2 E2 ⊢
  generalize L1 ++ [v16] = L2 at Z2 N2 E2 ⊢
  refine ⟨_, rfl, ?_⟩
  refine q17 _ _ _ fun v17 H17 s17 o17 => ?_
  refine q18 _ _ _ fun v18 H18 s18 o18 => ?_
  refine q19 _ _ _ fun v19 H19 s19 o19 => ?_
  refine q20 _ _ _ fun v20 H20 s20 o20 => ?_
  refine q21 _ _ _ fun v21 H21 s21 o21 => ?_
  refine q22 _ _ _ fun v22 H22 s22 o22 => ?_
  refine q23 _ _ _ fun v23 H23 s23 o23 => ?_
  refine ⟨(by show 7 ≤ sizeLine; decide), fun lb3 hlb3 => ?_⟩
  have sb3 : Same G2 H23 := ((((((s17.trans s18).trans s19).trans s20).trans s21).trans s22).trans s23)
  have A3 : ∀ v ∈ [v17, v18, v19, v20, v21, v22, v23], Odd K H23 v := by
    intro v hv
    simp only [List.mem_cons, List.mem_nil_iff, or_false] at hv
    rcases hv with rfl | rfl | rfl | rfl | rfl | rfl | rfl
    · exact o17.same (((((((Same.refl _).trans s18).trans s19).trans s20).trans s21).trans s22).trans s23)
    · exact o18.same ((((((Same.refl _).trans s19).trans s20).trans s21).trans s22).trans s23)
    · exact o19.same (((((Same.refl _).trans s20).trans s21).trans s22).trans s23)
    · exact o20.same ((((Same.refl _).trans s21).trans s22).trans s23)
    · exact o21.same (((Same.refl _).trans s22).trans s23)
    · exact o22.same ((Same.refl _).trans s23)
    · exact o23.same (Same.refl _)
  have sl3 := same_new hlb3 (.lst [v17, v18, v19, v20, v21, v22, v23])
  have E2' : upd H23 lb3 (.lst [v17, v18, v19, v20, v21, v22, v23]) l2 = some (.lst L2) := sl3 _ _ (sb3 _ _ E2)
  refine ⟨l2, lb3, _, _, rfl, rfl, E2', upd_same, (Nat.le_trans (Nat.le_of_eq (show L2.length + 7 = 24 by rw [N2])) (by decide)), fun l3 hl3 => ?_⟩
  have sc3 := same_new hl3 (.lst (L2 ++ [v17, v18, v19, v20, v21, v22, v23]))
  have S3 := ((S2.trans sb3).trans sl3).trans sc3
  have Z3 : ∀ v ∈ L2 ++ [v17, v18, v19, v20, v21, v22, v23], Odd K (upd (upd H23 lb3 (.lst [v17, v18, v19, v20, v21, v22, v23])) l3 (.lst (L2 ++ [v17, v18, v19, v20, v21, v22, v23]))) v := fun v hv => by
    rcases List.mem_append.mp hv with hv | hv
    · exact (((Z2 v hv).same sb3).same sl3).same sc3
    · exact ((A3 v hv).same sl3).same sc3
  have N3 : (L2 ++ [v17, v18, v19, v20, v21, v22, v23]).length = 24 := by rw [List.length_append, N2]; rfl
  have E3 : upd (upd H23 lb3 (.lst [v17, v18, v19, v20, v21, v22, v23])) l3 (.lst (L2 ++ [v17, v18, v19, v20, v21, v22, v23])) l3 = some (.lst (L2 ++ [v17, v18, v19, v20, v21, v22, v23])) := upd_same
  generalize upd (upd H23 lb3 (.lst [v17, v18, v19, v20, v21, v22, v23])) l3 (.lst (L2 ++ [v17, v18, v19, v20, v21, v22, v23])) = G3 at S3 Z3 E3 ⊢
  generalize L2 ++ [v17, v18, v19, v20, v21, v22, v23] = L3 at Z3 N3 E3 ⊢
  have z0 : (0 : Int) < ((L3.length : Nat) : Int) := by omega
  have e0 := Int.fmod_nonneg_of_pos i z0
  have e1 := Int.fmod_lt_of_pos i z0
  obtain ⟨u, hu, mu⟩ : ∃ u, atI L3 (i.fmod ((L3.length : Nat) : Int)) = some u ∧ u ∈ L3 := by
    generalize i.fmod ((L3.length : Nat) : Int) = j at e0 e1
    have hj : j.toNat < L3.length := by omega
    exact ⟨L3[j.toNat], at_of e0 (List.getElem?_eq_getElem hj), List.getElem_mem hj⟩
  exact ⟨_, rfl, _, rfl, _, rfl, _, _, rfl, .inl ⟨_, SqL.of E3, rfl⟩, _, _, rfl, rfl, (by omega), _, _, _, _, rfl, rfl, SqL.of E3, hu, q u G3 S3 (Z3 u mu)⟩
end
end Mine




set_option Elab.async false
set_option linter.all false
set_option maxRecDepth 100000
set_option maxHeartbeats 4000000
namespace Mine
open PySem L2
def Gr.ahead (g : Gr) (k : Nat) : Bool := g.nums.all fun i => decide (i < k)
theorem ahead_ok {g : Gr} {k : Nat} : g.ahead k = true ↔ GrOk k g := by
  unfold Gr.ahead GrOk
  rw [List.all_eq_true]
  exact ⟨fun h i hi => of_decide_eq_true (h i hi), fun h i hi => decide_eq_true (h i hi)⟩
abbrev GrV (H : Hp) (v : V) (g : Gr) : Prop := RwV H v g.rw
def spHow : Sp := fun vs H Q _ => ∃ (x : Str) (n : Int), vs = [.str x] ∧ PyProof.Rows.KTD.datumAt x TK = some n ∧ Q (.int n) H
def spAhead : Sp := fun vs H Q _ => ∃ (i p : Int), vs = [.int i, .int p] ∧ 0 ≤ i ∧ Q (.bl (decide (i < p))) H
def spIsRow : Sp := fun vs H Q _ => ∃ (x : V) (k : Nat) (g : Gr), vs = [x, .int (k : Int)] ∧ GrV H x g ∧ k < 400 ∧ ∀ H', Same H H' → Q (.bl (g.ahead k)) H'
/-- where rows are amiss, if they are -/
def Flt (gs : List Gr) (o : Option Nat) : Prop := match o with
  | none => GrsOk gs
  | some k => ∃ g, gs[k]? = some g ∧ g.ahead k = false ∧ ∀ i g, i < k → gs[i]? = some g → GrOk i g
def spFault : Sp := fun vs H Q _ => ∃ (l : Addr) (us : List V) (gs : List Gr) (o : Option Nat), vs = [.ref l] ∧ H l = some (.lst us) ∧ All2 (GrV H) us gs ∧ Flt gs o ∧ gs ≠ [] ∧ gs.length ≤ 400 ∧ ∀ H', Same H H' → Q (match o with | none => .non | some k => .int (k : Int)) H'
def spMustR (C : Addr) : Sp := fun vs H Q E => ∃ (l : Addr) (us : List V) (gs : List Gr) (o : Option Nat), vs = [.ref l] ∧ H l = some (.lst us) ∧ All2 (GrV H) us gs ∧ Flt gs o ∧ gs ≠ [] ∧ gs.length ≤ 400 ∧
  (match o with | none => ∀ H', Same H H' → Q .non H' | some _ => ∀ dc H', Same H H' → E (.ref C) dc H')
def spLeafBy (c : CCs) : Sp := fun vs H Q _ => ∃ (g : Gr), vs = [.str g.word] ∧ g.nums = [] ∧ ∀ x H', Same H H' → Ob c H' x g.tr → Q (.ref x) H'
def spFoldBy (c : CCs) : Sp := fun vs H Q _ => ∃ (u : W5) (b d : Addr) (x y : Tr), vs = [.str u.str, .ref b, .ref d] ∧ Ob c H b x ∧ Ob c H d y ∧ ∀ e H', Same H H' → Ob c H' e (.fold u x y) → Q (.ref e) H'
def spRowW : Sp := fun vs H Q _ => ∃ (x : V) (l p : Addr) (g : Gr) (ws : List Int) (n a b : Int), vs = [x, .ref l, .ref p] ∧ GrV H x g ∧ H l = some (.lst (ws.map V.int)) ∧ GrOk ws.length g ∧ H p = some (.tup [.int n, .int a, .int b]) ∧ ∀ H', Same H H' → Q (.int (g.worth n a b ws)) H'
theorem GrV.tup {H : Hp} {v : V} {g : Gr} (h : GrV H v g) : ∃ a, v = .ref a ∧ H a = some (.tup (.str g.word :: g.nums.map fun i : Nat => .int (i : Int))) := by
  obtain ⟨a, rfl, e⟩ := h
  unfold Gr.rw at e
  rw [rowK_kV] at e
  exact ⟨a, rfl, e⟩
theorem at0 {x : V} {us : List V} : atI (x :: us) 0 = some x := atI_nat (j := 0) rfl
theorem atW {ws : List Int} {i : Nat} (h : i < ws.length) : atI (ws.map V.int) (i : Int) = some (.int (ws.getD i 0)) := atI_nat (by rw [List.getElem?_map, List.getD_eq_getElem?_getD, List.getElem?_eq_getElem h]; rfl)
abbrev irN : List Str := ["thing", "place"]
def irArg (s : Stmt) : Expr := match s with
  | .Return (some (.Call _ [e] _ _)) _ => e
  | _ => .Constant .none 0 ⟨0, 0, 0, 0⟩
section
variable {P : Program} {w : World} {K : PySem.W.Frag} {mg : Str → Option Value} {base : Heap} {c : CCs}
theorem sc_how : FnScope ["word"] ["word"] (defScope s_how_many_it_takes) := ⟨rfl, rfl, rfl, by decide +kernel, rfl, by decide +kernel, by decide +kernel⟩
theorem ok_how (T : TopDef K mg "how_many_it_takes" s_how_many_it_takes) (P_TAKEN : TopDict K mg "TAKEN" TK) : Def P w K mg base 1 "how_many_it_takes" ["word"] spHow := by
  refine def_of T sc_how (fun _ _ _ _ _ _ us hl => match us, hl with | [_], _ => rfl) (fun vs H Q E h => ?_) (fun f cdv A outer s H vs Q E hr h => ?_)
  · obtain ⟨r, n, rfl, _⟩ := h
    rfl
  obtain ⟨x, n, rfl, e, q⟩ := h
  have nd := sc_how.nd
  refine ⟨_, (pss_one (ps_ret (pe_tget P_TAKEN rfl (pv 0) ⟨rfl, rfl, rfl, rfl⟩))), ?_⟩
  refine ⟨_, rfl, _, rfl, ?_⟩
  rw [e]
  exact q
theorem sc_ahead : FnScope irN ["thing", "place"] (defScope s_is_place_ahead) := ⟨rfl, rfl, rfl, by decide +kernel, rfl, by decide +kernel, by decide +kernel⟩
theorem ok_ahead (T : TopDef K mg "is_place_ahead" s_is_place_ahead) (D_is_whole : Def P w K mg base 1 "is_whole" ["thing"] spWholeL) : Def P w K mg base 2 "is_place_ahead" ["thing", "place"] spAhead := by
  refine def_of T sc_ahead (fun _ _ _ _ _ _ us hl => match us, hl with | [_, _], _ => rfl) (fun vs H Q E h => ?_) (fun f cdv A outer s H vs Q E hr h => ?_)
  · obtain ⟨i, p, rfl, _⟩ := h
    rfl
  obtain ⟨i, p, rfl, h0, q⟩ := h
  have nd := sc_ahead.nd
  refine ⟨_, (pss_one (ps_ret (pe_and (pe_def D_is_whole (hr.mono (by decide)) rfl (pa_cons (pv 0) pa_nil)) (pe_one (pe_chain op_le op_lt pe_int (pv 0) (pv 1)))))), ?_⟩
  refine ⟨_, rfl, i, rfl, _, rfl, iteT ?_⟩
  refine ⟨_, rfl, _, _, rfl, rfl, _, rfl, ?_⟩
  rw [if_pos (decide_eq_true h0)]
  exact ⟨_, rfl, _, _, rfl, rfl, q⟩
theorem sc_isRow : FnScope irN ["thing", "place"] (defScope s_is_row) := ⟨rfl, rfl, rfl, by decide +kernel, rfl, by decide +kernel, by decide +kernel⟩
theorem ok_isRow (T : TopDef K mg "is_row" s_is_row) (Z_isinstance : mg "isinstance" = none) (Z_tuple : mg "tuple" = none) (Z_len : mg "len" = none) (Z_str : mg "str" = none) (Z_all : mg "all" = none) {tm : Tok} (M_MOST_ROWS : mg "MOST_ROWS" = some (.int 400 tm))
    (D_how_many_it_takes : Def P w K mg base 1 "how_many_it_takes" ["word"] spHow) (D_is_place_ahead : Def P w K mg base 2 "is_place_ahead" ["thing", "place"] spAhead) : Def P w K mg base 3 "is_row" ["thing", "place"] spIsRow := by
  refine def_of T sc_isRow (fun _ _ _ _ _ _ us hl => match us, hl with | [_, _], _ => rfl) (fun vs H Q E h => ?_) (fun f cdv A outer s H vs Q E hr h => ?_)
  · obtain ⟨x, k, g, rfl, _⟩ := h
    rfl
  obtain ⟨x, k, g, rfl, gv, hk, q⟩ := h
  have nd := sc_isRow.nd
  have gl := g.len
  obtain ⟨a, rfl, e⟩ := gv.tup
  have cm : ∃ te, PE (cxOf CX0 P w K mg base irN "is_row" (defScope s_is_row) f cdv A outer s H E).nox (irArg ((defBody s_is_row).getD 2 (.Pass ⟨0, 0, 0, 0⟩))) te ∧ ∀ (Q' : VK), (∀ D H4, Same H H4 → H4 D = some (.lst (g.nums.map fun i => .bl (decide (i < k)))) → Q' (.ref D) H4) → te [some (.ref a), some (.int (k : Int))] H Q' := by
    refine ⟨_, (pe_compF rfl (pi_tup (pe_slice sl_tupA (pv 0) (po_some pe_int) po_none)) rfl (by decide +kernel) (by decide +kernel) rfl (show ∀ p ∈ Scope.names _, p.2 = NameKind.free → List.lookup p.1 (defScope s_is_row).names = some .cell ∨ List.lookup p.1 (defScope s_is_row).names = some .free by decide +kernel) (fa_cons (j := 1) rfl (Or.inl rfl) (by decide +kernel) (Or.inl rfl) fa_nil) (show (["index", "place"] : List Str).Nodup by decide +kernel) (fun _ _ _ _ => pif_nil) (fun _ _ _ _ => (pe_def D_is_place_ahead (hr.mono (by decide)) rfl (pa_cons (pv 0) (pa_cons (pv 1) pa_nil))))), ?_⟩
    intro Q' fin
    refine comp_from ?_
    refine ⟨_, rfl, _, rfl, ?_⟩
    dsimp only [tNoPart]
    refine sl1 (K := K) e fun p1 hp1 => ?_
    refine ⟨p1, rfl, ⟨_, SqT.of upd_same⟩, ?_⟩
    have sp := same_new hp1 (.tup (g.nums.map fun i : Nat => V.int (i : Int)))
    refine comp_mapT (K := K) (ts := g.nums) (R := fun _ v i => v = V.int ((i : Nat) : Int)) (xs := g.nums.map fun i : Nat => V.int (i : Int)) (fun i : Nat => .bl (decide (i < k))) (fun _ _ v t _ h => h) (fun l H' => l = p1 ∧ H' = upd H p1 (.tup (g.nums.map fun i : Nat => V.int (i : Int)))) (fun R h => h p1 _ ⟨rfl, rfl⟩) (fun l H' h => by obtain ⟨rfl, rfl⟩ := h; exact ⟨upd_same, Same.refl _⟩) (by rw [List.length_map]; omega)
      ?_ (fun v i H' N hi hv hN => ?_) (fun D H4 s4 hD eD => fin D H4 (sp.trans s4) eD)
    · generalize g.nums = is
      induction is with
      | nil => exact .nil
      | cons i r ih => exact .cons rfl ih
    · subst hv
      refine ⟨_, rfl, _, rfl, (i : Int), (k : Int), rfl, by omega, ?_⟩
      have z := hN _ (Same.refl _)
      rw [show decide (i < k) = decide ((i : Int) < (k : Int)) from decide_eq_decide.mpr (by omega)] at z
      exact z
  obtain ⟨tC, htC, hqC⟩ := cm
  refine ⟨_, (pss_cons (ps_if (PW.pt (pw_or (pt_cmpR op_ge (pv 1) (pe_glob (v := V.int 400) rfl M_MOST_ROWS ⟨_, rfl⟩) (nomark _)) (pw_or (pt_not (pt_val (pe_callB call_isiT rfl Z_isinstance (by decide +kernel) (pa_cons (pv 0) (pa_cons (pe_bltn (v := V.ty "tuple") rfl Z_tuple (by decide +kernel) rfl) pa_nil))))) (pw_or1 (pt_cmpR op_eq (pe_callB call_len rfl Z_len (by decide +kernel) (pa_cons (pv 0) pa_nil)) pe_int (nomark _)))))) (pss_one (ps_ret pe_bl)) pss_nil)
    (pss_cons (ps_if (PW.pt (pw_or (pt_not (pt_val (pe_callB call_isi rfl Z_isinstance (by decide +kernel) (pa_cons (pe_ix ix_tup (pv 0) pe_int (fun _ _ => rfl)) (pa_cons (pe_bltn (v := V.ty "str") rfl Z_str (by decide +kernel) rfl) pa_nil))))) (pw_or1 (pt_cmpR op_ne (pe_def D_how_many_it_takes (hr.mono (by decide)) rfl (pa_cons (pe_ix ix_tup (pv 0) pe_int (fun _ _ => rfl)) pa_nil)) (pe_op op_sub (pe_callB call_len rfl Z_len (by decide +kernel) (pa_cons (pv 0) pa_nil)) pe_int) (nomark _))))) (pss_one (ps_ret pe_bl)) pss_nil)
    (pss_one (ps_ret (pe_callB (call_all rfl) rfl Z_all (by decide +kernel) (pa_cons htC pa_nil)))))), ?_⟩
  refine ⟨_, rfl, _, _, rfl, rfl, _, rfl, ?_⟩
  rw [decide_eq_false (show ¬ (400 : Int) ≤ (k : Int) by omega)]
  refine iteF ?_
  refine ⟨_, rfl, a, _, _, _, true, rfl, (fun _ h => h), SqT.of e, kit_same, _, rfl, iteF ?_⟩
  refine ⟨_, rfl, _, _, rfl, .inr ⟨_, SqT.of e, rfl⟩, rfl, _, rfl, ?_⟩
  rw [decide_eq_false (show ¬ V.int (((V.str g.word :: g.nums.map fun i : Nat => V.int (i : Int)).length : Nat) : Int) = V.int 0 from fun z => by have := V.int.inj z; rw [List.length_cons] at this; omega)]
  refine iteF ?_
  refine ⟨_, rfl, _, _, _, _, rfl, rfl, SqT.of e, at0, _, _, _, _, true, rfl, (fun _ h => h), TyOf.str _, kit_same, _, rfl, iteF ?_⟩
  refine ⟨_, rfl, _, _, _, _, rfl, rfl, SqT.of e, at0, g.word, _, rfl, tk_of g, _, rfl, _, _, rfl, .inr ⟨_, SqT.of e, rfl⟩, _, _, rfl, rfl, rfl, _, rfl, ?_⟩
  refine iteNS (congrArg V.int (by rw [List.length_cons, List.length_map]; show (g.nums.length : Int) = _; omega)) ?_
  refine hqC _ fun D H4 s4 eD => ?_
  refine ⟨D, g.nums.map fun i => decide (i < k), rfl, SqL.of (by rw [List.map_map]; exact eD), ?_⟩
  rw [show (g.nums.map fun i => decide (i < k)).all id = g.ahead k by rw [List.all_map]; rfl]
  exact q _ s4
abbrev rfN : List Str := ["things", "place", "thing"]
theorem sc_fault : FnScope rfN ["things"] (defScope s_rows_fault) := ⟨rfl, rfl, rfl, by decide +kernel, rfl, by decide +kernel, by decide +kernel⟩
theorem ok_fault (T : TopDef K mg "rows_fault" s_rows_fault) (Z_enumerate : mg "enumerate" = none) (Z_len : mg "len" = none) (D_is_row : Def P w K mg base 3 "is_row" ["thing", "place"] spIsRow) : Def P w K mg base 4 "rows_fault" ["things"] spFault := by
  refine def_of T sc_fault (fun _ _ _ _ _ _ us hl => match us, hl with | [_], _ => rfl) (fun vs H Q E h => ?_) (fun f cdv A outer s H vs Q E hr h => ?_)
  · obtain ⟨l, us, gs, o, rfl, _⟩ := h
    rfl
  obtain ⟨l, us, gs, o, rfl, el, al, fl, ne, few, q⟩ := h
  have nd := sc_fault.nd
  have lu := al.len
  refine ⟨_, (pss_cons (ps_for PassesOwn.never rfl (pi_enum rfl Z_enumerate (pv 0)) (pg_tup rfl (pgs_cons (pg_name (i := 1) nd rfl (Or.inl rfl)) (pgs_cons (pg_name (i := 2) nd rfl (Or.inl rfl)) pgs_nil))) (pss_one (ps_if (pt_not (pt_val (pe_def D_is_row (hr.mono (by decide)) rfl (pa_cons (pv 2) (pa_cons (pv 1) pa_nil))))) (pss_one (ps_ret (pv 1))) pss_nil)))
    (pss_one (ps_ret (pe_ifExp (pt_cmpR op_eq (pe_callB call_len rfl Z_len (by decide +kernel) (pa_cons (pv 0) pa_nil)) pe_int (nomark _)) pe_int pe_non)))), ?_⟩
  refine ⟨_, rfl, l, rfl, ⟨us, SqL.of el⟩, ?_⟩
  refine for_enum (xs := us) (fun i σ H' => Same H H' ∧ (∀ k, o = some k → i ≤ k) ∧ ∃ o1 o2, σ = [some (.ref l), o1, o2]) ⟨fun _ _ z => z, fun _ _ => Nat.zero_le _, _, _, rfl⟩ (fun i σ H' _ z => SqL.of (z.1 _ _ el)) (fun i v T' σ H' hv z hT => ?_) (fun σ H' z => ?_)
  · obtain ⟨sm, ho, o1, o2, rfl⟩ := z
    have uT := same_new hT (.tup [.int i, v])
    have s2 := sm.trans uT
    obtain ⟨g, hg, gv⟩ := al.get i v hv
    have hi : i < us.length := (List.getElem?_eq_some_iff.mp hv).1
    refine ⟨T', _, rfl, SqT.of upd_same, rfl, _, _, rfl, _, _, rfl, rfl, ?_⟩
    refine ⟨_, rfl, _, rfl, v, i, g, rfl, RwV.to (Kp.of s2) _ _ gv, by omega, fun H3 s3 => ?_⟩
    cases hb : g.ahead i with
    | true =>
      refine ⟨_, rfl, iteF ⟨s2.trans s3, fun k e => ?_, _, _, rfl⟩⟩
      subst e
      obtain ⟨g', e1, e2, _⟩ := fl
      rcases Nat.lt_or_ge i k with z | z
      · exact z
      · have e3 : i = k := by have := ho k rfl; omega
        subst e3
        rw [hg] at e1
        cases e1
        rw [hb] at e2
        cases e2
    | false =>
      refine ⟨_, rfl, iteT ⟨_, rfl, ?_⟩⟩
      have n : ¬ GrOk i g := fun z => by rw [ahead_ok.mpr z] at hb; cases hb
      cases o with
      | none => exact absurd ((show GrsOk gs from fl) i g hg) n
      | some k =>
        obtain ⟨g', e1, e2, e3⟩ := fl
        have e4 : i = k := by
          have := ho k rfl
          rcases Nat.lt_or_ge i k with z | z
          · exact absurd (e3 i g z hg) n
          · omega
        subst e4
        exact q _ (s2.trans s3)
  · obtain ⟨sm, ho, o1, o2, rfl⟩ := z
    refine ⟨_, rfl, _, _, rfl, .inl ⟨_, SqL.of (sm _ _ el), rfl⟩, rfl, _, rfl, ?_⟩
    rw [decide_eq_false (show ¬ V.int ((us.length : Nat) : Int) = V.int 0 from fun z => by
      have := V.int.inj z
      have : gs.length = 0 := by omega
      exact ne (List.length_eq_zero_iff.mp this))]
    cases o with
    | none => exact iteF (q _ sm)
    | some k =>
      obtain ⟨g', e1, _⟩ := fl
      have := (List.getElem?_eq_some_iff.mp e1).1
      have := ho k rfl
      omega
theorem sc_must : FnScope ["things", "at"] ["things"] (defScope s_must_be_rows) := ⟨rfl, rfl, rfl, by decide +kernel, rfl, by decide +kernel, by decide +kernel⟩
theorem ok_must {C : Addr} (T : TopDef K mg "must_be_rows" s_must_be_rows) (X_NoRows : XC1 P w K mg base "NoRows" C "at") (D_rows_fault : Def P w K mg base 4 "rows_fault" ["things"] spFault) : DefD P w K mg base 5 "must_be_rows" ["things"] (spMustR C) := by
  refine defd_of T sc_must (fun _ _ _ _ _ _ => ar1 fun _ => rfl) (fun vs H Q E h => ?_) (fun f cdv A outer s H vs Q E hr h => ?_)
  · obtain ⟨l, us, gs, o, rfl, _⟩ := h
    rfl
  obtain ⟨l, us, gs, o, rfl, el, al, fl, ne, few, q⟩ := h
  have nd := sc_must.nd
  refine ⟨_, (pss_cons (ps_set (i := 1) nd rfl (Or.inl rfl) (pe_def D_rows_fault (hr.mono (by decide)) rfl (pa_cons (pv 0) pa_nil)))
    (pss_one (ps_if (pt_cmpR op_notN (pv 1) pe_non (nomark _)) (pss_one (ps_raise1 X_NoRows (hr.mono (by decide)) rfl (pa_cons (pv 1) pa_nil))) pss_nil))), ?_⟩
  refine ⟨_, rfl, l, us, gs, o, rfl, el, al, fl, ne, few, fun H' s' => ?_⟩
  cases o with
  | none => exact ⟨_, rfl, rfl, _, rfl, iteF (q _ s')⟩
  | some k => exact ⟨_, rfl, rfl, _, rfl, iteT ⟨_, rfl, _, rfl, fun d hd => q _ _ (s'.trans (same_new hd _))⟩⟩
end
end Mine





set_option Elab.async false
set_option linter.all false
set_option maxRecDepth 100000
set_option maxHeartbeats 4000000
namespace Mine
open PySem L2
theorem atI_last {α : Type} (ys : List α) (y : α) : atI (ys ++ [y]) (-1) = some y := by
  unfold atI ixN
  rw [if_neg (by decide), if_pos (by rw [List.length_append]; simp; omega)]
  show (ys ++ [y])[((-1 : Int) + ((ys ++ [y]).length : Nat)).toNat]? = some y
  rw [show ((-1 : Int) + ((ys ++ [y]).length : Nat)).toNat = ys.length by rw [List.length_append]; simp; omega]
  simp
end Mine

namespace Mine
open PySem L2
theorem last_getD (ws : List Int) (h : ws ≠ []) : ∃ ws' w, ws = ws' ++ [w] ∧ ws.getLastD 0 = w := by
  refine ⟨ws.dropLast, ws.getLast h, (List.dropLast_concat_getLast h).symm, ?_⟩
  rw [List.getLastD_eq_getLast?, List.getLast?_eq_some_getLast h]
  rfl
theorem iteY {a b : V} {A B : Prop} (h : a = b) (k : A) : if decide (a = b) = true then A else B := by rw [decide_eq_true h, if_pos rfl]; exact k
theorem iteN {a b : V} {A B : Prop} (h : a ≠ b) (k : B) : if decide (a = b) = true then A else B := by rw [decide_eq_false h, if_neg Bool.false_ne_true]; exact k
abbrev rwN : List Str := ["row", "worths", "point", "n"]
section
variable {P : Program} {w : World} {K : PySem.W.Frag} {mg : Str → Option Value} {base : Heap} {c : CCs}
theorem sc_leafBy : FnScope ["word"] ["word"] (defScope s_leaf_by) := ⟨rfl, rfl, rfl, by decide +kernel, rfl, by decide +kernel, by decide +kernel⟩
theorem ok_leafBy (T : TopDef K mg "leaf_by" s_leaf_by) (N_never : Mk0 K c.ne) (M_never : mg "Never" = some (.ref c.ne)) (N_always : Mk0 K c.al) (M_always : mg "Always" = some (.ref c.al)) (K_letter : MkOk P w K mg base "Letter" c.le 1 ["self", "name"] (spInit1 c.le fName)) : Def P w K mg base 3 "leaf_by" ["word"] (spLeafBy c) := by
  refine def_of T sc_leafBy (fun _ _ _ _ _ _ us hl => match us, hl with | [_], _ => rfl) (fun vs H Q E h => ?_) (fun f cdv A outer s H vs Q E hr h => ?_)
  · obtain ⟨g, rfl, _⟩ := h
    rfl
  obtain ⟨g, rfl, hg, q⟩ := h
  have nd := sc_leafBy.nd
  refine ⟨_, (pss_cons (ps_if (pt_cmpR op_eq (pv 0) pe_str (nomark _)) (pss_one (ps_ret (pe_makeN N_never rfl M_never))) pss_nil)
    (pss_cons (ps_if (pt_cmpR op_eq (pv 0) pe_str (nomark _)) (pss_one (ps_ret (pe_makeN N_always rfl M_always))) pss_nil)
    (pss_one (ps_ret (pe_mk K_letter (hr.mono (by omega)) rfl (pa_cons (pv 0) pa_nil)))))), ?_⟩
  cases g with
  | no i => cases hg
  | fold u i j => cases hg
  | ne =>
    refine ⟨_, rfl, rfl, _, rfl, ite_yes rfl (fun z dz h1 h2 ne => ?_)⟩
    exact q z _ (same_made0 (C := c.ne) h1 h2) (.never upd_same)
  | al =>
    refine ⟨_, rfl, rfl, _, rfl, ite_no (by decide +kernel) ?_⟩
    refine ⟨_, rfl, rfl, _, rfl, ite_yes rfl (fun z dz h1 h2 ne => ?_)⟩
    exact q z _ (same_made0 (C := c.al) h1 h2) (.always upd_same)
  | p =>
    refine ⟨_, rfl, rfl, _, rfl, ite_no (by decide +kernel) ?_⟩
    refine ⟨_, rfl, rfl, _, rfl, ite_no (by decide +kernel) ?_⟩
    refine ⟨_, rfl, fun z dz h1 h2 ne => ⟨z, dz, _, rfl, upd_same, rfl, ?_⟩⟩
    exact q z _ (same_made (C := c.le) (fs := fName (.str "p")) h1 h2 ne) (.lp upd_same)
  | q =>
    refine ⟨_, rfl, rfl, _, rfl, ite_no (by decide +kernel) ?_⟩
    refine ⟨_, rfl, rfl, _, rfl, ite_no (by decide +kernel) ?_⟩
    refine ⟨_, rfl, fun z dz h1 h2 ne => ⟨z, dz, _, rfl, upd_same, rfl, ?_⟩⟩
    exact q z _ (same_made (C := c.le) (fs := fName (.str "q")) h1 h2 ne) (.lq upd_same)
theorem sc_foldBy : FnScope ["word", "one", "other"] ["word", "one", "other"] (defScope s_fold_by) := ⟨rfl, rfl, rfl, by decide +kernel, rfl, by decide +kernel, by decide +kernel⟩
theorem ok_foldBy (T : TopDef K mg "fold_by" s_fold_by) (K_fold : ∀ u : W5, MkOk P w K mg base u.cls (c.fold u) 1 ["self", "one", "other"] (spInit2 (c.fold u))) : Def P w K mg base 3 "fold_by" ["word", "one", "other"] (spFoldBy c) := by
  refine def_of T sc_foldBy (fun _ _ _ _ _ _ us hl => match us, hl with | [_, _, _], _ => rfl) (fun vs H Q E h => ?_) (fun f cdv A outer s H vs Q E hr h => ?_)
  · obtain ⟨u, b, d, x, y, rfl, _⟩ := h
    rfl
  obtain ⟨u, b, d, x, y, rfl, ob, od, q⟩ := h
  have nd := sc_foldBy.nd
  refine ⟨_, (pss_cons (ps_if (pt_cmpR op_eq (pv 0) pe_str (nomark _)) (pss_one (ps_ret (pe_mk (K_fold .more) (hr.mono (by omega)) rfl (pa_cons (pv 1) (pa_cons (pv 2) pa_nil))))) pss_nil)
    (pss_cons (ps_if (pt_cmpR op_eq (pv 0) pe_str (nomark _)) (pss_one (ps_ret (pe_mk (K_fold .less) (hr.mono (by omega)) rfl (pa_cons (pv 1) (pa_cons (pv 2) pa_nil))))) pss_nil)
    (pss_cons (ps_if (pt_cmpR op_eq (pv 0) pe_str (nomark _)) (pss_one (ps_ret (pe_mk (K_fold .greater) (hr.mono (by omega)) rfl (pa_cons (pv 1) (pa_cons (pv 2) pa_nil))))) pss_nil)
    (pss_cons (ps_if (pt_cmpR op_eq (pv 0) pe_str (nomark _)) (pss_one (ps_ret (pe_mk (K_fold .lesser) (hr.mono (by omega)) rfl (pa_cons (pv 1) (pa_cons (pv 2) pa_nil))))) pss_nil)
    (pss_one (ps_ret (pe_mk (K_fold .leads) (hr.mono (by omega)) rfl (pa_cons (pv 1) (pa_cons (pv 2) pa_nil))))))))), ?_⟩
  have fin : ∀ (z dz : Addr), H z = none → H dz = none → dz ≠ z → Q (.ref z) (upd (upd (upd H dz (.own z)) z (.ins (c.fold u) dz [])) z (.ins (c.fold u) dz (fTwo (.ref b) (.ref d)))) := fun z dz h1 h2 ne => made_fold (Q := Q) h1 h2 ne ob od q
  cases u
  · refine ⟨_, rfl, rfl, _, rfl, ite_yes rfl ?_⟩
    exact ⟨_, rfl, _, rfl, fun z dz h1 h2 ne => ⟨z, dz, _, _, rfl, upd_same, rfl, fin z dz h1 h2 ne⟩⟩
  · refine ⟨_, rfl, rfl, _, rfl, ite_no (by decide +kernel) ⟨_, rfl, rfl, _, rfl, ite_yes rfl ?_⟩⟩
    exact ⟨_, rfl, _, rfl, fun z dz h1 h2 ne => ⟨z, dz, _, _, rfl, upd_same, rfl, fin z dz h1 h2 ne⟩⟩
  · refine ⟨_, rfl, rfl, _, rfl, ite_no (by decide +kernel) ⟨_, rfl, rfl, _, rfl, ite_no (by decide +kernel) ⟨_, rfl, rfl, _, rfl, ite_yes rfl ?_⟩⟩⟩
    exact ⟨_, rfl, _, rfl, fun z dz h1 h2 ne => ⟨z, dz, _, _, rfl, upd_same, rfl, fin z dz h1 h2 ne⟩⟩
  · refine ⟨_, rfl, rfl, _, rfl, ite_no (by decide +kernel) ⟨_, rfl, rfl, _, rfl, ite_no (by decide +kernel) ⟨_, rfl, rfl, _, rfl, ite_no (by decide +kernel) ⟨_, rfl, rfl, _, rfl, ite_yes rfl ?_⟩⟩⟩⟩
    exact ⟨_, rfl, _, rfl, fun z dz h1 h2 ne => ⟨z, dz, _, _, rfl, upd_same, rfl, fin z dz h1 h2 ne⟩⟩
  · refine ⟨_, rfl, rfl, _, rfl, ite_no (by decide +kernel) ⟨_, rfl, rfl, _, rfl, ite_no (by decide +kernel) ⟨_, rfl, rfl, _, rfl, ite_no (by decide +kernel) ⟨_, rfl, rfl, _, rfl, ite_no (by decide +kernel) ?_⟩⟩⟩⟩
    exact ⟨_, rfl, _, rfl, fun z dz h1 h2 ne => ⟨z, dz, _, _, rfl, upd_same, rfl, fin z dz h1 h2 ne⟩⟩
theorem sc_rowW : FnScope rwN ["row", "worths", "point"] (defScope s_row_worth) := ⟨rfl, rfl, rfl, by decide +kernel, rfl, by decide +kernel, by decide +kernel⟩
theorem ok_rowW (T : TopDef K mg "row_worth" s_row_worth) (Z_len : mg "len" = none) (D_leaf_by : Def P w K mg base 3 "leaf_by" ["word"] (spLeafBy c)) (D_fold_by : Def P w K mg base 3 "fold_by" ["word", "one", "other"] (spFoldBy c)) (K_letter : MkOk P w K mg base "Letter" c.le 1 ["self", "name"] (spInit1 c.le fName)) (K_not : MkOk P w K mg base "Not" c.no 1 ["self", "part"] (spInit1 c.no fPart))
    (M : ∀ t, MethOk P w K mg base (c.of t) "out_of" 3 ["self", "n", "x", "y"] (spOut c t)) : Def P w K mg base 4 "row_worth" ["row", "worths", "point"] spRowW := by
  refine def_of T sc_rowW (fun _ _ _ _ _ _ us hl => match us, hl with | [_, _, _], _ => rfl) (fun vs H Q E h => ?_) (fun f cdv A outer s H vs Q E hr h => ?_)
  · obtain ⟨x, l, p, g, ws, n, a, b, rfl, _⟩ := h
    rfl
  obtain ⟨x, l, p, g, ws, n, a, b, rfl, gv, el, go, ep, q⟩ := h
  obtain ⟨r, rfl, e⟩ := gv.tup
  have nd := sc_rowW.nd
  refine ⟨_, (pss_cons (ps_set (i := 3) nd rfl (Or.inl rfl) (pe_ix ix_tup (pv 2) pe_int (fun _ _ => rfl)))
    (pss_cons (ps_if (pt_cmpR op_eq (pe_callB call_len rfl Z_len (by decide +kernel) (pa_cons (pv 0) pa_nil)) pe_int (nomark _)) (pss_one (ps_ret (pe_methD (k := 3) (pe_def D_leaf_by (hr.mono (by decide)) rfl (pa_cons (pe_ix ix_tup (pv 0) pe_int (fun _ _ => rfl)) pa_nil)) (hr.mono (by omega)) (pa_cons (pv 3) (pa_cons (pe_ix ix_tup (pv 2) pe_int (fun _ _ => rfl)) (pa_cons (pe_ix ix_tup (pv 2) pe_int (fun _ _ => rfl)) pa_nil)))))) pss_nil)
    (pss_cons (ps_if (pt_cmpR op_eq (pe_callB call_len rfl Z_len (by decide +kernel) (pa_cons (pv 0) pa_nil)) pe_int (nomark _)) (pss_one (ps_ret (pe_methD (k := 3) (pe_mk K_not (hr.mono (by omega)) rfl (pa_cons (pe_mk K_letter (hr.mono (by omega)) rfl (pa_cons pe_str pa_nil)) pa_nil)) (hr.mono (by omega)) (pa_cons (pv 3) (pa_cons (pe_ix ix_list (pv 1) (pe_ix ix_tup (pv 0) pe_int (fun _ _ => rfl)) (fun _ _ => rfl)) (pa_cons pe_int pa_nil)))))) pss_nil)
    (pss_one (ps_ret (pe_methD (k := 3) (pe_def D_fold_by (hr.mono (by decide)) rfl (pa_cons (pe_ix ix_tup (pv 0) pe_int (fun _ _ => rfl)) (pa_cons (pe_mk K_letter (hr.mono (by omega)) rfl (pa_cons pe_str pa_nil)) (pa_cons (pe_mk K_letter (hr.mono (by omega)) rfl (pa_cons pe_str pa_nil)) pa_nil)))) (hr.mono (by omega)) (pa_cons (pv 3) (pa_cons (pe_ix ix_list (pv 1) (pe_ix ix_tup (pv 0) pe_int (fun _ _ => rfl)) (fun _ _ => rfl)) (pa_cons (pe_ix ix_list (pv 1) (pe_ix ix_tup (pv 0) pe_int (fun _ _ => rfl)) (fun _ _ => rfl)) pa_nil))))))))), ?_⟩
  refine ⟨_, rfl, _, _, _, _, rfl, rfl, SqT.of ep, rfl, ?_⟩
  refine ⟨_, rfl, _, _, rfl, .inr ⟨_, SqT.of e, rfl⟩, rfl, _, rfl, ?_⟩
  cases g with
  | no i =>
    have hi : i < ws.length := go i (by simp [Gr.nums])
    refine iteN (fun z => by have := V.int.inj z; simp [Gr.nums] at this) ?_
    refine ⟨_, rfl, _, _, rfl, .inr ⟨_, SqT.of e, rfl⟩, rfl, _, rfl, ?_⟩
    refine iteY rfl ?_
    refine fun z dz h1 h2 ne => ⟨z, dz, _, rfl, upd_same, rfl, ?_⟩
    have s1 := same_made (C := c.le) (fs := fName (.str "p")) h1 h2 ne
    have o1 : Ob c (upd (upd (upd H dz (.own z)) z (.ins c.le dz [])) z (.ins c.le dz (fName (.str "p")))) z .lp := .lp upd_same
    generalize upd (upd (upd H dz (.own z)) z (.ins c.le dz [])) z (.ins c.le dz (fName (.str "p"))) = H1 at s1 o1 ⊢
    refine fun z2 dz2 h3 h4 ne2 => ⟨z2, dz2, _, rfl, upd_same, rfl, ?_⟩
    have s2 := same_made (C := c.no) (fs := fPart (.ref z)) h3 h4 ne2
    have o2 : Ob c (upd (upd (upd H1 dz2 (.own z2)) z2 (.ins c.no dz2 [])) z2 (.ins c.no dz2 (fPart (.ref z)))) z2 (.no .lp) := .no upd_same (o1.to (Kp.of s2))
    generalize upd (upd (upd H1 dz2 (.own z2)) z2 (.ins c.no dz2 [])) z2 (.ins c.no dz2 (fPart (.ref z))) = H2 at s2 o2 ⊢
    have s12 := s1.trans s2
    obtain ⟨dx, fs, ea, nf⟩ := o2.cls
    exact ⟨z2, _, _, _, _, _, rfl, ea, nf _ (by decide +kernel), M (.no .lp), _, rfl, _, rfl, _, rfl, _, _, _, _, rfl, rfl, SqT.of (s12 _ _ e), rfl, _, _, _, _, rfl, rfl, SqL.of (s12 _ _ el), atW hi, z2, n, ws.getD i 0, 0, rfl, o2, (by decide), fun H3 s3 => q _ (s12.trans s3)⟩
  | fold u i j =>
    have hi : i < ws.length := go i (by simp [Gr.nums])
    have hj : j < ws.length := go j (by simp [Gr.nums])
    refine iteN (fun z => by have := V.int.inj z; simp [Gr.nums] at this) ?_
    refine ⟨_, rfl, _, _, rfl, .inr ⟨_, SqT.of e, rfl⟩, rfl, _, rfl, ?_⟩
    refine iteN (fun z => by have := V.int.inj z; simp [Gr.nums] at this) ?_
    refine ⟨_, rfl, _, _, _, _, rfl, rfl, SqT.of e, at0, ?_⟩
    refine fun z dz h1 h2 ne => ⟨z, dz, _, rfl, upd_same, rfl, ?_⟩
    have s1 := same_made (C := c.le) (fs := fName (.str "p")) h1 h2 ne
    have o1 : Ob c (upd (upd (upd H dz (.own z)) z (.ins c.le dz [])) z (.ins c.le dz (fName (.str "p")))) z .lp := .lp upd_same
    generalize upd (upd (upd H dz (.own z)) z (.ins c.le dz [])) z (.ins c.le dz (fName (.str "p"))) = H1 at s1 o1 ⊢
    refine fun z2 dz2 h3 h4 ne2 => ⟨z2, dz2, _, rfl, upd_same, rfl, ?_⟩
    have s2 := same_made (C := c.le) (fs := fName (.str "q")) h3 h4 ne2
    have o2 : Ob c (upd (upd (upd H1 dz2 (.own z2)) z2 (.ins c.le dz2 [])) z2 (.ins c.le dz2 (fName (.str "q")))) z2 .lq := .lq upd_same
    generalize upd (upd (upd H1 dz2 (.own z2)) z2 (.ins c.le dz2 [])) z2 (.ins c.le dz2 (fName (.str "q"))) = H2 at s2 o2 ⊢
    refine ⟨u, z, z2, .lp, .lq, rfl, o1.to (Kp.of s2), o2, fun x3 H3 s3 o3 => ?_⟩
    have s13 := (s1.trans s2).trans s3
    obtain ⟨dx, fs, ea, nf⟩ := o3.cls
    exact ⟨x3, _, _, _, _, _, rfl, ea, nf _ (by decide +kernel), M (.fold u .lp .lq), _, rfl, _, rfl, _, rfl, _, _, _, _, rfl, rfl, SqT.of (s13 _ _ e), rfl, _, _, _, _, rfl, rfl, SqL.of (s13 _ _ el), atW hi, _, rfl, _, rfl, _, _, _, _, rfl, rfl, SqT.of (s13 _ _ e), rfl, _, _, _, _, rfl, rfl, SqL.of (s13 _ _ el), atW hj, x3, n, ws.getD i 0, ws.getD j 0, rfl, o3, (by show 3 ≤ 1000; decide), fun H4 s4 => q _ (s13.trans s4)⟩
  | ne =>
    refine iteY rfl ?_
    refine ⟨_, rfl, _, _, _, _, rfl, rfl, SqT.of e, at0, .ne, rfl, rfl, fun x1 H1 s1 o1 => ?_⟩
    obtain ⟨dx, fs, ea, nf⟩ := o1.cls
    exact ⟨x1, _, _, _, _, _, rfl, ea, nf _ (by decide +kernel), M _, _, rfl, _, rfl, _, _, _, _, rfl, rfl, SqT.of (s1 _ _ ep), rfl, _, rfl, _, _, _, _, rfl, rfl, SqT.of (s1 _ _ ep), rfl, x1, n, a, b, rfl, o1, (by decide), fun H2 s2 => q _ (s1.trans s2)⟩
  | al =>
    refine iteY rfl ?_
    refine ⟨_, rfl, _, _, _, _, rfl, rfl, SqT.of e, at0, .al, rfl, rfl, fun x1 H1 s1 o1 => ?_⟩
    obtain ⟨dx, fs, ea, nf⟩ := o1.cls
    exact ⟨x1, _, _, _, _, _, rfl, ea, nf _ (by decide +kernel), M _, _, rfl, _, rfl, _, _, _, _, rfl, rfl, SqT.of (s1 _ _ ep), rfl, _, rfl, _, _, _, _, rfl, rfl, SqT.of (s1 _ _ ep), rfl, x1, n, a, b, rfl, o1, (by decide), fun H2 s2 => q _ (s1.trans s2)⟩
  | p =>
    refine iteY rfl ?_
    refine ⟨_, rfl, _, _, _, _, rfl, rfl, SqT.of e, at0, .p, rfl, rfl, fun x1 H1 s1 o1 => ?_⟩
    obtain ⟨dx, fs, ea, nf⟩ := o1.cls
    exact ⟨x1, _, _, _, _, _, rfl, ea, nf _ (by decide +kernel), M _, _, rfl, _, rfl, _, _, _, _, rfl, rfl, SqT.of (s1 _ _ ep), rfl, _, rfl, _, _, _, _, rfl, rfl, SqT.of (s1 _ _ ep), rfl, x1, n, a, b, rfl, o1, (by decide), fun H2 s2 => q _ (s1.trans s2)⟩
  | q =>
    refine iteY rfl ?_
    refine ⟨_, rfl, _, _, _, _, rfl, rfl, SqT.of e, at0, .q, rfl, rfl, fun x1 H1 s1 o1 => ?_⟩
    obtain ⟨dx, fs, ea, nf⟩ := o1.cls
    exact ⟨x1, _, _, _, _, _, rfl, ea, nf _ (by decide +kernel), M _, _, rfl, _, rfl, _, _, _, _, rfl, rfl, SqT.of (s1 _ _ ep), rfl, _, rfl, _, _, _, _, rfl, rfl, SqT.of (s1 _ _ ep), rfl, x1, n, a, b, rfl, o1, (by decide), fun H2 s2 => q _ (s1.trans s2)⟩
end
end Mine




set_option Elab.async false
set_option linter.all false
set_option maxRecDepth 100000
set_option maxHeartbeats 4000000
namespace Mine
open PySem L2
/-- the worth of rows: NoRows where they are none, NoPoint where it is asked at no point -/
def spWorthRD (K : PySem.W.Frag) (CP CR : Addr) : Sp := fun vs H Q E => ∃ (l : Addr) (v : V) (us : List V) (gs : List Gr) (o : Option Nat), vs = [.ref l, v] ∧ H l = some (.lst us) ∧ All2 (GrV H) us gs ∧ Flt gs o ∧ gs ≠ [] ∧ gs.length ≤ 400 ∧
  (match o with
    | some _ => ∀ dc H', Same H H' → E (.ref CR) dc H'
    | none => (∃ p n x y, v = .ref p ∧ Pt H p n x y ∧ ∀ H', Same H H' → Q (.int (lastG n x y gs)) H') ∨ (Odd K H v ∧ ∀ dc H', Same H H' → E (.ref CP) dc H'))
def spWorthD (c : CCs) (K : PySem.W.Frag) (CP : Addr) : Sp := fun vs H Q E => ∃ (a : Addr) (v : V) (t : Tr), vs = [.ref a, v] ∧ Ob c H a t ∧ t.size ≤ 1000 ∧
  ((∃ p n x y, v = .ref p ∧ Pt H p n x y ∧ ∀ H', Same H H' → Q (.int (t.worth n x y)) H') ∨ (Odd K H v ∧ ∀ dc H', Same H H' → E (.ref CP) dc H'))
section
variable {P : Program} {w : World} {K : PySem.W.Frag} {mg : Str → Option Value} {base : Heap} {c : CCs}
abbrev wrN : List Str := ["rows", "point", "worths", "row"]
theorem sc_worthR : FnScope wrN ["rows", "point"] (defScope s_worth_of_rows) := ⟨rfl, rfl, rfl, by decide +kernel, rfl, by decide +kernel, by decide +kernel⟩
theorem ok_worthR {CP CR : Addr} (T : TopDef K mg "worth_of_rows" s_worth_of_rows) (D_must_be_rows : DefD P w K mg base 5 "must_be_rows" ["things"] (spMustR CR)) (D_must_be_point : DefD P w K mg base 3 "must_be_point" ["thing"] (spD (spMustG K CP))) (D_row_worth : Def P w K mg base 4 "row_worth" ["row", "worths", "point"] spRowW) : DefD P w K mg base 6 "worth_of_rows" ["rows", "point"] (spWorthRD K CP CR) := by
  refine defd_of T sc_worthR (fun _ _ _ _ _ _ => ar2 fun _ _ => rfl) (fun vs H Q E h => ?_) (fun f cdv A outer s H vs Q E hr h => ?_)
  · obtain ⟨l, v, us, gs, o, rfl, _⟩ := h
    rfl
  obtain ⟨l, v, us, gs, o, rfl, el, al, fl, ne, few, h⟩ := h
  have nd := sc_worthR.nd
  refine ⟨_, (pss_cons (ps_expr (pe_defP D_must_be_rows (hr.mono (by decide)) rfl (pa_cons (pv 0) pa_nil)))
    (pss_cons (ps_expr (pe_defP D_must_be_point (hr.mono (by decide)) rfl (pa_cons (pv 1) pa_nil)))
    (pss_cons (ps_set (i := 2) nd rfl (Or.inl rfl) (pe_lst pa_nil))
    (pss_cons (ps_for PassesOwn.leaving rfl (pi_list (pv 0)) (pg_name (i := 3) nd rfl (Or.inl rfl)) (pss_one (ps_expr (pe_bm PySem.F.plainAttrs_list PySem.F.slot_list_append PySem.F.type_list_append mt_append (pv 2) (pa_cons (pe_def D_row_worth (hr.mono (by decide)) rfl (pa_cons (pv 3) (pa_cons (pv 2) (pa_cons (pv 1) pa_nil)))) pa_nil)))))
    (pss_one (ps_ret (pe_ix ix_list (pv 2) (pe_un un_neg pe_int) (fun _ _ => rfl)))))))), ?_⟩
  refine ⟨_, rfl, l, us, gs, o, rfl, el, al, fl, ne, few, ?_⟩
  cases o with
  | some k => exact h
  | none =>
  have ok : GrsOk gs := fl
  intro H1 s1
  rcases h with ⟨p, n, x, y, rfl, pt, q⟩ | ⟨o, q⟩
  · refine ⟨_, rfl, _, rfl, .inl ⟨p, n, x, y, rfl, pt.to s1, fun H2 s2 => ?_⟩⟩
    refine ⟨(by show 0 ≤ sizeLine; decide), fun wl hw => ?_⟩
    have s12 := s1.trans s2
    have el2 := s12 _ _ el
    have nlw : l ≠ wl := ne_of_none el2 hw
    have hw0 : H wl = none := s12.free hw
    refine ⟨_, rfl, l, rfl, ⟨us, SqL.of (same_new hw _ _ _ el2)⟩, ?_⟩
    have lu := al.len
    refine for_list (xs := us) (fun i σ H3 => ∃ (o3 : Option V), σ = [some (.ref l), some (.ref p), some (.ref wl), o3] ∧ Same H H3 ∧ H3 wl = some (.lst ((worthsG n x y (gs.take i) []).map V.int)))
      ⟨_, rfl, s12.trans (same_new hw _), upd_same⟩ (fun i σ H3 _ h => ?_) (fun i v σ H3 hi h => ?_) (fun σ H3 h => ?_)
    · obtain ⟨o3, rfl, s3, _⟩ := h
      exact SqL.of (s3 _ _ el)
    · obtain ⟨o3, rfl, s3, ew⟩ := h
      obtain ⟨g, hg, gv⟩ := al.get i v hi
      have hil : i < us.length := (List.getElem?_eq_some_iff.mp hi).1
      have wl0 : (worthsG n x y (gs.take i) []).length = i := by rw [worthsG_len]; simp; omega
      refine ⟨_, rfl, .inl ⟨rfl, _, SqL.of ew⟩, _, rfl, _, rfl, _, rfl, v, wl, p, g, _, n, x, y, rfl, RwV.to (Kp.of s3) _ _ gv, ew, by rw [wl0]; exact ok i g hg, s3 _ _ pt.1, fun H4 s4 => ?_⟩
      have ew4 := s4 _ _ ew
      refine ⟨wl, _, _, rfl, rfl, ew4, by rw [List.length_map, wl0]; exact Nat.lt_of_lt_of_le (show i < 400 by omega) (by decide), ?_⟩
      refine ⟨_, rfl, same_mut (s3.trans s4) hw0 _, ?_⟩
      rw [upd_same, worthsG_take n x y gs i g hg, List.map_append]
      rfl
    · obtain ⟨o3, rfl, s3, ew⟩ := h
      rw [lu, List.take_length] at ew
      have hne : worthsG n x y gs [] ≠ [] := fun z => by
        have := worthsG_len n x y gs []
        rw [z] at this
        simp at this
        exact ne (List.length_eq_zero_iff.mp this.symm)
      obtain ⟨ws', w0, e1, e2⟩ := last_getD _ hne
      rw [e1, List.map_append] at ew
      refine ⟨_, rfl, _, rfl, _, _, _, _, rfl, rfl, SqL.of ew, atI_last _ _, ?_⟩
      have := q H3 s3
      unfold lastG at this
      rw [e2] at this
      exact this
  · exact ⟨_, rfl, _, rfl, .inr ⟨o.same s1, fun H2 s2 dc => q _ _ (s1.trans s2)⟩⟩
theorem sc_worthP : FnScope ["saying", "point"] ["saying", "point"] (defScope s_worth) := ⟨rfl, rfl, rfl, by decide +kernel, rfl, by decide +kernel, by decide +kernel⟩
theorem ok_worthP {CP : Addr} (T : TopDef K mg "worth" s_worth) (D_must_be_point : DefD P w K mg base 3 "must_be_point" ["thing"] (spD (spMustG K CP))) (M : ∀ t, MethOk P w K mg base (c.of t) "out_of" 3 ["self", "n", "x", "y"] (spOut c t)) : DefD P w K mg base 4 "worth" ["saying", "point"] (spWorthD c K CP) := by
  refine defd_of T sc_worthP (fun _ _ _ _ _ _ => ar2 fun _ _ => rfl) (fun vs H Q E h => ?_) (fun f cdv A outer s H vs Q E hr h => ?_)
  · obtain ⟨a, v, t, rfl, _⟩ := h
    rfl
  obtain ⟨a, v, t, rfl, o, z, h⟩ := h
  have nd := sc_worthP.nd
  refine ⟨_, (pss_cons (ps_expr (pe_defP D_must_be_point (hr.mono (by decide)) rfl (pa_cons (pv 1) pa_nil)))
    (pss_one (ps_ret (pe_methD (k := 3) (pv 0) (hr.mono (by omega)) (pa_cons (pe_ix ix_tup (pv 1) pe_int (fun _ _ => rfl)) (pa_cons (pe_ix ix_tup (pv 1) pe_int (fun _ _ => rfl)) (pa_cons (pe_ix ix_tup (pv 1) pe_int (fun _ _ => rfl)) pa_nil))))))), ?_⟩
  rcases h with ⟨p, n, x, y, rfl, g, q⟩ | ⟨od, q⟩
  · refine ⟨_, rfl, _, rfl, .inl ⟨p, n, x, y, rfl, g, fun H1 s1 => ?_⟩⟩
    have o1 := o.to (Kp.of s1)
    have e1 := (g.to s1).1
    obtain ⟨dx, fs, ea, nf⟩ := o1.cls
    exact ⟨_, rfl, a, _, _, _, _, _, rfl, ea, nf _ (by decide +kernel), M t, _, rfl, _, _, _, _, rfl, rfl, SqT.of e1, rfl, _, rfl, _, _, _, _, rfl, rfl, SqT.of e1, rfl, _, rfl, _, _, _, _, rfl, rfl, SqT.of e1, rfl, a, n, x, y, rfl, o1, z, fun H2 s2 => q _ (s1.trans s2)⟩
  · exact ⟨_, rfl, _, rfl, .inr ⟨od, fun H2 s2 dc => q _ _ s2⟩⟩
end
end Mine




set_option Elab.async false
set_option linter.all false
set_option maxRecDepth 100000
set_option maxHeartbeats 4000000
namespace Mine
open PySem L2
structure ExcG (K : PySem.W.Frag) (mg : Str → Option Value) (CS CP CR : Addr) : Prop where
  ms : mg "SayError" = some (.ref CS)
  mp : mg "NoPoint" = some (.ref CP)
  mr : mg "NoRows" = some (.ref CR)
  xp : PySem.W.excIn K CP bmV "ValueError.__new__" = true
  cc : CatchCls K CS
  ec : ExcCls K CP
  er : ExcCls K CR
  sub : PySem.W.mroIn K CP (.ref CS) = some true
  sur : PySem.W.mroIn K CR (.ref CS) = some true
  k2 : PySem.W.kitOne K (.ref CP) (.type "ValueError") = some true
  k3 : PySem.W.kitOne K (.ref CP) (.ref CR) = some false
  k4 : PySem.W.kitOne K (.ref CR) (.type "ValueError") = some true
  k5 : PySem.W.kitOne K (.ref CR) (.ref CP) = some false
def spRef7 (c : CCs) (K : PySem.W.Frag) : Sp := fun vs H Q _ => ∃ (ask : Int) (a : Addr) (v : V) (b : Bool), vs = [.int ask, .ref a, v] ∧ Odd K H v ∧
  ((ask = 0 ∧ b = true ∧ ∃ t, Ob c H a t ∧ t.size ≤ 1000) ∨ (ask = 1 ∧ ∃ us gs o, H a = some (.lst us) ∧ All2 (GrV H) us gs ∧ Flt gs o ∧ gs ≠ [] ∧ gs.length ≤ 400 ∧ b = o.isNone)) ∧
  ∀ l H', Same H H' → H' l = some (.lst [.bl b, .bl (!b), .bl true]) → Q (.ref l) H'
section
variable {P : Program} {w : World} {K : PySem.W.Frag} {mg : Str → Option Value} {base : Heap} {c : CCs}
theorem sc_ref7 : FnScope ["_law_ask", "_law_thing", "_law_point_here", "_law_caught", "e"] ["_law_ask", "_law_thing", "_law_point_here"] (defScope s_l_refused) := ⟨rfl, rfl, rfl, by decide +kernel, rfl, by decide +kernel, by decide +kernel⟩
theorem ok_ref7 {CS C_NoPoint C_NoRows : Addr} (T : TopDef K mg "_law_refused" s_l_refused) (Z_isinstance : mg "isinstance" = none) (Z_ValueError : mg "ValueError" = none) (X : ExcG K mg CS C_NoPoint C_NoRows) (D_worth : DefD P w K mg base 4 "worth" ["saying", "point"] (spWorthD c K C_NoPoint)) (D_worth_of_rows : DefD P w K mg base 6 "worth_of_rows" ["rows", "point"] (spWorthRD K C_NoPoint C_NoRows)) : Def P w K mg base 7 "_law_refused" ["_law_ask", "_law_thing", "_law_point_here"] (spRef7 c K) := by
  have M_SayError := X.ms
  have M_NoPoint := X.mp
  have M_NoRows := X.mr
  have CC_SayError := X.cc
  refine def_of T sc_ref7 (fun _ _ _ _ _ _ => ar3 fun _ _ _ => rfl) (fun vs H Q E h => ?_) (fun f cdv A outer s H vs Q E hr h => ?_)
  · obtain ⟨ask, a, v, b, rfl, _⟩ := h
    rfl
  obtain ⟨ask, a, v, b, rfl, od, h, q⟩ := h
  have nd := sc_ref7.nd
  have tail : ∃ t, PSs (cxOf CX0 P w K mg base ["_law_ask", "_law_thing", "_law_point_here", "_law_caught", "e"] "_law_refused" (defScope s_l_refused) f cdv A outer s H E).nox ((defBody s_l_refused).drop 2) t ∧ ∀ (ea Cn : Addr) (dc : Option Addr) (H1 : Hp), Same H H1 → H1 ea = none → ((b = true ∧ Cn = C_NoPoint) ∨ (b = false ∧ Cn = C_NoRows)) →
      t { nx := fun _ H' => Q .non H', rt := Q } [some (.int ask), some (.ref a), some v, some (.ref ea), none] (upd H1 ea (.ext (XGot ea Cn dc))) := by
    refine ⟨_, (pss_one (ps_ret (pe_lst (pa_cons (pe_callB call_isiG rfl Z_isinstance (by decide +kernel) (pa_cons (pv 3) (pa_cons (pe_glob (v := V.ref C_NoPoint) rfl M_NoPoint rfl) pa_nil))) (pa_cons (pe_callB call_isiG rfl Z_isinstance (by decide +kernel) (pa_cons (pv 3) (pa_cons (pe_glob (v := V.ref C_NoRows) rfl M_NoRows rfl) pa_nil))) (pa_cons (pe_callB call_isiG rfl Z_isinstance (by decide +kernel) (pa_cons (pv 3) (pa_cons (pe_bltn (v := V.ty "ValueError") rfl Z_ValueError (by decide +kernel) rfl) pa_nil))) pa_nil)))))), ?_⟩
    intro ea Cn dc H1 s1 hea hb
    have he : upd H1 ea (.ext (XGot ea Cn dc)) ea = some (.ext (XGot ea Cn dc)) := upd_same
    have sA := s1.trans (same_new hea (.ext (XGot ea Cn dc)))
    rcases hb with ⟨rfl, rfl⟩ | ⟨rfl, rfl⟩
    · refine ⟨_, rfl, ea, _, _, _, dc, true, rfl, (fun _ h => h), he, X.ec, kit_same, _, rfl, ea, _, _, _, dc, false, rfl, (fun _ h => h), he, X.ec, X.k3, _, rfl, ea, _, _, _, dc, true, rfl, (fun _ h => h), he, X.ec, X.k2, (by show 3 ≤ sizeLine; decide), fun l hl => ?_⟩
      exact q l _ (sA.trans (same_new hl _)) upd_same
    · refine ⟨_, rfl, ea, _, _, _, dc, false, rfl, (fun _ h => h), he, X.er, X.k5, _, rfl, ea, _, _, _, dc, true, rfl, (fun _ h => h), he, X.er, kit_same, _, rfl, ea, _, _, _, dc, true, rfl, (fun _ h => h), he, X.er, X.k4, (by show 3 ≤ sizeLine; decide), fun l hl => ?_⟩
      exact q l _ (sA.trans (same_new hl _)) upd_same
  obtain ⟨t2, ht2, hq2⟩ := tail
  refine ⟨_, pss_cons (ps_set (i := 3) nd rfl (Or.inl rfl) pe_non) (pss_cons (ps_tryIf (j := 4) rfl rfl rfl rfl (pt_cmpR op_eq (pv 0) pe_int (nomark _)) D_worth (hr.mono (by decide)) rfl (pa_cons (pv 1) (pa_cons (pv 2) pa_nil)) D_worth_of_rows (hr.mono (by decide)) rfl (pa_cons (pv 1) (pa_cons (pv 2) pa_nil)) rfl M_SayError CC_SayError nd rfl rfl (fun _ => (pss_one (ps_set (i := 3) nd rfl (Or.inl rfl) (pv 4))))) ht2), ?_⟩
  refine ⟨_, rfl, rfl, _, rfl, ?_⟩
  rcases h with ⟨rfl, rfl, t, ob, hz⟩ | ⟨rfl, us, gs, o, el, al, fl, ne, few, rfl⟩
  · refine iteY rfl ⟨_, rfl, _, rfl, a, v, t, rfl, ob, hz, .inr ⟨od, fun dc H1 s1 => ⟨C_NoPoint, rfl, X.sub, fun ea hea => ?_⟩⟩⟩
    exact ⟨_, rfl, hq2 ea _ dc H1 s1 hea (.inl ⟨rfl, rfl⟩)⟩
  · refine iteN (fun z => by have := V.int.inj z; omega) ⟨_, rfl, _, rfl, a, v, us, gs, o, rfl, el, al, fl, ne, few, ?_⟩
    cases o with
    | none => exact .inr ⟨od, fun dc H1 s1 => ⟨C_NoPoint, rfl, X.sub, fun ea hea => ⟨_, rfl, hq2 ea _ dc H1 s1 hea (.inl ⟨rfl, rfl⟩)⟩⟩⟩
    | some k => exact fun dc H1 s1 => ⟨C_NoRows, rfl, X.sur, fun ea hea => ⟨_, rfl, hq2 ea _ dc H1 s1 hea (.inr ⟨rfl, rfl⟩)⟩⟩
end
end Mine




set_option Elab.async false
set_option linter.all false
set_option maxRecDepth 100000
set_option maxHeartbeats 4000000
namespace Mine
open PySem L2
/-! ### rows and the trees that they stand for -/
def GrT (ts : List Tr) : Gr → Tr → Prop
  | .ne, .never => True
  | .al, .always => True
  | .p, .lp => True
  | .q, .lq => True
  | .no i, .no t => ts[i]? = some t
  | .fold u i j, .fold v a b => u = v ∧ ts[i]? = some a ∧ ts[j]? = some b
  | _, _ => False
theorem at_more {α : Type} {ts e : List α} {i : Nat} {t : α} (h : ts[i]? = some t) : (ts ++ e)[i]? = some t := by
  rw [List.getElem?_append_left (List.getElem?_eq_some_iff.mp h).1]
  exact h
theorem GrT.more {ts e : List Tr} {g : Gr} {t : Tr} (h : GrT ts g t) : GrT (ts ++ e) g t := by
  cases g <;> cases t <;> first | exact h | exact at_more h | exact ⟨h.1, at_more h.2.1, at_more h.2.2⟩
theorem some_uniq {α : Type} {o : Option α} {a b : α} (h : o = some a) (k : o = some b) : a = b := by rw [h] at k; exact Option.some.inj k
theorem GrT.uniq {ts : List Tr} {g : Gr} {t t' : Tr} (h : GrT ts g t) (k : GrT ts g t') : t = t' := by
  cases g with
  | no i =>
    cases t <;> first | exact h.elim | skip
    cases t' <;> first | exact k.elim | skip
    exact congrArg Tr.no (some_uniq h k)
  | fold u i j =>
    cases t <;> first | exact h.elim | skip
    cases t' <;> first | exact k.elim | skip
    obtain ⟨rfl, h1, h2⟩ := h
    obtain ⟨rfl, k1, k2⟩ := k
    rw [some_uniq h1 k1, some_uniq h2 k2]
  | ne => cases t <;> first | exact h.elim | (cases t' <;> first | exact k.elim | rfl)
  | al => cases t <;> first | exact h.elim | (cases t' <;> first | exact k.elim | rfl)
  | p => cases t <;> first | exact h.elim | (cases t' <;> first | exact k.elim | rfl)
  | q => cases t <;> first | exact h.elim | (cases t' <;> first | exact k.elim | rfl)
theorem w5_inj {u v : W5} (h : u.str = v.str) : u = v := by
  cases u <;> cases v <;> first | rfl | exact absurd h (by decide +kernel)
theorem nums_inj : ∀ {a b : List Nat}, (a.map fun i : Nat => (Sum.inl (i : Int) : Key)) = b.map (fun i : Nat => (Sum.inl (i : Int) : Key)) → a = b
  | [], [], _ => rfl
  | [], _ :: _, h => nomatch h
  | _ :: _, [], h => nomatch h
  | x :: a, y :: b, h => by
    have e1 := (List.cons.inj h).1
    have e2 := nums_inj (List.cons.inj h).2
    have : (x : Int) = (y : Int) := Sum.inl.inj e1
    rw [e2, show x = y by omega]
theorem rw_inj {g k : Gr} (h : g.rw = k.rw) : g = k := by
  have e1 : g.word = k.word := Sum.inr.inj (List.cons.inj h).1
  have e2 : g.nums = k.nums := nums_inj (List.cons.inj h).2
  cases g with
  | no i =>
    cases k with
    | no j => rw [show i = j from (List.cons.inj e2).1]
    | fold u a b => exact absurd (congrArg List.length e2) (by show 1 ≠ 2; decide)
    | _ => exact nomatch e2
  | fold u a b =>
    cases k with
    | no j => exact absurd (congrArg List.length e2) (by show 2 ≠ 1; decide)
    | fold v c d =>
      have z := List.cons.inj e2
      rw [w5_inj e1, z.1, (List.cons.inj z.2).1]
    | _ => exact nomatch e2
  | ne => cases k <;> first | rfl | exact absurd e1 (by decide +kernel) | exact absurd (congrArg List.length e2) (by show 0 ≠ 1; decide) | exact absurd (congrArg List.length e2) (by show 0 ≠ 2; decide)
  | al => cases k <;> first | rfl | exact absurd e1 (by decide +kernel) | exact absurd (congrArg List.length e2) (by show 0 ≠ 1; decide) | exact absurd (congrArg List.length e2) (by show 0 ≠ 2; decide)
  | p => cases k <;> first | rfl | exact absurd e1 (by decide +kernel) | exact absurd (congrArg List.length e2) (by show 0 ≠ 1; decide) | exact absurd (congrArg List.length e2) (by show 0 ≠ 2; decide)
  | q => cases k <;> first | rfl | exact absurd e1 (by decide +kernel) | exact absurd (congrArg List.length e2) (by show 0 ≠ 1; decide) | exact absurd (congrArg List.length e2) (by show 0 ≠ 2; decide)
inductive Tab : List Gr → List Tr → Prop where
  | nil : Tab [] []
  | snoc {gs : List Gr} {ts : List Tr} {g : Gr} {t : Tr} : Tab gs ts → GrT ts g t → Tab (gs ++ [g]) (ts ++ [t])
theorem Tab.len {gs : List Gr} {ts : List Tr} (h : Tab gs ts) : gs.length = ts.length := by
  induction h with
  | nil => rfl
  | snoc _ _ ih => rw [List.length_append, List.length_append, ih]; rfl
theorem Tab.at {gs : List Gr} {ts : List Tr} (h : Tab gs ts) : ∀ {i : Nat} {g : Gr}, gs[i]? = some g → ∃ t, ts[i]? = some t ∧ GrT ts g t := by
  induction h with
  | nil => intro i g e; cases e
  | @snoc gs ts g0 t0 h0 r ih =>
    intro i g e
    by_cases z : i < gs.length
    · rw [List.getElem?_append_left z] at e
      obtain ⟨t, e1, e2⟩ := ih e
      exact ⟨t, at_more e1, e2.more⟩
    · have z0 : i = gs.length := by
        have := (List.getElem?_eq_some_iff.mp e).1
        rw [List.length_append] at this
        simp at this
        omega
      subst z0
      rw [List.getElem?_concat_length] at e
      cases e
      refine ⟨t0, ?_, r.more⟩
      rw [h0.len, List.getElem?_concat_length]
theorem Tab.push {gs : List Gr} {ts : List Tr} {g : Gr} {t : Tr} (h : Tab gs ts) (r : GrT ts g t) : ∃ gs' ts', (pushRow (gs.map Gr.rw) g.rw).1 = gs'.map Gr.rw ∧ Tab gs' ts' ∧ ts'[(pushRow (gs.map Gr.rw) g.rw).2]? = some t ∧ ((t ∈ ts ∧ ts' = ts) ∨ ts' = ts ++ [t]) := by
  unfold pushRow
  cases z : idx (gs.map Gr.rw) g.rw with
  | some i =>
    have e := idx_at z
    rw [List.getElem?_map] at e
    cases y : gs[i]? with
    | none => rw [y] at e; cases e
    | some k =>
      rw [y] at e
      have ek : k = g := rw_inj (Option.some.inj e)
      subst ek
      obtain ⟨t', e1, e2⟩ := h.at y
      have et := e2.uniq r
      subst et
      exact ⟨gs, ts, rfl, h, e1, .inl ⟨List.mem_of_getElem? e1, rfl⟩⟩
  | none =>
    refine ⟨gs ++ [g], ts ++ [t], by rw [List.map_append]; rfl, .snoc h r, ?_, .inr rfl⟩
    show (ts ++ [t])[(gs.map Gr.rw).length]? = some t
    rw [List.length_map, h.len, List.getElem?_concat_length]
/-- what a tree's rows stand for -/
theorem putR_tab : ∀ (t : Tr) {gs : List Gr} {ts : List Tr}, Tab gs ts → ∃ gs' e, (t.putR (gs.map Gr.rw)).1 = gs'.map Gr.rw ∧ Tab gs' (ts ++ e) ∧ (ts ++ e)[(t.putR (gs.map Gr.rw)).2]? = some t ∧ (∀ x ∈ e, x.size ≤ t.size) ∧ (t ∉ ts → ∃ e', e = e' ++ [t]) := by
  have leaf : ∀ (t : Tr) (g : Gr) {gs : List Gr} {ts : List Tr}, Tab gs ts → GrT ts g t → ∃ gs' e, (pushRow (gs.map Gr.rw) g.rw).1 = gs'.map Gr.rw ∧ Tab gs' (ts ++ e) ∧ (ts ++ e)[(pushRow (gs.map Gr.rw) g.rw).2]? = some t ∧ (∀ x ∈ e, x.size ≤ t.size) ∧ (t ∉ ts → ∃ e', e = e' ++ [t]) := by
    intro t g gs ts h r
    obtain ⟨gs', ts', e1, e2, e3, e4⟩ := h.push r
    rcases e4 with ⟨m, rfl⟩ | rfl
    · exact ⟨gs', [], e1, by rw [List.append_nil]; exact e2, by rw [List.append_nil]; exact e3, (fun _ z => by cases z), fun z => absurd m z⟩
    · exact ⟨gs', [t], e1, e2, e3, fun x z => by rw [List.mem_singleton.mp z]; exact Nat.le_refl _, fun _ => ⟨[], rfl⟩⟩
  intro t
  induction t with
  | never => intro gs ts h; exact leaf .never .ne h trivial
  | always => intro gs ts h; exact leaf .always .al h trivial
  | lp => intro gs ts h; exact leaf .lp .p h trivial
  | lq => intro gs ts h; exact leaf .lq .q h trivial
  | no t ih =>
    intro gs ts h
    obtain ⟨gs1, e, a1, a2, a3, a4, _⟩ := ih h
    obtain ⟨gs2, ts2, b1, b2, b3, b4⟩ := a2.push (g := .no (t.putR (gs.map Gr.rw)).2) (t := .no t) a3
    have key : (Tr.no t).putR (gs.map Gr.rw) = pushRow (gs1.map Gr.rw) (Gr.rw (.no (t.putR (gs.map Gr.rw)).2)) := by rw [← a1]; rfl
    rw [key]
    rcases b4 with ⟨m, rfl⟩ | rfl
    · refine ⟨gs2, e, b1, b2, b3, fun x z => Nat.le_trans (a4 x z) (Nat.le_succ _), fun z => ?_⟩
      rcases List.mem_append.mp m with m | m
      · exact absurd m z
      · exact absurd (a4 _ m) (by show ¬ t.size + 1 ≤ t.size; omega)
    · refine ⟨gs2, e ++ [.no t], b1, by rw [← List.append_assoc]; exact b2, by rw [← List.append_assoc]; exact b3, fun x z => ?_, fun _ => ⟨e, rfl⟩⟩
      rcases List.mem_append.mp z with z | z
      · exact Nat.le_trans (a4 x z) (Nat.le_succ _)
      · rw [List.mem_singleton.mp z]; exact Nat.le_refl _
  | fold u a b iha ihb =>
    intro gs ts h
    obtain ⟨gs1, e, a1, a2, a3, a4, _⟩ := iha h
    obtain ⟨gs2, f, c1, c2, c3, c4, _⟩ := ihb a2
    have a3' := at_more (e := f) a3
    obtain ⟨gs3, ts3, b1, b2, b3, b4⟩ := c2.push (g := .fold u (a.putR (gs.map Gr.rw)).2 (b.putR (gs1.map Gr.rw)).2) (t := .fold u a b) ⟨rfl, a3', c3⟩
    have key : (Tr.fold u a b).putR (gs.map Gr.rw) = pushRow (gs2.map Gr.rw) (Gr.rw (.fold u (a.putR (gs.map Gr.rw)).2 (b.putR (gs1.map Gr.rw)).2)) := by
      show pushRow (b.putR (a.putR (gs.map Gr.rw)).1).1 (rowK u.str [(a.putR (gs.map Gr.rw)).2, (b.putR (a.putR (gs.map Gr.rw)).1).2]) = _
      rw [a1, c1]
      rfl
    rw [key]
    have sz : ∀ x ∈ e ++ f, x.size ≤ a.size + b.size := fun x z => by
      rcases List.mem_append.mp z with z | z
      · exact Nat.le_trans (a4 x z) (Nat.le_add_right _ _)
      · exact Nat.le_trans (c4 x z) (Nat.le_add_left _ _)
    rw [List.append_assoc] at b4
    rcases b4 with ⟨m, rfl⟩ | rfl
    · refine ⟨gs3, e ++ f, b1, b2, b3, fun x z => Nat.le_trans (sz x z) (Nat.le_succ _), fun z => ?_⟩
      rcases List.mem_append.mp m with m | m
      · exact absurd m z
      · exact absurd (sz _ m) (by show ¬ a.size + b.size + 1 ≤ a.size + b.size; omega)
    · refine ⟨gs3, e ++ f ++ [.fold u a b], b1, by rw [← List.append_assoc]; exact b2, by rw [← List.append_assoc]; exact b3, fun x z => ?_, fun _ => ⟨e ++ f, rfl⟩⟩
      rcases List.mem_append.mp z with z | z
      · exact Nat.le_trans (sz x z) (Nat.le_succ _)
      · rw [List.mem_singleton.mp z]; exact Nat.le_refl _
theorem worthsG_snoc (n x y : Int) (g : Gr) : ∀ (a : List Gr) (ws : List Int), worthsG n x y (a ++ [g]) ws = worthsG n x y a ws ++ [g.worth n x y (worthsG n x y a ws)]
  | [], ws => rfl
  | b :: r, ws => worthsG_snoc n x y g r _
theorem getD_worth {n x y : Int} {ts : List Tr} {i : Nat} {t : Tr} (h : ts[i]? = some t) : (ts.map (Tr.worth n x y)).getD i 0 = t.worth n x y := by
  rw [List.getD_eq_getElem?_getD, List.getElem?_map, h]
  rfl
theorem GrT.worth {n x y : Int} {ts : List Tr} {g : Gr} {t : Tr} (h : GrT ts g t) : g.worth n x y (ts.map (Tr.worth n x y)) = t.worth n x y := by
  cases g with
  | no i =>
    cases t <;> first | exact h.elim | skip
    show n - (ts.map (Tr.worth n x y)).getD i 0 = _
    rw [getD_worth h]
    rfl
  | fold u i j =>
    cases t <;> first | exact h.elim | skip
    obtain ⟨rfl, h1, h2⟩ := h
    show u.worth n ((ts.map (Tr.worth n x y)).getD i 0) ((ts.map (Tr.worth n x y)).getD j 0) = _
    rw [getD_worth h1, getD_worth h2]
    rfl
  | ne => cases t <;> first | exact h.elim | rfl
  | al => cases t <;> first | exact h.elim | rfl
  | p => cases t <;> first | exact h.elim | rfl
  | q => cases t <;> first | exact h.elim | rfl
theorem Tab.worths {n x y : Int} {gs : List Gr} {ts : List Tr} (h : Tab gs ts) : worthsG n x y gs [] = ts.map (Tr.worth n x y) := by
  induction h with
  | nil => rfl
  | snoc _ r ih => rw [worthsG_snoc, ih, r.worth, List.map_append]; rfl
theorem GrT.ok {ts : List Tr} {g : Gr} {t : Tr} (h : GrT ts g t) : GrOk ts.length g := by
  intro k hk
  cases g with
  | no i =>
    cases t <;> first | exact h.elim | skip
    rw [show k = i by simpa [Gr.nums] using hk]
    exact (List.getElem?_eq_some_iff.mp h).1
  | fold u i j =>
    cases t <;> first | exact h.elim | skip
    obtain ⟨_, h1, h2⟩ := h
    have z : k = i ∨ k = j := by simpa [Gr.nums] using hk
    rcases z with rfl | rfl
    · exact (List.getElem?_eq_some_iff.mp h1).1
    · exact (List.getElem?_eq_some_iff.mp h2).1
  | ne => exact nomatch hk
  | al => exact nomatch hk
  | p => exact nomatch hk
  | q => exact nomatch hk
theorem Tab.ok {gs : List Gr} {ts : List Tr} (h : Tab gs ts) : GrsOk gs := by
  induction h with
  | nil => intro k g e; cases e
  | @snoc gs ts g0 t0 h0 r ih =>
    intro k g e
    by_cases z : k < gs.length
    · rw [List.getElem?_append_left z] at e
      exact ih k g e
    · have z0 : k = gs.length := by
        have := (List.getElem?_eq_some_iff.mp e).1
        rw [List.length_append] at this
        simp at this
        omega
      subst z0
      rw [List.getElem?_concat_length] at e
      cases e
      rw [h0.len]
      exact r.ok
/-- a tree's rows: rows that are right, the last one's worth is the tree's -/
theorem rows_gr (t : Tr) : ∃ gs, t.rows = gs.map Gr.rw ∧ GrsOk gs ∧ gs ≠ [] ∧ gs.length ≤ t.size ∧ ∀ n x y : Int, lastG n x y gs = t.worth n x y := by
  obtain ⟨gs, e, a1, a2, a3, a4, a5⟩ := putR_tab t (gs := []) (ts := []) .nil
  obtain ⟨e', rfl⟩ := a5 (fun z => nomatch z)
  have a1' : t.rows = gs.map Gr.rw := a1
  have hl := putR_len t []
  rw [show (t.putR []).1 = gs.map Gr.rw from a1, List.length_map] at hl
  refine ⟨gs, a1', a2.ok, fun z => ?_, by simpa using hl, fun n x y => ?_⟩
  · subst z
    have := a2.len
    simp at this
  · unfold lastG
    rw [a2.worths, List.nil_append, List.map_append, List.getLastD_eq_getLast?]
    simp
end Mine


set_option Elab.async false
set_option linter.all false
set_option maxRecDepth 100000
set_option maxHeartbeats 4000000
namespace Mine
open PySem L2
theorem sb_keep {H H' : Hp} {C : Addr} {us : List V} (e : H C = some (.lst us)) (s : SB (.ref C) H H') {d : Addr} {o : HO} (hd : H d = some o) (n : ∀ ys, o ≠ .lst ys) : H' d = some o := s d o hd fun z => by
  cases z
  rw [e] at hd
  cases hd
  exact n _ rfl
theorem TyOf.sb {K : PySem.W.Frag} {H H' : Hp} {v : V} {T : Value} {C : Addr} {us us' : List V} (h : TyOf K H v T) (e : H C = some (.lst us)) (e' : H' C = some (.lst us')) (s : SB (.ref C) H H') : TyOf K H' v T := by
  cases h with
  | non => exact .non
  | bl x => exact .bl x
  | int i => exact .int i
  | str x => exact .str x
  | flt x => exact .flt x
  | @lst d xs e0 =>
    by_cases z : d = C
    · subst z; exact .lst e'
    · exact .lst (s _ _ e0 fun y => z (V.ref.inj y))
  | frz e0 => exact .frz (sb_keep e s e0 fun _ z => by cases z)
  | tup e0 => exact .tup (sb_keep e s e0 fun _ z => by cases z)
  | dK e0 => exact .dK (sb_keep e s e0 fun _ z => by cases z)
  | dT e0 => exact .dT (sb_keep e s e0 fun _ z => by cases z)
  | ins e0 c1 c2 c3 c4 c5 => exact .ins (sb_keep e s e0 fun _ z => by cases z) c1 c2 c3 c4 c5
theorem Odd.sb {K : PySem.W.Frag} {H H' : Hp} {v : V} {C : Addr} {us us' : List V} (h : Odd K H v) (e : H C = some (.lst us)) (e' : H' C = some (.lst us')) (s : SB (.ref C) H H') : Odd K H' v := by
  cases h with
  | no t k => exact .no (TyOf.sb t e e' s) k
  | len e0 n => exact .len (sb_keep e s e0 fun _ z => by cases z) n
  | el e0 n a b => exact .el (sb_keep e s e0 fun _ z => by cases z) n (a.imp fun _ _ z => by obtain ⟨T, b1, t, k⟩ := z; exact ⟨T, b1, TyOf.sb t e e' s, k⟩) b
  | out e0 n => exact .out (sb_keep e s e0 fun _ z => by cases z) n
theorem GrV.to {H H' : Hp} (e : Kp H H') (v : V) (g : Gr) (h : GrV H v g) : GrV H' v g := RwV.to e _ _ h
theorem grs_of {H : Hp} : ∀ {us : List V} {gs : List Gr}, All2 (RwV H) us (gs.map Gr.rw) → All2 (GrV H) us gs
  | _, [], h => by cases h; exact .nil
  | _, g :: r, h => by cases h with | cons a b => exact .cons a (grs_of b)
theorem b3dat {K : PySem.W.Frag} {H : Hp} {l : Addr} {a b c : Bool} (e : H l = some (.lst [.bl a, .bl b, .bl c])) : DatX K H (.list [.bool a, .bool b, .bool c]) (.ref l) := .inr ⟨_, l, _, rfl, rfl, SqL.of e, ⟨_, _, rfl, rfl, _, _, rfl, rfl, _, _, rfl, rfl, rfl⟩⟩
theorem b3sh {a b c : Bool} : SeqAt.shaped (.list [.bool a, .bool b, .bool c]) = true := by cases a <;> cases b <;> cases c <;> decide +kernel
theorem b3eq {a b c : Bool} : PyData.eqv (.list [.bool a, .bool b, .bool c]) (.list [.bool a, .bool b, .bool c]) = true := by cases a <;> cases b <;> cases c <;> decide +kernel
theorem flt99 {gs : List Gr} (h : GrsOk gs) (k : gs.length ≤ 6) : Flt (gs ++ [.no 99]) (some gs.length) := by
  refine ⟨.no 99, List.getElem?_concat_length, ?_, fun i g hi e => h i g ?_⟩
  · cases z : (Gr.no 99).ahead gs.length with
    | false => rfl
    | true =>
      have := ahead_ok.mp z 99 (by simp [Gr.nums])
      omega
  · rw [List.getElem?_append_left hi] at e
    exact e
abbrev lawN7 : List Str := ["_law_script", "_law_cells", "_law_point_here", "_law_odd_here", "_law_tree", "_law_saying_here", "_law_rows", "_law_due"]
section
variable {P : Program} {w : World} {K : PySem.W.Frag} {mg : Str → Option Value} {base : Heap} {c : CCs}
theorem sc_law : FnScope lawN7 ["_law_script"] (defScope sLaw) := ⟨rfl, rfl, rfl, by decide +kernel, rfl, by decide +kernel, by decide +kernel⟩
theorem ok_law {CP CR : Addr} {f : Addr} {fd : FuncData} (F : Fun K "law" "law" sLaw f fd) (D_law_mixed : Def P w K mg base 1 "_law_mixed" ["_law_script", "_law_least"] (spMixed K)) (D_law_next : Def P w K mg base 1 "_law_next" ["_law_cells"] spNext)
    (D_law_point : Def P w K mg base 1 "_law_point" ["_law_cell", "_law_other"] spPoint) (D_law_odd : Def P w K mg base 1 "_law_odd" ["_law_point_here", "_law_cell"] (spOdd K)) (D_law_saying : Def P w K mg base 8 "_law_saying" ["_law_cells", "_law_room", "_law_two"] (spSaying 6)) (D_law_object : Def P w K mg base 9 "_law_object" ["_law_tree"] (spObj1 c 6))
    (D_rows_of : Def P w K mg base 3 "rows_of" ["saying"] (spRowsOf c)) (D_is_point : Def P w K mg base 2 "is_point" ["thing"] (spIsPtG K)) (D_law_refused : Def P w K mg base 7 "_law_refused" ["_law_ask", "_law_thing", "_law_point_here"] (spRef7 c K)) (D_law_worth : Def P w K mg base 8 "_law_worth" ["_law_tree", "_law_n", "_law_x", "_law_y"] (spWorth 6))
    (D_worth : DefD P w K mg base 4 "worth" ["saying", "point"] (spWorthD c K CP)) (D_worth_of_rows : DefD P w K mg base 6 "worth_of_rows" ["rows", "point"] (spWorthRD K CP CR)) : FnOk P w K mg base CX0 40 f fd ["_law_script"] (spLaw K) := by
  refine F.ok sc_law (fun vs H Q E h => ?_) (fun cdv A outer s H vs Q E hr h => ?_)
  · obtain ⟨a, ns, rfl, _⟩ := h
    rfl
  obtain ⟨a, ns, rfl, S, q⟩ := h
  have nd := sc_law.nd
  have hu := hr.units
  have tail : ∃ t, PSs (cxOf CX0 P w K mg base lawN7 "law" (defScope sLaw) f cdv A outer s H E).nox ((defBody sLaw).drop 9) t ∧ ∀ (o1 o3 : Option V) (p tr ob fl : Addr) (n x y : Int) (t0 : Tr) (gs : List Gr) (us : List V) (H9 : Hp), Pt H9 p n x y → Tu H9 tr t0 → t0.size ≤ 6 → Ob c H9 ob t0 → H9 fl = some (.lst us) → All2 (GrV H9) us gs → GrsOk gs → gs ≠ [] → gs.length ≤ 6 → lastG n x y gs = t0.worth n x y →
      t { nx := fun _ H' => Q .non H', rt := Q } [some (.ref a), o1, some (.ref p), o3, some (.ref tr), some (.ref ob), some (.ref fl), none] H9 := by
    refine ⟨_, (pss_cons (ps_set (i := 7) nd rfl (Or.inl rfl) (pe_def D_law_worth (hr.mono (by omega)) rfl (pa_cons (pv 4) (pa_cons (pe_ix ix_tup (pv 2) pe_int (fun _ _ => rfl)) (pa_cons (pe_ix ix_tup (pv 2) pe_int (fun _ _ => rfl)) (pa_cons (pe_ix ix_tup (pv 2) pe_int (fun _ _ => rfl)) pa_nil))))))
    (pss_one (ps_ret (pe_and (pe_cmpR op_eq (pe_defD D_worth (hr.mono (by omega)) rfl (pa_cons (pv 5) (pa_cons (pv 2) pa_nil))) (pv 7) (nomark _)) (pe_one (pe_cmpR op_eq (pe_defD D_worth_of_rows (hr.mono (by omega)) rfl (pa_cons (pv 6) (pa_cons (pv 2) pa_nil))) (pv 7) (nomark _))))))), ?_⟩
    intro o1 o3 p tr ob fl n x y t0 gs us H9 pt tu hz oo ef al gok gne gl gw
    refine ⟨_, rfl, _, rfl, _, _, _, _, rfl, rfl, SqT.of pt.1, rfl, _, rfl, _, _, _, _, rfl, rfl, SqT.of pt.1, rfl, _, rfl, _, _, _, _, rfl, rfl, SqT.of pt.1, rfl, tr, t0, n, x, y, rfl, tu, hz, fun H20 s20 => ?_⟩
    refine ⟨_, rfl, _, rfl, ob, .ref p, t0, rfl, oo.to (Kp.of s20), by omega, .inl ⟨p, n, x, y, rfl, pt.to s20, fun H21 s21 => ⟨_, rfl, rfl, _, rfl, iteY rfl ?_⟩⟩⟩
    have sB := s20.trans s21
    refine ⟨_, rfl, _, rfl, fl, .ref p, us, gs, none, rfl, sB _ _ ef, al.imp (GrV.to (Kp.of sB)), gok, gne, by omega, .inl ⟨p, n, x, y, rfl, pt.to sB, fun H22 s22 => ⟨_, rfl, rfl, ?_⟩⟩⟩
    rw [decide_eq_true (congrArg V.int gw)]
    exact q _
  obtain ⟨t9, ht9, hq9⟩ := tail
  have tail8 : ∃ t, PSs (cxOf CX0 P w K mg base lawN7 "law" (defScope sLaw) f cdv A outer s H E).nox ((defBody sLaw).drop 8) t ∧ ∀ (o1 : Option V) (v : V) (p tr ob fl : Addr) (n x y : Int) (t0 : Tr) (gs : List Gr) (us : List V) (H9 : Hp), Odd K H9 v → Pt H9 p n x y → Tu H9 tr t0 → t0.size ≤ 6 → Ob c H9 ob t0 → H9 fl = some (.lst us) → All2 (GrV H9) us gs → GrsOk gs → gs ≠ [] → gs.length ≤ 6 → lastG n x y gs = t0.worth n x y →
      t { nx := fun _ H' => Q .non H', rt := Q } [some (.ref a), o1, some (.ref p), some v, some (.ref tr), some (.ref ob), some (.ref fl), none] H9 := by
    refine ⟨_, pss_cons (ps_if (pt_cmpR (op_neD hu) (pe_def D_law_refused (hr.mono (by omega)) rfl (pa_cons pe_int (pa_cons (pe_op op_cat (pv 6) (pe_lst (pa_cons (pe_tup (pa_cons pe_str (pa_cons pe_int pa_nil))) pa_nil))) (pa_cons (pv 3) pa_nil)))) (pe_lst (pa_cons pe_bl (pa_cons pe_bl (pa_cons pe_bl pa_nil)))) (nomark _)) (pss_one (ps_ret pe_bl)) pss_nil) ht9, ?_⟩
    intro o1 v p tr ob fl n x y t0 gs us H9 od pt tu hz oo ef al gok gne gl gw
    refine ⟨_, rfl, (by show 2 ≤ sizeLine; decide), fun pn hpn => ⟨(by show 1 ≤ sizeLine; decide), fun lL hlL => ?_⟩⟩
    have sa := same_new hpn (.tup [V.str "not", .int 99])
    have sb := same_new hlL (.lst [V.ref pn])
    have sab := sa.trans sb
    have epn : upd (upd H9 pn (.tup [V.str "not", .int 99])) lL (.lst [V.ref pn]) pn = some (.tup [V.str "not", .int 99]) := sb _ _ upd_same
    have elL : upd (upd H9 pn (.tup [V.str "not", .int 99])) lL (.lst [V.ref pn]) lL = some (.lst [V.ref pn]) := upd_same
    generalize upd (upd H9 pn (.tup [V.str "not", .int 99])) lL (.lst [V.ref pn]) = HB at sab epn elL ⊢
    have lu := al.len
    refine ⟨fl, lL, _, _, rfl, rfl, sab _ _ ef, elL, (Nat.le_trans (show us.length + 1 ≤ 7 by omega) (by decide)), fun lC hlC => ?_⟩
    have sc := same_new hlC (.lst (us ++ [V.ref pn]))
    have elC : upd HB lC (.lst (us ++ [V.ref pn])) lC = some (.lst (us ++ [V.ref pn])) := upd_same
    have epC := sc _ _ epn
    have sC := sab.trans sc
    generalize upd HB lC (.lst (us ++ [V.ref pn])) = HC at sC elC epC ⊢
    have gv : GrV HC (.ref pn) (.no 99) := ⟨pn, rfl, epC⟩
    refine ⟨_, rfl, 1, lC, v, false, rfl, od.same sC, .inr ⟨rfl, us ++ [.ref pn], gs ++ [.no 99], some gs.length, elC, (al.imp (GrV.to (Kp.of sC))).app (.cons gv .nil), flt99 gok gl, by simp, by rw [List.length_append]; simp; omega, rfl⟩, fun l1 H12 s12 el1 => ?_⟩
    refine ⟨(by show 3 ≤ sizeLine; decide), fun l2 hl2 => ?_⟩
    have s13 := same_new hl2 (.lst [V.bl false, .bl true, .bl true])
    refine ⟨_, _, b3dat (s13 _ _ el1), b3dat upd_same, b3sh, b3sh, _, rfl, ?_⟩
    rw [show PyData.eqv (.list [.bool false, .bool (!false), .bool true]) (.list [.bool false, .bool true, .bool true]) = true from b3eq]
    have sA := (sC.trans s12).trans s13
    exact iteF (hq9 _ _ p tr ob fl n x y t0 gs us _ (pt.to sA) (tu.to (Kp.of sA)) hz (oo.to (Kp.of sA)) (sA _ _ ef) (al.imp (GrV.to (Kp.of sA))) gok gne gl gw)
  obtain ⟨t8, ht8, hq8⟩ := tail8
  have tail6 : ∃ t, PSs (cxOf CX0 P w K mg base lawN7 "law" (defScope sLaw) f cdv A outer s H E).nox ((defBody sLaw).drop 6) t ∧ ∀ (o1 : Option V) (v : V) (p tr ob fl : Addr) (n x y : Int) (t0 : Tr) (gs : List Gr) (us : List V) (H9 : Hp), Odd K H9 v → Pt H9 p n x y → Tu H9 tr t0 → t0.size ≤ 6 → Ob c H9 ob t0 → H9 fl = some (.lst us) → All2 (GrV H9) us gs → GrsOk gs → gs ≠ [] → gs.length ≤ 6 → lastG n x y gs = t0.worth n x y →
      t { nx := fun _ H' => Q .non H', rt := Q } [some (.ref a), o1, some (.ref p), some v, some (.ref tr), some (.ref ob), some (.ref fl), none] H9 := by
    refine ⟨_, pss_cons (ps_if (PW.pt (pw_or (pt_cmpR op_notB (pe_def D_is_point (hr.mono (by decide)) rfl (pa_cons (pv 2) pa_nil)) pe_bl (nomark _)) (pw_or1 (pt_cmpR op_notB (pe_def D_is_point (hr.mono (by decide)) rfl (pa_cons (pv 3) pa_nil)) pe_bl (nomark _))))) (pss_one (ps_ret pe_bl)) pss_nil) (pss_cons (ps_if (PW.pt (pw_or (pt_cmpR (op_neD hu) (pe_def D_law_refused (hr.mono (by omega)) rfl (pa_cons pe_int (pa_cons (pv 5) (pa_cons (pv 3) pa_nil)))) (pe_lst (pa_cons pe_bl (pa_cons pe_bl (pa_cons pe_bl pa_nil)))) (nomark _)) (pw_or1 (pt_cmpR (op_neD hu) (pe_def D_law_refused (hr.mono (by omega)) rfl (pa_cons pe_int (pa_cons (pv 6) (pa_cons (pv 3) pa_nil)))) (pe_lst (pa_cons pe_bl (pa_cons pe_bl (pa_cons pe_bl pa_nil)))) (nomark _))))) (pss_one (ps_ret pe_bl)) pss_nil) ht8), ?_⟩
    intro o1 v p tr ob fl n x y t0 gs us H9 od pt tu hz oo ef al gok gne gl gw
    refine ⟨_, rfl, _, rfl, .inl ⟨p, n, x, y, rfl, pt, fun H10 s10 => ⟨_, _, rfl, rfl, _, rfl, iteF ?_⟩⟩⟩
    refine ⟨_, rfl, _, rfl, .inr ⟨od.same s10, fun H11 s11 => ⟨_, _, rfl, rfl, _, rfl, iteF ?_⟩⟩⟩
    have sA := s10.trans s11
    refine ⟨_, rfl, _, rfl, 0, ob, v, true, rfl, od.same sA, .inl ⟨rfl, rfl, t0, oo.to (Kp.of sA), by omega⟩, fun l1 H12 s12 el1 => ?_⟩
    refine ⟨(by show 3 ≤ sizeLine; decide), fun l2 hl2 => ?_⟩
    have s13 := same_new hl2 (.lst [V.bl true, .bl false, .bl true])
    refine ⟨_, _, b3dat (s13 _ _ el1), b3dat upd_same, b3sh, b3sh, _, rfl, ?_⟩
    rw [show PyData.eqv (.list [.bool true, .bool (!true), .bool true]) (.list [.bool true, .bool false, .bool true]) = true from b3eq]
    have sB := (sA.trans s12).trans s13
    generalize upd H12 l2 (.lst [V.bl true, .bl false, .bl true]) = H13 at s13 sB ⊢
    refine iteF ?_
    refine ⟨_, rfl, _, rfl, 1, fl, v, true, rfl, od.same sB, .inr ⟨rfl, us, gs, none, sB _ _ ef, al.imp (GrV.to (Kp.of sB)), gok, gne, by omega, rfl⟩, fun l3 H14 s14 el3 => ?_⟩
    refine ⟨(by show 3 ≤ sizeLine; decide), fun l4 hl4 => ?_⟩
    have s15 := same_new hl4 (.lst [V.bl true, .bl false, .bl true])
    refine ⟨_, _, b3dat (s15 _ _ el3), b3dat upd_same, b3sh, b3sh, _, rfl, ?_⟩
    rw [show PyData.eqv (.list [.bool true, .bool (!true), .bool true]) (.list [.bool true, .bool false, .bool true]) = true from b3eq]
    have sC := (sB.trans s14).trans s15
    exact iteF (hq8 _ v p tr ob fl n x y t0 gs us _ (od.same sC) (pt.to sC) (tu.to (Kp.of sC)) hz (oo.to (Kp.of sC)) (sC _ _ ef) (al.imp (GrV.to (Kp.of sC))) gok gne gl gw)
  obtain ⟨t6, ht6, hq6⟩ := tail6
  refine ⟨_, pss_cons (ps_set (i := 1) nd rfl (Or.inl rfl) (pe_def D_law_mixed (hr.mono (by omega)) rfl (pa_cons (pv 0) (pa_cons pe_int pa_nil)))) (pss_cons (ps_set (i := 2) nd rfl (Or.inl rfl) (pe_def D_law_point (hr.mono (by omega)) rfl (pa_cons (pe_def D_law_next (hr.mono (by omega)) rfl (pa_cons (pv 1) pa_nil)) (pa_cons (pe_def D_law_next (hr.mono (by omega)) rfl (pa_cons (pv 1) pa_nil)) pa_nil)))) (pss_cons (ps_set (i := 3) nd rfl (Or.inl rfl) (pe_def D_law_odd (hr.mono (by omega)) rfl (pa_cons (pv 2) (pa_cons (pe_def D_law_next (hr.mono (by omega)) rfl (pa_cons (pv 1) pa_nil)) pa_nil)))) (pss_cons (ps_set (i := 4) nd rfl (Or.inl rfl) (pe_def D_law_saying (hr.mono (by omega)) rfl (pa_cons (pv 1) (pa_cons pe_int (pa_cons pe_bl pa_nil))))) (pss_cons (ps_set (i := 5) nd rfl (Or.inl rfl) (pe_def D_law_object (hr.mono (by omega)) rfl (pa_cons (pv 4) pa_nil))) (pss_cons (ps_set (i := 6) nd rfl (Or.inl rfl) (pe_def D_rows_of (hr.mono (by omega)) rfl (pa_cons (pv 5) pa_nil))) ht6))))), ?_⟩
  refine ⟨_, rfl, a, ns, 20, rfl, S, by decide, by decide, fun C ms H1 s1 hC e1 hc1 => ?_⟩
  refine ⟨_, rfl, C, ms, rfl, e1, hc1, fun i ms2 H2 ci hc2 sb2 e2 => ?_⟩
  refine ⟨_, rfl, C, ms2, rfl, e2, hc2, fun j ms3 H3 cj hc3 sb3 e3 => ?_⟩
  refine ⟨i, j, rfl, ci, cj, fun n x y p H4 g1 gn g2 g3 g4 g5 s4 ep => ?_⟩
  refine ⟨_, rfl, _, rfl, C, ms3, rfl, s4 _ _ e3, hc3, fun k ms5 H5 ck hc5 sb5 e5 => ?_⟩
  have ep5 := sb_keep (s4 _ _ e3) sb5 ep fun _ z => by cases z
  refine ⟨p, k, n, x, y, rfl, ⟨ep5, g1, g2, g3, g4, g5⟩, gn, fun v H6 s6 od6 => ?_⟩
  refine ⟨_, rfl, C, ms5, 6, true, rfl, s6 _ _ e5, hc5, by decide, by decide, fun tr t0 ms7 H7 hz hc7 sb7 e7 u0 => ?_⟩
  have od7 := od6.sb (s6 _ _ e5) e7 sb7
  have ep7 := sb_keep (s6 _ _ e5) sb7 (s6 _ _ ep5) fun _ z => by cases z
  have hz0 : t0.size ≤ 6 := by omega
  refine ⟨_, rfl, tr, t0, rfl, u0, hz0, fun ob H8 s8 oo => ?_⟩
  refine ⟨_, rfl, ob, t0, rfl, oo, by omega, fun fl us H9 s9 hfl ef rv => ?_⟩
  obtain ⟨gs, hgs, gok, gne, gl, gw⟩ := rows_gr t0
  rw [hgs] at rv
  have s79 := s8.trans s9
  exact hq6 _ v p tr ob fl n x y t0 gs us H9 (od7.same s79) ⟨s79 _ _ ep7, g1, g2, g3, g4, g5⟩ (u0.to (Kp.of s79)) hz0 (oo.to (Kp.of s9)) ef (grs_of rv) gok gne (by omega) (gw n x y)
end
end Mine




set_option Elab.async false
set_option linter.all false
set_option maxRecDepth 100000
set_option maxHeartbeats 4000000
namespace Mine
open PySem L2
section
variable {P : Program} {w : World} {K : PySem.W.Frag} {mg : Str → Option Value} {base : Heap}
theorem sc_NoRows_init : FnScope ["self", "at"] ["self", "at"] (defScope s_NoRows_init) := ⟨rfl, rfl, rfl, by decide +kernel, rfl, by decide +kernel, by decide +kernel⟩
theorem ok_init {fI C : Addr} {fd : FuncData} (F : Fun K "__init__" "NoRows.__init__" s_NoRows_init fI fd) (c : XFld K C) (n1 : NoAttr K C "at") : FnOk P w K mg base CX0 1 fI fd ["self", "at"] (L2.spInit1 C "at") := by
  refine F.ok sc_NoRows_init (fun vs H Q E h => ?_) (fun cdv Ar outer s H vs Q E hr h => ?_)
  · obtain ⟨a, y, rfl, _⟩ := h
    rfl
  obtain ⟨a, y, rfl, ea, q⟩ := h
  have nd := sc_NoRows_init.nd
  refine ⟨_, (pss_one (ps_fldX (pv 0) (pv 1) rfl)), ?_⟩
  refine ⟨_, rfl, _, rfl, a, C, rfl, c, n1, .inl ⟨ea, fun d hd => ?_⟩⟩
  have ne : d ≠ a := fun z => by rw [z, ea] at hd; cases hd
  refine q d _ ⟨hd, ne, ?_, upd_same, fun b h1 h2 => ?_⟩
  · rw [upd_ne (Ne.symm ne), upd_same]
  · rw [upd_ne h2, upd_ne h1]
end
end Mine

namespace L2
open PySem PySem.Spec PyProof.Rows
structure FunM (K : PySem.W.Frag) (x qual : Str) (st : Stmt) (f : Addr) : Prop where
  ex : ∃ fd : FuncData, Fun K x qual st f fd
  fn : PySem.W.isFn K (.ref f) = true
theorem funM_mk {K : PySem.W.Frag} {x qual : Str} {st : Stmt} {f : Addr} {oc kV doc pm cdv ct : Value} {od an : Option Addr} {osl : Array (Option Value)} (l : K.lookup f = some ⟨oc, od, .func (PySem.W.fnOf x qual (defArgs st) (defBody st) (defScope st) .none kV doc pm an cdv ct), osl⟩)
    (c : PySem.W.codeIn K cdv qual = true) (k : PySem.W.keepIn K (.ref f) = true) (fn : PySem.W.isFn K (.ref f) = true) : FunM K x qual st f := ⟨⟨_, fun_mk l c k⟩, fn⟩
theorem FunM.meth {K : PySem.W.Frag} {x qual : Str} {st : Stmt} {f C : Addr} (e : FunM K x qual st f) (cl : Cls K C) (g : PySem.W.findIn K (.ref C) x = some (some (.ref f))) : MethF K C x qual st := by
  obtain ⟨fd, F⟩ := e.ex
  exact ⟨cl, f, fd, ⟨g, e.fn, F.kp⟩, F⟩
theorem FunM.made {K : PySem.W.Frag} {mg : Str → Option Value} {x qual : Str} {st : Stmt} {f C : Addr} (e : FunM K "__init__" qual st f) (cl : Cls K C) (g : PySem.W.findIn K (.ref C) "__init__" = some (some (.ref f))) (m : mg x = some (.ref C)) (y : PySem.W.makesIn K C = true) (z : PySem.W.keepIn K (.ref C) = true) : MkF K mg x C qual st := by
  obtain ⟨fd, F⟩ := e.ex
  exact ⟨cl, m, f, fd, ⟨y, g, e.fn, z⟩, F⟩
end L2
open PySem PySem.W PyProof.Rows

structure Mine.AllF (K : Frag) (mg : Str → Option Value) (c : Mine.CCs) : Prop where
  fx : Mine.Fx K c
  madeS_ne : L2.MethF K c.ne "made_of" "Saying.made_of" Mine.s_Saying_made_of
  madeS_al : L2.MethF K c.al "made_of" "Saying.made_of" Mine.s_Saying_made_of
  madeS_le : L2.MethF K c.le "made_of" "Saying.made_of" Mine.s_Saying_made_of
  laid : ∀ t, L2.MethF K (c.of t) "laid_out" "Saying.laid_out" Mine.s_Saying_laid_out
  out : ∀ t, L2.MethF K (c.of t) "out_of" "Saying.out_of" Mine.s_Saying_out_of
  Kne_ne : L2.MethF K c.ne "making_word" "Never.making_word" Mine.s_Never_making_word
  Wne_ne : L2.MethF K c.ne "weigh" "Never.weigh" Mine.s_Never_weigh
  Kal_al : L2.MethF K c.al "making_word" "Always.making_word" Mine.s_Always_making_word
  Wal_al : L2.MethF K c.al "weigh" "Always.weigh" Mine.s_Always_weigh
  Kle_le : L2.MethF K c.le "making_word" "Letter.making_word" Mine.s_Letter_making_word
  Wle_le : L2.MethF K c.le "weigh" "Letter.weigh" Mine.s_Letter_weigh
  Kno_no : L2.MethF K c.no "making_word" "Not.making_word" Mine.s_Not_making_word
  Wno_no : L2.MethF K c.no "weigh" "Not.weigh" Mine.s_Not_weigh
  Mno_no : L2.MethF K c.no "made_of" "Not.made_of" Mine.s_Not_made_of
  Mfo : ∀ u, L2.MethF K (c.fold u) "made_of" "Fold.made_of" Mine.s_Fold_made_of
  Wfo : ∀ u, L2.MethF K (c.fold u) "weigh" "Fold.weigh" Mine.s_Fold_weigh
  F0mo_mo : L2.MethF K c.mo "making_word" "More.making_word" Mine.s_More_making_word
  F1mo_mo : L2.MethF K c.mo "folded" "More.folded" Mine.s_More_folded
  F0ls_ls : L2.MethF K c.ls "making_word" "Less.making_word" Mine.s_Less_making_word
  F1ls_ls : L2.MethF K c.ls "folded" "Less.folded" Mine.s_Less_folded
  F0gr_gr : L2.MethF K c.gr "making_word" "Greater.making_word" Mine.s_Greater_making_word
  F1gr_gr : L2.MethF K c.gr "folded" "Greater.folded" Mine.s_Greater_folded
  F0lr_lr : L2.MethF K c.lr "making_word" "Lesser.making_word" Mine.s_Lesser_making_word
  F1lr_lr : L2.MethF K c.lr "folded" "Lesser.folded" Mine.s_Lesser_folded
  F0ld_ld : L2.MethF K c.ld "making_word" "Leads.making_word" Mine.s_Leads_making_word
  F1ld_ld : L2.MethF K c.ld "folded" "Leads.folded" Mine.s_Leads_folded
  ile : L2.MkF K mg "Letter" c.le "Letter.__init__" Mine.s_Letter_init
  ino : L2.MkF K mg "Not" c.no "Not.__init__" Mine.s_Not_init
  ifo : ∀ u, L2.MkF K mg (Mine.W5.cls u) (c.fold u) "Fold.__init__" Mine.s_Fold_init
  o_ne : L2.Mk0 K c.ne
  r_ne : mg "Never" = some (.ref c.ne)
  o_al : L2.Mk0 K c.al
  r_al : mg "Always" = some (.ref c.al)
theorem Mine.all_mk {K : Frag} {h : Heap} {mg : Str → Option Value} {ne al le no mo ls gr lr ld f_madeS f_laid f_out f_Kne f_Wne f_Kal f_Wal f_Kle f_Wle f_Kno f_Wno f_Mno f_Mfo f_Wfo f_F0mo f_F1mo f_F0ls f_F1ls f_F0gr f_F1gr f_F0lr f_F1lr f_F0ld f_F1ld f_ile f_ino f_ifo : Addr} (X : K.In h) (G : h.Ns mainGlobals mg)
    (n_ne : nsIn K mainGlobals "Never" = some (some (.ref ne)))
    (n_al : nsIn K mainGlobals "Always" = some (some (.ref al)))
    (n_le : nsIn K mainGlobals "Letter" = some (some (.ref le)))
    (n_no : nsIn K mainGlobals "Not" = some (some (.ref no)))
    (n_mo : nsIn K mainGlobals "More" = some (some (.ref mo)))
    (n_ls : nsIn K mainGlobals "Less" = some (some (.ref ls)))
    (n_gr : nsIn K mainGlobals "Greater" = some (some (.ref gr)))
    (n_lr : nsIn K mainGlobals "Lesser" = some (some (.ref lr)))
    (n_ld : nsIn K mainGlobals "Leads" = some (some (.ref ld)))
    (c_ne : L2.Cls K ne)
    (c_al : L2.Cls K al)
    (c_le : L2.Cls K le)
    (c_no : L2.Cls K no)
    (c_mo : L2.Cls K mo)
    (c_ls : L2.Cls K ls)
    (c_gr : L2.Cls K gr)
    (c_lr : L2.Cls K lr)
    (c_ld : L2.Cls K ld)
    (h_ne : findIn K (.ref ne) "__class__" = some (some (.builtin "object.__class__")))
    (h_al : findIn K (.ref al) "__class__" = some (some (.builtin "object.__class__")))
    (h_le : findIn K (.ref le) "__class__" = some (some (.builtin "object.__class__")))
    (h_no : findIn K (.ref no) "__class__" = some (some (.builtin "object.__class__")))
    (h_mo : findIn K (.ref mo) "__class__" = some (some (.builtin "object.__class__")))
    (h_ls : findIn K (.ref ls) "__class__" = some (some (.builtin "object.__class__")))
    (h_gr : findIn K (.ref gr) "__class__" = some (some (.builtin "object.__class__")))
    (h_lr : findIn K (.ref lr) "__class__" = some (some (.builtin "object.__class__")))
    (h_ld : findIn K (.ref ld) "__class__" = some (some (.builtin "object.__class__")))
    (m_ne : mroIn K ne (.type "object") = some true)
    (m_al : mroIn K al (.type "object") = some true)
    (m_le : mroIn K le (.type "object") = some true)
    (m_no : mroIn K no (.type "object") = some true)
    (m_mo : mroIn K mo (.type "object") = some true)
    (m_ls : mroIn K ls (.type "object") = some true)
    (m_gr : mroIn K gr (.type "object") = some true)
    (m_lr : mroIn K lr (.type "object") = some true)
    (m_ld : mroIn K ld (.type "object") = some true)
    (s_ne : kitOne K (.ref ne) (.type "str") = some false)
    (s_al : kitOne K (.ref al) (.type "str") = some false)
    (s_le : kitOne K (.ref le) (.type "str") = some false)
    (s_no : kitOne K (.ref no) (.type "str") = some false)
    (s_mo : kitOne K (.ref mo) (.type "str") = some false)
    (s_ls : kitOne K (.ref ls) (.type "str") = some false)
    (s_gr : kitOne K (.ref gr) (.type "str") = some false)
    (s_lr : kitOne K (.ref lr) (.type "str") = some false)
    (s_ld : kitOne K (.ref ld) (.type "str") = some false)
    (hn : specialIn K (.builtin "object.__class__") "__get__" = some (some (.builtin "getset_descriptor.__get__")))
    (tk : takesIn K (.builtin "object.__class__") = some true)
    (a_name : findIn K (.ref le) "name" = some none)
    (a_part : findIn K (.ref no) "part" = some none)
    (a_one_mo : findIn K (.ref mo) "one" = some none)
    (a_one_ls : findIn K (.ref ls) "one" = some none)
    (a_one_gr : findIn K (.ref gr) "one" = some none)
    (a_one_lr : findIn K (.ref lr) "one" = some none)
    (a_one_ld : findIn K (.ref ld) "one" = some none)
    (a_other_mo : findIn K (.ref mo) "other" = some none)
    (a_other_ls : findIn K (.ref ls) "other" = some none)
    (a_other_gr : findIn K (.ref gr) "other" = some none)
    (a_other_lr : findIn K (.ref lr) "other" = some none)
    (a_other_ld : findIn K (.ref ld) "other" = some none)
    (g_madeS_ne : findIn K (.ref ne) "made_of" = some (some (.ref f_madeS)))
    (g_madeS_al : findIn K (.ref al) "made_of" = some (some (.ref f_madeS)))
    (g_madeS_le : findIn K (.ref le) "made_of" = some (some (.ref f_madeS)))
    (e_madeS : L2.FunM K "made_of" "Saying.made_of" Mine.s_Saying_made_of f_madeS)
    (g_laid_ne : findIn K (.ref ne) "laid_out" = some (some (.ref f_laid)))
    (g_laid_al : findIn K (.ref al) "laid_out" = some (some (.ref f_laid)))
    (g_laid_le : findIn K (.ref le) "laid_out" = some (some (.ref f_laid)))
    (g_laid_no : findIn K (.ref no) "laid_out" = some (some (.ref f_laid)))
    (g_laid_mo : findIn K (.ref mo) "laid_out" = some (some (.ref f_laid)))
    (g_laid_ls : findIn K (.ref ls) "laid_out" = some (some (.ref f_laid)))
    (g_laid_gr : findIn K (.ref gr) "laid_out" = some (some (.ref f_laid)))
    (g_laid_lr : findIn K (.ref lr) "laid_out" = some (some (.ref f_laid)))
    (g_laid_ld : findIn K (.ref ld) "laid_out" = some (some (.ref f_laid)))
    (e_laid : L2.FunM K "laid_out" "Saying.laid_out" Mine.s_Saying_laid_out f_laid)
    (g_out_ne : findIn K (.ref ne) "out_of" = some (some (.ref f_out)))
    (g_out_al : findIn K (.ref al) "out_of" = some (some (.ref f_out)))
    (g_out_le : findIn K (.ref le) "out_of" = some (some (.ref f_out)))
    (g_out_no : findIn K (.ref no) "out_of" = some (some (.ref f_out)))
    (g_out_mo : findIn K (.ref mo) "out_of" = some (some (.ref f_out)))
    (g_out_ls : findIn K (.ref ls) "out_of" = some (some (.ref f_out)))
    (g_out_gr : findIn K (.ref gr) "out_of" = some (some (.ref f_out)))
    (g_out_lr : findIn K (.ref lr) "out_of" = some (some (.ref f_out)))
    (g_out_ld : findIn K (.ref ld) "out_of" = some (some (.ref f_out)))
    (e_out : L2.FunM K "out_of" "Saying.out_of" Mine.s_Saying_out_of f_out)
    (g_Kne_ne : findIn K (.ref ne) "making_word" = some (some (.ref f_Kne)))
    (e_Kne : L2.FunM K "making_word" "Never.making_word" Mine.s_Never_making_word f_Kne)
    (g_Wne_ne : findIn K (.ref ne) "weigh" = some (some (.ref f_Wne)))
    (e_Wne : L2.FunM K "weigh" "Never.weigh" Mine.s_Never_weigh f_Wne)
    (g_Kal_al : findIn K (.ref al) "making_word" = some (some (.ref f_Kal)))
    (e_Kal : L2.FunM K "making_word" "Always.making_word" Mine.s_Always_making_word f_Kal)
    (g_Wal_al : findIn K (.ref al) "weigh" = some (some (.ref f_Wal)))
    (e_Wal : L2.FunM K "weigh" "Always.weigh" Mine.s_Always_weigh f_Wal)
    (g_Kle_le : findIn K (.ref le) "making_word" = some (some (.ref f_Kle)))
    (e_Kle : L2.FunM K "making_word" "Letter.making_word" Mine.s_Letter_making_word f_Kle)
    (g_Wle_le : findIn K (.ref le) "weigh" = some (some (.ref f_Wle)))
    (e_Wle : L2.FunM K "weigh" "Letter.weigh" Mine.s_Letter_weigh f_Wle)
    (g_Kno_no : findIn K (.ref no) "making_word" = some (some (.ref f_Kno)))
    (e_Kno : L2.FunM K "making_word" "Not.making_word" Mine.s_Not_making_word f_Kno)
    (g_Wno_no : findIn K (.ref no) "weigh" = some (some (.ref f_Wno)))
    (e_Wno : L2.FunM K "weigh" "Not.weigh" Mine.s_Not_weigh f_Wno)
    (g_Mno_no : findIn K (.ref no) "made_of" = some (some (.ref f_Mno)))
    (e_Mno : L2.FunM K "made_of" "Not.made_of" Mine.s_Not_made_of f_Mno)
    (g_Mfo_mo : findIn K (.ref mo) "made_of" = some (some (.ref f_Mfo)))
    (g_Mfo_ls : findIn K (.ref ls) "made_of" = some (some (.ref f_Mfo)))
    (g_Mfo_gr : findIn K (.ref gr) "made_of" = some (some (.ref f_Mfo)))
    (g_Mfo_lr : findIn K (.ref lr) "made_of" = some (some (.ref f_Mfo)))
    (g_Mfo_ld : findIn K (.ref ld) "made_of" = some (some (.ref f_Mfo)))
    (e_Mfo : L2.FunM K "made_of" "Fold.made_of" Mine.s_Fold_made_of f_Mfo)
    (g_Wfo_mo : findIn K (.ref mo) "weigh" = some (some (.ref f_Wfo)))
    (g_Wfo_ls : findIn K (.ref ls) "weigh" = some (some (.ref f_Wfo)))
    (g_Wfo_gr : findIn K (.ref gr) "weigh" = some (some (.ref f_Wfo)))
    (g_Wfo_lr : findIn K (.ref lr) "weigh" = some (some (.ref f_Wfo)))
    (g_Wfo_ld : findIn K (.ref ld) "weigh" = some (some (.ref f_Wfo)))
    (e_Wfo : L2.FunM K "weigh" "Fold.weigh" Mine.s_Fold_weigh f_Wfo)
    (g_F0mo_mo : findIn K (.ref mo) "making_word" = some (some (.ref f_F0mo)))
    (e_F0mo : L2.FunM K "making_word" "More.making_word" Mine.s_More_making_word f_F0mo)
    (g_F1mo_mo : findIn K (.ref mo) "folded" = some (some (.ref f_F1mo)))
    (e_F1mo : L2.FunM K "folded" "More.folded" Mine.s_More_folded f_F1mo)
    (g_F0ls_ls : findIn K (.ref ls) "making_word" = some (some (.ref f_F0ls)))
    (e_F0ls : L2.FunM K "making_word" "Less.making_word" Mine.s_Less_making_word f_F0ls)
    (g_F1ls_ls : findIn K (.ref ls) "folded" = some (some (.ref f_F1ls)))
    (e_F1ls : L2.FunM K "folded" "Less.folded" Mine.s_Less_folded f_F1ls)
    (g_F0gr_gr : findIn K (.ref gr) "making_word" = some (some (.ref f_F0gr)))
    (e_F0gr : L2.FunM K "making_word" "Greater.making_word" Mine.s_Greater_making_word f_F0gr)
    (g_F1gr_gr : findIn K (.ref gr) "folded" = some (some (.ref f_F1gr)))
    (e_F1gr : L2.FunM K "folded" "Greater.folded" Mine.s_Greater_folded f_F1gr)
    (g_F0lr_lr : findIn K (.ref lr) "making_word" = some (some (.ref f_F0lr)))
    (e_F0lr : L2.FunM K "making_word" "Lesser.making_word" Mine.s_Lesser_making_word f_F0lr)
    (g_F1lr_lr : findIn K (.ref lr) "folded" = some (some (.ref f_F1lr)))
    (e_F1lr : L2.FunM K "folded" "Lesser.folded" Mine.s_Lesser_folded f_F1lr)
    (g_F0ld_ld : findIn K (.ref ld) "making_word" = some (some (.ref f_F0ld)))
    (e_F0ld : L2.FunM K "making_word" "Leads.making_word" Mine.s_Leads_making_word f_F0ld)
    (g_F1ld_ld : findIn K (.ref ld) "folded" = some (some (.ref f_F1ld)))
    (e_F1ld : L2.FunM K "folded" "Leads.folded" Mine.s_Leads_folded f_F1ld)
    (g_ile_le : findIn K (.ref le) "__init__" = some (some (.ref f_ile)))
    (e_ile : L2.FunM K "__init__" "Letter.__init__" Mine.s_Letter_init f_ile)
    (g_ino_no : findIn K (.ref no) "__init__" = some (some (.ref f_ino)))
    (e_ino : L2.FunM K "__init__" "Not.__init__" Mine.s_Not_init f_ino)
    (g_ifo_mo : findIn K (.ref mo) "__init__" = some (some (.ref f_ifo)))
    (g_ifo_ls : findIn K (.ref ls) "__init__" = some (some (.ref f_ifo)))
    (g_ifo_gr : findIn K (.ref gr) "__init__" = some (some (.ref f_ifo)))
    (g_ifo_lr : findIn K (.ref lr) "__init__" = some (some (.ref f_ifo)))
    (g_ifo_ld : findIn K (.ref ld) "__init__" = some (some (.ref f_ifo)))
    (e_ifo : L2.FunM K "__init__" "Fold.__init__" Mine.s_Fold_init f_ifo)
    (i_ne : findIn K (.ref ne) "__init__" = some (some (.builtin "object.__init__")))
    (i_al : findIn K (.ref al) "__init__" = some (some (.builtin "object.__init__")))
    (y_ne : makesIn K ne = true)
    (y_al : makesIn K al = true)
    (y_le : makesIn K le = true)
    (y_no : makesIn K no = true)
    (y_mo : makesIn K mo = true)
    (y_ls : makesIn K ls = true)
    (y_gr : makesIn K gr = true)
    (y_lr : makesIn K lr = true)
    (y_ld : makesIn K ld = true)
    (z_ne : keepIn K (.ref ne) = true)
    (z_al : keepIn K (.ref al) = true)
    (z_le : keepIn K (.ref le) = true)
    (z_no : keepIn K (.ref no) = true)
    (z_mo : keepIn K (.ref mo) = true)
    (z_ls : keepIn K (.ref ls) = true)
    (z_gr : keepIn K (.ref gr) = true)
    (z_lr : keepIn K (.ref lr) = true)
    (z_ld : keepIn K (.ref ld) = true) :
    ∃ c, Mine.AllF K mg c := by
  refine ⟨⟨ne, al, le, no, mo, ls, gr, lr, ld⟩, ?_⟩
  refine ⟨?_,
    ?_,
    ?_,
    ?_,
    ?_,
    ?_,
    ?_,
    ?_,
    ?_,
    ?_,
    ?_,
    ?_,
    ?_,
    ?_,
    ?_,
    ?_,
    ?_,
    ?_,
    ?_,
    ?_,
    ?_,
    ?_,
    ?_,
    ?_,
    ?_,
    ?_,
    ?_,
    ?_,
    ?_,
    ?_,
    ?_,
    ?_,
    ?_,
    ?_⟩
  · exact ⟨by intro t; cases t <;> first | exact c_ne | exact c_al | exact c_le | exact c_no | (rename_i u _ _; cases u <;> assumption), by intro t; cases t <;> first | exact h_ne | exact h_al | exact h_le | exact h_no | (rename_i u _ _; cases u <;> assumption), by intro t; cases t <;> first | exact m_ne | exact m_al | exact m_le | exact m_no | (rename_i u _ _; cases u <;> assumption), by intro t; cases t <;> first | exact s_ne | exact s_al | exact s_le | exact s_no | (rename_i u _ _; cases u <;> assumption), hn, tk, a_name, a_part, by intro u; cases u <;> assumption, by intro u; cases u <;> assumption⟩
  · exact e_madeS.meth c_ne g_madeS_ne
  · exact e_madeS.meth c_al g_madeS_al
  · exact e_madeS.meth c_le g_madeS_le
  · intro t; cases t <;> first | exact e_laid.meth c_ne g_laid_ne | exact e_laid.meth c_al g_laid_al | exact e_laid.meth c_le g_laid_le | exact e_laid.meth c_no g_laid_no | (rename_i u _ _; cases u <;> first | exact e_laid.meth c_mo g_laid_mo | exact e_laid.meth c_ls g_laid_ls | exact e_laid.meth c_gr g_laid_gr | exact e_laid.meth c_lr g_laid_lr | exact e_laid.meth c_ld g_laid_ld)
  · intro t; cases t <;> first | exact e_out.meth c_ne g_out_ne | exact e_out.meth c_al g_out_al | exact e_out.meth c_le g_out_le | exact e_out.meth c_no g_out_no | (rename_i u _ _; cases u <;> first | exact e_out.meth c_mo g_out_mo | exact e_out.meth c_ls g_out_ls | exact e_out.meth c_gr g_out_gr | exact e_out.meth c_lr g_out_lr | exact e_out.meth c_ld g_out_ld)
  · exact e_Kne.meth c_ne g_Kne_ne
  · exact e_Wne.meth c_ne g_Wne_ne
  · exact e_Kal.meth c_al g_Kal_al
  · exact e_Wal.meth c_al g_Wal_al
  · exact e_Kle.meth c_le g_Kle_le
  · exact e_Wle.meth c_le g_Wle_le
  · exact e_Kno.meth c_no g_Kno_no
  · exact e_Wno.meth c_no g_Wno_no
  · exact e_Mno.meth c_no g_Mno_no
  · intro u; cases u <;> first | exact e_Mfo.meth c_mo g_Mfo_mo | exact e_Mfo.meth c_ls g_Mfo_ls | exact e_Mfo.meth c_gr g_Mfo_gr | exact e_Mfo.meth c_lr g_Mfo_lr | exact e_Mfo.meth c_ld g_Mfo_ld
  · intro u; cases u <;> first | exact e_Wfo.meth c_mo g_Wfo_mo | exact e_Wfo.meth c_ls g_Wfo_ls | exact e_Wfo.meth c_gr g_Wfo_gr | exact e_Wfo.meth c_lr g_Wfo_lr | exact e_Wfo.meth c_ld g_Wfo_ld
  · exact e_F0mo.meth c_mo g_F0mo_mo
  · exact e_F1mo.meth c_mo g_F1mo_mo
  · exact e_F0ls.meth c_ls g_F0ls_ls
  · exact e_F1ls.meth c_ls g_F1ls_ls
  · exact e_F0gr.meth c_gr g_F0gr_gr
  · exact e_F1gr.meth c_gr g_F1gr_gr
  · exact e_F0lr.meth c_lr g_F0lr_lr
  · exact e_F1lr.meth c_lr g_F1lr_lr
  · exact e_F0ld.meth c_ld g_F0ld_ld
  · exact e_F1ld.meth c_ld g_F1ld_ld
  · exact e_ile.made c_le g_ile_le (mg_of X G n_le) y_le z_le
  · exact e_ino.made c_no g_ino_no (mg_of X G n_no) y_no z_no
  · intro u; cases u <;> first | exact e_ifo.made c_mo g_ifo_mo (mg_of X G n_mo) y_mo z_mo | exact e_ifo.made c_ls g_ifo_ls (mg_of X G n_ls) y_ls z_ls | exact e_ifo.made c_gr g_ifo_gr (mg_of X G n_gr) y_gr z_gr | exact e_ifo.made c_lr g_ifo_lr (mg_of X G n_lr) y_lr z_lr | exact e_ifo.made c_ld g_ifo_ld (mg_of X G n_ld) y_ld z_ld
  · exact ⟨y_ne, i_ne, z_ne⟩
  · exact mg_of X G n_ne
  · exact ⟨y_al, i_al, z_al⟩
  · exact mg_of X G n_al
section
variable {P : Program} {w : World} {K : Frag} {mg : Str → Option Value} {base : Heap} {c : Mine.CCs}
open Mine L2
theorem Mine.mks (A : AllF K mg c) : MkOk P w K mg base "Letter" c.le 1 ["self", "name"] (spInit1 c.le fName) ∧ MkOk P w K mg base "Not" c.no 1 ["self", "part"] (spInit1 c.no fPart) ∧ ∀ u : W5, MkOk P w K mg base u.cls (c.fold u) 1 ["self", "one", "other"] (spInit2 (c.fold u)) :=
  ⟨ok_iLetter A.ile A.fx.nName, ok_iNot A.ino A.fx.nPart, fun u => ok_iFold (A.ifo u) (A.fx.nOne u) (A.fx.nOther u)⟩
theorem Mine.ms (A : AllF K mg c) (Z_min : mg "min" = none) (Z_max : mg "max" = none) : Ms P w K mg base c := by
  obtain ⟨kl, kn, kf⟩ := mks (P := P) (w := w) (base := base) A
  have word : ∀ t, MethOk P w K mg base (c.of t) "making_word" 1 ["self"] (spWord c t) := by
    intro t
    cases t with
    | never => exact ok_wNever A.Kne_ne
    | always => exact ok_wAlways A.Kal_al
    | lp => exact ok_wLp A.Kle_le A.fx
    | lq => exact ok_wLq A.Kle_le A.fx
    | no t => exact ok_wNot A.Kno_no
    | fold u a b =>
      cases u
      · exact ok_wMore A.F0mo_mo
      · exact ok_wLess A.F0ls_ls
      · exact ok_wGreater A.F0gr_gr
      · exact ok_wLesser A.F0lr_lr
      · exact ok_wLeads A.F0ld_ld
  have folded : ∀ u, MethOk P w K mg base (c.fold u) "folded" 1 ["self", "n", "first", "second"] (spFolded u) := by
    intro u
    cases u
    · exact ok_fMore A.F1mo_mo Z_min
    · exact ok_fLess A.F1ls_ls Z_max
    · exact ok_fGreater A.F1gr_gr Z_max
    · exact ok_fLesser A.F1lr_lr Z_min
    · exact ok_fLeads A.F1ld_ld Z_min
  refine ⟨fun t => ?_, fun t => ?_, fun t => ?_⟩
  · cases t with
    | never => exact ok_mS A.madeS_ne rfl
    | always => exact ok_mS A.madeS_al rfl
    | lp => exact ok_mS A.madeS_le rfl
    | lq => exact ok_mS A.madeS_le rfl
    | no t => exact ok_mNot A.Mno_no A.fx
    | fold u a b => exact ok_mFold (A.Mfo u) A.fx
  · exact word t
  · cases t with
    | never => exact ok_wgNever A.Wne_ne
    | always => exact ok_wgAlways A.Wal_al
    | lp => exact ok_wgLp A.Wle_le A.fx
    | lq => exact ok_wgLq A.Wle_le A.fx
    | no t => exact ok_wgNot A.Wno_no
    | fold u a b => exact ok_wgFold (A.Wfo u) (folded u)
end

open PySem PySem.W PyProof.Rows
structure Mine.RowX (K : Frag) (mg : Str → Option Value) (CR fI : Addr) : Prop where
  fe : L2.FunE K "__init__" "NoRows.__init__" Mine.s_NoRows_init fI
  xi : L2.excInI K CR L2.bmV "ValueError.__new__" fI = true
  kc : keepIn K (.ref CR) = true
  fl : L2.XFld K CR
  n1 : L2.NoAttr K CR "at"
theorem Mine.rowx {P : Program} {w : World} {base : Heap} {K : Frag} {mg : Str → Option Value} {CR fI : Addr} (m : mg "NoRows" = some (.ref CR)) (Z : Mine.RowX K mg CR fI) : L2.XC1 P w K mg base "NoRows" CR "at" := by
  obtain ⟨fdI, FI⟩ := Z.fe.ex
  exact ⟨m, Z.kc, ⟨fI, fdI, _, Mine.ok_init FI Z.fl Z.n1, FI.binds (fun _ _ _ _ _ _ => L2.ar2 fun _ _ => rfl), Z.xi⟩, Z.fl, Z.n1⟩
theorem Mine.cls07 {K : Frag} {h : Heap} {mg : Str → Option Value} {CS CP CR fI aT : Addr} {c1 c2 c3 : ClassData} {es : Array DictEntry} {ep : Nat} (X : K.In h) (G : h.Ns mainGlobals mg)
    (mCS : nsIn K mainGlobals "SayError" = some (some (.ref CS)))
    (mCP : nsIn K mainGlobals "NoPoint" = some (some (.ref CP)))
    (mCR : nsIn K mainGlobals "NoRows" = some (some (.ref CR)))
    (xp : excIn K CP L2.bmV "ValueError.__new__" = true)
    (i0 : findIn K (.ref CR) "__init__" = some (some (.ref fI)))
    (fe : L2.FunE K "__init__" "NoRows.__init__" Mine.s_NoRows_init fI)
    (xi : L2.excInI K CR L2.bmV "ValueError.__new__" fI = true)
    (kc : keepIn K (.ref CR) = true)
    (xf : L2.xfldIn K CR = true)
    (sa : findIn K (.ref CR) "__setattr__" = some (some (.builtin "object.__setattr__")))
    (n1 : findIn K (.ref CR) "at" = some none)
    (s6 : clsIn K CS = some c2)
    (s7 : typeIn K (.ref CS) = some (.type "type"))
    (s8 : mroIn K CS (.type "BaseException") = some true)
    (o13 : specialIn K (.builtin "object.__class__") "__get__" = some (some (.builtin "getset_descriptor.__get__")))
    (o14 : takesIn K (.builtin "object.__class__") = some true)
    (e6 : clsIn K CP = some c1)
    (e8 : mroIn K CP (.type "BaseException") = some true)
    (e9 : findIn K (.ref CP) "__getattribute__" = some (some (.builtin "BaseException.__getattribute__")))
    (e10 : findIn K (.ref CP) "__getattr__" = some none)
    (e12 : findIn K (.ref CP) "__class__" = some (some (.builtin "object.__class__")))
    (e16 : mroIn K CP (.type "object") = some true)
    (esu : mroIn K CP (.ref CS) = some true)
    (ek2 : kitOne K (.ref CP) (.type "ValueError") = some true)
    (r6 : clsIn K CR = some c3)
    (r8 : mroIn K CR (.type "BaseException") = some true)
    (r9 : findIn K (.ref CR) "__getattribute__" = some (some (.builtin "BaseException.__getattribute__")))
    (r10 : findIn K (.ref CR) "__getattr__" = some none)
    (r12 : findIn K (.ref CR) "__class__" = some (some (.builtin "object.__class__")))
    (r16 : mroIn K CR (.type "object") = some true)
    (rsu : mroIn K CR (.ref CS) = some true)
    (rk2 : kitOne K (.ref CR) (.type "ValueError") = some true)
    (k3 : kitOne K (.ref CP) (.ref CR) = some false)
    (k5 : kitOne K (.ref CR) (.ref CP) = some false)
    (t1 : nsIn K mainGlobals "TAKEN" = some (some (.ref aT)))
    (t2 : K.lookup aT = some ⟨.type "dict", none, .dict es ep, #[]⟩)
    (t3 : (aT == sysModules) = false)
    (t4 : KTD.Rows (fun (n : Int) v => ∃ t, v = Value.int n t) es.toList Mine.TK)
    (z0 : kitOne K (.type "list") (.type "tuple") = some false)
    (z1 : kitOne K (.type "NoneType") (.type "tuple") = some false)
    (z2 : kitOne K (.type "int") (.type "tuple") = some false)
    (z3 : kitOne K (.type "str") (.type "tuple") = some false)
    (z4 : kitOne K (.type "dict") (.type "tuple") = some false)
    (z5 : kitOne K (.type "bool") (.type "tuple") = some false)
    (z6 : kitOne K (.type "NoneType") (.type "int") = some false)
    (z7 : kitOne K (.type "str") (.type "int") = some false)
    (z8 : kitOne K (.type "tuple") (.type "int") = some false)
    (z9 : kitOne K (.type "list") (.type "int") = some false)
    (z10 : kitOne K (.type "bool") (.type "int") = some true)
    (z11 : kitOne K (.type "int") (.type "bool") = some false) :
    ∃ CS CP CR fI, Mine.ExcG K mg CS CP CR ∧ Mine.RowX K mg CR fI ∧ L2.TopDict K mg "TAKEN" Mine.TK ∧ Mine.Kits K :=
  have ER : L2.ExcCls K CR := ⟨r9, r10, ⟨_, r6⟩, r12, o13, o14, r8, r16⟩
  ⟨CS, CP, CR, fI, ⟨mg_of X G mCS, mg_of X G mCP, mg_of X G mCR, xp, ⟨⟨_, s6⟩, s7, s8⟩, ⟨e9, e10, ⟨_, e6⟩, e12, o13, o14, e8, e16⟩, ER, esu, rsu, ek2, k3, rk2, k5⟩, ⟨fe, xi, kc, L2.xfld_mk xf sa ER, n1⟩, L2.topdict_mk X G t1 t2 t3 t4, ⟨z0, z1, z2, z3, z4, z5, z6, z7, z8, z9, z10, z11⟩⟩




set_option Elab.async false
set_option linter.all false
set_option maxRecDepth 100000
set_option maxHeartbeats 4000000
theorem PySem.W.Fast.tw13564908823855344640 : True := .intro
theorem PySem.W.Fast.tw5113773462780588192 : True := .intro
theorem PySem.W.Fast.tw14871788632355948768 : True := .intro
theorem PySem.W.Fast.tw6402389280846572864 : True := .intro
theorem PySem.W.Fast.tw16319600524388224320 : True := .intro
theorem PySem.W.Fast.tw13569209803726077280 : True := .intro
theorem PySem.W.Fast.tw2826972744000250208 : True := .intro
theorem PySem.W.Fast.tw8972559318676457856 : True := .intro
theorem PySem.W.Fast.tw12797668314065539520 : True := .intro
theorem PySem.W.Fast.tw14762180189281271232 : True := .intro
theorem PySem.W.Fast.tw2275844280279065024 : True := .intro
theorem PySem.W.Fast.tw6606199590555947584 : True := .intro
theorem PySem.W.Fast.tw3307902079782060640 : True := .intro
theorem PySem.W.Fast.tw11000325350035482272 : True := .intro
theorem PySem.W.Fast.tw16850281073240458944 : True := .intro
theorem PySem.W.Fast.tw14649901614410023648 : True := .intro
theorem PySem.W.Fast.tw9388820191066538752 : True := .intro
theorem PySem.W.Fast.tw9279149989225728832 : True := .intro
theorem PySem.W.Fast.tw1277399124941807424 : True := .intro
theorem PySem.W.Fast.tw12395239105776669504 : True := .intro
theorem PySem.W.Fast.tw3123595371307162496 : True := .intro
theorem PySem.W.Fast.tw17061913895892709248 : True := .intro
theorem PySem.W.Fast.tw14865906001743523808 : True := .intro
theorem PySem.W.Fast.tw16876429928046320769 : True := .intro
theorem PySem.W.Fast.tw8482942087515190433 : True := .intro
theorem PySem.W.Fast.tw5289226270382779585 : True := .intro
theorem PySem.W.Fast.tw3947186451512057185 : True := .intro
theorem PySem.W.Fast.tw4362951806414654881 : True := .intro
theorem PySem.W.Fast.tw11294512796047098305 : True := .intro
theorem PySem.W.Fast.tw9378425383777221121 : True := .intro
theorem PySem.W.Fast.tw5758543426414583297 : True := .intro
theorem PySem.W.Fast.tw6931472357811697249 : True := .intro
theorem PySem.W.Fast.tw1969729092628465313 : True := .intro
theorem PySem.W.Fast.tw12398002171782076097 : True := .intro
theorem PySem.W.Fast.tw15495844203755692801 : True := .intro
theorem PySem.W.Fast.tw8820182449953991425 : True := .intro
theorem PySem.W.Fast.tw10641531296360340321 : True := .intro
theorem PySem.W.Fast.tw11765305152809720737 : True := .intro
theorem PySem.W.Fast.tw11364573353575801858 : True := .intro
theorem PySem.W.Fast.tw8894349401834381346 : True := .intro
theorem PySem.W.Fast.tw3275985837576784034 : True := .intro
theorem PySem.W.Fast.tw12819412067927056546 : True := .intro
theorem PySem.W.Fast.tw2621976985601374530 : True := .intro
theorem PySem.W.Fast.tw15576597276239562082 : True := .intro
theorem PySem.W.Fast.tw1035245086273337858 : True := .intro
theorem PySem.W.Fast.tw5467871807480951330 : True := .intro
theorem PySem.W.Fast.tw11560754634247389730 : True := .intro
theorem PySem.W.Fast.tw14589434348560895554 : True := .intro
theorem PySem.W.Fast.tw3595094561538014850 : True := .intro
theorem PySem.W.Fast.tw12574867003727639202 : True := .intro
theorem PySem.W.Fast.tw3707156486258823906 : True := .intro
theorem PySem.W.Fast.tw11042179521554613986 : True := .intro
theorem PySem.W.Fast.tw2920877535057188674 : True := .intro
theorem PySem.W.Fast.tw2467122967456650082 : True := .intro
theorem PySem.W.Fast.tw1099998752664813410 : True := .intro
theorem PySem.W.Fast.tw8362063256843936706 : True := .intro
theorem PySem.W.Fast.tw1822123599068134435 : True := .intro
theorem PySem.W.Fast.tw14850051593088759939 : True := .intro
theorem PySem.W.Fast.tw862844900407414947 : True := .intro
theorem PySem.W.Fast.tw9294550425144532323 : True := .intro
theorem PySem.W.Fast.tw4428223105070327139 : True := .intro
theorem PySem.W.Fast.tw5950518514094460291 : True := .intro
theorem PySem.W.Fast.tw7807097169246027235 : True := .intro
theorem PySem.W.Fast.tw11044193301453799939 : True := .intro
theorem PySem.W.Fast.tw17330583981487537731 : True := .intro
theorem PySem.W.Fast.tw7647237641828197987 : True := .intro
theorem PySem.W.Fast.tw4798985717901377187 : True := .intro
theorem PySem.W.Fast.tw16430127078735775459 : True := .intro
theorem PySem.W.Fast.tw16890826606306701027 : True := .intro
theorem PySem.W.Fast.tw17844851021065386723 : True := .intro
theorem PySem.W.Fast.tw8995824530978842403 : True := .intro
theorem PySem.W.Fast.tw9083370143187965795 : True := .intro
theorem PySem.W.Fast.tw2732611797885215587 : True := .intro
theorem PySem.W.Fast.tw5954938919439537027 : True := .intro
theorem PySem.W.Fast.tw1619021316765319043 : True := .intro
theorem PySem.W.Fast.tw2287819072977873827 : True := .intro
theorem PySem.W.Fast.tw18235809153605852099 : True := .intro
theorem PySem.W.Fast.tw16425713882362799172 : True := .intro
theorem PySem.W.Fast.tw12561248239533367396 : True := .intro
theorem PySem.W.Fast.tw4599378657626493028 : True := .intro
theorem PySem.W.Fast.tw11906441292090014884 : True := .intro
theorem PySem.W.Fast.tw1102532603979244868 : True := .intro
theorem PySem.W.Fast.tw3411736786964567364 : True := .intro
theorem PySem.W.Fast.tw17268565956387094884 : True := .intro
theorem PySem.W.Fast.tw4146960434097595812 : True := .intro
theorem PySem.W.Fast.tw13155873040873428484 : True := .intro
theorem PySem.W.Fast.tw17586345536347737604 : True := .intro
theorem PySem.W.Fast.tw17328195694054770244 : True := .intro
theorem PySem.W.Fast.tw15929852592815756900 : True := .intro
theorem PySem.W.Fast.tw13522319671216106148 : True := .intro
theorem PySem.W.Fast.tw227701445701208772 : True := .intro
theorem PySem.W.Fast.tw17350282469158850244 : True := .intro
theorem PySem.W.Fast.tw14872424487613454084 : True := .intro
theorem PySem.W.Fast.tw5289074784582188900 : True := .intro
theorem PySem.W.Fast.tw16595534566225804325 : True := .intro
theorem PySem.W.Fast.tw5378858806122593349 : True := .intro
theorem PySem.W.Fast.tw15015017303638930501 : True := .intro
theorem PySem.W.Fast.tw16578500625162974309 : True := .intro
theorem PySem.W.Fast.tw2693174744103356549 : True := .intro
theorem PySem.W.Fast.tw6750472792113309925 : True := .intro
theorem PySem.W.Fast.tw11195098073411493125 : True := .intro
theorem PySem.W.Fast.tw5582737948501442853 : True := .intro
theorem PySem.W.Fast.tw8440747036618754405 : True := .intro
theorem PySem.W.Fast.tw15035650555288162789 : True := .intro
theorem PySem.W.Fast.tw6012474103130810853 : True := .intro
theorem PySem.W.Fast.tw5816070455453966853 : True := .intro
theorem PySem.W.Fast.tw6754548843435453989 : True := .intro
theorem PySem.W.Fast.tw796154871950350917 : True := .intro
theorem PySem.W.Fast.tw17036501058089466533 : True := .intro
theorem PySem.W.Fast.tw10468099638304839429 : True := .intro
theorem PySem.W.Fast.tw15167521077156800357 : True := .intro
theorem PySem.W.Fast.tw7771215436718761893 : True := .intro
theorem PySem.W.Fast.tw11367681382805741477 : True := .intro
theorem PySem.W.Fast.tw15083231591257984965 : True := .intro
theorem PySem.W.Fast.tw4243665859474728966 : True := .intro
theorem PySem.W.Fast.tw6661191071325928582 : True := .intro
theorem PySem.W.Fast.tw9913639399420307622 : True := .intro
theorem PySem.W.Fast.tw15139361771632735558 : True := .intro
theorem PySem.W.Fast.tw9376359892436627814 : True := .intro
theorem PySem.W.Fast.tw17132055782743618982 : True := .intro
theorem PySem.W.Fast.tw10799713893596817926 : True := .intro
theorem PySem.W.Fast.tw13817821435500697094 : True := .intro
theorem PySem.W.Fast.tw7519369113352419878 : True := .intro
theorem PySem.W.Fast.tw3505495396031416870 : True := .intro
theorem PySem.W.Fast.tw12696534953383549542 : True := .intro
theorem PySem.W.Fast.tw17869580538520467142 : True := .intro
theorem PySem.W.Fast.tw17213225667892394790 : True := .intro
theorem PySem.W.Fast.tw15131924264339664774 : True := .intro
theorem PySem.W.Fast.tw11172638531411659686 : True := .intro
theorem PySem.W.Fast.tw9830549550487942247 : True := .intro
theorem PySem.W.Fast.tw8711226391544610023 : True := .intro
theorem PySem.W.Fast.tw6172912582392450407 : True := .intro
theorem PySem.W.Fast.tw15725013518485034407 : True := .intro
theorem PySem.W.Fast.tw13814850653145004551 : True := .intro
theorem PySem.W.Fast.tw18204414056185792103 : True := .intro
theorem PySem.W.Fast.tw11555216382610776679 : True := .intro
theorem PySem.W.Fast.tw18190342242526719655 : True := .intro
theorem PySem.W.Fast.tw10398180244722794151 : True := .intro
theorem PySem.W.Fast.tw6983282524062732071 : True := .intro
theorem PySem.W.Fast.tw2873045334760961863 : True := .intro
theorem PySem.W.Fast.tw3818700760879417191 : True := .intro
theorem PySem.W.Fast.tw3411483279682477959 : True := .intro
theorem PySem.W.Fast.tw4721861980761408391 : True := .intro
theorem PySem.W.Fast.tw15634025388880198599 : True := .intro
theorem PySem.W.Fast.tw12346733403666624552 : True := .intro
theorem PySem.W.Fast.tw11397769582478126120 : True := .intro
theorem PySem.W.Fast.tw7857677716309904552 : True := .intro
theorem PySem.W.Fast.tw8323281884008697032 : True := .intro
theorem PySem.W.Fast.tw13182831752357896392 : True := .intro
theorem PySem.W.Fast.tw2748515549124274440 : True := .intro
theorem PySem.W.Fast.tw12832506118695910888 : True := .intro
theorem PySem.W.Fast.tw14356485299624286792 : True := .intro
theorem PySem.W.Fast.tw12349163681544874632 : True := .intro
theorem PySem.W.Fast.tw11932242738489005736 : True := .intro
theorem PySem.W.Fast.tw9593273872197846728 : True := .intro
theorem PySem.W.Fast.tw15875313753178762024 : True := .intro
theorem PySem.W.Fast.tw18318002330945629992 : True := .intro
theorem PySem.W.Fast.tw2361913007776530280 : True := .intro
theorem PySem.W.Fast.tw12360637041308380072 : True := .intro
theorem PySem.W.Fast.tw6193077214193839016 : True := .intro
theorem PySem.W.Fast.tw1718157609721123816 : True := .intro
theorem PySem.W.Fast.tw17985626828063164489 : True := .intro
theorem PySem.W.Fast.tw10641224714842590313 : True := .intro
theorem PySem.W.Fast.tw9121873533065116809 : True := .intro
theorem PySem.W.Fast.tw1864245554482531497 : True := .intro
theorem PySem.W.Fast.tw10395329201629629641 : True := .intro
theorem PySem.W.Fast.tw12553759563320376553 : True := .intro
theorem PySem.W.Fast.tw7610823679316652425 : True := .intro
theorem PySem.W.Fast.tw15596333873404453385 : True := .intro
theorem PySem.W.Fast.tw999208301432878601 : True := .intro
theorem PySem.W.Fast.tw6435019311289802313 : True := .intro
theorem PySem.W.Fast.tw4429702078096619113 : True := .intro
theorem PySem.W.Fast.tw17841669362229011145 : True := .intro
theorem PySem.W.Fast.tw10814028971548971753 : True := .intro
theorem PySem.W.Fast.tw5657966992263839465 : True := .intro
theorem PySem.W.Fast.tw16693182133669343017 : True := .intro
theorem PySem.W.Fast.tw12452473075809120105 : True := .intro
theorem PySem.W.Fast.tw12309087420249832297 : True := .intro
theorem PySem.W.Fast.tw13261454604044401577 : True := .intro
theorem PySem.W.Fast.tw10046449959527554058 : True := .intro
theorem PySem.W.Fast.tw3515013958397977642 : True := .intro
theorem PySem.W.Fast.tw15505347380541675594 : True := .intro
theorem PySem.W.Fast.tw14998862703857364074 : True := .intro
theorem PySem.W.Fast.tw14956183808269425770 : True := .intro
theorem PySem.W.Fast.tw13772450096940821642 : True := .intro
theorem PySem.W.Fast.tw10304162128144988362 : True := .intro
theorem PySem.W.Fast.tw3838844929912432906 : True := .intro
theorem PySem.W.Fast.tw3428648223933438282 : True := .intro
theorem PySem.W.Fast.tw11354781639036972458 : True := .intro
theorem PySem.W.Fast.tw1204473306940256682 : True := .intro
theorem PySem.W.Fast.tw10506936290888513002 : True := .intro
theorem PySem.W.Fast.tw4514867702682225130 : True := .intro
theorem PySem.W.Fast.tw14982203523401721354 : True := .intro
theorem PySem.W.Fast.tw12099794578847477354 : True := .intro
theorem PySem.W.Fast.tw8459986691230460554 : True := .intro
theorem PySem.W.Fast.tw3986616593184822954 : True := .intro
theorem PySem.W.Fast.tw11703060540935885610 : True := .intro
theorem PySem.W.Fast.tw2161548314463462186 : True := .intro
theorem PySem.W.Fast.tw15861782218429331370 : True := .intro
theorem PySem.W.Fast.tw11443352686212381610 : True := .intro
theorem PySem.W.Fast.tw15880652097091211307 : True := .intro
theorem PySem.W.Fast.tw16721205915980117099 : True := .intro
theorem PySem.W.Fast.tw10339804215410381003 : True := .intro
theorem PySem.W.Fast.tw18286274404451416395 : True := .intro
theorem PySem.W.Fast.tw2145064101624763755 : True := .intro
theorem PySem.W.Fast.tw11653358811774504331 : True := .intro
theorem PySem.W.Fast.tw9866720828185948587 : True := .intro
theorem PySem.W.Fast.tw6493061231800968619 : True := .intro
theorem PySem.W.Fast.tw7643641017725921835 : True := .intro
theorem PySem.W.Fast.tw450296301019268683 : True := .intro
theorem PySem.W.Fast.tw10643587851018906187 : True := .intro
theorem PySem.W.Fast.tw15679913542451255883 : True := .intro
theorem PySem.W.Fast.tw5862410898666651243 : True := .intro
theorem PySem.W.Fast.tw6131681435508152939 : True := .intro
theorem PySem.W.Fast.tw15561537319506169515 : True := .intro
theorem PySem.W.Fast.tw7576424625338810027 : True := .intro
theorem PySem.W.Fast.tw1138156038337352491 : True := .intro
theorem PySem.W.Fast.tw10211933493248191339 : True := .intro
theorem PySem.W.Fast.tw14180201105897386923 : True := .intro
theorem PySem.W.Fast.tw13747934969157450667 : True := .intro
theorem PySem.W.Fast.tw3082116583966525387 : True := .intro
theorem PySem.W.Fast.tw13147693850677417004 : True := .intro
theorem PySem.W.Fast.tw3106448304455599148 : True := .intro
theorem PySem.W.Fast.tw1283934047453024396 : True := .intro
theorem PySem.W.Fast.tw4156669813513435276 : True := .intro
theorem PySem.W.Fast.tw7465617557733174444 : True := .intro
theorem PySem.W.Fast.tw16890703731940851916 : True := .intro
theorem PySem.W.Fast.tw16632987966759338188 : True := .intro
theorem PySem.W.Fast.tw7152949031917031692 : True := .intro
theorem PySem.W.Fast.tw2104973530542601548 : True := .intro
theorem PySem.W.Fast.tw11787571259497051532 : True := .intro
theorem PySem.W.Fast.tw2464728383393417676 : True := .intro
theorem PySem.W.Fast.tw11854761243843607020 : True := .intro
theorem PySem.W.Fast.tw3860240750567278124 : True := .intro
theorem PySem.W.Fast.tw14752584216751868492 : True := .intro
theorem PySem.W.Fast.tw15150612986272058028 : True := .intro
theorem PySem.W.Fast.tw14948064661483037356 : True := .intro
theorem PySem.W.Fast.tw10558705696309174956 : True := .intro
theorem PySem.W.Fast.tw9159640005793164108 : True := .intro
theorem PySem.W.Fast.tw2661170973291346764 : True := .intro
theorem PySem.W.Fast.tw8044253811114697580 : True := .intro
theorem PySem.W.Fast.tw6028330355602928588 : True := .intro
theorem PySem.W.Fast.tw395056232464380876 : True := .intro
theorem PySem.W.Fast.tw12593919146824631276 : True := .intro
theorem PySem.W.Fast.tw5909723089934956589 : True := .intro
theorem PySem.W.Fast.tw15500270861714416909 : True := .intro
theorem PySem.W.Fast.tw2572361803009085709 : True := .intro
theorem PySem.W.Fast.tw13120200997952614701 : True := .intro
theorem PySem.W.Fast.tw10846401031672189357 : True := .intro
theorem PySem.W.Fast.tw2161010003813250477 : True := .intro
theorem PySem.W.Fast.tw16995360838594589197 : True := .intro
theorem PySem.W.Fast.tw5676252642539378221 : True := .intro
theorem PySem.W.Fast.tw6123506411573250637 : True := .intro
theorem PySem.W.Fast.tw2071476313845288557 : True := .intro
theorem PySem.W.Fast.tw18175275629798525613 : True := .intro
theorem PySem.W.Fast.tw10310865849146718925 : True := .intro
theorem PySem.W.Fast.tw37235325533560525 : True := .intro
theorem PySem.W.Fast.tw997961277689821005 : True := .intro
theorem PySem.W.Fast.tw10367662897751618477 : True := .intro
theorem PySem.W.Fast.tw6618865690052732014 : True := .intro
theorem PySem.W.Fast.tw619559319497755790 : True := .intro
theorem PySem.W.Fast.tw6500749603833411790 : True := .intro
theorem PySem.W.Fast.tw10752006221068555502 : True := .intro
theorem PySem.W.Fast.tw4899506409871603214 : True := .intro
theorem PySem.W.Fast.tw2549426359654349358 : True := .intro
theorem PySem.W.Fast.tw15926396575427257966 : True := .intro
theorem PySem.W.Fast.tw6454346935130252942 : True := .intro
theorem PySem.W.Fast.tw17769808270268618382 : True := .intro
theorem PySem.W.Fast.tw6991526538939240110 : True := .intro
theorem PySem.W.Fast.tw7933634017286492878 : True := .intro
theorem PySem.W.Fast.tw4151462845104153422 : True := .intro
theorem PySem.W.Fast.tw582953613665911726 : True := .intro
theorem PySem.W.Fast.tw9342810596856768494 : True := .intro
theorem PySem.W.Fast.tw8232754536362827855 : True := .intro
theorem PySem.W.Fast.tw15824638224074691663 : True := .intro
theorem PySem.W.Fast.tw7335956841894175855 : True := .intro
theorem PySem.W.Fast.tw826808096934550671 : True := .intro
theorem PySem.W.Fast.tw16893308053874180399 : True := .intro
theorem PySem.W.Fast.tw16465717404153151791 : True := .intro
theorem PySem.W.Fast.tw13757400431634621775 : True := .intro
theorem PySem.W.Fast.tw7815764687757881711 : True := .intro
theorem PySem.W.Fast.tw2968773186757465551 : True := .intro
theorem PySem.W.Fast.tw7756059283853627919 : True := .intro
theorem PySem.W.Fast.tw10367357642296376879 : True := .intro
theorem PySem.W.Fast.tw3252156239011270223 : True := .intro
theorem PySem.W.Fast.tw16183635857586375279 : True := .intro
theorem PySem.W.Fast.tw2974785205862827631 : True := .intro
theorem PySem.W.Fast.tw4669291801290881647 : True := .intro
theorem PySem.W.Fast.tw4178488373191770767 : True := .intro
theorem PySem.W.Fast.tw17829150033281392495 : True := .intro
theorem PySem.W.Fast.tw11185469276136648591 : True := .intro
theorem PySem.W.Fast.tw6581040496157772719 : True := .intro
theorem PySem.W.Fast.tw5191287404427542479 : True := .intro
theorem PySem.W.Fast.tw7005312823880512592 : True := .intro
theorem PySem.W.Fast.tw15870953950640372816 : True := .intro
theorem PySem.W.Fast.tw4026274197572236400 : True := .intro
theorem PySem.W.Fast.tw15218826847643946160 : True := .intro
theorem PySem.W.Fast.tw9689379120224513232 : True := .intro
theorem PySem.W.Fast.tw1733677210050783440 : True := .intro
theorem PySem.W.Fast.tw8541626556531426576 : True := .intro
theorem PySem.W.Fast.tw2746439280970231312 : True := .intro
theorem PySem.W.Fast.tw11286249189737780816 : True := .intro
theorem PySem.W.Fast.tw10231442700290742992 : True := .intro
theorem PySem.W.Fast.tw4846750705821704016 : True := .intro
theorem PySem.W.Fast.tw14910940775591466992 : True := .intro
theorem PySem.W.Fast.tw11383955172062423089 : True := .intro
theorem PySem.W.Fast.tw11110578280813453361 : True := .intro
theorem PySem.W.Fast.tw4198936680550186065 : True := .intro
theorem PySem.W.Fast.tw1096698460042920049 : True := .intro
theorem PySem.W.Fast.tw8773602208696947889 : True := .intro
theorem PySem.W.Fast.tw7444819540123940145 : True := .intro
theorem PySem.W.Fast.tw13929277081117608241 : True := .intro
theorem PySem.W.Fast.tw2357322601518836145 : True := .intro
theorem PySem.W.Fast.tw10365874926038695345 : True := .intro
theorem PySem.W.Fast.tw11730615555920998865 : True := .intro
theorem PySem.W.Fast.tw12831120174917350961 : True := .intro
theorem PySem.W.Fast.tw17678891966189786673 : True := .intro
theorem PySem.W.Fast.tw3388224560483476081 : True := .intro
theorem PySem.W.Fast.tw10103580435882737297 : True := .intro
theorem PySem.W.Fast.tw10050369299257193137 : True := .intro
theorem PySem.W.Fast.tw15886055605990400849 : True := .intro
theorem PySem.W.Fast.tw11651292264051102545 : True := .intro
theorem PySem.W.Fast.tw10162312606990174129 : True := .intro
theorem PySem.W.Fast.tw6309596399195403217 : True := .intro
theorem PySem.W.Fast.tw13617306047715094546 : True := .intro
theorem PySem.W.Fast.tw4500754218560939058 : True := .intro
theorem PySem.W.Fast.tw17781444857499652242 : True := .intro
theorem PySem.W.Fast.tw15813930810396118226 : True := .intro
theorem PySem.W.Fast.tw12520747027768708306 : True := .intro
theorem PySem.W.Fast.tw5456592525061154034 : True := .intro
theorem PySem.W.Fast.tw2756341491405056402 : True := .intro
theorem PySem.W.Fast.tw6953122292253360658 : True := .intro
theorem PySem.W.Fast.tw4858957888025825010 : True := .intro
theorem PySem.W.Fast.tw12887226208972629778 : True := .intro
theorem PySem.W.Fast.tw4509866686920423218 : True := .intro
theorem PySem.W.Fast.tw12395856611088312146 : True := .intro
theorem PySem.W.Fast.tw988009341103012786 : True := .intro
theorem PySem.W.Fast.tw17666542666660449266 : True := .intro
theorem PySem.W.Fast.tw11258787111430642707 : True := .intro
theorem PySem.W.Fast.tw10672215190862812179 : True := .intro
theorem PySem.W.Fast.tw15853455253349347379 : True := .intro
theorem PySem.W.Fast.tw6454664715615922259 : True := .intro
theorem PySem.W.Fast.tw2020764229341605075 : True := .intro
theorem PySem.W.Fast.tw391272718535825715 : True := .intro
theorem PySem.W.Fast.tw14076105427119066419 : True := .intro
theorem PySem.W.Fast.tw17891585095775204819 : True := .intro
theorem PySem.W.Fast.tw5188389879359399539 : True := .intro
theorem PySem.W.Fast.tw10584156551829891795 : True := .intro
theorem PySem.W.Fast.tw8467904801302428499 : True := .intro
theorem PySem.W.Fast.tw8111812505226075220 : True := .intro
theorem PySem.W.Fast.tw7254419218154678388 : True := .intro
theorem PySem.W.Fast.tw17426423720057028820 : True := .intro
theorem PySem.W.Fast.tw17351242115464829236 : True := .intro
theorem PySem.W.Fast.tw10256235393954224436 : True := .intro
theorem PySem.W.Fast.tw13630417180348408116 : True := .intro
theorem PySem.W.Fast.tw6111748388598327636 : True := .intro
theorem PySem.W.Fast.tw6976555525547487572 : True := .intro
theorem PySem.W.Fast.tw962646811777168724 : True := .intro
theorem PySem.W.Fast.tw2988388069113109908 : True := .intro
theorem PySem.W.Fast.tw9188081369490792884 : True := .intro
theorem PySem.W.Fast.tw13834099390446527956 : True := .intro
theorem PySem.W.Fast.tw8728058758766361044 : True := .intro
theorem PySem.W.Fast.tw4756936363756985876 : True := .intro
theorem PySem.W.Fast.tw7117779045046432276 : True := .intro
theorem PySem.W.Fast.tw7598913924785568276 : True := .intro
theorem PySem.W.Fast.tw8387819054677065236 : True := .intro
theorem PySem.W.Fast.tw5532099061697676852 : True := .intro
theorem PySem.W.Fast.tw11239905518939189844 : True := .intro
theorem PySem.W.Fast.tw17299450083188349524 : True := .intro
theorem PySem.W.Fast.tw3586515307399624308 : True := .intro
theorem PySem.W.Fast.tw16331607666019809908 : True := .intro
theorem PySem.W.Fast.tw14517385937232806548 : True := .intro
theorem PySem.W.Fast.tw17178677061449812692 : True := .intro
theorem PySem.W.Fast.tw135977437267055348 : True := .intro
theorem PySem.W.Fast.tw9126623680471927540 : True := .intro
theorem PySem.W.Fast.tw15881908390086587188 : True := .intro
theorem PySem.W.Fast.tw4186252044454440948 : True := .intro
theorem PySem.W.Fast.tw12676804910778089493 : True := .intro
theorem PySem.W.Fast.tw16978212652190710869 : True := .intro
theorem PySem.W.Fast.tw14157778700302798965 : True := .intro
theorem PySem.W.Fast.tw15433734178892926101 : True := .intro
theorem PySem.W.Fast.tw755484517329348757 : True := .intro
theorem PySem.W.Fast.tw12447916669565533365 : True := .intro
theorem PySem.W.Fast.tw5077377729170055381 : True := .intro
theorem PySem.W.Fast.tw12602789483757934837 : True := .intro
theorem PySem.W.Fast.tw6737936091588696309 : True := .intro
theorem PySem.W.Fast.tw7075402189651221749 : True := .intro
theorem PySem.W.Fast.tw12235714826174429429 : True := .intro
theorem PySem.W.Fast.tw16475133250604075285 : True := .intro
theorem PySem.W.Fast.tw9081969225669256469 : True := .intro
theorem PySem.W.Fast.tw6001197805002233269 : True := .intro
theorem PySem.W.Fast.tw8077311560290091509 : True := .intro
theorem PySem.W.Fast.tw9156525624279110165 : True := .intro
theorem PySem.W.Fast.tw6713691831306860117 : True := .intro
theorem PySem.W.Fast.tw12853473162333207189 : True := .intro
theorem PySem.W.Fast.tw16518360625723329269 : True := .intro
theorem PySem.W.Fast.tw6204237946197263093 : True := .intro
theorem PySem.W.Fast.tw16073720465074825013 : True := .intro
theorem PySem.W.Fast.tw15264133418426034037 : True := .intro
theorem PySem.W.Fast.tw14302245755166911413 : True := .intro
theorem PySem.W.Fast.tw12575230472454980597 : True := .intro
theorem PySem.W.Fast.tw6871641113954309109 : True := .intro
theorem PySem.W.Fast.tw5455207008718972950 : True := .intro
theorem PySem.W.Fast.tw7867999030514950198 : True := .intro
theorem PySem.W.Fast.tw14565586940095423574 : True := .intro
theorem PySem.W.Fast.tw956770742466157686 : True := .intro
theorem PySem.W.Fast.tw580119349990789302 : True := .intro
theorem PySem.W.Fast.tw6375593480644888854 : True := .intro
theorem PySem.W.Fast.tw10080049923321326902 : True := .intro
theorem PySem.W.Fast.tw6917685898472982870 : True := .intro
theorem PySem.W.Fast.tw1677558949157852566 : True := .intro
theorem PySem.W.Fast.tw11704914753632840086 : True := .intro
theorem PySem.W.Fast.tw10110212717515293142 : True := .intro
theorem PySem.W.Fast.tw8508706761347845590 : True := .intro
theorem PySem.W.Fast.tw15106282153504778742 : True := .intro
theorem PySem.W.Fast.tw9202558126206112310 : True := .intro
theorem PySem.W.Fast.tw496153650190339734 : True := .intro
theorem PySem.W.Fast.tw3979667720920727254 : True := .intro
theorem PySem.W.Fast.tw7367915745202215702 : True := .intro
theorem PySem.W.Fast.tw16366761221647958902 : True := .intro
theorem PySem.W.Fast.tw8261307080702505910 : True := .intro
theorem PySem.W.Fast.tw1917730442048418742 : True := .intro
theorem PySem.W.Fast.tw13766200235210298391 : True := .intro
theorem PySem.W.Fast.tw10109301697306716215 : True := .intro
theorem PySem.W.Fast.tw6051676987807059031 : True := .intro
theorem PySem.W.Fast.tw1714686363134425239 : True := .intro
theorem PySem.W.Fast.tw16763300061354908983 : True := .intro
theorem PySem.W.Fast.tw4559373950796055895 : True := .intro
theorem PySem.W.Fast.tw18046283754666761591 : True := .intro
theorem PySem.W.Fast.tw3591585440119593463 : True := .intro
theorem PySem.W.Fast.tw3330909458754199127 : True := .intro
theorem PySem.W.Fast.tw7844125140259853015 : True := .intro
theorem PySem.W.Fast.tw13009459078311581431 : True := .intro
theorem PySem.W.Fast.tw2868367350258760471 : True := .intro
theorem PySem.W.Fast.tw9656436581364942615 : True := .intro
theorem PySem.W.Fast.tw6921325517342597943 : True := .intro
theorem PySem.W.Fast.tw12371741078584481719 : True := .intro
theorem PySem.W.Fast.tw4885667384088265655 : True := .intro
theorem PySem.W.Fast.tw15651025990204816343 : True := .intro
theorem PySem.W.Fast.tw9938840634478568439 : True := .intro
theorem PySem.W.Fast.tw1373881483213648887 : True := .intro
theorem PySem.W.Fast.tw14876496177809910775 : True := .intro
theorem PySem.W.Fast.tw5571587035767815256 : True := .intro
theorem PySem.W.Fast.tw13937457064516598872 : True := .intro
theorem PySem.W.Fast.tw17491571469479204984 : True := .intro
theorem PySem.W.Fast.tw6951717526958489752 : True := .intro
theorem PySem.W.Fast.tw380724289404032280 : True := .intro
theorem PySem.W.Fast.tw1649509449163648312 : True := .intro
theorem PySem.W.Fast.tw14277418863715584376 : True := .intro
theorem PySem.W.Fast.tw2549693277368541560 : True := .intro
theorem PySem.W.Fast.tw12706007371307346296 : True := .intro
theorem PySem.W.Fast.tw3495097597148560952 : True := .intro
theorem PySem.W.Fast.tw6599715643593344568 : True := .intro
theorem PySem.W.Fast.tw9266221339902541496 : True := .intro
theorem PySem.W.Fast.tw7762597292973041336 : True := .intro
theorem PySem.W.Fast.tw455361444454922968 : True := .intro
theorem PySem.W.Fast.tw15235782773550264056 : True := .intro
theorem PySem.W.Fast.tw13802956502370680568 : True := .intro
theorem PySem.W.Fast.tw7955137953793284888 : True := .intro
theorem PySem.W.Fast.tw12562782479194526520 : True := .intro
theorem PySem.W.Fast.tw971209577703959384 : True := .intro
theorem PySem.W.Fast.tw7560471298015757272 : True := .intro
theorem PySem.W.Fast.tw3275228637735743480 : True := .intro
theorem PySem.W.Fast.tw2894425991454633017 : True := .intro
theorem PySem.W.Fast.tw12159581748187133113 : True := .intro
theorem PySem.W.Fast.tw11654116627738750169 : True := .intro
theorem PySem.W.Fast.tw1446142184234761465 : True := .intro
theorem PySem.W.Fast.tw16087147188155686169 : True := .intro
theorem PySem.W.Fast.tw16670326286647357721 : True := .intro
theorem PySem.W.Fast.tw1715473318989361433 : True := .intro
theorem PySem.W.Fast.tw6033077928463447385 : True := .intro
theorem PySem.W.Fast.tw1601601212482948473 : True := .intro
theorem PySem.W.Fast.tw9328806584432841081 : True := .intro
theorem PySem.W.Fast.tw1034566812395673177 : True := .intro
theorem PySem.W.Fast.tw4389430122418890361 : True := .intro
theorem PySem.W.Fast.tw15384028355651316377 : True := .intro
theorem PySem.W.Fast.tw12079416868639316697 : True := .intro
theorem PySem.W.Fast.tw6585584289609798457 : True := .intro
theorem PySem.W.Fast.tw17482117007658096473 : True := .intro
theorem PySem.W.Fast.tw8918229647785335641 : True := .intro
theorem PySem.W.Fast.tw10149771902079264601 : True := .intro
theorem PySem.W.Fast.tw942579214288286553 : True := .intro
theorem PySem.W.Fast.tw1576853804534417305 : True := .intro
theorem PySem.W.Fast.tw4767732044708611001 : True := .intro
theorem PySem.W.Fast.tw13773775050145206201 : True := .intro
theorem PySem.W.Fast.tw3278662071649230777 : True := .intro
theorem PySem.W.Fast.tw7317243430744630233 : True := .intro
theorem PySem.W.Fast.tw13488371330541378618 : True := .intro
theorem PySem.W.Fast.tw11210886308340497530 : True := .intro
theorem PySem.W.Fast.tw18011634089570185338 : True := .intro
theorem PySem.W.Fast.tw14974306508072886458 : True := .intro
theorem PySem.W.Fast.tw10334156852838478010 : True := .intro
theorem PySem.W.Fast.tw5951756319785724122 : True := .intro
theorem PySem.W.Fast.tw6796559352887637242 : True := .intro
theorem PySem.W.Fast.tw6261256118632275258 : True := .intro
theorem PySem.W.Fast.tw5008173292894447994 : True := .intro
theorem PySem.W.Fast.tw12145071080320527738 : True := .intro
theorem PySem.W.Fast.tw18113767697603543450 : True := .intro
theorem PySem.W.Fast.tw2213334592764661178 : True := .intro
theorem PySem.W.Fast.tw6666190135827345882 : True := .intro
theorem PySem.W.Fast.tw3124073357122029018 : True := .intro
theorem PySem.W.Fast.tw11954920556928847354 : True := .intro
theorem PySem.W.Fast.tw18173072591067419194 : True := .intro
theorem PySem.W.Fast.tw10685214337797411418 : True := .intro
theorem PySem.W.Fast.tw6342855034326350522 : True := .intro
theorem PySem.W.Fast.tw10300944851383453498 : True := .intro
theorem PySem.W.Fast.tw17277926221343124314 : True := .intro
theorem PySem.W.Fast.tw13863866268838840314 : True := .intro
theorem PySem.W.Fast.tw11097435561229173787 : True := .intro
theorem PySem.W.Fast.tw4595256902514177115 : True := .intro
theorem PySem.W.Fast.tw10067942520402751643 : True := .intro
theorem PySem.W.Fast.tw17528089205171815611 : True := .intro
theorem PySem.W.Fast.tw8078058505939191035 : True := .intro
theorem PySem.W.Fast.tw14293887967549572347 : True := .intro
theorem PySem.W.Fast.tw3123670985297417691 : True := .intro
theorem PySem.W.Fast.tw558150794801393179 : True := .intro
theorem PySem.W.Fast.tw8697632522170563099 : True := .intro
theorem PySem.W.Fast.tw7714056159469896219 : True := .intro
theorem PySem.W.Fast.tw12566584821541200539 : True := .intro
theorem PySem.W.Fast.tw7620148909418989275 : True := .intro
theorem PySem.W.Fast.tw14190874568208227067 : True := .intro
theorem PySem.W.Fast.tw8606475174608897819 : True := .intro
theorem PySem.W.Fast.tw13032330091445385083 : True := .intro
theorem PySem.W.Fast.tw3309795095864296347 : True := .intro
theorem PySem.W.Fast.tw13638311788213030811 : True := .intro
theorem PySem.W.Fast.tw4691366783401363419 : True := .intro
theorem PySem.W.Fast.tw12664488632627817467 : True := .intro
theorem PySem.W.Fast.tw7289478234084631580 : True := .intro
theorem PySem.W.Fast.tw7797424422688934972 : True := .intro
theorem PySem.W.Fast.tw13606435656695997532 : True := .intro
theorem PySem.W.Fast.tw6399930121649328316 : True := .intro
theorem PySem.W.Fast.tw17634432455867392188 : True := .intro
theorem PySem.W.Fast.tw3357984573330604252 : True := .intro
theorem PySem.W.Fast.tw5573050092834645340 : True := .intro
theorem PySem.W.Fast.tw15356913908097328508 : True := .intro
theorem PySem.W.Fast.tw1245768749952657820 : True := .intro
theorem PySem.W.Fast.tw13436312797145122332 : True := .intro
theorem PySem.W.Fast.tw12714863851283866172 : True := .intro
theorem PySem.W.Fast.tw13697114767914636892 : True := .intro
theorem PySem.W.Fast.tw10850354367230489212 : True := .intro
theorem PySem.W.Fast.tw8595635364039003804 : True := .intro
theorem PySem.W.Fast.tw12896047241916357276 : True := .intro
theorem PySem.W.Fast.tw17336496369746089660 : True := .intro
theorem PySem.W.Fast.tw15073851069407997660 : True := .intro
theorem PySem.W.Fast.tw4663950860925326044 : True := .intro
theorem PySem.W.Fast.tw2135075078551610108 : True := .intro
theorem PySem.W.Fast.tw12543777367199348572 : True := .intro
theorem PySem.W.Fast.tw15747890398364826556 : True := .intro
theorem PySem.W.Fast.tw13700954695146611676 : True := .intro
theorem PySem.W.Fast.tw17449016137181509693 : True := .intro
theorem PySem.W.Fast.tw3213141839769862237 : True := .intro
theorem PySem.W.Fast.tw14235339904296433757 : True := .intro
theorem PySem.W.Fast.tw2735226725262430333 : True := .intro
theorem PySem.W.Fast.tw3716988840750607517 : True := .intro
theorem PySem.W.Fast.tw4118713626584904957 : True := .intro
theorem PySem.W.Fast.tw14687868988171312477 : True := .intro
theorem PySem.W.Fast.tw5810782592212567453 : True := .intro
theorem PySem.W.Fast.tw16873780565665595837 : True := .intro
theorem PySem.W.Fast.tw1385587730743092669 : True := .intro
theorem PySem.W.Fast.tw81205672800369117 : True := .intro
theorem PySem.W.Fast.tw18079452415808694781 : True := .intro
theorem PySem.W.Fast.tw4157948419826786845 : True := .intro
theorem PySem.W.Fast.tw2818441794450650813 : True := .intro
theorem PySem.W.Fast.tw8943326101361071837 : True := .intro
theorem PySem.W.Fast.tw7147809731469240061 : True := .intro
theorem PySem.W.Fast.tw18424649215069019997 : True := .intro
theorem PySem.W.Fast.tw10882025940085844925 : True := .intro
theorem PySem.W.Fast.tw2587515281548004285 : True := .intro
theorem PySem.W.Fast.tw10912509632045165533 : True := .intro
theorem PySem.W.Fast.tw3227011004241135613 : True := .intro
theorem PySem.W.Fast.tw365525633493321790 : True := .intro
theorem PySem.W.Fast.tw6461246451379922078 : True := .intro
theorem PySem.W.Fast.tw1193585974954736926 : True := .intro
theorem PySem.W.Fast.tw17789702235098031454 : True := .intro
theorem PySem.W.Fast.tw9612298714562439518 : True := .intro
theorem PySem.W.Fast.tw1961633708589981054 : True := .intro
theorem PySem.W.Fast.tw17263299696781177246 : True := .intro
theorem PySem.W.Fast.tw14066108680895135134 : True := .intro
theorem PySem.W.Fast.tw13618430183873795518 : True := .intro
theorem PySem.W.Fast.tw14692009562196445726 : True := .intro
theorem PySem.W.Fast.tw16434380711277997662 : True := .intro
theorem PySem.W.Fast.tw5047026126966652702 : True := .intro
theorem PySem.W.Fast.tw17682104891093243678 : True := .intro
theorem PySem.W.Fast.tw4694846628641036222 : True := .intro
theorem PySem.W.Fast.tw4844969136773735422 : True := .intro
theorem PySem.W.Fast.tw5117359500821479455 : True := .intro
theorem PySem.W.Fast.tw8725747407954311199 : True := .intro
theorem PySem.W.Fast.tw18354399840651862079 : True := .intro
theorem PySem.W.Fast.tw5177069810728856735 : True := .intro
theorem PySem.W.Fast.tw18180308034845776095 : True := .intro
theorem PySem.W.Fast.tw7644675332694485247 : True := .intro
theorem PySem.W.Fast.tw12422316045988765983 : True := .intro
theorem PySem.W.Fast.tw4695692014854627679 : True := .intro
theorem PySem.W.Fast.tw15981430791029014911 : True := .intro
theorem PySem.W.Fast.tw6112280137703972287 : True := .intro
theorem PySem.W.Fast.tw987915945187602911 : True := .intro
theorem PySem.W.Fast.tw7531702376852313599 : True := .intro
theorem PySem.W.Fast.tw9218447021460232863 : True := .intro
theorem PySem.W.Fast.tw8940520629634008831 : True := .intro
theorem PySem.W.Fast.tw3752843249849005823 : True := .intro
theorem PySem.W.Fast.tw8837710067375443743 : True := .intro
theorem PySem.W.Fast.tw6995324776738406271 : True := .intro
theorem PySem.W.Fast.tw4754692758058433439 : True := .intro
theorem PySem.W.Fast.tw4179714723135400895 : True := .intro
open PySem PySem.W PyProof.Rows
set_option maxRecDepth 100000 in
set_option maxHeartbeats 0 in
theorem PySem.Challenge.cw_leansay_k07_no_points_holds : PySem.Challenge.rw_leansay_k07_no_points.Holds := by
  w_on; o_law; k_head; (case hw => w_witness2)
  k_fill
  refine L2.walk_bits (l := PySem.Challenge.rw_leansay_k07_no_points) (n := 63) (k := 40) (x := "_law_script") (CX := L2.CX0) (sp := Mine.spLaw) rfl (by decide) rfl ⟨rfl, by decide, by decide⟩ (fun w h Y => PySem.W.kIn_of Y) ?F ?S ?C
  case F =>
    intro w mg fa h KX G hmg
    have T_is_whole : L2.TopDef (L2.KOf KX) mg "is_whole" Mine.s_is_whole := by
      dsimp only [L2.KOf]
      refine' L2.top_mk KX G ?a ?l ?c ?k; (case a => k_is); (case l => k_is); (case c => k_is); (case k => k_is)
    have T_is_point : L2.TopDef (L2.KOf KX) mg "is_point" Mine.s_is_point := by
      dsimp only [L2.KOf]
      refine' L2.top_mk KX G ?a ?l ?c ?k; (case a => k_is); (case l => k_is); (case c => k_is); (case k => k_is)
    have T_must_be_point : L2.TopDef (L2.KOf KX) mg "must_be_point" Mine.s_must_be_point := by
      dsimp only [L2.KOf]
      refine' L2.top_mk KX G ?a ?l ?c ?k; (case a => k_is); (case l => k_is); (case c => k_is); (case k => k_is)
    have T_worth : L2.TopDef (L2.KOf KX) mg "worth" Mine.s_worth := by
      dsimp only [L2.KOf]
      refine' L2.top_mk KX G ?a ?l ?c ?k; (case a => k_is); (case l => k_is); (case c => k_is); (case k => k_is)
    have T_how_many_it_takes : L2.TopDef (L2.KOf KX) mg "how_many_it_takes" Mine.s_how_many_it_takes := by
      dsimp only [L2.KOf]
      refine' L2.top_mk KX G ?a ?l ?c ?k; (case a => k_is); (case l => k_is); (case c => k_is); (case k => k_is)
    have T_leaf_by : L2.TopDef (L2.KOf KX) mg "leaf_by" Mine.s_leaf_by := by
      dsimp only [L2.KOf]
      refine' L2.top_mk KX G ?a ?l ?c ?k; (case a => k_is); (case l => k_is); (case c => k_is); (case k => k_is)
    have T_fold_by : L2.TopDef (L2.KOf KX) mg "fold_by" Mine.s_fold_by := by
      dsimp only [L2.KOf]
      refine' L2.top_mk KX G ?a ?l ?c ?k; (case a => k_is); (case l => k_is); (case c => k_is); (case k => k_is)
    have T_is_place_ahead : L2.TopDef (L2.KOf KX) mg "is_place_ahead" Mine.s_is_place_ahead := by
      dsimp only [L2.KOf]
      refine' L2.top_mk KX G ?a ?l ?c ?k; (case a => k_is); (case l => k_is); (case c => k_is); (case k => k_is)
    have T_is_row : L2.TopDef (L2.KOf KX) mg "is_row" Mine.s_is_row := by
      dsimp only [L2.KOf]
      refine' L2.top_mk KX G ?a ?l ?c ?k; (case a => k_is); (case l => k_is); (case c => k_is); (case k => k_is)
    have T_rows_fault : L2.TopDef (L2.KOf KX) mg "rows_fault" Mine.s_rows_fault := by
      dsimp only [L2.KOf]
      refine' L2.top_mk KX G ?a ?l ?c ?k; (case a => k_is); (case l => k_is); (case c => k_is); (case k => k_is)
    have T_must_be_rows : L2.TopDef (L2.KOf KX) mg "must_be_rows" Mine.s_must_be_rows := by
      dsimp only [L2.KOf]
      refine' L2.top_mk KX G ?a ?l ?c ?k; (case a => k_is); (case l => k_is); (case c => k_is); (case k => k_is)
    have T_rows_of : L2.TopDef (L2.KOf KX) mg "rows_of" Mine.s_rows_of := by
      dsimp only [L2.KOf]
      refine' L2.top_mk KX G ?a ?l ?c ?k; (case a => k_is); (case l => k_is); (case c => k_is); (case k => k_is)
    have T_row_worth : L2.TopDef (L2.KOf KX) mg "row_worth" Mine.s_row_worth := by
      dsimp only [L2.KOf]
      refine' L2.top_mk KX G ?a ?l ?c ?k; (case a => k_is); (case l => k_is); (case c => k_is); (case k => k_is)
    have T_worth_of_rows : L2.TopDef (L2.KOf KX) mg "worth_of_rows" Mine.s_worth_of_rows := by
      dsimp only [L2.KOf]
      refine' L2.top_mk KX G ?a ?l ?c ?k; (case a => k_is); (case l => k_is); (case c => k_is); (case k => k_is)
    have T_l_mixed : L2.TopDef (L2.KOf KX) mg "_law_mixed" Mine.s_l_mixed := by
      dsimp only [L2.KOf]
      refine' L2.top_mk KX G ?a ?l ?c ?k; (case a => k_is); (case l => k_is); (case c => k_is); (case k => k_is)
    have T_l_next : L2.TopDef (L2.KOf KX) mg "_law_next" Mine.s_l_next := by
      dsimp only [L2.KOf]
      refine' L2.top_mk KX G ?a ?l ?c ?k; (case a => k_is); (case l => k_is); (case c => k_is); (case k => k_is)
    have T_l_saying : L2.TopDef (L2.KOf KX) mg "_law_saying" Mine.s_l_saying := by
      dsimp only [L2.KOf]
      refine' L2.top_mk KX G ?a ?l ?c ?k; (case a => k_is); (case l => k_is); (case c => k_is); (case k => k_is)
    have T_l_object : L2.TopDef (L2.KOf KX) mg "_law_object" Mine.s_l_object := by
      dsimp only [L2.KOf]
      refine' L2.top_mk KX G ?a ?l ?c ?k; (case a => k_is); (case l => k_is); (case c => k_is); (case k => k_is)
    have T_l_fold : L2.TopDef (L2.KOf KX) mg "_law_fold" Mine.s_l_fold := by
      dsimp only [L2.KOf]
      refine' L2.top_mk KX G ?a ?l ?c ?k; (case a => k_is); (case l => k_is); (case c => k_is); (case k => k_is)
    have T_l_worth : L2.TopDef (L2.KOf KX) mg "_law_worth" Mine.s_l_worth := by
      dsimp only [L2.KOf]
      refine' L2.top_mk KX G ?a ?l ?c ?k; (case a => k_is); (case l => k_is); (case c => k_is); (case k => k_is)
    have T_l_point : L2.TopDef (L2.KOf KX) mg "_law_point" Mine.s_l_point := by
      dsimp only [L2.KOf]
      refine' L2.top_mk KX G ?a ?l ?c ?k; (case a => k_is); (case l => k_is); (case c => k_is); (case k => k_is)
    have T_l_odd : L2.TopDef (L2.KOf KX) mg "_law_odd" Mine.s_l_odd := by
      dsimp only [L2.KOf]
      refine' L2.top_mk KX G ?a ?l ?c ?k; (case a => k_is); (case l => k_is); (case c => k_is); (case k => k_is)
    have T_l_refused : L2.TopDef (L2.KOf KX) mg "_law_refused" Mine.s_l_refused := by
      dsimp only [L2.KOf]
      refine' L2.top_mk KX G ?a ?l ?c ?k; (case a => k_is); (case l => k_is); (case c => k_is); (case k => k_is)
    have T_law : L2.TopDef (L2.KOf KX) mg "law" Mine.s_law := by
      dsimp only [L2.KOf]
      refine' L2.top_mk KX G ?a ?l ?c ?k; (case a => k_is); (case l => k_is); (case c => k_is); (case k => k_is)
    have Z_len : mg "len" = none := by
      refine' PySem.W.mg_none_of KX G ?z; (case z => k_is)
    have Z_abs : mg "abs" = none := by
      refine' PySem.W.mg_none_of KX G ?z; (case z => k_is)
    have Z_isinstance : mg "isinstance" = none := by
      refine' PySem.W.mg_none_of KX G ?z; (case z => k_is)
    have Z_bool : mg "bool" = none := by
      refine' PySem.W.mg_none_of KX G ?z; (case z => k_is)
    have Z_int : mg "int" = none := by
      refine' PySem.W.mg_none_of KX G ?z; (case z => k_is)
    have Z_tuple : mg "tuple" = none := by
      refine' PySem.W.mg_none_of KX G ?z; (case z => k_is)
    have Z_range : mg "range" = none := by
      refine' PySem.W.mg_none_of KX G ?z; (case z => k_is)
    have Z_list : mg "list" = none := by
      refine' PySem.W.mg_none_of KX G ?z; (case z => k_is)
    have Z_str : mg "str" = none := by
      refine' PySem.W.mg_none_of KX G ?z; (case z => k_is)
    have Z_min : mg "min" = none := by
      refine' PySem.W.mg_none_of KX G ?z; (case z => k_is)
    have Z_max : mg "max" = none := by
      refine' PySem.W.mg_none_of KX G ?z; (case z => k_is)
    have Z_all : mg "all" = none := by
      refine' PySem.W.mg_none_of KX G ?z; (case z => k_is)
    have Z_enumerate : mg "enumerate" = none := by
      refine' PySem.W.mg_none_of KX G ?z; (case z => k_is)
    have Z_ValueError : mg "ValueError" = none := by
      refine' PySem.W.mg_none_of KX G ?z; (case z => k_is)
    have kb : kitOne (L2.KOf KX) (.type "int") (.type "bool") = some false := by
      dsimp only [L2.KOf]
      first | k_is | kit_is
    have AA : ∃ c, Mine.AllF (L2.KOf KX) mg c := by
      dsimp only [L2.KOf]
      refine' Mine.all_mk KX G ?n_ne ?n_al ?n_le ?n_no ?n_mo ?n_ls ?n_gr ?n_lr ?n_ld ?c_ne ?c_al ?c_le ?c_no ?c_mo ?c_ls ?c_gr ?c_lr ?c_ld ?h_ne ?h_al ?h_le ?h_no ?h_mo ?h_ls ?h_gr ?h_lr ?h_ld ?m_ne ?m_al ?m_le ?m_no ?m_mo ?m_ls ?m_gr ?m_lr ?m_ld ?s_ne ?s_al ?s_le ?s_no ?s_mo ?s_ls ?s_gr ?s_lr ?s_ld ?hn ?tk ?a_name ?a_part ?a_one_mo ?a_one_ls ?a_one_gr ?a_one_lr ?a_one_ld ?a_other_mo ?a_other_ls ?a_other_gr ?a_other_lr ?a_other_ld ?g_madeS_ne ?g_madeS_al ?g_madeS_le ?e_madeS ?g_laid_ne ?g_laid_al ?g_laid_le ?g_laid_no ?g_laid_mo ?g_laid_ls ?g_laid_gr ?g_laid_lr ?g_laid_ld ?e_laid ?g_out_ne ?g_out_al ?g_out_le ?g_out_no ?g_out_mo ?g_out_ls ?g_out_gr ?g_out_lr ?g_out_ld ?e_out ?g_Kne_ne ?e_Kne ?g_Wne_ne ?e_Wne ?g_Kal_al ?e_Kal ?g_Wal_al ?e_Wal ?g_Kle_le ?e_Kle ?g_Wle_le ?e_Wle ?g_Kno_no ?e_Kno ?g_Wno_no ?e_Wno ?g_Mno_no ?e_Mno ?g_Mfo_mo ?g_Mfo_ls ?g_Mfo_gr ?g_Mfo_lr ?g_Mfo_ld ?e_Mfo ?g_Wfo_mo ?g_Wfo_ls ?g_Wfo_gr ?g_Wfo_lr ?g_Wfo_ld ?e_Wfo ?g_F0mo_mo ?e_F0mo ?g_F1mo_mo ?e_F1mo ?g_F0ls_ls ?e_F0ls ?g_F1ls_ls ?e_F1ls ?g_F0gr_gr ?e_F0gr ?g_F1gr_gr ?e_F1gr ?g_F0lr_lr ?e_F0lr ?g_F1lr_lr ?e_F1lr ?g_F0ld_ld ?e_F0ld ?g_F1ld_ld ?e_F1ld ?g_ile_le ?e_ile ?g_ino_no ?e_ino ?g_ifo_mo ?g_ifo_ls ?g_ifo_gr ?g_ifo_lr ?g_ifo_ld ?e_ifo ?i_ne ?i_al ?y_ne ?y_al ?y_le ?y_no ?y_mo ?y_ls ?y_gr ?y_lr ?y_ld ?z_ne ?z_al ?z_le ?z_no ?z_mo ?z_ls ?z_gr ?z_lr ?z_ld
      (case n_ne => k_is)
      (case n_al => k_is)
      (case n_le => k_is)
      (case n_no => k_is)
      (case n_mo => k_is)
      (case n_ls => k_is)
      (case n_gr => k_is)
      (case n_lr => k_is)
      (case n_ld => k_is)
      (case c_ne => refine' ⟨?q1, ?q2, ?q3, ?q4⟩; (case q1 => k_is); (case q2 => k_is); (case q3 => k_is); (case q4 => k_is))
      (case c_al => refine' ⟨?q1, ?q2, ?q3, ?q4⟩; (case q1 => k_is); (case q2 => k_is); (case q3 => k_is); (case q4 => k_is))
      (case c_le => refine' ⟨?q1, ?q2, ?q3, ?q4⟩; (case q1 => k_is); (case q2 => k_is); (case q3 => k_is); (case q4 => k_is))
      (case c_no => refine' ⟨?q1, ?q2, ?q3, ?q4⟩; (case q1 => k_is); (case q2 => k_is); (case q3 => k_is); (case q4 => k_is))
      (case c_mo => refine' ⟨?q1, ?q2, ?q3, ?q4⟩; (case q1 => k_is); (case q2 => k_is); (case q3 => k_is); (case q4 => k_is))
      (case c_ls => refine' ⟨?q1, ?q2, ?q3, ?q4⟩; (case q1 => k_is); (case q2 => k_is); (case q3 => k_is); (case q4 => k_is))
      (case c_gr => refine' ⟨?q1, ?q2, ?q3, ?q4⟩; (case q1 => k_is); (case q2 => k_is); (case q3 => k_is); (case q4 => k_is))
      (case c_lr => refine' ⟨?q1, ?q2, ?q3, ?q4⟩; (case q1 => k_is); (case q2 => k_is); (case q3 => k_is); (case q4 => k_is))
      (case c_ld => refine' ⟨?q1, ?q2, ?q3, ?q4⟩; (case q1 => k_is); (case q2 => k_is); (case q3 => k_is); (case q4 => k_is))
      (case h_ne => k_is)
      (case h_al => k_is)
      (case h_le => k_is)
      (case h_no => k_is)
      (case h_mo => k_is)
      (case h_ls => k_is)
      (case h_gr => k_is)
      (case h_lr => k_is)
      (case h_ld => k_is)
      (case m_ne => k_is)
      (case m_al => k_is)
      (case m_le => k_is)
      (case m_no => k_is)
      (case m_mo => k_is)
      (case m_ls => k_is)
      (case m_gr => k_is)
      (case m_lr => k_is)
      (case m_ld => k_is)
      (case s_ne => first | k_is | kit_is)
      (case s_al => first | k_is | kit_is)
      (case s_le => first | k_is | kit_is)
      (case s_no => first | k_is | kit_is)
      (case s_mo => first | k_is | kit_is)
      (case s_ls => first | k_is | kit_is)
      (case s_gr => first | k_is | kit_is)
      (case s_lr => first | k_is | kit_is)
      (case s_ld => first | k_is | kit_is)
      (case hn => k_is)
      (case tk => k_is)
      (case a_name => k_is)
      (case a_part => k_is)
      (case a_one_mo => k_is)
      (case a_one_ls => k_is)
      (case a_one_gr => k_is)
      (case a_one_lr => k_is)
      (case a_one_ld => k_is)
      (case a_other_mo => k_is)
      (case a_other_ls => k_is)
      (case a_other_gr => k_is)
      (case a_other_lr => k_is)
      (case a_other_ld => k_is)
      (case g_madeS_ne => k_is)
      (case g_madeS_al => k_is)
      (case g_madeS_le => k_is)
      (case e_madeS => refine' L2.funM_mk ?l ?c ?k ?fn; (case l => k_is); (case c => k_is); (case k => k_is); (case fn => k_is))
      (case g_laid_ne => k_is)
      (case g_laid_al => k_is)
      (case g_laid_le => k_is)
      (case g_laid_no => k_is)
      (case g_laid_mo => k_is)
      (case g_laid_ls => k_is)
      (case g_laid_gr => k_is)
      (case g_laid_lr => k_is)
      (case g_laid_ld => k_is)
      (case e_laid => refine' L2.funM_mk ?l ?c ?k ?fn; (case l => k_is); (case c => k_is); (case k => k_is); (case fn => k_is))
      (case g_out_ne => k_is)
      (case g_out_al => k_is)
      (case g_out_le => k_is)
      (case g_out_no => k_is)
      (case g_out_mo => k_is)
      (case g_out_ls => k_is)
      (case g_out_gr => k_is)
      (case g_out_lr => k_is)
      (case g_out_ld => k_is)
      (case e_out => refine' L2.funM_mk ?l ?c ?k ?fn; (case l => k_is); (case c => k_is); (case k => k_is); (case fn => k_is))
      (case g_Kne_ne => k_is)
      (case e_Kne => refine' L2.funM_mk ?l ?c ?k ?fn; (case l => k_is); (case c => k_is); (case k => k_is); (case fn => k_is))
      (case g_Wne_ne => k_is)
      (case e_Wne => refine' L2.funM_mk ?l ?c ?k ?fn; (case l => k_is); (case c => k_is); (case k => k_is); (case fn => k_is))
      (case g_Kal_al => k_is)
      (case e_Kal => refine' L2.funM_mk ?l ?c ?k ?fn; (case l => k_is); (case c => k_is); (case k => k_is); (case fn => k_is))
      (case g_Wal_al => k_is)
      (case e_Wal => refine' L2.funM_mk ?l ?c ?k ?fn; (case l => k_is); (case c => k_is); (case k => k_is); (case fn => k_is))
      (case g_Kle_le => k_is)
      (case e_Kle => refine' L2.funM_mk ?l ?c ?k ?fn; (case l => k_is); (case c => k_is); (case k => k_is); (case fn => k_is))
      (case g_Wle_le => k_is)
      (case e_Wle => refine' L2.funM_mk ?l ?c ?k ?fn; (case l => k_is); (case c => k_is); (case k => k_is); (case fn => k_is))
      (case g_Kno_no => k_is)
      (case e_Kno => refine' L2.funM_mk ?l ?c ?k ?fn; (case l => k_is); (case c => k_is); (case k => k_is); (case fn => k_is))
      (case g_Wno_no => k_is)
      (case e_Wno => refine' L2.funM_mk ?l ?c ?k ?fn; (case l => k_is); (case c => k_is); (case k => k_is); (case fn => k_is))
      (case g_Mno_no => k_is)
      (case e_Mno => refine' L2.funM_mk ?l ?c ?k ?fn; (case l => k_is); (case c => k_is); (case k => k_is); (case fn => k_is))
      (case g_Mfo_mo => k_is)
      (case g_Mfo_ls => k_is)
      (case g_Mfo_gr => k_is)
      (case g_Mfo_lr => k_is)
      (case g_Mfo_ld => k_is)
      (case e_Mfo => refine' L2.funM_mk ?l ?c ?k ?fn; (case l => k_is); (case c => k_is); (case k => k_is); (case fn => k_is))
      (case g_Wfo_mo => k_is)
      (case g_Wfo_ls => k_is)
      (case g_Wfo_gr => k_is)
      (case g_Wfo_lr => k_is)
      (case g_Wfo_ld => k_is)
      (case e_Wfo => refine' L2.funM_mk ?l ?c ?k ?fn; (case l => k_is); (case c => k_is); (case k => k_is); (case fn => k_is))
      (case g_F0mo_mo => k_is)
      (case e_F0mo => refine' L2.funM_mk ?l ?c ?k ?fn; (case l => k_is); (case c => k_is); (case k => k_is); (case fn => k_is))
      (case g_F1mo_mo => k_is)
      (case e_F1mo => refine' L2.funM_mk ?l ?c ?k ?fn; (case l => k_is); (case c => k_is); (case k => k_is); (case fn => k_is))
      (case g_F0ls_ls => k_is)
      (case e_F0ls => refine' L2.funM_mk ?l ?c ?k ?fn; (case l => k_is); (case c => k_is); (case k => k_is); (case fn => k_is))
      (case g_F1ls_ls => k_is)
      (case e_F1ls => refine' L2.funM_mk ?l ?c ?k ?fn; (case l => k_is); (case c => k_is); (case k => k_is); (case fn => k_is))
      (case g_F0gr_gr => k_is)
      (case e_F0gr => refine' L2.funM_mk ?l ?c ?k ?fn; (case l => k_is); (case c => k_is); (case k => k_is); (case fn => k_is))
      (case g_F1gr_gr => k_is)
      (case e_F1gr => refine' L2.funM_mk ?l ?c ?k ?fn; (case l => k_is); (case c => k_is); (case k => k_is); (case fn => k_is))
      (case g_F0lr_lr => k_is)
      (case e_F0lr => refine' L2.funM_mk ?l ?c ?k ?fn; (case l => k_is); (case c => k_is); (case k => k_is); (case fn => k_is))
      (case g_F1lr_lr => k_is)
      (case e_F1lr => refine' L2.funM_mk ?l ?c ?k ?fn; (case l => k_is); (case c => k_is); (case k => k_is); (case fn => k_is))
      (case g_F0ld_ld => k_is)
      (case e_F0ld => refine' L2.funM_mk ?l ?c ?k ?fn; (case l => k_is); (case c => k_is); (case k => k_is); (case fn => k_is))
      (case g_F1ld_ld => k_is)
      (case e_F1ld => refine' L2.funM_mk ?l ?c ?k ?fn; (case l => k_is); (case c => k_is); (case k => k_is); (case fn => k_is))
      (case g_ile_le => k_is)
      (case e_ile => refine' L2.funM_mk ?l ?c ?k ?fn; (case l => k_is); (case c => k_is); (case k => k_is); (case fn => k_is))
      (case g_ino_no => k_is)
      (case e_ino => refine' L2.funM_mk ?l ?c ?k ?fn; (case l => k_is); (case c => k_is); (case k => k_is); (case fn => k_is))
      (case g_ifo_mo => k_is)
      (case g_ifo_ls => k_is)
      (case g_ifo_gr => k_is)
      (case g_ifo_lr => k_is)
      (case g_ifo_ld => k_is)
      (case e_ifo => refine' L2.funM_mk ?l ?c ?k ?fn; (case l => k_is); (case c => k_is); (case k => k_is); (case fn => k_is))
      (case i_ne => k_is)
      (case i_al => k_is)
      (case y_ne => k_is)
      (case y_al => k_is)
      (case y_le => k_is)
      (case y_no => k_is)
      (case y_mo => k_is)
      (case y_ls => k_is)
      (case y_gr => k_is)
      (case y_lr => k_is)
      (case y_ld => k_is)
      (case z_ne => k_is)
      (case z_al => k_is)
      (case z_le => k_is)
      (case z_no => k_is)
      (case z_mo => k_is)
      (case z_ls => k_is)
      (case z_gr => k_is)
      (case z_lr => k_is)
      (case z_ld => k_is)
    obtain ⟨c, AF⟩ := AA
    have CC : ∃ CS CP CR fI, Mine.ExcG (L2.KOf KX) mg CS CP CR ∧ Mine.RowX (L2.KOf KX) mg CR fI ∧ L2.TopDict (L2.KOf KX) mg "TAKEN" Mine.TK ∧ Mine.Kits (L2.KOf KX) := by
      dsimp only [L2.KOf]
      refine' Mine.cls07 KX G ?mCS ?mCP ?mCR ?xp ?i0 ?fe ?xi ?kc ?xf ?sa ?n1 ?s6 ?s7 ?s8 ?o13 ?o14 ?e6 ?e8 ?e9 ?e10 ?e12 ?e16 ?esu ?ek2 ?r6 ?r8 ?r9 ?r10 ?r12 ?r16 ?rsu ?rk2 ?k3 ?k5 ?t1 ?t2 ?t3 ?t4 ?z0 ?z1 ?z2 ?z3 ?z4 ?z5 ?z6 ?z7 ?z8 ?z9 ?z10 ?z11
      (case mCS => k_is)
      (case mCP => k_is)
      (case mCR => k_is)
      (case xp => k_exc)
      (case i0 => k_is)
      (case fe => refine' L2.funE_mk ?fl ?fc ?fk; (case fl => k_is); (case fc => k_is); (case fk => k_is))
      (case xi => kernel_rfl)
      (case kc => k_is)
      (case xf => kernel_rfl)
      (case sa => k_is)
      (case n1 => k_is)
      (case s6 => k_is)
      (case s7 => k_is)
      (case s8 => k_is)
      (case o13 => k_is)
      (case o14 => k_is)
      (case e6 => k_is)
      (case e8 => k_is)
      (case e9 => k_is)
      (case e10 => k_is)
      (case e12 => k_is)
      (case e16 => k_is)
      (case esu => k_is)
      (case ek2 => first | k_is | kit_is)
      (case r6 => k_is)
      (case r8 => k_is)
      (case r9 => k_is)
      (case r10 => k_is)
      (case r12 => k_is)
      (case r16 => k_is)
      (case rsu => k_is)
      (case rk2 => first | k_is | kit_is)
      (case k3 => first | k_is | kit_is)
      (case k5 => first | k_is | kit_is)
      (case t1 => k_is)
      (case t2 => k_is)
      (case t3 => decide)
      (case t4 => exact (.cons rfl ⟨_, rfl⟩ (.cons rfl ⟨_, rfl⟩ (.cons rfl ⟨_, rfl⟩ (.cons rfl ⟨_, rfl⟩ (.cons rfl ⟨_, rfl⟩ (.cons rfl ⟨_, rfl⟩ (.cons rfl ⟨_, rfl⟩ (.cons rfl ⟨_, rfl⟩ (.cons rfl ⟨_, rfl⟩ (.cons rfl ⟨_, rfl⟩ .nil)))))))))))
      (case z0 => first | k_is | kit_is)
      (case z1 => first | k_is | kit_is)
      (case z2 => first | k_is | kit_is)
      (case z3 => first | k_is | kit_is)
      (case z4 => first | k_is | kit_is)
      (case z5 => first | k_is | kit_is)
      (case z6 => first | k_is | kit_is)
      (case z7 => first | k_is | kit_is)
      (case z8 => first | k_is | kit_is)
      (case z9 => first | k_is | kit_is)
      (case z10 => first | k_is | kit_is)
      (case z11 => first | k_is | kit_is)
    obtain ⟨CS, CP, CR, fI, XF, RX, P_TAKEN, kk⟩ := CC
    have I_MOST : ∃ t, mg "MOST_ROWS" = some (.int 400 t) := by
      refine' L2.topint_mk KX G ?ie ?iq; (case ie => k_is); (case iq => exact ⟨_, rfl⟩)
    obtain ⟨tm, M_MOST⟩ := I_MOST
    obtain ⟨f, fd, F, m⟩ := T_law.ex
    have e := hmg.symm.trans m
    cases e
    obtain ⟨oc, od, kV, doc, pm, an, cdv, ct, osl, hfd, lk, hcd⟩ := id F.ex
    subst hfd
    refine ⟨PySem.W.fnOf "law" "law" (L2.defArgs Mine.sLaw) (L2.defBody Mine.sLaw) (L2.defScope Mine.sLaw) .none kV doc pm an cdv ct, fun s u => .of_eq rfl, fun base kb' nb => ?_⟩
    have XN := Mine.rowx (P := PySem.Challenge.rw_leansay_k07_no_points.prog) (w := w) (base := base) XF.mr RX
    have M := Mine.ms (P := PySem.Challenge.rw_leansay_k07_no_points.prog) (w := w) (base := base) AF Z_min Z_max
    obtain ⟨kl, kn, kf⟩ := Mine.mks (P := PySem.Challenge.rw_leansay_k07_no_points.prog) (w := w) (base := base) AF
    have GL : ∀ t, L2.MethOk PySem.Challenge.rw_leansay_k07_no_points.prog w (L2.KOf KX) mg base (c.of t) "laid_out" 2 ["self"] (Mine.spLaid c t) := fun t => Mine.ok_laid (AF.laid t) M
    have D : ∀ t, L2.MethOk PySem.Challenge.rw_leansay_k07_no_points.prog w (L2.KOf KX) mg base (c.of t) "out_of" 3 ["self", "n", "x", "y"] (Mine.spOut c t) := fun t => Mine.ok_out (AF.out t) M GL
    have dNext := Mine.ok_next (P := PySem.Challenge.rw_leansay_k07_no_points.prog) (w := w) (base := base) T_l_next Z_len
    have dFold := Mine.ok_foldF (P := PySem.Challenge.rw_leansay_k07_no_points.prog) (w := w) (base := base) T_l_fold Z_min Z_max
    have dWh := Mine.ok_isWhole (P := PySem.Challenge.rw_leansay_k07_no_points.prog) (w := w) (base := base) T_is_whole Z_isinstance Z_int Z_bool kb
    have dWhG := Mine.ok_isWholeG (P := PySem.Challenge.rw_leansay_k07_no_points.prog) (w := w) (base := base) T_is_whole Z_isinstance Z_int Z_bool
    have dPt := Mine.ok_isPointG T_is_point Z_isinstance Z_tuple Z_len Z_all kb dWhG
    have dMP := (Mine.ok_mustG T_must_be_point XF.mp XF.xp dPt).d
    have dHow := Mine.ok_how (P := PySem.Challenge.rw_leansay_k07_no_points.prog) (w := w) (base := base) T_how_many_it_takes P_TAKEN
    have dRow := Mine.ok_isRow T_is_row Z_isinstance Z_tuple Z_len Z_str Z_all M_MOST dHow (Mine.ok_ahead T_is_place_ahead dWh)
    have dMR := Mine.ok_must T_must_be_rows XN (Mine.ok_fault T_rows_fault Z_enumerate Z_len dRow)
    have dLeaf := Mine.ok_leafBy (P := PySem.Challenge.rw_leansay_k07_no_points.prog) (w := w) (base := base) T_leaf_by AF.o_ne AF.r_ne AF.o_al AF.r_al kl
    have dFoldB := Mine.ok_foldBy (P := PySem.Challenge.rw_leansay_k07_no_points.prog) (w := w) (base := base) T_fold_by kf
    have dRW := Mine.ok_rowW T_row_worth Z_len dLeaf dFoldB kl kn D
    have dWR := Mine.ok_worthR T_worth_of_rows dMR dMP dRW
    have dW := Mine.ok_worthP T_worth dMP D
    exact Mine.ok_law F (Mine.ok_mixed T_l_mixed Z_len Z_max Z_min Z_range Z_abs Z_int) dNext (Mine.ok_point T_l_point) (Mine.ok_odd T_l_odd Z_len Z_str kk) (Mine.ok_saying T_l_saying Z_int dNext 6) (Mine.ok_obj06 T_l_object AF.o_ne AF.r_ne AF.o_al AF.r_al kl kn kf 6) (Mine.ok_rowsOf T_rows_of Z_len Z_tuple M GL) dPt (Mine.ok_ref7 T_l_refused Z_isinstance Z_ValueError XF dW dWR) (Mine.ok_worth T_l_worth Z_int dFold 6) dW dWR
  case S => exact fun K H a ns hl hb hO hS => ⟨a, ns, rfl, Mine.scr_of hO hS hl hb, fun _ => rfl⟩
  case C => exact fun _ _ _ _ z => z




