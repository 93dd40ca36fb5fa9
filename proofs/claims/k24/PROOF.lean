import PyProof.Rows.All
import Wide.All
import OpenK.AllK
import Wide.FinOn
import Lean
import PyProof.EqAt
import PyProof.EqKinds
import PyProof.TupleCall
import KE.KRevIter
import PyProof.ListNew
import PyProof.NeKinds
import PyProof.StrBlockL
import KE.LcSums
import PyProof.Rows.EqDataRows
import PyProof.Draws
import PyProof.EnumMake
import PyProof.ZipIter
import PyProof.WalksMore
import PyProof.P3In
import PyProof.IsRules
import KE.KTab
import PyProof.Rows.SumAny
import KE.KLcPair
import PySem.Challenge.RW_leansay_k24_whole_lines_by_parts
set_option Elab.async false
set_option linter.all false
set_option maxRecDepth 100000
/-! THE HAND LAYER, for ints, bools, texts, own classes, LISTS and tuples (index, slices, in, append, pop ..), calls, loops. Paste it whole ahead of your own text; what your proof does not reach may be deleted. -/
namespace L2
open PySem PySem.Spec PyProof.Rows

/-- a key: an int or a str -/
abbrev Key := Sum Int Str
def keyIs : Key → Value → Bool
  | .inl k, v => Value.isInt k v
  | .inr x, v => Value.isStrOf x v
def keyH (w : World) : Key → Int
  | .inl k => hashInt k
  | .inr x => hashStr w x
theorem keyIs_shape : ∀ {k : Key} {v : Value}, keyIs k v = true → (∃ i t, k = Sum.inl i ∧ v = Value.int i t) ∨ (∃ x t, k = Sum.inr x ∧ v = Value.str x t)
  | .inl i, v, h => by
    obtain ⟨t, e⟩ := Value.isInt_shape (k := i) (v := v) h
    exact .inl ⟨i, t, rfl, e⟩
  | .inr x, v, h => by
    obtain ⟨t, e⟩ := Value.isStrOf_shape (x := x) (v := v) h
    exact .inr ⟨x, t, rfl, e⟩
theorem keyIs_int (i : Int) (t : Tok) : keyIs (.inl i) (.int i t) = true := by simp [keyIs, Value.isInt]
theorem keyIs_str (x : Str) (t : Tok) : keyIs (.inr x) (.str x t) = true := by simp [keyIs, Value.isStrOf]
theorem key_ll (a b : Int) : decide ((Sum.inl a : Key) = Sum.inl b) = (a == b) := by
  by_cases e : a = b
  · subst e; simp
  · have h : ¬ (Sum.inl a : Key) = Sum.inl b := fun q => e (Sum.inl.inj q)
    rw [decide_eq_false h]
    exact (beq_eq_false_iff_ne.mpr e).symm
theorem key_rr (a b : Str) : decide ((Sum.inr a : Key) = Sum.inr b) = decide (a = b) := by
  by_cases e : a = b
  · subst e; simp
  · have h : ¬ (Sum.inr a : Key) = Sum.inr b := fun q => e (Sum.inr.inj q)
    rw [decide_eq_false h, decide_eq_false e]
theorem key_lr (a : Int) (b : Str) : decide ((Sum.inl a : Key) = Sum.inr b) = false := decide_eq_false (fun q => nomatch q)
theorem key_rl (a : Str) (b : Int) : decide ((Sum.inr a : Key) = Sum.inl b) = false := decide_eq_false (fun q => nomatch q)

def mixKind (prog : Program) (w : World) : PySem.KeyKind prog w Key where
  is := keyIs
  hash := keyH w
  inj := fun v a b ha hb => by
    rcases keyIs_shape ha with ⟨i, t, rfl, rfl⟩ | ⟨x, t, rfl, rfl⟩
    · rcases keyIs_shape hb with ⟨j, u, rfl, e⟩ | ⟨y, u, rfl, e⟩
      · injection e with e1 _; rw [e1]
      · exact nomatch e
    · rcases keyIs_shape hb with ⟨j, u, rfl, e⟩ | ⟨y, u, rfl, e⟩
      · exact nomatch e
      · injection e with e1 _; rw [e1]
  byValue := fun k v h => by
    rcases keyIs_shape h with ⟨i, t, rfl, rfl⟩ | ⟨x, t, rfl, rfl⟩ <;> rfl
  pyHash := fun hv h => by
    rcases keyIs_shape hv with ⟨i, t, rfl, rfl⟩ | ⟨x, t, rfl, rfl⟩
    · exact wpAny_pyHash_int h
    · exact wpAny_pyHash_str h
  eqBool := fun hu hv h => by
    rcases keyIs_shape hu with ⟨i, t, rfl, rfl⟩ | ⟨x, t, rfl, rfl⟩
    · rcases keyIs_shape hv with ⟨j, u, rfl, rfl⟩ | ⟨y, u, rfl, rfl⟩
      · rw [key_ll] at h; exact wpAny_eqBool_int h
      · rw [key_lr] at h; exact SeqAt.EqAt.int_str i t y u _ _ _ _ h
    · rcases keyIs_shape hv with ⟨j, u, rfl, rfl⟩ | ⟨y, u, rfl, rfl⟩
      · rw [key_rl] at h; exact SeqAt.EqAt.str_int x t j u _ _ _ _ h
      · rw [key_rr] at h; exact wpAny_eqBool_str h
  «strs» := fun k x t v h => by
    rcases keyIs_shape h with ⟨i, u, rfl, e⟩ | ⟨y, u, rfl, e⟩
    · exact nomatch e
    · injection e with e1 _
      subst e1
      cases v <;> rfl

theorem mixKind_int (prog : Program) (w : World) (i : Int) (t : Tok) : (mixKind prog w).is (.inl i) (.int i t) = true := keyIs_int i t
theorem mixKind_str (prog : Program) (w : World) (x : Str) (t : Tok) : (mixKind prog w).is (.inr x) (.str x t) = true := keyIs_str x t
end L2

namespace L2
open PySem PySem.Spec PyProof.Rows

/-- a value, without the heap -/
inductive V where
  | non | bl (b : Bool) | int (i : Int) | str (x : Str) | byt (b : Array UInt8) | flt (b : UInt64) | ref (a : Addr) | ty (n : String)
  deriving DecidableEq

def RelV : V → Value → Prop
  | .non, u => u = Value.none
  | .bl b, u => u = Value.bool b
  | .int i, u => ∃ t, u = Value.int i t
  | .str x, u => ∃ t, u = Value.str x t
  | .byt b, u => ∃ t, u = Value.bytes b t
  | .flt b, u => ∃ t, u = Value.float b t
  | .ref a, u => u = Value.ref a
  | .ty n, u => u = Value.type n

abbrev Vals : List V → List Value → Prop := Paired RelV
theorem Vals.length {xs : List V} {us : List Value} (r : Vals xs us) : xs.length = us.length := Paired.length r
theorem Vals.get : ∀ {xs : List V} {us : List Value} {i : Nat} {x : V}, Vals xs us → xs[i]? = some x → ∃ u, us[i]? = some u ∧ RelV x u
  | _, _, _, _, .nil, e => by simp at e
  | _, _, 0, _, .cons r _, e => by simp at e; subst e; exact ⟨_, rfl, r⟩
  | _, _, i + 1, x, .cons _ t, e => by
    obtain ⟨u, h1, h2⟩ := Vals.get (i := i) (x := x) t (by simpa using e)
    exact ⟨u, by simpa using h1, h2⟩
theorem Vals.set {x : V} {u : Value} (r : RelV x u) : ∀ {xs : List V} {us : List Value} (i : Nat), Vals xs us → Vals (xs.set i x) (us.set i u)
  | _, _, _, .nil => .nil
  | _, _, 0, .cons _ t => .cons r t
  | _, _, i + 1, .cons q t => .cons q (Vals.set r i t)
theorem Vals.append : ∀ {xs ys : List V} {us ws : List Value}, Vals xs us → Vals ys ws → Vals (xs ++ ys) (us ++ ws)
  | _, _, _, _, .nil, s => s
  | _, _, _, _, .cons r t, s => .cons r (Vals.append t s)
theorem Vals.take : ∀ {xs : List V} {us : List Value} (n : Nat), Vals xs us → Vals (xs.take n) (us.take n)
  | _, _, 0, _ => .nil
  | _, _, _ + 1, .nil => .nil
  | _, _, n + 1, .cons r t => .cons r (Vals.take n t)
theorem Vals.drop : ∀ {xs : List V} {us : List Value} (n : Nat), Vals xs us → Vals (xs.drop n) (us.drop n)
  | _, _, 0, r => r
  | _, _, _ + 1, .nil => .nil
  | _, _, n + 1, .cons _ t => Vals.drop n t

def RelO : Option V → Option Value → Prop
  | some v, some u => RelV v u
  | none, none => True
  | _, _ => False
def KV {κ : Type} : List (κ × V) → List (κ × Value) → Prop := Paired fun (p : κ × V) (q : κ × Value) => p.1 = q.1 ∧ RelV p.2 q.2

/-- a key of a dict (00_mix): an int or a text -/
def kV : Key → V
  | .inl i => .int i
  | .inr x => .str x

/-- what stands at a tracked address -/
inductive HO where
  /-- a list -/
  | lst (xs : List V)
  /-- a tuple (never changes) -/
  | tup (xs : List V)
  /-- a dict whose keys are ints and texts; one whose keys are tuples of ints and texts (the empty one is both) -/
  | dK (kvs : List (Key × V)) | dT (kvs : List (List Key × V))
  /-- a set of ints: its members, its size -/
  | set (S : Int → Bool) (n : Nat)
  /-- an instance of the class at C, its dict at dx, its attributes -/
  | ins (C dx : Addr) (fs : List (Str × V))
  /-- the dict of the instance at x -/
  | own (x : Addr)
  /-- the dict of an exception -/
  | xd (fs : List (Str × V))
  /-- a bound method, f of x -/
  | met (f x : Addr)
  /-- a range object lo, lo + 1, .. below hi -/
  | rng (lo hi : Int)
  /-- a thing that is known to the object (the script; a dict while a loop walks it): read, never written while it is so -/
  | frz (o : Obj) (u : HO)
  /-- a code object's table -/
  | tbl (ps : Array Value)
  /-- any other thing, by what is true of its one object (a def of one's own: SetO a S n := HO.ext fun h => ..) -/
  | ext (φ : Heap → Prop)

abbrev Hp := Addr → Option HO
def upd (H : Hp) (a : Addr) (o : HO) : Hp := fun b => if b = a then some o else H b
theorem upd_same {H : Hp} {a : Addr} {o : HO} : upd H a o a = some o := by unfold upd; rw [if_pos rfl]
theorem upd_ne {H : Hp} {a b : Addr} {o : HO} (h : b ≠ a) : upd H a o b = H b := by unfold upd; rw [if_neg h]
theorem upd_upd {H : Hp} {a : Addr} {o u : HO} : upd (upd H a o) a u = upd H a u := by
  funext b; unfold upd; split <;> rfl
/-- two objects of different content stand apart -/
theorem ne_of {H : Hp} {a b : Addr} {o u : HO} (h : H a = some o) (h' : H b = some u) (d : o ≠ u) : a ≠ b := by
  intro e; subst e; rw [h] at h'; exact d (Option.some.inj h')
theorem ne_of_none {H : Hp} {a b : Addr} {o : HO} (h : H a = some o) (h' : H b = none) : a ≠ b := by
  intro e; subst e; rw [h] at h'; cases h'

section
variable (P : Program) (w : World)
def ObjOk (H : Hp) (h : Heap) (a : Addr) : HO → Prop
  | .lst xs => xs.length ≤ sizeLine ∧ ∃ (its : List Value) (n : Nat), Vals xs its ∧ h.get? a = some { cls := .type "list", data := .seq its.toArray n }
  | .tup xs => xs.length ≤ sizeLine ∧ ∃ its : List Value, Vals xs its ∧ IsTup h a its.toArray
  | .dK kvs => kvs.length ≤ sizeLine ∧ (a == sysModules) = false ∧ ∃ vs, KV kvs vs ∧ h.DictOf (mixKind P w) a vs
  | .dT kvs => kvs.length ≤ sizeLine ∧ (a == sysModules) = false ∧ ∃ xs : List (List Key × Addr × Value),
      Paired (fun (p : List Key × V) (q : List Key × Addr × Value) => p.1 = q.1 ∧ H q.2.1 = some (.tup (p.1.map kV)) ∧ RelV p.2 q.2.2) kvs xs ∧
      ∃ o es ep, h.get? a = some o ∧ o.ExactDict ∧ o.data = .dict es ep ∧ es.toList = xs.map (entryOfKey (tupleKind (mixKind P w))) ∧ (xs.map (·.1)).Nodup
  | .set S n => h.SetOf (intKind P w) a S n
  | .ins C dx fs => H dx = some (.own a) ∧ fs.length ≤ 1000 ∧ dx ≠ a ∧ h.get? a = some (PySem.W.instObj C dx) ∧
      ∃ mA, h.Ns1 dx mA ∧ (∀ f, RelO (fs.lookup f) (mA f)) ∧ PySem.Within mA (fs.map (·.1))
  | .own _ => ∃ o, h.get? a = some o
  | .xd fs => ∃ mA, h.Ns1 a mA ∧ ∀ f, RelO (fs.lookup f) (mA f)
  | .rng lo hi => ∃ t u v, h.get? a = some { cls := .type "range", data := .fields #[.int lo t, .int hi u, .int 1 v] }
  | .frz o u => h.get? a = some o ∧ ObjOk H h a u
  | .tbl ps => h.get? a = some { cls := .none, data := .fields ps }
  | .met f x => h.get? a = some (PySem.W.methodObj (.ref f) (.ref x))
  | .ext φ => φ h ∧ (∃ o, h.get? a = some o) ∧ ∀ h1 h2 : Heap, φ h1 → (∀ o, h1.get? a = some o → h2.get? a = some o) → φ h2
/-- the abstract heap is held -/
def HOk (H : Hp) (h : Heap) : Prop := ∀ a o, H a = some o → ObjOk P w H h a o
end

section
variable {P : Program} {w : World} {H H' : Hp} {h h' : Heap} {a : Addr} {o : HO}
theorem ObjOk.lt (x : ObjOk P w H h a o) : a < h.objs.size := by
  cases o with
  | lst xs => obtain ⟨_, _, _, _, e⟩ := x; exact Heap.lt_size e
  | tup xs => obtain ⟨_, _, _, p⟩ := x; exact p.lt
  | dK kvs => obtain ⟨_, _, _, _, o, _, _, e, _⟩ := x; exact Heap.lt_size e
  | dT kvs => obtain ⟨_, _, _, _, o, _, _, e, _⟩ := x; exact Heap.lt_size e
  | set S n => obtain ⟨o, _, _, _, e, _⟩ := x; exact Heap.lt_size e
  | ins C dx fs => obtain ⟨_, _, _, e, _⟩ := x; exact Heap.lt_size e
  | own y => obtain ⟨_, e⟩ := x; exact Heap.lt_size e
  | xd fs => obtain ⟨_, ⟨_, _, _, e, _⟩, _⟩ := x; exact Heap.lt_size e
  | rng lo hi => obtain ⟨_, _, _, e⟩ := x; exact Heap.lt_size e
  | frz ob u => obtain ⟨e, _⟩ := x; exact Heap.lt_size e
  | tbl ps => exact Heap.lt_size (show h.get? a = some _ from x)
  | met f y => exact Heap.lt_size (show h.get? a = some _ from x)
  | ext φ => obtain ⟨_, ⟨_, e⟩, _⟩ := x; exact Heap.lt_size e
theorem Paired.mapP {α β : Type} {F G : α → β → Prop} : ∀ {l₁ : List α} {l₂ : List β}, Paired F l₁ l₂ → (∀ a b, F a b → G a b) → Paired G l₁ l₂
  | _, _, .nil, _ => .nil
  | _, _, .cons r t, f => .cons (f _ _ r) (Paired.mapP t f)
/-- what an object's description leans on: its own object, its own dict, the tuples -/
theorem ObjOk.stay (x : ObjOk P w H h a o) (k : ∀ b u, (b = a ∨ H b = some (.own a)) → h.get? b = some u → h'.get? b = some u)
    (ho : ∀ b, H b = some (.own a) → H' b = some (.own a)) (ht : ∀ b xs, H b = some (.tup xs) → H' b = some (.tup xs)) : ObjOk P w H' h' a o := by
  induction o with
  | lst xs => obtain ⟨z, its, n, r, e⟩ := x; exact ⟨z, its, n, r, k _ _ (.inl rfl) e⟩
  | tup xs => obtain ⟨z, its, r, ob, e, c⟩ := x; exact ⟨z, its, r, ob, k _ _ (.inl rfl) e, c⟩
  | dK kvs => obtain ⟨z, y, vs, r, ob, es, ep, e, c⟩ := x; exact ⟨z, y, vs, r, ob, es, ep, k _ _ (.inl rfl) e, c⟩
  | dT kvs =>
    obtain ⟨z, y, xs, r, ob, es, ep, e, c⟩ := x
    exact ⟨z, y, xs, Paired.mapP r fun p q z => ⟨z.1, ht _ _ z.2.1, z.2.2⟩, ob, es, ep, k _ _ (.inl rfl) e, c⟩
  | set S n => obtain ⟨ob, es, ep, t, e, c⟩ := x; exact ⟨ob, es, ep, t, k _ _ (.inl rfl) e, c⟩
  | ins C dx fs =>
    obtain ⟨d, z, ne, e, mA, ⟨od, es, ep, e2, c⟩, r⟩ := x
    exact ⟨ho _ d, z, ne, k _ _ (.inl rfl) e, mA, ⟨od, es, ep, k _ _ (.inr d) e2, c⟩, r⟩
  | own y => obtain ⟨ob, e⟩ := x; exact ⟨ob, k _ _ (.inl rfl) e⟩
  | xd fs => obtain ⟨mA, ⟨od, es, ep, e, c⟩, r⟩ := x; exact ⟨mA, ⟨od, es, ep, k _ _ (.inl rfl) e, c⟩, r⟩
  | rng lo hi => obtain ⟨t, u, v, e⟩ := x; exact ⟨t, u, v, k _ _ (.inl rfl) e⟩
  | frz ob u ih => obtain ⟨e, q⟩ := x; exact ⟨k _ _ (.inl rfl) e, ih q⟩
  | tbl ps =>
    have e : h.get? a = some { cls := .none, data := .fields ps } := x
    show h'.get? a = some { cls := .none, data := .fields ps }
    exact k a _ (.inl rfl) e
  | met f y =>
    have e : h.get? a = some (PySem.W.methodObj (.ref f) (.ref y)) := x
    show h'.get? a = some (PySem.W.methodObj (.ref f) (.ref y))
    exact k a _ (.inl rfl) e
  | ext φ => obtain ⟨p, ⟨o, e⟩, st⟩ := x; exact ⟨st _ _ p fun o q => k _ _ (.inl rfl) q, ⟨o, k _ _ (.inl rfl) e⟩, st⟩
theorem HOk.lt (x : HOk P w H h) (e : H a = some o) : a < h.objs.size := (x a o e).lt
theorem HOk.fresh (x : HOk P w H h) (e : h.objs.size ≤ a) : H a = none := by
  cases q : H a with
  | none => rfl
  | some u => exact absurd (Nat.lt_of_lt_of_le (x.lt q) e) (Nat.lt_irrefl _)
/-- every object of the heap is kept -/
theorem HOk.kept (x : HOk P w H h) (k : ∀ b u, h.get? b = some u → h'.get? b = some u) : HOk P w H h' := fun a o e =>
  (x a o e).stay (fun b u _ q => k b u q) (fun _ q => q) fun _ _ q => q
/-- a new object is laid and tracked -/
theorem HOk.laid (x : HOk P w H h) (k : ∀ b u, h.get? b = some u → h'.get? b = some u) (hp : h.objs.size ≤ a) (new : ObjOk P w (upd H a o) h' a o) : HOk P w (upd H a o) h' := fun b u e => by
  have hn := x.fresh hp
  by_cases hb : b = a
  · subst hb; rw [upd_same] at e; cases e; exact new
  · rw [upd_ne hb] at e
    exact (x b u e).stay (fun c v _ q => k c v q) (fun c q => by rw [upd_ne (ne_of_none q hn)]; exact q) fun c xs q => by rw [upd_ne (ne_of_none q hn)]; exact q
end

/-- what may be read as u: it is u, or a known u -/
def Rd (H : Hp) (a : Addr) (u : HO) : Prop := H a = some u ∨ ∃ o, H a = some (.frz o u)
theorem Rd.ok {P : Program} {w : World} {H : Hp} {h : Heap} {a : Addr} {u : HO} (r : Rd H a u) (x : HOk P w H h) : ObjOk P w H h a u := by
  rcases r with r | ⟨o, r⟩
  · exact x a u r
  · obtain ⟨_, q⟩ := x a _ r
    exact q
/-- what may be written -/
def Mut : Option HO → Prop
  | some (.lst _) => True
  | some (.dK _) => True
  | some (.dT _) => True
  | some (.set _ _) => True
  | some (.ins _ _ _) => True
  | some (.ext _) => True
  | _ => False
section
variable {P : Program} {w : World} {H : Hp} {h h' : Heap} {x e : Addr} {o' : HO}
/-- the object at e is changed: x itself, or the dict of the instance x -/
theorem HOk.write (ok : HOk P w H h) (mu : Mut (H x)) (he : e = x ∨ H e = some (.own x)) (k : ∀ b u, b ≠ e → h.get? b = some u → h'.get? b = some u) (heo : ∃ u, h'.get? e = some u)
    (new : ObjOk P w (upd H x o') h' x o') : HOk P w (upd H x o') h' := fun b u q => by
  have nown : ∀ c y, H c = some (.own y) → c ≠ x := fun c y r z => by subst z; rw [r] at mu; exact mu
  have ntup : ∀ c xs, H c = some (.tup xs) → c ≠ x := fun c xs r z => by subst z; rw [r] at mu; exact mu
  by_cases hb : b = x
  · subst hb; rw [upd_same] at q; cases q; exact new
  · rw [upd_ne hb] at q
    by_cases hbe : b = e
    · have q' : H b = some (.own x) := by
        rcases he with z | z
        · exact absurd (hbe.trans z) hb
        · rw [hbe]; exact z
      rw [q] at q'; cases q'
      obtain ⟨v, hv⟩ := heo
      exact ⟨v, by rw [hbe]; exact hv⟩
    · refine (ok b u q).stay (fun c v hc r => k c v ?_ r) (fun c r => by rw [upd_ne (nown c b r)]; exact r) fun c xs r => by rw [upd_ne (ntup c xs r)]; exact r
      rcases hc with rfl | hc
      · exact hbe
      · rintro rfl
        rcases he with z | z
        · exact nown c b hc z
        · rw [hc] at z; cases z; exact hb rfl
end

/-! ### kept unless tracked; of the frames at fs (the callers') the slots may change (an exception that passes writes there); of the records at ex (iterators) nothing is said -/
structure Un (fs ex : List Addr) (H H' : Hp) (h h' : Heap) : Prop where
  keep : ∀ b o, h.get? b = some o → H b = none → b ∉ fs → b ∉ ex → h'.get? b = some o
  slot : ∀ b o, h.get? b = some o → H b = none → b ∈ fs → b ∉ ex → ∃ sl, h'.get? b = some { o with slots := sl }
  free : ∀ b o, h.get? b = some o → H b = none → b ∉ ex → H' b = none
  there : ∀ b o, h.get? b = some o → b ∉ ex → ∃ o', h'.get? b = some o'
  tups : ∀ b xs, H b = some (.tup xs) → H' b = some (.tup xs)
  frzs : ∀ b o u, H b = some (.frz o u) → H' b = some (.frz o u)
  tbls : ∀ b ps, H b = some (.tbl ps) → ∃ more, H' b = some (.tbl (ps ++ more))
section
variable {fs fs' ex ex' : List Addr} {H H1 H2 : Hp} {h h1 h2 h' : Heap} {a x e : Addr} {o : HO}
theorem Un.any (u : Un fs ex H H1 h h1) {b : Addr} {ob : Obj} (q : h.get? b = some ob) (n : H b = none) (hx : b ∉ ex) : ∃ sl, h1.get? b = some { ob with slots := sl } := by
  by_cases hb : b ∈ fs
  · exact u.slot b ob q n hb hx
  · exact ⟨ob.slots, u.keep b ob q n hb hx⟩
theorem Un.kept (k : ∀ b u, h.get? b = some u → h'.get? b = some u) : Un fs ex H H h h' :=
  ⟨fun b ob q _ _ _ => k b ob q, fun b ob q _ _ _ => ⟨ob.slots, k b ob q⟩, fun _ _ _ n _ => n, fun b ob q _ => ⟨ob, k b ob q⟩, fun _ _ q => q, fun _ _ _ q => q, fun _ ps q => ⟨#[], by rw [q]; simp⟩⟩
theorem Un.refl : Un fs ex H H h h := Un.kept fun _ _ q => q
theorem Un.laid (k : ∀ b u, h.get? b = some u → h'.get? b = some u) (hp : h.objs.size ≤ a) (hn : H a = none) : Un fs ex H (upd H a o) h h' where
  keep := fun b u q _ _ _ => k b u q
  slot := fun b u q _ _ _ => ⟨u.slots, k b u q⟩
  free := fun b u q n _ => by rw [upd_ne (Nat.ne_of_lt (Nat.lt_of_lt_of_le (Heap.lt_size q) hp))]; exact n
  there := fun b u q _ => ⟨u, k b u q⟩
  tups := fun b xs q => by rw [upd_ne (ne_of_none q hn)]; exact q
  frzs := fun b u xs q => by rw [upd_ne (ne_of_none q hn)]; exact q
  tbls := fun b ps q => ⟨#[], by rw [upd_ne (ne_of_none q hn), q]; simp⟩
theorem Un.write (mu : Mut (H x)) (he : e = x ∨ H e = some (.own x)) (k : ∀ b u, b ≠ e → h.get? b = some u → h'.get? b = some u) (heo : ∃ u, h'.get? e = some u) : Un fs ex H (upd H x o) h h' := by
  have hx : ∀ b, H b = none → b ≠ x := fun b n z => by subst z; rw [n] at mu; exact mu
  have hb : ∀ b, H b = none → b ≠ e := fun b n z => by
    subst z
    rcases he with r | r
    · exact hx b n r
    · rw [n] at r; cases r
  have hm : ∀ b u, H b = some u → ¬ Mut (some u) → b ≠ x := fun b u q nm z => by subst z; rw [q] at mu; exact nm mu
  refine ⟨fun b u q n _ _ => k b u (hb b n) q, fun b u q n _ _ => ⟨u.slots, k b u (hb b n) q⟩, fun b u q n _ => by rw [upd_ne (hx b n)]; exact n, fun b u q _ => ?_,
    fun b xs q => by rw [upd_ne (hm b _ q fun z => z)]; exact q, fun b u xs q => by rw [upd_ne (hm b _ q fun z => z)]; exact q, fun b ps q => ⟨#[], by rw [upd_ne (hm b _ q fun z => z), q]; simp⟩⟩
  by_cases hbe : b = e
  · subst hbe; exact heo
  · exact ⟨u, k b u hbe q⟩
end

/-! ### the heap without what is tracked -/
def trk (h : Heap) (H : Hp) : List Addr := (List.range h.objs.size).filter fun a => (H a).isSome
def hidT (h : Heap) (H : Hp) : Heap := PySem.W.hideAll h (trk h H)
theorem hidT_size (h : Heap) (H : Hp) : (hidT h H).objs.size = h.objs.size := PySem.W.hideAll_size _ _
theorem hidT_get {h : Heap} {H : Hp} {b : Addr} {o : Obj} (e : h.get? b = some o) (n : H b = none) : (hidT h H).get? b = some o :=
  PySem.W.hideAll_get _ e fun hm => by
    have q : (H b).isSome = true := (List.mem_filter.mp hm).2
    rw [n] at q; simp at q
theorem of_hidT {h : Heap} {H : Hp} {b : Addr} {o : Obj} (e : (hidT h H).get? b = some o) : h.get? b = some o ∧ H b = none := by
  have e' : h.get? b = some o := PySem.W.of_hideAll (trk h H) e
  refine ⟨e', ?_⟩
  cases q : H b with
  | none => rfl
  | some x =>
    have hm : b ∈ trk h H := List.mem_filter.mpr ⟨List.mem_range.mpr (Heap.lt_size e'), by simp [q]⟩
    have z : (hidT h H).get? b = none := PySem.W.hideAll_none (trk h H) hm
    rw [z] at e; cases e

/-! ### OpenK's ledger, filled with every new object but one -/
end L2

namespace L2
open PySem PySem.Spec PyProof.Rows

/-- the module's facts, over the base: the heap at the law's entry without what is tracked there -/
structure Mod (K : PySem.W.Frag) (mg : Str → Option Value) (base : Heap) : Prop where
  kin : K.In base
  glob : base.Ns mainGlobals mg
  blt : ∃ mb, base.Ns builtinsNs mb ∧ ∀ x : Str, x ≠ "__name__" → mb x = bootBuiltins x
  nolimit : base.NoLimit

/-- the context: a def's body (or a comprehension's block) running. base: fixed through the whole law; s₀, H₀: the entry; outer: the frames whose slots others may change (a def's callers); stack: all frames that run;
   ex: iterators that were made ahead of the entry and are walked here (a comprehension's); fn: the names whose cells were made at the entry (a def: all; a comprehension's block: its own); calm: not within an except suite; pn: pins that every state bears; xe: what is wanted of an exception that leaves the code -/
structure Cx where
  prog : Program
  w : World
  K : PySem.W.Frag
  mg : Str → Option Value
  base : Heap
  A : Around
  N : List Str
  s₀ : Shared
  H₀ : Hp
  env : Env
  outer : List Env
  stack : List Env
  ex : List Addr
  fn : Str → Bool
  calm : Bool
  pn : List (Addr × Obj)
  xe : Value → Shared → Prop
/-- the callers' frames -/
def frs (l : List Env) : List Addr := l.filterMap (·.frame)
abbrev Cx.fs (X : Cx) : List Addr := frs X.outer

def Vis (sc : Scope) (x : Str) : Prop := sc.names.lookup x = some .local ∨ sc.names.lookup x = some .cell ∨ sc.names.lookup x = some .free
def Loc (sc : Scope) (x : Str) : Prop := sc.names.lookup x = some .local ∨ sc.names.lookup x = some .cell
def Look (env : Env) (h : Heap) (m : Str → Option Value) (x : Str) (u : Value) : Prop :=
  (env.kindOf x = some .local ∧ m x = some u) ∨ ((env.kindOf x = some .cell ∨ env.kindOf x = some .free) ∧ ∃ c, env.cells.lookup x = some c ∧ h.IsCell c (some u))

structure Cx.Ok (X : Cx) : Prop where
  mod : Mod X.K X.mg X.base
  kind : X.env.scope.kind = .function
  glob : X.env.globals = mainGlobals
  blt : X.env.builtins = builtinsNs
  above : X.s₀.heap.objs.size ≤ X.env.locals
  inj : ∀ x y c, X.env.cells.lookup x = some c → X.env.cells.lookup y = some c → x = y
  has : ∀ x, (X.env.kindOf x = some .cell ∨ X.env.kindOf x = some .free) → ∃ c, X.env.cells.lookup x = some c
  cab : ∀ x c, X.fn x = true → X.env.cells.lookup x = some c → X.s₀.heap.objs.size ≤ c
  hd : X.calm = true → X.A.handled = none
  frames : X.A.frames = some X.stack
  stk : X.stack = X.outer ∨ (X.stack = X.env :: X.outer ∧ X.env.frame = some X.env.locals)
  exf : ∀ b ∈ X.ex, b ≠ X.env.locals ∧ ∀ x c, X.env.cells.lookup x = some c → c ≠ b
  bs : ∀ b o, X.base.get? b = some o → X.s₀.heap.get? b = some o ∧ X.H₀ b = none
  bsz : X.base.objs.size ≤ X.s₀.heap.objs.size
  noex : ∀ b o, X.base.get? b = some o → b ∉ X.ex
  exfs : ∀ b ∈ X.ex, b ∉ X.fs
  funs : X.s₀.heap.FunFrames X.base X.outer
  frf : ∀ b ∈ X.fs, X.H₀ b = none

structure Inv (X : Cx) (pins : List (Addr × Obj)) (σ : List (Option V)) (H : Hp) (s : Shared) : Prop where
  ok : X.Ok
  os : s.os = X.s₀.os
  bare : AllBare s.gens
  base : Un X.fs X.ex X.H₀ H X.s₀.heap s.heap
  loc : ∃ m, s.heap.Ns X.env.locals m ∧ ∀ (i : Nat) (x : Str) (v : V), X.N[i]? = some x → σ[i]? = some (some v) → Vis X.env.scope x → ∃ u, RelV v u ∧ Look X.env s.heap m x u
  cell : ∀ x c, X.env.cells.lookup x = some c → ∃ v, s.heap.IsCell c v
  free : H X.env.locals = none
  freeC : ∀ x c, X.env.cells.lookup x = some c → H c = none
  pin : ∀ p ∈ X.pn ++ pins, s.heap.get? p.1 = some p.2 ∧ H p.1 = none ∧ p.1 ≠ X.env.locals ∧ p.1 ∉ X.fs ∧ ∀ v, p.2.data ≠ .cell v
  hok : HOk X.prog X.w H s.heap
  len : σ.length = X.N.length

section
variable {X : Cx} {pins : List (Addr × Obj)} {σ : List (Option V)} {H H' : Hp} {s : Shared} {h' : Heap}

theorem Cx.Ok.nofr (ok : X.Ok) {b : Addr} {o : Obj} (e : X.base.get? b = some o) : b ∉ X.fs := fun hb => by
  have := (ok.funs.mem hb).1
  rw [e] at this; cases this
theorem Inv.bs (I : Inv X pins σ H s) : ∀ b o, X.base.get? b = some o → s.heap.get? b = some o ∧ H b = none := fun b o e =>
  ⟨I.base.keep b o (I.ok.bs b o e).1 (I.ok.bs b o e).2 (I.ok.nofr e) (I.ok.noex b o e), I.base.free b o (I.ok.bs b o e).1 (I.ok.bs b o e).2 (I.ok.noex b o e)⟩
theorem Inv.bk (I : Inv X pins σ H s) : ∀ b o, X.base.get? b = some o → s.heap.get? b = some o := fun b o e => (I.bs b o e).1
theorem Inv.mod (I : Inv X pins σ H s) : Mod X.K X.mg X.base := I.ok.mod
theorem Inv.kIn (I : Inv X pins σ H s) : X.K.In s.heap := I.ok.mod.kin.keeps I.bk
theorem Inv.lt (I : Inv X pins σ H s) : X.env.locals < s.heap.objs.size := let ⟨_, hn, _⟩ := I.loc; hn.lt
theorem Inv.sz (I : Inv X pins σ H s) : X.s₀.heap.objs.size ≤ s.heap.objs.size := Nat.le_trans I.ok.above (Nat.le_of_lt I.lt)
theorem Inv.nofs (I : Inv X pins σ H s) {a : Addr} (h : s.heap.objs.size ≤ a) : a ∉ X.fs := fun hb => by
  obtain ⟨_, o, ho, _⟩ := I.ok.funs.mem hb
  exact absurd (Nat.lt_of_lt_of_le (Heap.lt_size ho) (Nat.le_trans I.sz h)) (Nat.lt_irrefl _)
theorem Inv.cne (I : Inv X pins σ H s) : ∀ x c, X.env.cells.lookup x = some c → c ≠ X.env.locals := fun x c e z => by
  obtain ⟨v, o, ho, hd⟩ := I.cell x c e
  obtain ⟨m, ⟨o', es, ep, ho', hd', _⟩, _⟩ := I.loc
  rw [z, ho'] at ho; cases ho; rw [hd'] at hd; cases hd
theorem Inv.funs (I : Inv X pins σ H s) : s.heap.FunFrames X.base X.outer := by
  have all : ∀ (l : List Env), (∀ b ∈ frs l, b ∈ X.fs) → X.s₀.heap.FunFrames X.base l → s.heap.FunFrames X.base l := by
    intro l
    induction l with
    | nil => intro _ _; trivial
    | cons env r ih =>
      intro hs hl
      obtain ⟨hk, ⟨L, o, hf, hn, ho, hd⟩, hr⟩ := hl
      have hL : L ∈ X.fs := hs L (by unfold frs; rw [List.filterMap_cons, hf]; exact List.mem_cons_self)
      obtain ⟨sl, e⟩ := I.base.slot L o ho (I.ok.frf L hL) hL fun z => I.ok.exfs L z hL
      exact ⟨hk, ⟨L, _, hf, hn, e, hd⟩, ih (fun b hb => hs b (by unfold frs; rw [List.filterMap_cons, hf]; exact List.mem_cons_of_mem _ hb)) hr⟩
  exact all X.outer (fun _ hb => hb) I.ok.funs

/-- the frames that run, for a call -/
theorem Inv.stack (I : Inv X pins σ H s) : s.heap.FunFrames X.base X.stack := by
  rcases I.ok.stk with e | ⟨e, hf⟩
  · rw [e]; exact I.funs
  · rw [e]
    obtain ⟨m, hn, _⟩ := I.loc
    refine .cons (by rw [I.ok.kind]; decide) hf hn ?_ I.funs
    exact Heap.get?_none_of_le (Nat.le_trans I.ok.bsz I.ok.above)
theorem Inv.stkSub (I : Inv X pins σ H s) : ∀ b ∈ frs X.stack, b ∈ X.env.locals :: X.fs := fun b hb => by
  rcases I.ok.stk with e | ⟨e, hf⟩
  · rw [e] at hb; exact List.mem_cons_of_mem _ hb
  · rw [e] at hb
    unfold frs at hb
    rw [List.filterMap_cons, hf] at hb
    exact hb
theorem Inv.stkFree (I : Inv X pins σ H s) : ∀ b ∈ frs X.stack, H b = none := fun b hb => by
  rcases List.mem_cons.mp (I.stkSub b hb) with e | hb
  · rw [e]; exact I.free
  · obtain ⟨_, o, ho, _⟩ := I.ok.funs.mem hb
    exact I.base.free b o ho (I.ok.frf b hb) fun z => I.ok.exfs b z hb

/-- THE STEP: the untracked objects but the frame and the records at ch are kept (the callers' frames up to slots), the frame's map is kept, the new abstract heap is held -/
theorem Inv.step {g' : Array GenState} {t' : Nat} {d' : Drawn} {ch : List Addr} (I : Inv X pins σ H s)
    (hch : ∀ b ∈ ch, (b ∈ X.ex ∨ X.s₀.heap.objs.size ≤ b) ∧ b ≠ X.env.locals ∧ (∀ x c, X.env.cells.lookup x = some c → c ≠ b) ∧ ∀ p ∈ X.pn ++ pins, p.1 ≠ b)
    (keep : ∀ b o, b ≠ X.env.locals → b ∉ X.fs → b ∉ ch → s.heap.get? b = some o → H b = none → h'.get? b = some o)
    (slot : ∀ b o, b ≠ X.env.locals → b ∈ X.fs → b ∉ ch → s.heap.get? b = some o → H b = none → ∃ sl, h'.get? b = some { o with slots := sl }) (free : ∀ b o, b ∉ ch → s.heap.get? b = some o → H b = none → H' b = none)
    (there : ∀ b o, b ∉ ch → s.heap.get? b = some o → ∃ o', h'.get? b = some o')
    (tups : ∀ b xs, H b = some (.tup xs) → H' b = some (.tup xs)) (frzs : ∀ b o u, H b = some (.frz o u) → H' b = some (.frz o u)) (tbls : ∀ b ps, H b = some (.tbl ps) → ∃ more, H' b = some (.tbl (ps ++ more)))
    (ns : ∀ m, s.heap.Ns X.env.locals m → h'.Ns X.env.locals m) (hok : HOk X.prog X.w H' h') (hg : AllBare g') :
    Inv X pins σ H' { s with heap := h', gens := g', drawn := d', toks := t' } := by
  have neL : ∀ b o, X.s₀.heap.get? b = some o → b ≠ X.env.locals := fun b o e => Nat.ne_of_lt (Nat.lt_of_lt_of_le (Heap.lt_size e) I.ok.above)
  have neC : ∀ b o, X.s₀.heap.get? b = some o → b ∉ X.ex → b ∉ ch := fun b o e hx hb => by
    rcases (hch b hb).1 with z | z
    · exact hx z
    · exact absurd (Nat.lt_of_lt_of_le (Heap.lt_size e) z) (Nat.lt_irrefl _)
  have cellK : ∀ x c, X.env.cells.lookup x = some c → ∀ v, s.heap.IsCell c v → h'.IsCell c v := fun x c e v ⟨o, ho, hd⟩ => by
    have nch : c ∉ ch := fun z => (hch c z).2.2.1 x c e rfl
    by_cases hc : c ∈ X.fs
    · obtain ⟨sl, q⟩ := slot c o (I.cne x c e) hc nch ho (I.freeC x c e)
      exact ⟨_, q, hd⟩
    · exact ⟨o, keep c o (I.cne x c e) hc nch ho (I.freeC x c e), hd⟩
  refine ⟨I.ok, I.os, hg, ⟨fun b o e n hb hx => ?_, fun b o e n hb hx => ?_, fun b o e n hx => ?_, fun b o e hx => ?_, fun b xs e => tups b xs (I.base.tups b xs e), fun b o xs e => frzs b o xs (I.base.frzs b o xs e), fun b ps e => ?_⟩, ?_, fun x c e => ?_, ?_, fun x c e => ?_, fun p hp => ?_, hok, I.len⟩
  · exact keep b o (neL b o e) hb (neC b o e hx) (I.base.keep b o e n hb hx) (I.base.free b o e n hx)
  · obtain ⟨sl, e1⟩ := I.base.slot b o e n hb hx
    obtain ⟨sl', e2⟩ := slot b _ (neL b o e) hb (neC b o e hx) e1 (I.base.free b o e n hx)
    exact ⟨sl', e2⟩
  · obtain ⟨o', e1⟩ := I.base.there b o e hx
    exact free b o' (neC b o e hx) e1 (I.base.free b o e n hx)
  · obtain ⟨o', e1⟩ := I.base.there b o e hx
    exact there b o' (neC b o e hx) e1
  · obtain ⟨m1, e1⟩ := I.base.tbls b ps e
    obtain ⟨m2, e2⟩ := tbls b _ e1
    exact ⟨m1 ++ m2, by rw [e2, Array.append_assoc]⟩
  · obtain ⟨m, hn, hl⟩ := I.loc
    refine ⟨m, ns m hn, fun i x v e1 e2 e3 => ?_⟩
    obtain ⟨u, r, l⟩ := hl i x v e1 e2 e3
    refine ⟨u, r, ?_⟩
    rcases l with l | ⟨k, c, e, z⟩
    · exact .inl l
    · exact .inr ⟨k, c, e, cellK x c e _ z⟩
  · obtain ⟨v, z⟩ := I.cell x c e
    exact ⟨v, cellK x c e v z⟩
  · obtain ⟨m, ⟨o, _, _, ho, _⟩, _⟩ := I.loc
    exact free _ o (fun z => (hch _ z).2.1 rfl) ho I.free
  · obtain ⟨v, o, ho, hd⟩ := I.cell x c e
    exact free c o (fun z => (hch c z).2.2.1 x c e rfl) ho (I.freeC x c e)
  · obtain ⟨e, n, ne, nf, d⟩ := I.pin p hp
    have nch : p.1 ∉ ch := fun z => (hch p.1 z).2.2.2 p hp rfl
    exact ⟨keep p.1 p.2 ne nf nch e n, free p.1 p.2 nch e n, ne, nf, d⟩
/-- .. where the frame's own object is kept too -/
theorem Inv.un {t' : Nat} (I : Inv X pins σ H s) (u : Un X.fs [] H H' s.heap h') (hok : HOk X.prog X.w H' h') : Inv X pins σ H' { s with heap := h', toks := t' } := by
  obtain ⟨m, ⟨o, es, ep, ho, r⟩, _⟩ := id I.loc
  obtain ⟨sl, hL⟩ := u.any ho I.free (by simp)
  exact I.step (g' := s.gens) (d' := s.drawn) (ch := []) (fun _ z => nomatch z) (fun b o _ hb _ e n => u.keep b o e n hb (by simp)) (fun b o _ hb _ e n => u.slot b o e n hb (by simp)) (fun b o _ e n => u.free b o e n (by simp)) (fun b o _ e => u.there b o e (by simp)) u.tups u.frzs u.tbls (fun m' hm => by
    obtain ⟨o', es', ep', ho', r'⟩ := hm
    rw [ho] at ho'; cases ho'
    exact ⟨_, es', ep', hL, r'⟩) hok I.bare
/-- behind a call (or a comprehension's block): the slots of this frame may have changed too, the records at ch may have turned -/
theorem Inv.call {g' : Array GenState} {t' : Nat} {d' : Drawn} {ch : List Addr} (I : Inv X pins σ H s) (u : Un (frs X.stack) ch H H' s.heap h') (hok : HOk X.prog X.w H' h') (hg : AllBare g')
    (hch : ∀ b ∈ ch, (b ∈ X.ex ∨ X.s₀.heap.objs.size ≤ b) ∧ b ≠ X.env.locals ∧ (∀ x c, X.env.cells.lookup x = some c → c ≠ b) ∧ ∀ p ∈ X.pn ++ pins, p.1 ≠ b) :
    Inv X pins σ H' { s with heap := h', gens := g', drawn := d', toks := t' } := by
  obtain ⟨m, ⟨o, es, ep, ho, r⟩, _⟩ := id I.loc
  obtain ⟨sl, hL⟩ := u.any ho I.free fun z => (hch _ z).2.1 rfl
  exact I.step (ch := ch) hch (fun b o hL hb hc e n => u.keep b o e n (fun z => (List.mem_cons.mp (I.stkSub b z)).elim hL hb) hc) (fun b o _ _ hc e n => u.any e n hc) (fun b o hc e n => u.free b o e n hc) (fun b o hc e => u.there b o e hc) u.tups u.frzs u.tbls (fun m' hm => by
    obtain ⟨o', es', ep', ho', r'⟩ := hm
    rw [ho] at ho'; cases ho'
    exact ⟨_, es', ep', hL, r'⟩) hok hg
/-- an untracked record of ours (an iterator) has turned -/
theorem Inv.turned {t' : Nat} {it : Addr} (I : Inv X pins σ H s) (k : ∀ b o, b ≠ it → s.heap.get? b = some o → h'.get? b = some o) (hn : H it = none) (hL : it ≠ X.env.locals)
    (h1 : it ∈ X.ex ∨ X.s₀.heap.objs.size ≤ it) (h2 : ∀ x c, X.env.cells.lookup x = some c → c ≠ it) (h3 : ∀ p ∈ X.pn ++ pins, p.1 ≠ it) : Inv X pins σ H { s with heap := h', toks := t' } := by
  have nit : ∀ b u, H b = some u → b ≠ it := fun b u e z => by rw [z, hn] at e; cases e
  refine I.step (g' := s.gens) (d' := s.drawn) (ch := [it]) (fun b hb => ?_) (fun b o _ _ hc e _ => k b o (fun z => hc (by simp [z])) e) (fun b o _ _ hc e _ => ⟨o.slots, k b o (fun z => hc (by simp [z])) e⟩) (fun _ _ _ _ n => n)
    (fun b o hc e => ⟨o, k b o (fun z => hc (by simp [z])) e⟩) (fun _ _ e => e) (fun _ _ _ e => e) (fun b ps e => ⟨#[], by rw [e]; simp⟩) (fun m hm => ?_) (fun b u e => ?_) I.bare
  · have e : b = it := by simpa using hb
    subst e
    exact ⟨h1, hL, h2, h3⟩
  · obtain ⟨o, es, ep, ho, r⟩ := hm
    exact ⟨o, es, ep, k _ o (Ne.symm hL) ho, r⟩
  · refine (I.hok b u e).stay (fun c v hc q => k c v ?_ q) (fun _ q => q) fun _ _ q => q
    rcases hc with z | z
    · rw [z]; exact nit b u e
    · exact nit c _ z
theorem Inv.tok (I : Inv X pins σ H s) (t : Nat) : Inv X pins σ H { s with toks := t } := I.un (h' := s.heap) (t' := t) Un.refl I.hok
/-- all objects kept -/
theorem Inv.kept {t' : Nat} (I : Inv X pins σ H s) (k : ∀ b u, s.heap.get? b = some u → h'.get? b = some u) : Inv X pins σ H { s with heap := h', toks := t' } := I.un (Un.kept k) (I.hok.kept k)
/-- a new object laid and tracked -/
theorem Inv.laid {a : Addr} {o : HO} {t' : Nat} (I : Inv X pins σ H s) (k : ∀ b u, s.heap.get? b = some u → h'.get? b = some u) (hp : s.heap.objs.size ≤ a) (new : ObjOk X.prog X.w (upd H a o) h' a o) :
    Inv X pins σ (upd H a o) { s with heap := h', toks := t' } := I.un (Un.laid k hp (I.hok.fresh hp)) (I.hok.laid k hp new)
/-- an object written -/
theorem Inv.write {x e : Addr} {o : HO} {t' : Nat} (I : Inv X pins σ H s) (mu : Mut (H x)) (he : e = x ∨ H e = some (.own x)) (k : ∀ b u, b ≠ e → s.heap.get? b = some u → h'.get? b = some u) (heo : ∃ u, h'.get? e = some u)
    (new : ObjOk X.prog X.w (upd H x o) h' x o) : Inv X pins σ (upd H x o) { s with heap := h', toks := t' } := I.un (Un.write mu he k heo) (I.hok.write mu he k heo new)
theorem Inv.pins_of {pins' : List (Addr × Obj)} (I : Inv X pins σ H s) (h : ∀ p ∈ pins', s.heap.get? p.1 = some p.2 ∧ H p.1 = none ∧ p.1 ≠ X.env.locals ∧ p.1 ∉ X.fs ∧ ∀ v, p.2.data ≠ .cell v) : Inv X pins' σ H s :=
  ⟨I.ok, I.os, I.bare, I.base, I.loc, I.cell, I.free, I.freeC, fun p hp => (List.mem_append.mp hp).elim (fun z => I.pin p (List.mem_append_left _ z)) (h p), I.hok, I.len⟩

theorem nodup_ix {N : List Str} (hN : N.Nodup) {i j : Nat} {x : Str} (a : N[i]? = some x) (b : N[j]? = some x) : i = j := by
  obtain ⟨h1, e1⟩ := List.getElem?_eq_some_iff.mp a
  obtain ⟨h2, e2⟩ := List.getElem?_eq_some_iff.mp b
  exact (List.getElem_inj hN).mp (e1.trans e2.symm)

/-- a name is stored; what changed -/
theorem store_ok2 {M : Model} {A : Around} {E : Value → Shared → Prop} {i : Nat} {x : Str} {v : V} {u : Value} {Q : Unit → Shared → Prop} (I : Inv X pins σ H s) (hN : X.N.Nodup) (hi : X.N[i]? = some x) (hx : Loc X.env.scope x) (r : RelV v u)
    (h : ∀ s', Inv X pins (σ.set i (some v)) H s' → (∃ a, Heap.SameBut a s.heap s'.heap ∧ (a = X.env.locals ∨ X.env.cells.lookup x = some a)) → Q () s') (hf : X.fn x = true ∨ X.env.scope.names.lookup x = some .local := by first | exact .inl rfl | exact .inr rfl | assumption) : wpAny M A (storeName X.env x u) Q E s := by
  obtain ⟨m, hn, hl⟩ := id I.loc
  have hcls : (X.env.scope.kind == .class || (X.env.scope.kind == .module && X.env.locals != X.env.globals)) = false := by rw [I.ok.kind]; rfl
  have hiσ : i < σ.length := by rw [I.len]; exact (List.getElem?_eq_some_iff.mp hi).1
  have cne := I.cne
  have tracked : ∀ {a : Addr} {h' : Heap}, (∃ o, s.heap.get? a = some o ∧ H a = none) → Heap.SameBut a s.heap h' → HOk X.prog X.w H h' := fun {a h'} ha hs b ob e => by
    obtain ⟨_, _, hfree⟩ := ha
    refine (I.hok b ob e).stay (fun c w' hc q => (hs.2 c ?_).trans q) (fun _ q => q) fun _ _ q => q
    rintro rfl
    rcases hc with rfl | hc
    · rw [hfree] at e; cases e
    · rw [hfree] at hc; cases hc
  rcases hx with hk | hk
  · refine wpAny_storeName_local hk hn (fun h' hn' hs => ?_) hcls
    obtain ⟨oL, _, _, hoL, _⟩ := id hn
    refine h _ ⟨I.ok, I.os, I.bare, ⟨fun b o e n hb hx => ?_, fun b o e n hb hx => ?_, I.base.free, fun b o e hx => ?_, I.base.tups, I.base.frzs, I.base.tbls⟩, ⟨_, hn', fun j y v' e1 e2 e3 => ?_⟩, fun y c e => ?_, I.free, I.freeC, fun p hp => ?_, tracked ⟨oL, hoL, I.free⟩ hs, by simpa using I.len⟩ ⟨_, hs, .inl rfl⟩
    · exact (hs.2 b (Nat.ne_of_lt (Nat.lt_of_lt_of_le (Heap.lt_size e) I.ok.above))).trans (I.base.keep b o e n hb hx)
    · obtain ⟨sl, e1⟩ := I.base.slot b o e n hb hx
      exact ⟨sl, (hs.2 b (Nat.ne_of_lt (Nat.lt_of_lt_of_le (Heap.lt_size e) I.ok.above))).trans e1⟩
    · obtain ⟨o', e1⟩ := I.base.there b o e hx
      exact ⟨o', (hs.2 b (Nat.ne_of_lt (Nat.lt_of_lt_of_le (Heap.lt_size e) I.ok.above))).trans e1⟩
    · by_cases hj : j = i
      · subst hj
        rw [hi] at e1; cases e1
        rw [List.getElem?_set_self hiσ] at e2
        cases e2
        exact ⟨u, r, .inl ⟨hk, by simp⟩⟩
      · rw [List.getElem?_set_ne (Ne.symm hj)] at e2
        obtain ⟨u', r', q⟩ := hl j y v' e1 e2 e3
        refine ⟨u', r', ?_⟩
        rcases q with ⟨k, e⟩ | ⟨k, c, e, z⟩
        · refine .inl ⟨k, ?_⟩
          have : y ≠ x := fun e => hj (nodup_ix hN e1 (e ▸ hi))
          simp [this, e]
        · exact .inr ⟨k, c, e, z.sameBut hs (cne y c e)⟩
    · obtain ⟨w', z⟩ := I.cell y c e
      exact ⟨w', z.sameBut hs (cne y c e)⟩
    · obtain ⟨e, n, ne, nf, d⟩ := I.pin p hp
      exact ⟨(hs.2 p.1 ne).trans e, n, ne, nf, d⟩
  · have hfn : X.fn x = true := by
      rcases hf with z | z
      · exact z
      · rw [z] at hk; cases hk
    obtain ⟨c, hc⟩ := I.ok.has x (.inl hk)
    obtain ⟨w', z⟩ := I.cell x c hc
    refine wpAny_storeName_cell I.ok.kind hk hc z (fun h' hc' hs => ?_)
    obtain ⟨oc, hoc, hocd⟩ := id z
    refine h { s with heap := h' } ⟨I.ok, I.os, I.bare, ⟨fun b o e n hb hx => ?_, fun b o e n hb hx => ?_, I.base.free, fun b o e hx => ?_, I.base.tups, I.base.frzs, I.base.tbls⟩, ⟨m, hn.sameBut hs (Ne.symm (cne x c hc)), fun j y v' e1 e2 e3 => ?_⟩, fun y c' e => ?_, I.free, I.freeC, fun p hp => ?_, tracked ⟨oc, hoc, I.freeC x c hc⟩ hs, by simpa using I.len⟩ ⟨c, hs, .inr hc⟩
    · exact (hs.2 b (Nat.ne_of_lt (Nat.lt_of_lt_of_le (Heap.lt_size e) (I.ok.cab x c hfn hc)))).trans (I.base.keep b o e n hb hx)
    · obtain ⟨sl, e1⟩ := I.base.slot b o e n hb hx
      exact ⟨sl, (hs.2 b (Nat.ne_of_lt (Nat.lt_of_lt_of_le (Heap.lt_size e) (I.ok.cab x c hfn hc)))).trans e1⟩
    · obtain ⟨o', e1⟩ := I.base.there b o e hx
      exact ⟨o', (hs.2 b (Nat.ne_of_lt (Nat.lt_of_lt_of_le (Heap.lt_size e) (I.ok.cab x c hfn hc)))).trans e1⟩
    · by_cases hj : j = i
      · subst hj
        rw [hi] at e1; cases e1
        rw [List.getElem?_set_self hiσ] at e2
        cases e2
        exact ⟨u, r, .inr ⟨.inl hk, c, hc, hc'⟩⟩
      · rw [List.getElem?_set_ne (Ne.symm hj)] at e2
        obtain ⟨u', r', q⟩ := hl j y v' e1 e2 e3
        refine ⟨u', r', ?_⟩
        rcases q with q | ⟨k, c', e, z'⟩
        · exact .inl q
        · refine .inr ⟨k, c', e, z'.sameBut hs ?_⟩
          rintro rfl
          exact hj (nodup_ix hN e1 (I.ok.inj _ _ _ e hc ▸ hi))
    · by_cases hcc : c' = c
      · subst hcc; exact ⟨_, hc'⟩
      · obtain ⟨w2, z2⟩ := I.cell y c' e
        exact ⟨w2, z2.sameBut hs hcc⟩
    · obtain ⟨e, n, ne, nf, d⟩ := I.pin p hp
      refine ⟨(hs.2 p.1 ?_).trans e, n, ne, nf, d⟩
      intro q
      rw [q, hoc] at e
      have q' : oc = p.2 := Option.some.inj e
      exact d w' (by rw [← q']; exact hocd)
theorem store_ok {M : Model} {A : Around} {E : Value → Shared → Prop} {i : Nat} {x : Str} {v : V} {u : Value} {Q : Unit → Shared → Prop} (I : Inv X pins σ H s) (hN : X.N.Nodup) (hi : X.N[i]? = some x) (hx : Loc X.env.scope x) (r : RelV v u)
    (h : ∀ s', Inv X pins (σ.set i (some v)) H s' → Q () s') (hf : X.fn x = true ∨ X.env.scope.names.lookup x = some .local := by first | exact .inl rfl | exact .inr rfl | assumption) : wpAny M A (storeName X.env x u) Q E s :=
  store_ok2 I hN hi hx r (fun s' I' _ => h s' I') hf
/-- behind a call or a block, the state as it is -/
theorem Inv.call' {s' : Shared} {ch : List Addr} (I : Inv X pins σ H s) (ho : s'.os = s.os) (u : Un (frs X.stack) ch H H' s.heap s'.heap) (hok : HOk X.prog X.w H' s'.heap) (hg : AllBare s'.gens)
    (hch : ∀ b ∈ ch, (b ∈ X.ex ∨ X.s₀.heap.objs.size ≤ b) ∧ b ≠ X.env.locals ∧ (∀ x c, X.env.cells.lookup x = some c → c ≠ b) ∧ ∀ p ∈ X.pn ++ pins, p.1 ≠ b) : Inv X pins σ H' s' := by
  obtain ⟨h', g', d', t', o'⟩ := s'
  have e : o' = s.os := ho
  subst e
  exact I.call (g' := g') (t' := t') (d' := d') u hok hg hch
end

/-! ### the judgements -/
/-- an exception: its class, its own dict's address (where it has one), the abstract heap behind it -/
abbrev XK := Value → Option Addr → Hp → Prop
abbrev St := List (Option V)
abbrev VK := V → Hp → Prop
/-- an expression's reading; a test's; an argument list's -/
abbrev TE := St → Hp → VK → Prop
abbrev TT := St → Hp → (Bool → Hp → Prop) → Prop
abbrev TA := St → Hp → (List V → Hp → Prop) → Prop
/-- what is wanted behind a statement -/
structure Ends where
  nx : St → Hp → Prop
  rt : VK
  bk : St → Hp → Prop := fun _ _ => False
  ct : St → Hp → Prop := fun _ _ => False
abbrev TS := Ends → St → Hp → Prop

def EP (X : Cx) (pins : List (Addr × Obj)) (σ : St) (Q : VK) (u : Value) (s' : Shared) : Prop := ∃ v H', Inv X pins σ H' s' ∧ RelV v u ∧ Q v H'
def TP (X : Cx) (pins : List (Addr × Obj)) (σ : St) (Q : Bool → Hp → Prop) (b : Bool) (s' : Shared) : Prop := ∃ H', Inv X pins σ H' s' ∧ Q b H'
def AP (X : Cx) (pins : List (Addr × Obj)) (σ : St) (Q : List V → Hp → Prop) (us : List Value) (s' : Shared) : Prop := ∃ vs H', Inv X pins σ H' s' ∧ Vals vs us ∧ Q vs H'
def SP (X : Cx) (pins : List (Addr × Obj)) (D : Ends) (f : Flow) (s' : Shared) : Prop :=
  match f with
  | .next => ∃ σ' H', Inv X pins σ' H' s' ∧ D.nx σ' H'
  | .brk => ∃ σ' H', Inv X pins σ' H' s' ∧ D.bk σ' H'
  | .cont => ∃ σ' H', Inv X pins σ' H' s' ∧ D.ct σ' H'
  | .ret u => ∃ v σ' H', Inv X pins σ' H' s' ∧ RelV v u ∧ D.rt v H'

def PE (X : Cx) (e : Expr) (t : TE) : Prop :=
  ∀ (pins : List (Addr × Obj)) (s : Shared) (σ : St) (H : Hp) (Q : VK), Inv X pins σ H s → t σ H Q → wpAny (model X.prog X.w) X.A (eval e X.env) (EP X pins σ Q) X.xe s
def PT (X : Cx) (e : Expr) (t : TT) : Prop :=
  ∀ (pins : List (Addr × Obj)) (s : Shared) (σ : St) (H : Hp) (Q : Bool → Hp → Prop), Inv X pins σ H s → t σ H Q → wpAny (model X.prog X.w) X.A (isTrue e X.env (eval e X.env)) (TP X pins σ Q) X.xe s
/-- a test whatever its 'whole' is (and, or) -/
def PW (X : Cx) (e : Expr) (t : TT) : Prop :=
  ∀ (whole : Sem Value) (pins : List (Addr × Obj)) (s : Shared) (σ : St) (H : Hp) (Q : Bool → Hp → Prop), Inv X pins σ H s → t σ H Q → wpAny (model X.prog X.w) X.A (isTrue e X.env whole) (TP X pins σ Q) X.xe s
theorem PW.pt {X : Cx} {e : Expr} {t : TT} (h : PW X e t) : PT X e t := h _
/-- an argument list (no star), from the left -/
def PA (X : Cx) (es : List Expr) (t : TA) : Prop :=
  ∀ (pos : Pos) (pins : List (Addr × Obj)) (s : Shared) (σ : St) (H : Hp) (Q : List V → Hp → Prop), Inv X pins σ H s → t σ H Q → wpAny (model X.prog X.w) X.A (spliced (backTo pos (starEach es X.env))) (AP X pins σ Q) X.xe s
def PS (X : Cx) (st : Stmt) (t : TS) : Prop :=
  ∀ (pins : List (Addr × Obj)) (s : Shared) (σ : St) (H : Hp) (D : Ends), Inv X pins σ H s → t D σ H → wpAny (model X.prog X.w) X.A (exec st X.env) (SP X pins D) X.xe s
def PSs (X : Cx) (st : List Stmt) (t : TS) : Prop :=
  ∀ (pins : List (Addr × Obj)) (s : Shared) (σ : St) (H : Hp) (D : Ends), Inv X pins σ H s → t D σ H → wpAny (model X.prog X.w) X.A (execs st X.env) (SP X pins D) X.xe s
/-- weaken the end -/
theorem thn {α : Type} {t : Sem α} {Q Q' : α → Shared → Prop} {M : Model} {A : Around} {E : Value → Shared → Prop} {s : Shared} (h : wpAny M A t Q E s) (hQ : ∀ a s, Q a s → Q' a s) : wpAny M A t Q' E s := wpAny_mono h hQ fun _ _ x => x
end L2

namespace L2
open PySem PySem.Spec PyProof.Rows
section
variable {X : Cx}

/-- two expressions in a row -/
theorem bin {a b : Expr} {ta tb : TE} (ha : PE X a ta) (hb : PE X b tb) {pins : List (Addr × Obj)} {s : Shared} {σ : St} {H : Hp} {R : V → V → Hp → Prop} (I : Inv X pins σ H s) (h : ta σ H fun x H1 => tb σ H1 fun y H2 => R x y H2)
    {α : Type} {Q : α → Shared → Prop} {f : Value → Value → Sem α}
    (hf : ∀ v u s2 x y H2, Inv X pins σ H2 s2 → RelV x v → RelV y u → R x y H2 → wpAny (model X.prog X.w) X.A (f v u) Q X.xe s2) :
    wpAny (model X.prog X.w) X.A (eval a X.env) (fun v s₁ => wpAny (model X.prog X.w) X.A (eval b X.env) (fun u s₂ => wpAny (model X.prog X.w) X.A (f v u) Q X.xe s₂) X.xe s₁) X.xe s := by
  refine thn (ha pins s σ H _ I h) fun v s1 ⟨x, H1, I1, r1, q1⟩ => ?_
  refine thn (hb pins s1 σ H1 _ I1 q1) fun u s2 ⟨y, H2, I2, r2, q2⟩ => ?_
  exact hf v u s2 x y H2 I2 r1 r2 q2

/-! ### names and constants -/
def tVar (i : Nat) : TE := fun σ H Q => ∃ v, σ[i]? = some (some v) ∧ Q v H
def tC (v : V) : TE := fun _ H Q => Q v H
theorem pe_var {i : Nat} {x : Str} {pos : Pos} (hN : X.N[i]? = some x) (hv : Vis X.env.scope x) (hd : (x == ("__debug__" : Str)) = false := by decide) (hcd : (x == ("__classdict__" : Str)) = false := by decide) : PE X (.Name x pos) (tVar i) := by
  intro pins s σ H Q I h
  obtain ⟨v, e, h⟩ := h
  obtain ⟨m, hn, hl⟩ := I.loc
  obtain ⟨u, r, l⟩ := hl i x v hN e hv
  have fin : EP X pins σ Q u s := ⟨v, H, I, r, h⟩
  rcases l with ⟨hk, hm⟩ | ⟨hk, c, hc, hcell⟩
  · exact wpAny_Name (wpAny_loadName_local I.ok.kind hk hn hm fin) hd
  · rcases hk with hk | hk
    · exact wpAny_Name (wpAny_loadName_cell I.ok.kind hk hc hcell fin) hd
    · exact wpAny_Name (wpAny_loadName_free I.ok.kind hk hc hcell fin hcd) hd
theorem pe_int {i j pos} : PE X (.Constant (.int i) j pos) (tC (.int i)) := fun _ _ _ H _ I h => wpAny_Constant_int ⟨.int i, H, I.tok _, ⟨_, rfl⟩, h⟩
theorem pe_bl {b j pos} : PE X (.Constant (.bool b) j pos) (tC (.bl b)) := fun _ _ _ H _ I h => Constant_bool ⟨.bl b, H, I, rfl, h⟩
theorem pe_str {x j pos} : PE X (.Constant (.str x) j pos) (tC (.str x)) := fun _ _ _ H _ I h => Calls.Constant_str ⟨.str x, H, I.tok _, ⟨_, rfl⟩, h⟩

/-- a global name of the def -/
def Gl (X : Cx) (x : Str) : Prop := X.env.kindOf x = some .globalImplicit
theorem ld_glob {E : Value → Shared → Prop} {pins : List (Addr × Obj)} {s : Shared} {σ : St} {H : Hp} {x : Str} {u : Value} {pos : Pos} {Q : Value → Shared → Prop} (I : Inv X pins σ H s) (hg : Gl X x) (hm : X.mg x = some u) (h : Q u s)
    (hd : (x == ("__debug__" : Str)) = false := by decide) : wpAny (model X.prog X.w) X.A (eval (.Name x pos) X.env) Q E s :=
  Calls.Name_function_global I.ok.kind hg (Calls.loadGlobal_global (by rw [I.ok.glob]; exact I.mod.glob.keeps I.bk) hm h) hd
theorem ld_blt {E : Value → Shared → Prop} {pins : List (Addr × Obj)} {s : Shared} {σ : St} {H : Hp} {x : Str} {u : Value} {pos : Pos} {Q : Value → Shared → Prop} (I : Inv X pins σ H s) (hg : Gl X x) (hm : X.mg x = none) (hv : bootBuiltins x = some u) (h : Q u s)
    (hn : x ≠ "__name__" := by decide) (hd : (x == ("__debug__" : Str)) = false := by decide) : wpAny (model X.prog X.w) X.A (eval (.Name x pos) X.env) Q E s := by
  obtain ⟨mb, h1, h2⟩ := I.mod.blt
  exact Calls.Name_function_global I.ok.kind hg (Calls.loadGlobal_builtin (by rw [I.ok.glob]; exact I.mod.glob.keeps I.bk) hm (by rw [I.ok.blt]; exact h1.keeps I.bk) ((h2 x hn).trans hv) h) hd
/-- a module's constant, a class, a function, as a value -/
theorem pe_glob {x : Str} {v : V} {u : Value} {pos : Pos} (hg : Gl X x) (hm : X.mg x = some u) (r : RelV v u) (hd : (x == ("__debug__" : Str)) = false := by decide) : PE X (.Name x pos) (tC v) :=
  fun _ _ _ H _ I h => ld_glob I hg hm ⟨v, H, I, r, h⟩ hd
theorem pe_bltn {x : Str} {v : V} {u : Value} {pos : Pos} (hg : Gl X x) (hm : X.mg x = none) (hv : bootBuiltins x = some u) (r : RelV v u) (hn : x ≠ "__name__" := by decide) (hd : (x == ("__debug__" : Str)) = false := by decide) : PE X (.Name x pos) (tC v) :=
  fun _ _ _ H _ I h => ld_blt I hg hm hv ⟨v, H, I, r, h⟩ hn hd

/-! ### arithmetic -/
variable {a b : Expr} {ta tb : TE} {pos : Pos}

/-! ### comparisons -/
def PC (X : Cx) (op : CmpOp) (a b : Expr) (t : TE) : Prop :=
  ∀ (pins : List (Addr × Obj)) (s : Shared) (σ : St) (H : Hp) (Q : VK), Inv X pins σ H s → t σ H Q →
    wpAny (model X.prog X.w) X.A (eval a X.env) (fun v s₁ => wpAny (model X.prog X.w) X.A (eval b X.env) (fun u s₂ => wpAny (model X.prog X.w) X.A (compareOp op v u) (EP X pins σ Q) X.xe s₂) X.xe s₁) X.xe s
/-- a comparison as a value, as a test -/
def tB (t : TE) : TT := fun σ H Q => t σ H fun x H1 => ∃ c, x = .bl c ∧ Q c H1
theorem pt_cmp {op : CmpOp} {t : TE} (h : PC X op a b t) (h1 : behindInMarks op b = false := by first | exact nobehind _ (by decide) (by decide) | rfl) : PT X (.Compare a [op] [b] pos) (tB t) := by
  intro pins s σ H Q I hw
  refine wpAny_isTrue_Compare1 (thn (h pins s σ H _ I hw) fun v s1 h1 => thn h1 fun u s2 h2 => thn h2 fun c s3 ⟨x, H1, I1, r1, q1⟩ => ?_) h1
  obtain ⟨d, rfl, q⟩ := q1
  cases r1
  exact wpAny_truthy_bool ⟨H1, I1, q⟩
/-- an expression whose value is a bool, as a test -/
theorem pt_val {e : Expr} {t : TE} (h : PE X e t) (he : ∀ whole, isTrue e X.env whole = (do let v ← whole; standAt e.pos; holding [v] (truthy v)) := by intro _; rfl) : PT X e (tB t) := by
  intro pins s σ H Q I hw
  refine isTrue_plain (thn (h pins s σ H _ I hw) fun v s1 ⟨x, H1, I1, r1, q1⟩ => ?_) (he _)
  obtain ⟨d, rfl, q⟩ := q1
  cases r1
  exact wpAny_truthy_bool ⟨H1, I1, q⟩

/-! ### and, or, not -/
variable {tA tB' : TT} {rest : List Expr}
def tAnd (t u : TT) : TT := fun σ H Q => t σ H fun c H1 => if c = true then u σ H1 Q else Q false H1
def tOr (t u : TT) : TT := fun σ H Q => t σ H fun c H1 => if c = true then Q true H1 else u σ H1 Q
def tNot (t : TT) : TT := fun σ H Q => t σ H fun c H1 => Q (!c) H1
theorem pw_and1 (ha : PT X a tA) : PW X (.BoolOp .And [a] pos) tA := by
  intro wh pins s σ H Q I h
  refine isTrue_and (thn (ha pins s σ H Q I h) fun c s1 e => ?_)
  cases c with
  | true => exact isTrue_and_nil e
  | false => exact e
theorem pw_or1 (ha : PT X a tA) : PW X (.BoolOp .Or [a] pos) tA := by
  intro wh pins s σ H Q I h
  refine isTrue_or (thn (ha pins s σ H Q I h) fun c s1 e => ?_)
  cases c with
  | false => exact isTrue_or_nil e
  | true => exact e
theorem pw_and (ha : PT X a tA) (hb : PW X (.BoolOp .And (b :: rest) pos) tB') : PW X (.BoolOp .And (a :: b :: rest) pos) (tAnd tA tB') := by
  intro wh pins s σ H Q I h
  refine isTrue_and (thn (ha pins s σ H _ I h) fun c s1 ⟨H1, I1, q1⟩ => ?_)
  cases c with
  | true => exact hb wh pins s1 σ H1 Q I1 q1
  | false => exact ⟨H1, I1, q1⟩
theorem pw_or (ha : PT X a tA) (hb : PW X (.BoolOp .Or (b :: rest) pos) tB') : PW X (.BoolOp .Or (a :: b :: rest) pos) (tOr tA tB') := by
  intro wh pins s σ H Q I h
  refine isTrue_or (thn (ha pins s σ H _ I h) fun c s1 ⟨H1, I1, q1⟩ => ?_)
  cases c with
  | true => exact ⟨H1, I1, q1⟩
  | false => exact hb wh pins s1 σ H1 Q I1 q1
theorem pt_not (ha : PT X a tA) : PT X (.UnaryOp .Not a pos) (tNot tA) := by
  intro pins s σ H Q I h
  exact isTrue_not (ha pins s σ H (fun c H1 => Q (!c) H1) I h)
/-- .. as values (bools) -/
def tAndV (ta tb : TE) : TE := fun σ H Q => ta σ H fun x H1 => ∃ c, x = .bl c ∧ if c = true then tb σ H1 Q else Q (.bl false) H1
def tNotV (ta : TE) : TE := fun σ H Q => ta σ H fun x H1 => ∃ c, x = .bl c ∧ Q (.bl (!c)) H1
theorem pe_one {op} {t : TE} (h : PE X a t) : PE X (.BoolOp op [a] pos) t := fun pins s σ H Q I hw => BoolOp_one (h pins s σ H Q I hw)
theorem pe_and (ha : PE X a ta) (hb : PE X (.BoolOp .And (b :: rest) pos) tb) : PE X (.BoolOp .And (a :: b :: rest) pos) (tAndV ta tb) := by
  intro pins s σ H Q I h
  refine BoolOp_and (thn (ha pins s σ H _ I h) fun v s1 ⟨x, H1, I1, r1, q1⟩ => ?_)
  obtain ⟨c, rfl, q1⟩ := q1
  cases r1
  refine wpAny_truthy_bool ?_
  cases c with
  | true => exact hb pins s1 σ H1 Q I1 q1
  | false => exact ⟨.bl false, H1, I1, rfl, q1⟩
theorem pe_not (ha : PE X a ta) : PE X (.UnaryOp .Not a pos) (tNotV ta) := by
  intro pins s σ H Q I h
  refine UnaryOp_ (thn (ha pins s σ H _ I h) fun v s1 ⟨x, H1, I1, r1, q1⟩ => ?_)
  obtain ⟨c, rfl, q1⟩ := q1
  cases r1
  exact not_of (wpAny_truthy_bool ⟨.bl (!c), H1, I1, rfl, q1⟩)
/-- a if t else b -/
def tIf (t : TT) (ta tb : TE) : TE := fun σ H Q => t σ H fun c H1 => if c = true then ta σ H1 Q else tb σ H1 Q
theorem pe_ifExp {c : Expr} (hc : PT X c tA) (ha : PE X a ta) (hb : PE X b tb) : PE X (.IfExp c a b pos) (tIf tA ta tb) := by
  intro pins s σ H Q I h
  refine wpAny_IfExp (thn (hc pins s σ H _ I h) fun d s1 ⟨H1, I1, q1⟩ => ?_)
  cases d with
  | true => exact ha pins s1 σ H1 Q I1 q1
  | false => exact hb pins s1 σ H1 Q I1 q1
end
end L2

namespace L2
open PySem PySem.Spec PyProof.Rows

/-! ### a list, a tuple that is read: tracked, frozen, or an object of the module -/
def SqL (K : PySem.W.Frag) (H : Hp) (a : Addr) (xs : List V) : Prop :=
  Rd H a (.lst xs) ∨
    ∃ (o : Obj) (its : Array Value) (n : Nat), K.lookup a = some o ∧ o.cls = .type "list" ∧ o.dict = none ∧ o.data = .seq its n ∧ its.size ≤ sizeLine ∧ Vals xs its.toList
def SqT (K : PySem.W.Frag) (H : Hp) (a : Addr) (xs : List V) : Prop :=
  Rd H a (.tup xs) ∨
    ∃ (o : Obj) (its : Array Value) (n : Nat), K.lookup a = some o ∧ o.cls = .type "tuple" ∧ o.data = .seq its n ∧ its.size ≤ sizeLine ∧ Vals xs its.toList
def absV : Value → Option V
  | .none => some .non
  | .bool b => some (.bl b)
  | .int i _ => some (.int i)
  | .str x _ => some (.str x)
  | .bytes b _ => some (.byt b)
  | .float b _ => some (.flt b)
  | .ref a => some (.ref a)
  | .type n => some (.ty n)
  | _ => none
theorem RelV.abs {x : V} {u : Value} (r : RelV x u) : absV u = some x := by
  cases x with
  | non => cases r; rfl
  | bl _ => cases r; rfl
  | int _ => obtain ⟨t, rfl⟩ := r; rfl
  | str _ => obtain ⟨t, rfl⟩ := r; rfl
  | byt _ => obtain ⟨t, rfl⟩ := r; rfl
  | flt _ => obtain ⟨t, rfl⟩ := r; rfl
  | ref _ => cases r; rfl
  | ty _ => cases r; rfl
theorem RelV.inj {x y : V} {u : Value} (r : RelV x u) (q : RelV y u) : x = y := Option.some.inj (r.abs.symm.trans q.abs)
theorem Vals.inj : ∀ {xs ys : List V} {us : List Value}, Vals xs us → Vals ys us → xs = ys
  | _, _, _, .nil, .nil => rfl
  | _, _, _, .cons r t, .cons r' t' => by rw [r.inj r', Vals.inj t t']
section
variable {X : Cx} {pins : List (Addr × Obj)} {σ : St} {H : Hp} {s : Shared} {a : Addr} {xs ys : List V}
theorem SqL.of {K : PySem.W.Frag} (h : H a = some (.lst xs)) : SqL K H a xs := .inl (.inl h)
theorem SqT.of {K : PySem.W.Frag} (h : H a = some (.tup xs)) : SqT K H a xs := .inl (.inl h)
theorem Inv.list (I : Inv X pins σ H s) (h : SqL X.K H a xs) : ∃ its : List Value, Vals xs its ∧ PlainL s.heap a its.toArray ∧ xs.length ≤ sizeLine := by
  rcases h with h | ⟨o, its, n, hk, hc, hd, hs, hz, r⟩
  · obtain ⟨z, its, n, r, e⟩ := h.ok I.hok
    exact ⟨its, r, ⟨_, n, e, rfl, rfl, rfl⟩, z⟩
  · refine ⟨its.toList, r, ⟨o, n, I.kIn a o hk, hc, hd, by simpa using hs⟩, ?_⟩
    have e := r.length
    simp only [Array.length_toList] at e
    omega
theorem Inv.tuple (I : Inv X pins σ H s) (h : SqT X.K H a xs) : ∃ its : List Value, Vals xs its ∧ IsTup s.heap a its.toArray ∧ xs.length ≤ sizeLine := by
  rcases h with h | ⟨o, its, n, hk, hc, hs, hz, r⟩
  · obtain ⟨z, its, r, p⟩ := h.ok I.hok
    exact ⟨its, r, p, z⟩
  · refine ⟨its.toList, r, ⟨o, I.kIn a o hk, hc, n, by simpa using hs⟩, ?_⟩
    have e := r.length
    simp only [Array.length_toList] at e
    omega
theorem Inv.list_inj (I : Inv X pins σ H s) (h : SqL X.K H a xs) (h' : SqL X.K H a ys) : xs = ys := by
  obtain ⟨its, r, ⟨o, n, e, _, _, d⟩, _⟩ := I.list h
  obtain ⟨its', r', ⟨o', n', e', _, _, d'⟩, _⟩ := I.list h'
  rw [e] at e'; cases e'
  rw [d] at d'
  injection d' with d1 _
  have : its = its' := by simpa using congrArg Array.toList d1
  subst this
  exact r.inj r'
theorem Inv.tuple_inj (I : Inv X pins σ H s) (h : SqT X.K H a xs) (h' : SqT X.K H a ys) : xs = ys := by
  obtain ⟨its, r, ⟨o, e, _, n, d⟩, _⟩ := I.tuple h
  obtain ⟨its', r', ⟨o', e', _, n', d'⟩, _⟩ := I.tuple h'
  rw [e] at e'; cases e'
  rw [d] at d'
  injection d' with d1 _
  have : its = its' := by simpa using congrArg Array.toList d1
  subst this
  exact r.inj r'
end

/-! ### another wish about exceptions -/
abbrev Cx.wish (X : Cx) (E : Value → Shared → Prop) : Cx := { X with xe := E }
/-- no exception leaves -/
abbrev Cx.nox (X : Cx) : Cx := X.wish fun _ _ => False
theorem Cx.Ok.wish {X : Cx} (ok : X.Ok) (E : Value → Shared → Prop) : (X.wish E).Ok :=
  ⟨ok.mod, ok.kind, ok.glob, ok.blt, ok.above, ok.inj, ok.has, ok.cab, ok.hd, ok.frames, ok.stk, ok.exf, ok.bs, ok.bsz, ok.noex, ok.exfs, ok.funs, ok.frf⟩
theorem Cx.Ok.unwish {X : Cx} {E : Value → Shared → Prop} (ok : (X.wish E).Ok) : X.Ok :=
  ⟨ok.mod, ok.kind, ok.glob, ok.blt, ok.above, ok.inj, ok.has, ok.cab, ok.hd, ok.frames, ok.stk, ok.exf, ok.bs, ok.bsz, ok.noex, ok.exfs, ok.funs, ok.frf⟩
section
variable {X : Cx} {pins : List (Addr × Obj)} {σ : St} {H : Hp} {s : Shared} {E : Value → Shared → Prop}
theorem Inv.wish (I : Inv X pins σ H s) (E : Value → Shared → Prop) : Inv (X.wish E) pins σ H s := ⟨I.ok.wish E, I.os, I.bare, I.base, I.loc, I.cell, I.free, I.freeC, I.pin, I.hok, I.len⟩
theorem Inv.unwish (I : Inv (X.wish E) pins σ H s) : Inv X pins σ H s := ⟨I.ok.unwish, I.os, I.bare, I.base, I.loc, I.cell, I.free, I.freeC, I.pin, I.hok, I.len⟩
theorem SP.unwish {D : Ends} {f : Flow} {s' : Shared} (h : SP (X.wish E) pins D f s') : SP X pins D f s' := by
  cases f with
  | next => obtain ⟨σ', H', I, q⟩ := h; exact ⟨σ', H', I.unwish, q⟩
  | brk => obtain ⟨σ', H', I, q⟩ := h; exact ⟨σ', H', I.unwish, q⟩
  | cont => obtain ⟨σ', H', I, q⟩ := h; exact ⟨σ', H', I.unwish, q⟩
  | ret u => obtain ⟨v, σ', H', I, r, q⟩ := h; exact ⟨v, σ', H', I.unwish, r, q⟩
theorem PSs.nox {st : List Stmt} {t : TS} (h : PSs X.nox st t) : PSs X st t := fun pins s σ H D I hw =>
  wpAny_mono (h pins s σ H D (I.wish _) hw) (fun _ _ q => q.unwish) fun _ _ z => False.elim z
end

/-! ### blocks and small statements -/
section
variable {X : Cx} {st : Stmt} {rest : List Stmt} {t u : TS} {e : Expr} {te : TE} {pos : Pos}
def tNext : TS := fun D σ H => D.nx σ H
def tSeq (t u : TS) : TS := fun D σ H => t { D with nx := u D } σ H
theorem pss_nil : PSs X [] tNext := fun _ _ σ H _ I h => wpAny_execs_nil ⟨σ, H, I, h⟩
theorem pss_cons (h1 : PS X st t) (h2 : PSs X rest u) : PSs X (st :: rest) (tSeq t u) := by
  intro pins s σ H D I h
  refine wpAny_execs_cons (thn (h1 pins s σ H { D with nx := u D } I h) fun f s1 q => ?_)
  cases f with
  | next =>
    obtain ⟨σ', H', I', q⟩ := q
    exact h2 pins s1 σ' H' D I' q
  | ret v => exact q
  | brk => exact q
  | cont => exact q
theorem pss_one (h1 : PS X st t) : PSs X [st] t := by
  intro pins s σ H D I h
  refine wpAny_execs_cons (thn (h1 pins s σ H D I h) fun f s1 q => ?_)
  cases f with
  | next => exact wpAny_execs_nil q
  | ret v => exact q
  | brk => exact q
  | cont => exact q
/-- in a def's body nothing is shown -/
theorem Inv.quiet {pins : List (Addr × Obj)} {σ : St} {H : Hp} {s : Shared} (I : Inv X pins σ H s) : interactive X.env = false := by simp [interactive, I.ok.kind]
/-- an expression whose value is dropped -/
def tDrop (te : TE) : TS := fun D σ H => te σ H fun _ H1 => D.nx σ H1
theorem ps_expr (he : PE X e te) (hs : swapsWith e none pos.line X.env = pure false := by rfl) : PS X (.Expr e pos) (tDrop te) := by
  intro pins s σ H D I h
  exact wpAny_Expr_any (thn (he pins s σ H _ I h) fun v s1 ⟨x, H1, I1, r1, q1⟩ => ⟨σ, H1, I1, q1⟩) I.quiet hs
def tRet (te : TE) : TS := fun D σ H => te σ H D.rt
theorem ps_ret (he : PE X e te) : PS X (.Return (some e) pos) (tRet te) := by
  intro pins s σ H D I h
  exact wpAny_Return_some (thn (he pins s σ H _ I h) fun v s1 ⟨x, H1, I1, r1, q1⟩ => ⟨x, σ, H1, I1, r1, q1⟩)
def tIfS (c : TT) (t u : TS) : TS := fun D σ H => c σ H fun b H1 => if b = true then t D σ H1 else u D σ H1
theorem ps_if {c : Expr} {a b : List Stmt} {tc : TT} (hc : PT X c tc) (ha : PSs X a t) (hb : PSs X b u) : PS X (.If c a b pos) (tIfS tc t u) := by
  intro pins s σ H D I h
  refine wpAny_If (thn (hc pins s σ H _ I h) fun d s1 ⟨H1, I1, q1⟩ => ?_)
  cases d with
  | true => exact ha pins s1 σ H1 D I1 q1
  | false => exact hb pins s1 σ H1 D I1 q1
/-- code that the proof never comes to -/
def tNever : TS := fun _ _ _ => False
theorem ps_never : PS X st tNever := fun _ _ _ _ _ _ h => h.elim
end

/-! ### targets -/
abbrev TG := V → St → Hp → (St → Hp → Prop) → Prop
abbrev TGs := List V → St → Hp → (St → Hp → Prop) → Prop
def PG (X : Cx) (target : Expr) (t : TG) : Prop :=
  ∀ (pins : List (Addr × Obj)) (s : Shared) (σ : St) (H : Hp) (v : V) (u : Value) (Q : St → Hp → Prop), Inv X pins σ H s → RelV v u → t v σ H Q →
    wpAny (model X.prog X.w) X.A (assign target X.env u) (fun _ s' => ∃ σ' H', Inv X pins σ' H' s' ∧ Q σ' H') X.xe s
/-- several targets, one after another -/
def PGs (X : Cx) (ts : List Expr) (t : TGs) : Prop :=
  ∀ (pins : List (Addr × Obj)) (s : Shared) (σ : St) (H : Hp) (vs : List V) (us : List Value) (Q : St → Hp → Prop), Inv X pins σ H s → Vals vs us → t vs σ H Q →
    wpAny (model X.prog X.w) X.A (assignInOrder ((assignEach ts X.env).map (·.2)) us) (fun _ s' => ∃ σ' H', Inv X pins σ' H' s' ∧ Q σ' H') X.xe s
/-- o[i] = v, by values -/
abbrev TSet := V → V → V → Hp → (Hp → Prop) → Prop
def PSet (X : Cx) (t : TSet) : Prop :=
  ∀ (pins : List (Addr × Obj)) (s : Shared) (σ : St) (H : Hp) (o i v : V) (ov iv u : Value) (Q : Hp → Prop), Inv X pins σ H s → RelV o ov → RelV i iv → RelV v u → t o i v H Q →
    wpAny (model X.prog X.w) X.A (setItem ov iv u) (fun _ s' => ∃ H', Inv X pins σ H' s' ∧ Q H') X.xe s
/-- a op= b, by values -/
abbrev TIp := V → V → Hp → VK → Prop
def PIp (X : Cx) (op : Operator) (t : TIp) : Prop :=
  ∀ (pins : List (Addr × Obj)) (s : Shared) (σ : St) (H : Hp) (x y : V) (v u : Value) (Q : VK), Inv X pins σ H s → RelV x v → RelV y u → t x y H Q →
    wpAny (model X.prog X.w) X.A (inplaceOp op v u) (EP X pins σ Q) X.xe s
section
variable {X : Cx} {pos : Pos}
def gName (i : Nat) : TG := fun v σ H Q => Q (σ.set i (some v)) H
theorem pg_name {i : Nat} {x : Str} (hN : X.N.Nodup) (hi : X.N[i]? = some x) (hx : Loc X.env.scope x) (hf : X.fn x = true ∨ X.env.scope.names.lookup x = some .local := by first | exact .inl rfl | exact .inr rfl | assumption) : PG X (.Name x pos) (gName i) := by
  intro pins s σ H v u Q I r h
  exact wpAny_assign_Name (store_ok I hN hi hx r (fun s' I' => ⟨_, H, I', h⟩) hf)
def gNil : TGs := fun vs σ H Q => vs = [] ∧ Q σ H
def gCons (t : TG) (u : TGs) : TGs := fun vs σ H Q => ∃ v r, vs = v :: r ∧ t v σ H fun σ' H' => u r σ' H' Q
theorem pgs_nil : PGs X [] gNil := by
  intro pins s σ H vs us Q I r h
  obtain ⟨e, h⟩ := h
  subst e
  cases r
  exact assignInOrder_nil ⟨σ, H, I, h⟩
theorem pgs_cons {e : Expr} {es : List Expr} {t : TG} {u : TGs} (h1 : PG X e t) (h2 : PGs X es u)
    (hs : (assignEach (e :: es) X.env).map (·.2) = assign e X.env :: (assignEach es X.env).map (·.2) := by rfl) : PGs X (e :: es) (gCons t u) := by
  intro pins s σ H vs us Q I r h
  obtain ⟨v, vr, e1, h⟩ := h
  subst e1
  cases r with
  | cons r rr =>
    rw [hs]
    refine assignInOrder_cons (thn (h1 pins s σ H _ _ _ I r h) fun _ s1 ⟨σ1, H1, I1, q1⟩ => ?_)
    exact h2 pins s1 σ1 H1 _ _ Q I1 rr q1
/-- (a, b, ..) = a tuple of that length -/
def gTup (K : PySem.W.Frag) (n : Nat) (t : TGs) : TG := fun v σ H Q => ∃ a xs, v = .ref a ∧ SqT K H a xs ∧ xs.length = n ∧ t xs σ H Q
theorem pg_tup {es : List Expr} {k : Nat} {t : TGs} {n : Nat} (hc : X.calm = true) (h : PGs X es t)
    (hn : (assignEach es X.env).length = n := by rfl) (hst : (assignEach es X.env).findIdx? (·.1) = none := by rfl) : PG X (.Tuple es k pos) (gTup X.K n t) := by
  intro pins s σ H v u Q I r hw
  obtain ⟨a, xs, e1, hq, hl, hw⟩ := hw
  subst e1
  cases r
  obtain ⟨its, rv, ht, hz⟩ := I.tuple hq
  refine assign_Tuple_tuple (I.ok.hd hc) ht (by simp [hn, ← hl, rv.length]) hst fun h' hx => ?_
  have I1 : Inv X pins σ H { s with heap := h' } := I.kept (t' := s.toks) fun b o e => hx b o (Nat.ne_of_lt (Heap.lt_size e)) e
  exact h pins _ σ H xs _ Q I1 (by simpa using rv) hw
/-- o[i] = .. -/
def gSub (to ti : TE) (t : TSet) : TG := fun v σ H Q => to σ H fun o H1 => ti σ H1 fun i H2 => t o i v H2 fun H3 => Q σ H3
theorem pg_sub {o i : Expr} {to ti : TE} {t : TSet} (ho : PE X o to) (hi : PE X i ti) (hs : PSet X t)
    (ha : ∀ v, assign (.Subscript o i pos) X.env v = (do
      let ov ← holding [v] (eval o X.env)
      let iv ← holding [v, ov] (eval i X.env)
      standAt pos
      holding [v, ov, iv] (setItem ov iv v)
      release [v, ov, iv] []) := by intro _; rfl) : PG X (.Subscript o i pos) (gSub to ti t) := by
  intro pins s σ H v u Q I r h
  rw [ha]
  refine wpAny_bind (wpAny_holding (thn (ho pins s σ H _ I h) fun ov s1 ⟨x, H1, I1, r1, q1⟩ => ?_))
  refine wpAny_bind (wpAny_holding (thn (hi pins s1 σ H1 _ I1 q1) fun iv s2 ⟨y, H2, I2, r2, q2⟩ => ?_))
  refine wpAny_bind (wpAny_standAt (wpAny_bind (wpAny_holding (thn (hs pins s2 σ H2 x y v ov iv u _ I2 r1 r2 r q2) fun _ s3 ⟨H3, I3, q3⟩ => ?_))))
  exact wpAny_release ⟨σ, H3, I3, q3⟩
/-- target = value -/
def tAsg (te : TE) (g : TG) : TS := fun D σ H => te σ H fun x H1 => g x σ H1 D.nx
theorem ps_asg {tg e : Expr} {te : TE} {g : TG} (he : PE X e te) (hg : PG X tg g) (hs : swapsWithSole [tg] e pos.line X.env = pure false := by rfl) (hw : swappedStores [tg] e X.env = pure none := by rfl)
    (h1 : (assignEach [tg] X.env).map (·.2) = [assign tg X.env] := by rfl) : PS X (.Assign [tg] e pos) (tAsg te g) := by
  intro pins s σ H D I h
  refine wpAny_Assign_stores (thn (he pins s σ H _ I h) fun v s1 ⟨x, H1, I1, r1, q1⟩ => ?_) hs hw
  rw [h1]
  exact thn (hg pins s1 σ H1 x v _ I1 r1 q1) fun _ s2 q => q
/-- name = value -/
theorem ps_set {i : Nat} {x : Str} {e : Expr} {te : TE} {pos' : Pos} (hN : X.N.Nodup) (hi : X.N[i]? = some x) (hx : Loc X.env.scope x) (he : PE X e te) (hs : swapsWith e (some (.Name x pos')) pos.line X.env = pure false := by rfl) (hf : X.fn x = true ∨ X.env.scope.names.lookup x = some .local := by first | exact .inl rfl | exact .inr rfl | assumption) :
    PS X (.Assign [.Name x pos'] e pos) (tAsg te (gName i)) := by
  intro pins s σ H D I h
  refine wpAny_Assign_Name (thn (he pins s σ H _ I h) fun v s1 ⟨y, H1, I1, r1, q1⟩ => ?_) hs
  exact store_ok I1 hN hi hx r1 (fun s2 I2 => ⟨_, H1, I2, q1⟩) hf
/-- name op= e -/
def tAug (i : Nat) (te : TE) (ti : TIp) : TS := fun D σ H => ∃ x, σ[i]? = some (some x) ∧ te σ H fun y H1 => ti x y H1 fun z H2 => D.nx (σ.set i (some z)) H2
theorem ps_aug {i : Nat} {x : Str} {e : Expr} {te : TE} {op : Operator} {ti : TIp} {pos' : Pos} (hN : X.N.Nodup) (hi : X.N[i]? = some x) (hx : Loc X.env.scope x) (he : PE X e te) (ho : PIp X op ti) (hf : X.fn x = true ∨ X.env.scope.names.lookup x = some .local := by first | exact .inl rfl | exact .inr rfl | assumption) :
    PS X (.AugAssign (.Name x pos') op e pos) (tAug i te ti) := by
  intro pins s σ H D I h
  obtain ⟨v, e1, h⟩ := h
  obtain ⟨m, hn, hl⟩ := I.loc
  have vis : Vis X.env.scope x := by rcases hx with k | k; exact .inl k; exact .inr (.inl k)
  obtain ⟨u, r, l⟩ := hl i x v hi e1 vis
  refine wpAny_AugAssign_Name ?_
  have go : wpAny (model X.prog X.w) X.A (eval e X.env) (fun w s₂ => wpAny (model X.prog X.w) X.A (inplaceOp op u w) (fun r s₃ => wpAny (model X.prog X.w) X.A (storeName X.env x r) (fun _ => SP X pins D .next) X.xe s₃) X.xe s₂) X.xe s := by
    refine thn (he pins s σ H _ I h) fun w s1 ⟨y, H1, I1, r1, q1⟩ => ?_
    refine thn (ho pins s1 σ H1 v y u w _ I1 r r1 q1) fun z s2 ⟨zv, H2, I2, r2, q2⟩ => ?_
    exact store_ok I2 hN hi hx r2 (fun s3 I3 => ⟨_, H2, I3, q2⟩) hf
  rcases l with ⟨hk, hm⟩ | ⟨hk, c, hc, hcell⟩
  · exact wpAny_loadName_local I.ok.kind hk hn hm go
  · rcases hk with hk | hk
    · exact wpAny_loadName_cell I.ok.kind hk hc hcell go
    · rcases hx with k | k
      · have : X.env.scope.names.lookup x = some .free := hk
        rw [k] at this; cases this
      · have : X.env.scope.names.lookup x = some .free := hk
        rw [k] at this; cases this
/-- ints -/
def ipI (f : Int → Int → Int) : TIp := fun x y H Q => ∃ i j, x = .int i ∧ y = .int j ∧ Q (.int (f i j)) H
theorem ip_add : PIp X .Add (ipI fun i j => i + j) := by
  intro pins s σ H x y v u Q I r1 r2 h
  obtain ⟨i, j, e1, e2, q⟩ := h
  subst e1; subst e2
  obtain ⟨t, rfl⟩ := r1
  obtain ⟨t', rfl⟩ := r2
  exact iadd_int ⟨.int _, H, I.tok _, ⟨_, rfl⟩, q⟩
end

/-! ### while -/
section
variable {X : Cx} {pos : Pos}
/-- the invariant W with its measure -/
def tWhile (c : TT) (tb : TS) : TS := fun D σ H => ∃ W : Nat → St → Hp → Prop, (∃ m, W m σ H) ∧ ∀ m σ H, W m σ H →
  c σ H fun b H1 => if b = true then ∃ N : St → Hp → Prop, (∀ σ' H', N σ' H' → ∃ m', m' < m ∧ W m' σ' H') ∧ tb { D with nx := N, ct := N, bk := D.nx } σ H1 else D.nx σ H1
theorem ps_while {c : Expr} {body : List Stmt} {tc : TT} {tb : TS} (hp : PassesOwn (model X.prog X.w) X.A X.env X.xe) (hc : PT X c tc) (hb : PSs X body tb) : PS X (.While c body [] pos) (tWhile tc tb) := by
  intro pins s σ H D I h
  obtain ⟨W, ⟨m0, w0⟩, turn⟩ := h
  refine wpAny_While (codeAny_whileLoop (fun n s' => ∃ σ' H', Inv X pins σ' H' s' ∧ W n σ' H') ?_ m0 ⟨σ, H, I, w0⟩)
  rintro n s1 ⟨σ1, H1, I1, w1⟩
  refine wpAny_passesOwn hp (thn (hc pins s1 σ1 H1 _ I1 (turn n σ1 H1 w1)) fun b s2 ⟨H2, I2, q2⟩ => ?_)
  cases b with
  | true =>
    obtain ⟨N, hN, q2⟩ := q2
    rw [if_pos rfl]
    refine wpAny_passesOwn hp (thn (hb pins s2 σ1 H2 _ I2 q2) fun f s3 q3 => ?_)
    cases f with
    | next =>
      obtain ⟨σ3, H3, I3, n3⟩ := q3
      obtain ⟨m', hm, w3⟩ := hN σ3 H3 n3
      exact ⟨m', hm, σ3, H3, I3, w3⟩
    | cont =>
      obtain ⟨σ3, H3, I3, n3⟩ := q3
      obtain ⟨m', hm, w3⟩ := hN σ3 H3 n3
      exact ⟨m', hm, σ3, H3, I3, w3⟩
    | brk => exact q3
    | ret v => exact q3
  | false =>
    rw [if_neg Bool.false_ne_true]
    exact wpAny_execs_nil ⟨σ1, H2, I2, q2⟩
end

/-! ### what a loop or a comprehension walks -/
/-- at turn i: it yields x (the heap may grow), or it stops -/
structure It where
  go : Nat → Hp → Prop
  yld : Nat → Hp → V → Hp → Prop
  stop : Nat → Hp → Prop
/-- the iterator's own objects may turn: they are not the frame's, not pinned, younger than the entry (or a comprehension's own) -/
def FpOk (X : Cx) (pins : List (Addr × Obj)) (H : Hp) (b : Addr) : Prop :=
  H b = none ∧ b ≠ X.env.locals ∧ b ∉ X.fs ∧ (b ∈ X.ex ∨ X.s₀.heap.objs.size ≤ b) ∧ (∀ x c, X.env.cells.lookup x = some c → c ≠ b) ∧ ∀ p ∈ X.pn ++ pins, p.1 ≠ b
theorem Inv.fpOk {X : Cx} {pins : List (Addr × Obj)} {σ : St} {H H' : Hp} {s : Shared} {b : Addr} (I : Inv X pins σ H s) (hb : s.heap.objs.size ≤ b) (hn : H' b = none) : FpOk X pins H' b := by
  refine ⟨hn, Nat.ne_of_gt (Nat.lt_of_lt_of_le I.lt hb), I.nofs hb, .inr (Nat.le_trans I.sz hb), fun x c e z => ?_, fun p hp z => ?_⟩
  · obtain ⟨v, q⟩ := I.cell x c e
    exact absurd (Nat.lt_of_lt_of_le q.lt (by rw [z]; exact hb)) (Nat.lt_irrefl _)
  · exact absurd (Nat.lt_of_lt_of_le (Heap.lt_size (I.pin p hp).1) (by rw [z]; exact hb)) (Nat.lt_irrefl _)
structure Turn (P : Program) (w : World) (K : PySem.W.Frag) (tg : Expr) (J : It) (fp : List Addr) (it : Addr) (tn : Nat → Heap → Prop) : Prop where
  mem : it ∈ fp
  obj : ∀ i h, tn i h → ∀ b ∈ fp, ∃ o, h.get? b = some o ∧ ∀ v, o.data ≠ .cell v
  keep : ∀ i h h', tn i h → (∀ b ∈ fp, ∀ o, h.get? b = some o → h'.get? b = some o) → tn i h'
  item : ∀ (X : Cx), X.prog = P → X.w = w → X.K = K → X.calm = true → ∀ (i : Nat) (pins : List (Addr × Obj)) (s : Shared) (σ : St) (H : Hp) (E : Value → Shared → Prop), Inv X pins σ H s → (∀ b ∈ fp, FpOk X pins H b) → tn i s.heap → J.go i H →
    wpAny (model P w) X.A (pyNext (.ref it)) (fun r s1 => ∃ u, r = some u ∧
      wpAny (model P w) X.A (letOwnedTupleGo tg (.ref it) u) (fun _ s2 => ∃ x H', Inv X pins σ H' s2 ∧ RelV x u ∧ J.yld i H x H' ∧ tn (i + 1) s2.heap ∧ ∀ b ∈ fp, H' b = none) E s1) E s
  done : ∀ (X : Cx), X.prog = P → X.w = w → X.K = K → X.calm = true → ∀ (i : Nat) (pins : List (Addr × Obj)) (s : Shared) (σ : St) (H : Hp) (E : Value → Shared → Prop), Inv X pins σ H s → (∀ b ∈ fp, FpOk X pins H b) → tn i s.heap → J.stop i H →
    wpAny (model P w) X.A (pyNext (.ref it)) (fun r s1 => r = none ∧ Inv X pins σ H s1) E s
  self : ∀ (A : Around) (i : Nat) (s : Shared) (Q : Value → Shared → Prop) (E : Value → Shared → Prop), tn i s.heap → Q (.ref it) s → wpAny (model P w) A (pyIter (.ref it)) Q E s
abbrev TI := St → Hp → (It → Hp → Prop) → Prop
/-- an iterator has come -/
def PIE (X : Cx) (pins : List (Addr × Obj)) (σ : St) (tg : Expr) (R : It → Hp → Prop) (itv : Value) (s2 : Shared) : Prop :=
  ∃ (it : Addr) (fp : List Addr) (tn : Nat → Heap → Prop) (J : It) (H' : Hp), itv = .ref it ∧ Inv X pins σ H' s2 ∧ Turn X.prog X.w X.K tg J fp it tn ∧ tn 0 s2.heap ∧ (∀ b ∈ fp, FpOk X pins H' b) ∧ R J H'
def PI (X : Cx) (tg iter : Expr) (wi : TI) : Prop :=
  ∀ (pins : List (Addr × Obj)) (s : Shared) (σ : St) (H : Hp) (R : It → Hp → Prop), Inv X pins σ H s → wi σ H R →
    wpAny (model X.prog X.w) X.A (eval iter X.env) (fun v s1 => wpAny (model X.prog X.w) X.A (pyIter v) (PIE X pins σ tg R) X.xe s1) X.xe s

/-- the step ahead of the store is nothing for an iterator that keeps no tuple -/
theorem go_of {M : Model} {A : Around} {E : Value → Shared → Prop} {s : Shared} {tg : Expr} {it : Addr} {u : Value} {o : Obj} {n : String} {vs : Array Value} {Q : Unit → Shared → Prop} (ho : s.heap.get? it = some o) (hc : o.cls = .type n) (hd : o.data = .fields vs)
    (hn : ["enumerate", "zip", "dict_itemiterator", "dict_reverseitemiterator", "odict_iterator", "itertools.zip_longest", "itertools.pairwise"].contains n = false) (hQ : Q () s) : wpAny M A (letOwnedTupleGo tg (.ref it) u) Q E s := by
  unfold letOwnedTupleGo
  cases tg <;> first
    | exact wpAny_pure hQ
    | (cases u <;> first
        | exact wpAny_pure hQ
        | (refine wpAny_bind (wpAny_load ho ?_)
           rw [hc, hd]
           show wpAny M A (if (["enumerate", "zip", "dict_itemiterator", "dict_reverseitemiterator", "odict_iterator", "itertools.zip_longest", "itertools.pairwise"].contains n && vs[0]? == some (rawInt _)) = true then _ else _) Q E s
           rw [if_neg (by intro h; rw [hn, Bool.false_and] at h; cases h)]
           exact wpAny_pure hQ))

/-- the list at a, as it stands at each turn (a loop may append to it) -/
def Itl (K : PySem.W.Frag) (a : Addr) : It :=
  ⟨fun i H => ∃ xs x, SqL K H a xs ∧ xs[i]? = some x, fun i H x H' => H' = H ∧ ∀ xs, SqL K H a xs → xs[i]? = some x, fun i H => ∃ xs, SqL K H a xs ∧ xs.length ≤ i⟩
def Itt (K : PySem.W.Frag) (a : Addr) : It :=
  ⟨fun i H => ∃ xs x, SqT K H a xs ∧ xs[i]? = some x, fun i H x H' => H' = H ∧ ∀ xs, SqT K H a xs → xs[i]? = some x, fun i H => ∃ xs, SqT K H a xs ∧ xs.length ≤ i⟩
/-- lo, lo + 1, .. (n of them) -/
def Itr (lo : Int) (n : Nat) : It := ⟨fun i _ => i < n, fun i H x H' => H' = H ∧ x = .int (lo + i), fun i _ => n ≤ i⟩
theorem turn_list {P : Program} {w : World} {K : PySem.W.Frag} {tg : Expr} (a it : Addr) : Turn P w K tg (Itl K a) [it] it (fun i h => h.IsListIter it a i) where
  mem := by simp
  obj := fun i h st b hb => by
    have e : b = it := by simpa using hb
    subst e
    obtain ⟨o, e, c, d⟩ := st
    exact ⟨o, e, fun v z => by rw [d] at z; cases z⟩
  keep := fun i h h' st k => st.at fun o e => k it (by simp) o e
  item := by
    intro X hP hw hK hc i pins s σ H E I hf st hg
    subst hP hw hK
    obtain ⟨xs, x, hq, hx⟩ := hg
    obtain ⟨its, rv, p, hz⟩ := I.list hq
    obtain ⟨u, hu, ru⟩ := rv.get hx
    obtain ⟨f0, f1, f2, f3, f4, f5⟩ := hf it (by simp)
    refine wpAny_pyNext_list_item st p.isList (x := u) (by simpa using hu) fun h' st' sb => ?_
    have I1 : Inv X pins σ H { s with heap := h' } := I.turned (t' := s.toks) (fun b o hb e => (sb.2 b hb).trans e) f0 f1 f3 f4 f5
    obtain ⟨o, e, c, d⟩ := id st'
    exact ⟨u, rfl, go_of (s := { s with heap := h' }) e c d (by decide) ⟨x, H, I1, ru, ⟨rfl, fun ys hy => by rw [I.list_inj hy hq]; exact hx⟩, st', fun b hb => (hf b hb).1⟩⟩
  done := by
    intro X hP hw hK hc i pins s σ H E I hf st hg
    subst hP hw hK
    obtain ⟨xs, hq, hx⟩ := hg
    obtain ⟨its, rv, p, hz⟩ := I.list hq
    obtain ⟨f0, f1, f2, f3, f4, f5⟩ := hf it (by simp)
    have hl := rv.length
    exact wpAny_pyNext_list_end (I.ok.hd hc) st p.isList (by simp; omega) fun h' eb => ⟨rfl, I.turned (t' := s.toks) (fun b o hb e => eb b o hb e) f0 f1 f3 f4 f5⟩
  self := fun _ _ _ _ _ st h => wpAny_pyIter_listiter st h
theorem turn_tuple {P : Program} {w : World} {K : PySem.W.Frag} {tg : Expr} (a it : Addr) : Turn P w K tg (Itt K a) [it] it (fun i h => h.IsTupleIter it a i) where
  mem := by simp
  obj := fun i h st b hb => by
    have e : b = it := by simpa using hb
    subst e
    obtain ⟨o, e, c, d⟩ := st
    exact ⟨o, e, fun v z => by rw [d] at z; cases z⟩
  keep := fun i h h' st k => st.at fun o e => k it (by simp) o e
  item := by
    intro X hP hw hK hc i pins s σ H E I hf st hg
    subst hP hw hK
    obtain ⟨xs, x, hq, hx⟩ := hg
    obtain ⟨its, rv, p, hz⟩ := I.tuple hq
    obtain ⟨u, hu, ru⟩ := rv.get hx
    obtain ⟨f0, f1, f2, f3, f4, f5⟩ := hf it (by simp)
    refine wpAny_pyNext_tuple_item st (show s.heap.IsTuple a its.toArray from p) (x := u) (by simpa using hu) fun h' st' sb => ?_
    have I1 : Inv X pins σ H { s with heap := h' } := I.turned (t' := s.toks) (fun b o hb e => (sb.2 b hb).trans e) f0 f1 f3 f4 f5
    obtain ⟨o, e, c, d⟩ := id st'
    exact ⟨u, rfl, go_of (s := { s with heap := h' }) e c d (by decide) ⟨x, H, I1, ru, ⟨rfl, fun ys hy => by rw [I.tuple_inj hy hq]; exact hx⟩, st', fun b hb => (hf b hb).1⟩⟩
  done := by
    intro X hP hw hK hc i pins s σ H E I hf st hg
    subst hP hw hK
    obtain ⟨xs, hq, hx⟩ := hg
    obtain ⟨its, rv, p, hz⟩ := I.tuple hq
    obtain ⟨f0, f1, f2, f3, f4, f5⟩ := hf it (by simp)
    have hl := rv.length
    exact wpAny_pyNext_tuple_end (I.ok.hd hc) st (show s.heap.IsTuple a its.toArray from p) (by simp; omega) fun h' eb => ⟨rfl, I.turned (t' := s.toks) (fun b o hb e => eb b o hb e) f0 f1 f3 f4 f5⟩
  self := fun _ _ _ _ _ st h => wpAny_pyIter_tupleiter st h
theorem turn_range {P : Program} {w : World} {K : PySem.W.Frag} {tg : Expr} (it : Addr) (lo : Int) (n : Nat) : Turn P w K tg (Itr lo n) [it] it (fun i h => IsRangeIter h it (lo + (i : Nat) * 1) ((n : Int) - (i : Nat)) 1) where
  mem := by simp
  obj := fun i h st b hb => by
    have e : b = it := by simpa using hb
    subst e
    exact ⟨_, st, fun v z => by
      have z' : Data.fields _ = Data.cell v := z
      cases z'⟩
  keep := fun i h h' st k => k it (by simp) _ st
  item := by
    intro X hP hw hK hc i pins s σ H E I hf st hg
    subst hP hw hK
    obtain ⟨f0, f1, f2, f3, f4, f5⟩ := hf it (by simp)
    have W := Walks.range (prog := X.prog) (w := X.w) (I.ok.hd hc) it lo 1 n
    refine W.item i s _ _ hg st fun v h' tk hv st' kk => ?_
    obtain ⟨t, rfl⟩ := hv
    have I1 : Inv X pins σ H { s with heap := h', toks := tk } := I.turned (fun b o hb e => kk b o (by simpa using hb) e) f0 f1 f3 f4 f5
    refine ⟨_, rfl, go_of (s := { s with heap := h', toks := tk }) (n := "range_iterator") st' rfl rfl (by decide) ⟨.int (lo + i), H, I1, ⟨t, ?_⟩, ⟨rfl, rfl⟩, st', fun b hb => (hf b hb).1⟩⟩
    rw [Int.mul_one]
  done := by
    intro X hP hw hK hc i pins s σ H E I hf st hg
    subst hP hw hK
    obtain ⟨f0, f1, f2, f3, f4, f5⟩ := hf it (by simp)
    exact wpAny_pyNext_range_end (I.ok.hd hc) st (by have : n ≤ i := hg; omega) fun h' eb => ⟨rfl, I.turned (t' := s.toks) (fun b o hb e => eb b o hb e) f0 f1 f3 f4 f5⟩
  self := fun _ _ _ _ _ st h => wpAny_pyIter_rangeiter st h
end L2

namespace L2
open PySem PySem.Spec PyProof.Rows
section
variable {X : Cx} {tg : Expr}
def iList (K : PySem.W.Frag) (tl : TE) : TI := fun σ H R => tl σ H fun x H1 => ∃ a, x = .ref a ∧ (∃ xs, SqL K H1 a xs) ∧ R (Itl K a) H1
def iTup (K : PySem.W.Frag) (tl : TE) : TI := fun σ H R => tl σ H fun x H1 => ∃ a, x = .ref a ∧ (∃ xs, SqT K H1 a xs) ∧ R (Itt K a) H1
theorem pi_list {l : Expr} {tl : TE} (hl : PE X l tl) : PI X tg l (iList X.K tl) := by
  intro pins s σ H R I h
  refine thn (hl pins s σ H _ I h) fun v s1 ⟨x, H1, I1, r1, q1⟩ => ?_
  obtain ⟨a, e, ⟨xs, hq⟩, q⟩ := q1
  subst e
  cases r1
  obtain ⟨its, rv, p, hz⟩ := I1.list hq
  refine wpAny_pyIter_list p.isList ?_
  refine ⟨s1.heap.objs.size, [s1.heap.objs.size], _, _, H1, rfl, I1.kept (t' := s1.toks) fun b o e => Heap.get?_push_of_some _ e, turn_list a _, ⟨_, Heap.get?_push_size _ rfl, rfl, rfl⟩, fun b hb => ?_, q⟩
  have e : b = s1.heap.objs.size := by simpa using hb
  subst e
  exact I1.fpOk (Nat.le_refl _) (I1.hok.fresh (Nat.le_refl _))
theorem pi_tup {l : Expr} {tl : TE} (hl : PE X l tl) : PI X tg l (iTup X.K tl) := by
  intro pins s σ H R I h
  refine thn (hl pins s σ H _ I h) fun v s1 ⟨x, H1, I1, r1, q1⟩ => ?_
  obtain ⟨a, e, ⟨xs, hq⟩, q⟩ := q1
  subst e
  cases r1
  obtain ⟨its, rv, p, hz⟩ := I1.tuple hq
  refine wpAny_pyIter_tuple (show s1.heap.IsTuple a its.toArray from p) ?_
  refine ⟨s1.heap.objs.size, [s1.heap.objs.size], _, _, H1, rfl, I1.kept (t' := s1.toks) fun b o e => Heap.get?_push_of_some _ e, turn_tuple a _, ⟨_, Heap.get?_push_size _ rfl, rfl, rfl⟩, fun b hb => ?_, q⟩
  have e : b = s1.heap.objs.size := by simpa using hb
  subst e
  exact I1.fpOk (Nat.le_refl _) (I1.hok.fresh (Nat.le_refl _))
/-- a range object just made, walked -/
theorem range_it {pins : List (Addr × Obj)} {σ : St} {H : Hp} {s : Shared} {R : It → Hp → Prop} {E : Value → Shared → Prop} {lo hi : Int} {t u v : Tok} {tk : Nat} (I : Inv X pins σ H s) (h1 : -(2 ^ 62) ≤ lo) (h2 : lo < 2 ^ 62) (h3 : -(2 ^ 62) ≤ hi) (h4 : hi < 2 ^ 62)
    (q : R (Itr lo (hi - lo).toNat) H) : wpAny (model X.prog X.w) X.A (pyIter (.ref s.heap.objs.size)) (PIE X pins σ tg R) E { s with heap := s.heap.push { cls := .type "range", data := .fields #[.int lo t, .int hi u, .int 1 v] }, toks := tk } := by
  refine wpAny_pyIter_range (IsRange.new ..) (small_one h1 h2 h3 h4) ?_
  have I1 : Inv X pins σ H { s with heap := s.heap.push { cls := .type "range", data := .fields #[.int lo t, .int hi u, .int 1 v] }, toks := tk } := I.kept fun b o e => Heap.get?_push_of_some _ e
  refine ⟨(s.heap.push { cls := .type "range", data := .fields #[.int lo t, .int hi u, .int 1 v] }).objs.size, [(s.heap.push { cls := .type "range", data := .fields #[.int lo t, .int hi u, .int 1 v] }).objs.size], _, _, H, rfl,
    I1.kept (t' := tk) fun b o e => Heap.get?_push_of_some _ e, turn_range _ lo (hi - lo).toNat, ?_, fun b hb => ?_, q⟩
  · have e1 : lo + ((0 : Nat) : Int) * 1 = lo := by simp
    have e2 : (((hi - lo).toNat : Nat) : Int) - ((0 : Nat) : Int) = Builtin.Range.rangeSize lo hi 1 := by rw [rangeSize_one]; split <;> omega
    show IsRangeIter _ _ (lo + ((0 : Nat) : Int) * 1) ((((hi - lo).toNat : Nat) : Int) - ((0 : Nat) : Int)) 1
    rw [e1, e2]
    exact Heap.get?_push_size _ rfl
  · have e : b = (s.heap.push { cls := .type "range", data := .fields #[.int lo t, .int hi u, .int 1 v] }).objs.size := by simpa using hb
    subst e
    exact I1.fpOk (Nat.le_refl _) (I1.hok.fresh (Nat.le_refl _))
def iRng2 (ta : TA) : TI := fun σ H R => ta σ H fun vs H1 => ∃ i j : Int, vs = [.int i, .int j] ∧ (-(2 ^ 62) ≤ i ∧ i < 2 ^ 62 ∧ -(2 ^ 62) ≤ j ∧ j < 2 ^ 62) ∧ R (Itr i (j - i).toNat) H1
theorem pi_range2 {a b : Expr} {ta : TA} {p pos : Pos} (hg : Gl X "range") (hm : X.mg "range" = none) (ha : PA X [a, b] ta) (hs : starEach [a, b] X.env = [(false, eval a X.env), (false, eval b X.env)] := by rfl) (hs2 : starEach [b] X.env = [(false, eval b X.env)] := by rfl) :
    PI X tg (.Call (.Name "range" p) [a, b] [] pos) (iRng2 ta) := by
  intro pins s σ H R I h
  refine Call_ (ld_blt I hg hm boot_range (PyProof.Rows.callWith_type1 (thn (ha pos pins s σ H _ I h) fun us s1 ⟨vs, H1, I1, r1, q1⟩ => ?_) (by rw [hs, hs2]) (by rw [hs2]; rfl)))
  obtain ⟨i, j, e, ⟨q1, q2, q3, q4⟩, q⟩ := q1
  subst e
  cases r1 with
  | cons r rr =>
    cases rr with
    | cons r' rr =>
      cases rr
      obtain ⟨t, rfl⟩ := r
      obtain ⟨t', rfl⟩ := r'
      exact call_range_2 (range_it I1 q1 q2 q3 q4 q)

/-! ### for -/
/-- W: the invariant by the turn and a measure; N: what the body is to reach -/
def tFor (wi : TI) (g : TG) (tb : TS) : TS := fun D σ H => wi σ H fun J H1 => ∃ W : Nat → Nat → St → Hp → Prop, (∃ m, W 0 m σ H1) ∧ ∀ i m σ H, W i m σ H →
  (J.stop i H ∧ D.nx σ H) ∨ (J.go i H ∧ ∃ N : St → Hp → Prop, (∀ σ' H', N σ' H' → ∃ m', m' < m ∧ W (i + 1) m' σ' H') ∧ ∀ x H', J.yld i H x H' → g x σ H' fun σ2 H2 => tb { D with nx := N, ct := N, bk := D.nx } σ2 H2)
/-- the records at fp as they stand -/
def pinsAt (fp : List Addr) (h : Heap) : List (Addr × Obj) := fp.filterMap fun b => (h.get? b).map fun o => (b, o)
theorem mem_pinsAt {fp : List Addr} {h : Heap} {b : Addr} {o : Obj} (hb : b ∈ fp) (e : h.get? b = some o) : (b, o) ∈ pinsAt fp h := List.mem_filterMap.mpr ⟨b, hb, by rw [e]; rfl⟩
theorem of_pinsAt {fp : List Addr} {h : Heap} {p : Addr × Obj} (hp : p ∈ pinsAt fp h) : p.1 ∈ fp ∧ h.get? p.1 = some p.2 := by
  obtain ⟨b, hb, e⟩ := List.mem_filterMap.mp hp
  cases q : h.get? b with
  | none => rw [q] at e; cases e
  | some o =>
    rw [q] at e
    have e' : (b, o) = p := Option.some.inj e
    subst e'
    exact ⟨hb, q⟩
theorem Inv.pinned {pins : List (Addr × Obj)} {σ : St} {H : Hp} {s : Shared} {fp : List Addr} (I : Inv X pins σ H s) (hf : ∀ b ∈ fp, FpOk X pins H b) (ho : ∀ b ∈ fp, ∃ o, s.heap.get? b = some o ∧ ∀ v, o.data ≠ .cell v) : Inv X (pins ++ pinsAt fp s.heap) σ H s :=
  I.pins_of fun p hp => (List.mem_append.mp hp).elim (fun z => I.pin p (List.mem_append_right _ z)) fun z => by
    obtain ⟨hb, e⟩ := of_pinsAt z
    obtain ⟨f0, f1, f2, _⟩ := hf p.1 hb
    obtain ⟨o, e', d⟩ := ho p.1 hb
    rw [e] at e'; cases e'
    exact ⟨e, f0, f1, f2, d⟩
theorem Inv.unpinned {pins pl : List (Addr × Obj)} {σ : St} {H : Hp} {s : Shared} (I : Inv X (pins ++ pl) σ H s) : Inv X pins σ H s := I.pins_of fun p hp => I.pin p (List.mem_append_right _ (List.mem_append_left _ hp))
theorem ps_for {iter : Expr} {body : List Stmt} {wi : TI} {g : TG} {tb : TS} {pos : Pos} (hp : PassesOwn (model X.prog X.w) X.A X.env X.xe) (hc : X.calm = true) (hi : PI X tg iter wi) (hg : PG X tg g) (hb : PSs X body tb)
    (hs : ∀ x, foldedSetIterable iter X.env x = pure x := by intro _; rfl) : PS X (.For tg iter body [] pos) (tFor wi g tb) := by
  intro pins s σ H D I h
  refine wpAny_For (thn (hi pins s σ H _ I h) fun v s1 h1 => thn h1 fun itv s2 h2 => ?_) hs
  obtain ⟨it, fp, tn, J, H2, e, I2, T, st2, f2, W, ⟨m0, w0⟩, turn⟩ := h2
  subst e
  -- what stays true of the iterator's objects through the loop
  have stat : ∀ {H' : Hp}, (∀ b ∈ fp, H' b = none) → ∀ b ∈ fp, FpOk X pins H' b := fun hn b hb => ⟨hn b hb, (f2 b hb).2⟩
  refine codeAny_forLoop_any (fun n s' => ∃ i σ' H', Inv X pins σ' H' s' ∧ tn i s'.heap ∧ (∀ b ∈ fp, H' b = none) ∧ W i n σ' H') ?_ m0 ⟨0, σ, H2, I2, st2, fun b hb => (f2 b hb).1, w0⟩
  rintro n s3 ⟨i, σ3, H3, I3, st3, fr3, w3⟩
  rcases turn i n σ3 H3 w3 with ⟨stop, qn⟩ | ⟨go, N, hN, step⟩
  · refine wpAny_passesOwn hp (thn (T.done X rfl rfl rfl hc i pins s3 σ3 H3 X.xe I3 (stat fr3) st3 stop) fun r s4 ⟨hr, I4⟩ => ?_)
    subst hr
    exact wpAny_execs_nil ⟨σ3, H3, I4, qn⟩
  · refine wpAny_passesOwn hp (thn (T.item X rfl rfl rfl hc i pins s3 σ3 H3 X.xe I3 (stat fr3) st3 go) fun r s4 ⟨u, hr, h4⟩ => ?_)
    subst hr
    refine wpAny_passesOwn hp (thn h4 fun _ s5 ⟨x, H5, I5, r5, y5, st5, fr5⟩ => ?_)
    have I5' := I5.pinned (stat fr5) (T.obj _ _ st5)
    refine wpAny_passesOwn hp (thn (hg _ s5 σ3 H5 x u _ I5' r5 (step x H5 y5)) fun _ s6 ⟨σ6, H6, I6, q6⟩ => ?_)
    refine wpAny_passesOwn hp (thn (hb _ s6 σ6 H6 _ I6 q6) fun f s7 q7 => ?_)
    have again : ∀ {σ7 : St} {H7 : Hp}, Inv X (pins ++ pinsAt fp s5.heap) σ7 H7 s7 → N σ7 H7 → ∃ m, m < n ∧ ∃ i σ' H', Inv X pins σ' H' s7 ∧ tn i s7.heap ∧ (∀ b ∈ fp, H' b = none) ∧ W i m σ' H' := fun {σ7 H7} I7 n7 => by
      obtain ⟨m', hm, w7⟩ := hN σ7 H7 n7
      refine ⟨m', hm, i + 1, σ7, H7, I7.unpinned, T.keep _ _ _ st5 fun b hb o e => (I7.pin (b, o) (List.mem_append_right _ (List.mem_append_right _ (mem_pinsAt hb e)))).1, fun b hb => ?_, w7⟩
      obtain ⟨o, e, d⟩ := T.obj _ _ st5 b hb
      exact (I7.pin (b, o) (List.mem_append_right _ (List.mem_append_right _ (mem_pinsAt hb e)))).2.1
    cases f with
    | next => obtain ⟨σ7, H7, I7, n7⟩ := q7; exact again I7 n7
    | cont => obtain ⟨σ7, H7, I7, n7⟩ := q7; exact again I7 n7
    | brk => obtain ⟨σ7, H7, I7, q7⟩ := q7; exact ⟨σ7, H7, I7.unpinned, q7⟩
    | ret v => obtain ⟨x7, σ7, H7, I7, r7, q7⟩ := q7; exact ⟨x7, σ7, H7, I7.unpinned, r7, q7⟩
end

/-! ### the forms one uses -/
/-- over a list that the body leaves as it is -/
theorem for_list {K : PySem.W.Frag} {a : Addr} {xs : List V} {g : TG} {tb : TS} {D : Ends} {σ : St} {H : Hp} (Pv : Nat → St → Hp → Prop) (h0 : Pv 0 σ H) (hl : ∀ i σ H, i ≤ xs.length → Pv i σ H → SqL K H a xs)
    (hs : ∀ i x σ H, xs[i]? = some x → Pv i σ H → g x σ H fun σ2 H2 => tb { D with nx := Pv (i + 1), ct := Pv (i + 1), bk := D.nx } σ2 H2) (hd : ∀ σ H, Pv xs.length σ H → D.nx σ H) :
    ∃ W : Nat → Nat → St → Hp → Prop, (∃ m, W 0 m σ H) ∧ ∀ i m σ H, W i m σ H →
      ((Itl K a).stop i H ∧ D.nx σ H) ∨ ((Itl K a).go i H ∧ ∃ N : St → Hp → Prop, (∀ σ' H', N σ' H' → ∃ m', m' < m ∧ W (i + 1) m' σ' H') ∧ ∀ x H', (Itl K a).yld i H x H' → g x σ H' fun σ2 H2 => tb { D with nx := N, ct := N, bk := D.nx } σ2 H2) := by
  refine ⟨fun i m σ H => m = xs.length - i ∧ i ≤ xs.length ∧ Pv i σ H, ⟨xs.length, by simp, Nat.zero_le _, h0⟩, ?_⟩
  rintro i m σ H ⟨rfl, hi, p⟩
  have q := hl i σ H hi p
  by_cases hlt : i < xs.length
  · refine .inr ⟨⟨xs, xs[i], q, by simp [hlt]⟩, Pv (i + 1), fun σ' H' p' => ⟨xs.length - (i + 1), by omega, rfl, hlt, p'⟩, fun x H' y => ?_⟩
    obtain ⟨e, y⟩ := y
    subst e
    exact hs i x σ _ (y xs q) p
  · have e : i = xs.length := by omega
    subst e
    exact .inl ⟨⟨xs, q, Nat.le_refl _⟩, hd σ H p⟩
theorem for_tup {K : PySem.W.Frag} {a : Addr} {xs : List V} {g : TG} {tb : TS} {D : Ends} {σ : St} {H : Hp} (Pv : Nat → St → Hp → Prop) (h0 : Pv 0 σ H) (hl : ∀ i σ H, i ≤ xs.length → Pv i σ H → SqT K H a xs)
    (hs : ∀ i x σ H, xs[i]? = some x → Pv i σ H → g x σ H fun σ2 H2 => tb { D with nx := Pv (i + 1), ct := Pv (i + 1), bk := D.nx } σ2 H2) (hd : ∀ σ H, Pv xs.length σ H → D.nx σ H) :
    ∃ W : Nat → Nat → St → Hp → Prop, (∃ m, W 0 m σ H) ∧ ∀ i m σ H, W i m σ H →
      ((Itt K a).stop i H ∧ D.nx σ H) ∨ ((Itt K a).go i H ∧ ∃ N : St → Hp → Prop, (∀ σ' H', N σ' H' → ∃ m', m' < m ∧ W (i + 1) m' σ' H') ∧ ∀ x H', (Itt K a).yld i H x H' → g x σ H' fun σ2 H2 => tb { D with nx := N, ct := N, bk := D.nx } σ2 H2) := by
  refine ⟨fun i m σ H => m = xs.length - i ∧ i ≤ xs.length ∧ Pv i σ H, ⟨xs.length, by simp, Nat.zero_le _, h0⟩, ?_⟩
  rintro i m σ H ⟨rfl, hi, p⟩
  have q := hl i σ H hi p
  by_cases hlt : i < xs.length
  · refine .inr ⟨⟨xs, xs[i], q, by simp [hlt]⟩, Pv (i + 1), fun σ' H' p' => ⟨xs.length - (i + 1), by omega, rfl, hlt, p'⟩, fun x H' y => ?_⟩
    obtain ⟨e, y⟩ := y
    subst e
    exact hs i x σ _ (y xs q) p
  · have e : i = xs.length := by omega
    subst e
    exact .inl ⟨⟨xs, q, Nat.le_refl _⟩, hd σ H p⟩
theorem for_range {lo : Int} {n : Nat} {g : TG} {tb : TS} {D : Ends} {σ : St} {H : Hp} (Pv : Nat → St → Hp → Prop) (h0 : Pv 0 σ H)
    (hs : ∀ i σ H, i < n → Pv i σ H → g (.int (lo + i)) σ H fun σ2 H2 => tb { D with nx := Pv (i + 1), ct := Pv (i + 1), bk := D.nx } σ2 H2) (hd : ∀ σ H, Pv n σ H → D.nx σ H) :
    ∃ W : Nat → Nat → St → Hp → Prop, (∃ m, W 0 m σ H) ∧ ∀ i m σ H, W i m σ H →
      ((Itr lo n).stop i H ∧ D.nx σ H) ∨ ((Itr lo n).go i H ∧ ∃ N : St → Hp → Prop, (∀ σ' H', N σ' H' → ∃ m', m' < m ∧ W (i + 1) m' σ' H') ∧ ∀ x H', (Itr lo n).yld i H x H' → g x σ H' fun σ2 H2 => tb { D with nx := N, ct := N, bk := D.nx } σ2 H2) := by
  refine ⟨fun i m σ H => m = n - i ∧ i ≤ n ∧ Pv i σ H, ⟨n, by simp, Nat.zero_le _, h0⟩, ?_⟩
  rintro i m σ H ⟨rfl, hi, p⟩
  by_cases hlt : i < n
  · refine .inr ⟨hlt, Pv (i + 1), fun σ' H' p' => ⟨n - (i + 1), by omega, rfl, hlt, p'⟩, fun x H' y => ?_⟩
    obtain ⟨e, y⟩ := y
    subst e y
    exact hs i σ _ hlt p
  · have e : i = n := by omega
    subst e
    exact .inl ⟨Nat.le_refl _, hd σ H p⟩
end L2

namespace L2
open PySem PySem.Spec PyProof.Rows

abbrev R2 := V → V → Hp → VK → Prop
/-- a two-place operation on values: f is binaryOp op, inplaceOp op or compareOp op -/
def OpR (X : Cx) (f : Value → Value → Sem Value) (r : R2) : Prop :=
  ∀ (pins : List (Addr × Obj)) (s : Shared) (σ : St) (H : Hp) (x y : V) (v u : Value) (Q : VK), Inv X pins σ H s → RelV x v → RelV y u → r x y H Q →
    wpAny (model X.prog X.w) X.A (f v u) (EP X pins σ Q) X.xe s
/-- a one-place operation -/
def UnR (X : Cx) (f : Value → Sem Value) (r : V → Hp → VK → Prop) : Prop :=
  ∀ (pins : List (Addr × Obj)) (s : Shared) (σ : St) (H : Hp) (x : V) (v : Value) (Q : VK), Inv X pins σ H s → RelV x v → r x H Q →
    wpAny (model X.prog X.w) X.A (f v) (EP X pins σ Q) X.xe s
/-- a call of a value that is known (a builtin, a type) with values -/
def CallR (X : Cx) (f : Value) (r : List V → Hp → VK → Prop) : Prop :=
  ∀ (pins : List (Addr × Obj)) (s : Shared) (σ : St) (H : Hp) (xs : List V) (us : List Value) (Q : VK), Inv X pins σ H s → Vals xs us → r xs H Q →
    wpAny (model X.prog X.w) X.A (call f us) (EP X pins σ Q) X.xe s
/-- a value's truth -/
def TruR (X : Cx) (r : V → Hp → (Bool → Hp → Prop) → Prop) : Prop :=
  ∀ (pins : List (Addr × Obj)) (s : Shared) (σ : St) (H : Hp) (x : V) (v : Value) (Q : Bool → Hp → Prop), Inv X pins σ H s → RelV x v → r x H Q →
    wpAny (model X.prog X.w) X.A (truthy v) (TP X pins σ Q) X.xe s

def tOp (r : R2) (ta tb : TE) : TE := fun σ H Q => ta σ H fun x H1 => tb σ H1 fun y H2 => r x y H2 Q
def tUn (r : V → Hp → VK → Prop) (ta : TE) : TE := fun σ H Q => ta σ H fun x H1 => r x H1 Q
/-- ints in, under C, and a value out -/
def rI (C : Int → Int → Prop) (g : Int → Int → V) : R2 := fun x y H Q => ∃ i j, x = .int i ∧ y = .int j ∧ C i j ∧ Q (g i j) H
def rI0 (g : Int → Int → V) : R2 := fun x y H Q => ∃ i j, x = .int i ∧ y = .int j ∧ Q (g i j) H
def rU (g : Int → V) : V → Hp → VK → Prop := fun x H Q => ∃ i, x = .int i ∧ Q (g i) H

section
variable {X : Cx} {a b c : Expr} {ta tb tc : TE} {pos : Pos}

theorem binT (ha : PE X a ta) (hb : PE X b tb) {pins : List (Addr × Obj)} {s : Shared} {σ : St} {H : Hp} {R : V → V → Hp → Prop} (I : Inv X pins σ H s)
    (h : ta σ H fun x H1 => tb σ H1 fun y H2 => R x y H2) {Q : Value → Shared → Prop} {f : Value → Value → Sem Value}
    (hf : ∀ v u s2 x y H2, Inv X pins σ H2 s2 → RelV x v → RelV y u → R x y H2 → wpAny (model X.prog X.w) X.A (f v u) Q X.xe s2) :
    wpAny (model X.prog X.w) X.A (eval a X.env) (fun v s₁ => wpAny (model X.prog X.w) X.A (eval b X.env) (fun u s₂ => wpAny (model X.prog X.w) X.A (f v u) Q X.xe s₂) X.xe s₁) X.xe s := by
  refine thn (ha pins s σ H _ I h) fun v s1 ⟨x, H1, I1, r1, q1⟩ => ?_
  refine thn (hb pins s1 σ H1 _ I1 q1) fun u s2 ⟨y, H2, I2, r2, q2⟩ => ?_
  exact hf v u s2 x y H2 I2 r1 r2 q2

theorem pe_op {op : Operator} {r : R2} (ho : OpR X (binaryOp op) r) (ha : PE X a ta) (hb : PE X b tb) : PE X (.BinOp a op b pos) (tOp r ta tb) := by
  intro pins s σ H Q I h
  exact wpAny_BinOp (binT ha hb I h fun v u s2 x y H2 I2 rx ry q => ho pins s2 σ H2 x y v u Q I2 rx ry q)
theorem pe_un {op : UnaryOp} {r : V → Hp → VK → Prop} (ho : UnR X (unaryOp op) r) (ha : PE X a ta) : PE X (.UnaryOp op a pos) (tUn r ta) := by
  intro pins s σ H Q I h
  exact UnaryOp_ (thn (ha pins s σ H _ I h) fun v s1 ⟨x, H1, I1, r1, q1⟩ => ho pins s1 σ H1 x v Q I1 r1 q1)

/-! ### ints -/
theorem opI {f : Value → Value → Sem Value} {C : Int → Int → Prop} {g : Int → Int → Int}
    (rule : ∀ (i j : Int) (t u : Tok) (s : Shared) (Q : Value → Shared → Prop) (E : Value → Shared → Prop), C i j → Q (.int (g i j) s.toks) { s with toks := s.toks + 1 } → wpAny (model X.prog X.w) X.A (f (.int i t) (.int j u)) Q E s) :
    OpR X f (rI C fun i j => .int (g i j)) := by
  intro pins s σ H x y v u Q I rx ry h
  obtain ⟨i, j, rfl, rfl, hc, q⟩ := h
  obtain ⟨t, rfl⟩ := rx
  obtain ⟨t', rfl⟩ := ry
  exact rule i j t t' s _ _ hc ⟨.int (g i j), H, I.tok _, ⟨_, rfl⟩, q⟩
theorem opI0 {f : Value → Value → Sem Value} {g : Int → Int → Int}
    (rule : ∀ (i j : Int) (t u : Tok) (s : Shared) (Q : Value → Shared → Prop) (E : Value → Shared → Prop), Q (.int (g i j) s.toks) { s with toks := s.toks + 1 } → wpAny (model X.prog X.w) X.A (f (.int i t) (.int j u)) Q E s) :
    OpR X f (rI0 fun i j => .int (g i j)) := by
  intro pins s σ H x y v u Q I rx ry h
  obtain ⟨i, j, rfl, rfl, q⟩ := h
  obtain ⟨t, rfl⟩ := rx
  obtain ⟨t', rfl⟩ := ry
  exact rule i j t t' s _ _ ⟨.int (g i j), H, I.tok _, ⟨_, rfl⟩, q⟩
theorem opB0 {f : Value → Value → Sem Value} {g : Int → Int → Bool}
    (rule : ∀ (i j : Int) (t u : Tok) (s : Shared) (Q : Value → Shared → Prop) (E : Value → Shared → Prop), Q (.bool (g i j)) s → wpAny (model X.prog X.w) X.A (f (.int i t) (.int j u)) Q E s) :
    OpR X f (rI0 fun i j => .bl (g i j)) := by
  intro pins s σ H x y v u Q I rx ry h
  obtain ⟨i, j, rfl, rfl, q⟩ := h
  obtain ⟨t, rfl⟩ := rx
  obtain ⟨t', rfl⟩ := ry
  exact rule i j t t' s _ _ ⟨.bl (g i j), H, I, rfl, q⟩

def CDiv (i j : Int) : Prop := 0 < j ∧ j < 1073741824
def CPow (i j : Int) : Prop := 0 ≤ j ∧ j ≤ 1000000 ∧ i.natAbs < 2 ^ 64

theorem op_add : OpR X (binaryOp .Add) (rI0 fun i j => .int (i + j)) := opI0 fun _ _ _ _ _ _ _ q => add_int q
theorem op_sub : OpR X (binaryOp .Sub) (rI0 fun i j => .int (i - j)) := opI0 fun _ _ _ _ _ _ _ q => sub_int q
/-- // by a positive divisor -/
theorem op_fdiv : OpR X (binaryOp .FloorDiv) (rI CDiv fun i j => .int (i / j)) := opI fun i j _ _ _ _ _ hc q => by
  have h1 : (0 : Int) < j := hc.1
  have h2 : j < 1073741824 := hc.2
  exact floordiv_int (by omega) (by rw [Int.fdiv_eq_ediv_of_nonneg i (by omega)]; exact q) (.inl (PyProof.noPylong_small (by omega)))
/-- % by a positive divisor of any size -/
theorem op_mod : OpR X (binaryOp .Mod) (rI (fun _ j => 0 < j) fun i j => .int (i % j)) := opI fun i j _ _ _ _ _ hc q => by
  have h1 : (0 : Int) < j := hc
  exact mod_int' (by omega) (by rw [Int.fmod_eq_emod_of_nonneg i (by omega)]; exact q)
theorem op_modN : OpR X (binaryOp .Mod) (rI (fun _ j => j ≠ 0) fun i j => .int (i.fmod j)) := opI fun _ _ _ _ _ _ _ hc q => mod_int' hc q
theorem op_pow : OpR X (binaryOp .Pow) (rI CPow fun i j => .int (i ^ j.toNat)) := opI fun _ _ _ _ _ _ _ hc q => pow_int_small hc.1 hc.2.1 hc.2.2 q


theorem unI {f : Value → Sem Value} {g : Int → Int}
    (rule : ∀ (i : Int) (t : Tok) (s : Shared) (Q : Value → Shared → Prop) (E : Value → Shared → Prop), Q (.int (g i) s.toks) { s with toks := s.toks + 1 } → wpAny (model X.prog X.w) X.A (f (.int i t)) Q E s) :
    UnR X f (rU fun i => .int (g i)) := by
  intro pins s σ H x v Q I rx h
  obtain ⟨i, rfl, q⟩ := h
  obtain ⟨t, rfl⟩ := rx
  exact rule i t s _ _ ⟨.int (g i), H, I.tok _, ⟨_, rfl⟩, q⟩
theorem un_neg : UnR X (unaryOp .USub) (rU fun i => .int (-i)) := unI fun _ _ _ _ _ q => neg_int q

/-! ### bools among ints: n += (a < b) -/
end

/-! ### comparisons -/
/-- the scalars that == tells apart as data does -/
def scal : V → V → Bool
  | .non, .non => true | .non, .int _ => true | .int _, .non => true | .non, .bl _ => true | .bl _, .non => true | .non, .str _ => true | .str _, .non => true
  | .int _, .int _ => true | .bl _, .bl _ => true | .str _, .str _ => true | .byt _, .byt _ => true
  | .int _, .str _ => true | .str _, .int _ => true | .bl _, .str _ => true | .str _, .bl _ => true
  | _, _ => false
def rEq : R2 := fun x y H Q => scal x y = true ∧ Q (.bl (decide (x = y))) H
def rNe : R2 := fun x y H Q => scal x y = true ∧ Q (.bl (!decide (x = y))) H

theorem dec_int {i j : Int} : decide (V.int i = V.int j) = (i == j) := by
  rw [Bool.eq_iff_iff]
  simp
theorem dec_bl {i j : Bool} : decide (V.bl i = V.bl j) = (i == j) := by
  rw [Bool.eq_iff_iff]
  simp
theorem dec_str {i j : Str} : decide (V.str i = V.str j) = (i == j) := by
  rw [Bool.eq_iff_iff]
  simp
theorem dec_byt {i j : Array UInt8} : decide (V.byt i = V.byt j) = (i.toList == j.toList) := by
  rw [Bool.eq_iff_iff]
  cases i
  cases j
  simp

section
variable {X : Cx} {a b c : Expr} {ta tb tc : TE} {pos : Pos}
theorem fin_bl {pins : List (Addr × Obj)} {σ : St} {H : Hp} {s : Shared} {Q : VK} {k k' : Bool} (I : Inv X pins σ H s) (q : Q (.bl k) H) (e : k = k') : EP X pins σ Q (.bool k') s := by
  subst e
  exact ⟨.bl k, H, I, rfl, q⟩
theorem op_eq : OpR X (compareOp .Eq) rEq := by
  intro pins s σ H x y v u Q I rx ry h
  obtain ⟨hs, q⟩ := h
  cases x with
  | non =>
    cases rx
    cases y with
    | non => cases ry; exact PySem.EqNone.eq_none_none (fin_bl I q (by simp))
    | bl j => cases ry; exact PySem.EqNone.eq_none_bool (fin_bl I q (by simp))
    | int j => obtain ⟨t', rfl⟩ := ry; exact PySem.EqNone.eq_none_int (fin_bl I q (by simp))
    | str j => obtain ⟨t', rfl⟩ := ry; exact PySem.EqNone.eq_none_str (fin_bl I q (by simp))
    | _ => exact absurd (show false = true from hs) Bool.false_ne_true
  | bl i =>
    cases rx
    cases y with
    | non => cases ry; exact PySem.EqNone.eq_bool_none (fin_bl I q (by simp))
    | bl j => cases ry; exact eq_bool (fin_bl I q dec_bl)
    | str j => obtain ⟨t', rfl⟩ := ry; exact PySem.EqMixed.eq_bool_str (fin_bl I q (by simp))
    | _ => exact absurd (show false = true from hs) Bool.false_ne_true
  | int i =>
    obtain ⟨t, rfl⟩ := rx
    cases y with
    | non => cases ry; exact PySem.EqNone.eq_int_none (fin_bl I q (by simp))
    | int j => obtain ⟨t', rfl⟩ := ry; exact eq_int (fin_bl I q dec_int)
    | str j => obtain ⟨t', rfl⟩ := ry; exact PySem.EqMixed.eq_int_str (fin_bl I q (by simp))
    | _ => exact absurd (show false = true from hs) Bool.false_ne_true
  | str i =>
    obtain ⟨t, rfl⟩ := rx
    cases y with
    | non => cases ry; exact PySem.EqNone.eq_str_none (fin_bl I q (by simp))
    | bl j => cases ry; exact PySem.EqMixed.eq_str_bool (fin_bl I q (by simp))
    | int j => obtain ⟨t', rfl⟩ := ry; exact PySem.EqMixed.eq_str_int (fin_bl I q (by simp))
    | str j => obtain ⟨t', rfl⟩ := ry; exact eq_str (fin_bl I q dec_str)
    | _ => exact absurd (show false = true from hs) Bool.false_ne_true
  | byt i =>
    obtain ⟨t, rfl⟩ := rx
    cases y with
    | byt j => obtain ⟨t', rfl⟩ := ry; exact PySem.W.eq_bytes (fin_bl I q dec_byt)
    | _ => exact absurd (show false = true from hs) Bool.false_ne_true
  | _ => cases y <;> exact absurd (show false = true from hs) Bool.false_ne_true
theorem op_ne : OpR X (compareOp .NotEq) rNe := by
  intro pins s σ H x y v u Q I rx ry h
  obtain ⟨hs, q⟩ := h
  cases x with
  | non =>
    cases rx
    cases y with
    | non => cases ry; exact PySem.EqNone.ne_none_none (fin_bl I q (by simp))
    | bl j => cases ry; exact PySem.EqNone.ne_none_bool (fin_bl I q (by simp))
    | int j => obtain ⟨t', rfl⟩ := ry; exact PySem.EqNone.ne_none_int (fin_bl I q (by simp))
    | str j => obtain ⟨t', rfl⟩ := ry; exact PySem.EqNone.ne_none_str (fin_bl I q (by simp))
    | _ => exact absurd (show false = true from hs) Bool.false_ne_true
  | bl i =>
    cases rx
    cases y with
    | non => cases ry; exact PySem.EqNone.ne_bool_none (fin_bl I q (by simp))
    | bl j => cases ry; exact ne_bool (fin_bl I q (congrArg not dec_bl))
    | str j => obtain ⟨t', rfl⟩ := ry; exact PySem.EqMixed.ne_bool_str (fin_bl I q (by simp))
    | _ => exact absurd (show false = true from hs) Bool.false_ne_true
  | int i =>
    obtain ⟨t, rfl⟩ := rx
    cases y with
    | non => cases ry; exact PySem.EqNone.ne_int_none (fin_bl I q (by simp))
    | int j => obtain ⟨t', rfl⟩ := ry; exact ne_int (fin_bl I q (congrArg not dec_int))
    | str j => obtain ⟨t', rfl⟩ := ry; exact PySem.EqMixed.ne_int_str (fin_bl I q (by simp))
    | _ => exact absurd (show false = true from hs) Bool.false_ne_true
  | str i =>
    obtain ⟨t, rfl⟩ := rx
    cases y with
    | non => cases ry; exact PySem.EqNone.ne_str_none (fin_bl I q (by simp))
    | bl j => cases ry; exact PySem.EqMixed.ne_str_bool (fin_bl I q (by simp))
    | int j => obtain ⟨t', rfl⟩ := ry; exact PySem.EqMixed.ne_str_int (fin_bl I q (by simp))
    | str j => obtain ⟨t', rfl⟩ := ry; exact ne_str (fin_bl I q (congrArg not dec_str))
    | _ => exact absurd (show false = true from hs) Bool.false_ne_true
  | byt i =>
    obtain ⟨t, rfl⟩ := rx
    cases y with
    | byt j => obtain ⟨t', rfl⟩ := ry; exact PySem.W.ne_bytes (fin_bl I q (congrArg not dec_byt))
    | _ => exact absurd (show false = true from hs) Bool.false_ne_true
  | _ => cases y <;> exact absurd (show false = true from hs) Bool.false_ne_true

theorem op_lt : OpR X (compareOp .Lt) (rI0 fun i j => .bl (decide (i < j))) := opB0 fun _ _ _ _ _ _ _ q => lt_int q
theorem op_le : OpR X (compareOp .LtE) (rI0 fun i j => .bl (decide (i ≤ j))) := opB0 fun _ _ _ _ _ _ _ q => le_int q
theorem op_gt : OpR X (compareOp .Gt) (rI0 fun i j => .bl (decide (j < i))) := opB0 fun _ _ _ _ _ _ _ q => gt_int q
theorem op_ge : OpR X (compareOp .GtE) (rI0 fun i j => .bl (decide (j ≤ i))) := opB0 fun _ _ _ _ _ _ _ q => ge_int q




theorem nomark (b : Expr) {op : CmpOp} (h : op ≠ .In := by decide) (h2 : op ≠ .NotIn := by decide) : behindInMarks op b = false := by
  have e1 : (op == CmpOp.In) = false := by cases op <;> first | rfl | exact absurd rfl h
  have e2 : (op == CmpOp.NotIn) = false := by cases op <;> first | rfl | exact absurd rfl h2
  cases b <;> simp [behindInMarks, e1, e2]
/-- a comparison as a value; hm: nomark b, or (for in, not in) by with_unfolding_all rfl -/
theorem pe_cmpR {op : CmpOp} {r : R2} (ho : OpR X (compareOp op) r) (ha : PE X a ta) (hb : PE X b tb) (hm : behindInMarks op b = false) : PE X (.Compare a [op] [b] pos) (tOp r ta tb) := by
  intro pins s σ H Q I h
  exact wpAny_Compare1 (binT ha hb I h fun v u s2 x y H2 I2 rx ry q => ho pins s2 σ H2 x y v u Q I2 rx ry q) hm
/-- a reading of a value as a test -/
def tTest (t : TE) : TT := fun σ H Q => t σ H fun x H' => ∃ k, x = .bl k ∧ Q k H'
theorem pt_cmpR {op : CmpOp} {r : R2} (ho : OpR X (compareOp op) r) (ha : PE X a ta) (hb : PE X b tb) (hm : behindInMarks op b = false) : PT X (.Compare a [op] [b] pos) (tTest (tOp r ta tb)) := by
  intro pins s σ H Q I h
  refine wpAny_isTrue_Compare1 (thn (ha pins s σ H _ I h) fun v s1 ⟨x, H1, I1, r1, q1⟩ => thn (hb pins s1 σ H1 _ I1 q1) fun u s2 ⟨y, H2, I2, r2, q2⟩ =>
    thn (ho pins s2 σ H2 x y v u _ I2 r1 r2 q2) fun c s3 ⟨z, H3, I3, r3, k, e, q3⟩ => ?_) hm
  subst e
  cases r3
  exact wpAny_truthy_bool ⟨H3, I3, q3⟩

/-! ### truth -/
/-- a value's truth by the abstract heap -/
def TruV (K : PySem.W.Frag) (x : V) (H : Hp) (k : Bool) : Prop :=
  match x with
  | .non => k = false
  | .bl b => k = b
  | .int i => k = (i != 0)
  | .str y => y.length ≤ sizeLine ∧ k = ((y.length : Int) != 0)
  | .byt y => y.size ≤ sizeLine ∧ k = ((y.size : Int) != 0)
  | .ref p => (∃ xs, SqL K H p xs ∧ k = !xs.isEmpty) ∨ (∃ xs, SqT K H p xs ∧ k = !xs.isEmpty) ∨ ∃ kvs, H p = some (.dK kvs) ∧ k = !kvs.isEmpty
  | _ => False
theorem isEmpty_kv {κ : Type} {kvs : List (κ × V)} {vs : List (κ × Value)} (r : KV kvs vs) : (!vs.isEmpty) = !kvs.isEmpty := by
  cases r <;> rfl
theorem isEmpty_of {xs : List V} {its : List Value} (r : Vals xs its) : (!its.toArray.isEmpty) = !xs.isEmpty := by
  cases r <;> simp
theorem line63 : (sizeLine : Nat) < 2 ^ 63 := by rw [sizeLine_eq]; decide
theorem tru_ok : TruR X (fun x H Q => ∃ k, TruV X.K x H k ∧ Q k H) := by
  intro pins s σ H x v Q I rx h
  obtain ⟨k, e, q⟩ := h
  have hl := line63
  have hs : sizeLine = 16777216 := sizeLine_eq
  cases x with
  | non =>
    cases rx
    have e' : k = false := e
    subst e'
    exact truthy_none ⟨H, I, q⟩
  | bl b =>
    cases rx
    have e' : k = b := e
    subst e'
    exact wpAny_truthy_bool ⟨H, I, q⟩
  | int i =>
    obtain ⟨t, rfl⟩ := rx
    have e' : k = (i != 0) := e
    subst e'
    exact PySem.P.truthy_int ⟨H, I, q⟩
  | str y =>
    obtain ⟨t, rfl⟩ := rx
    obtain ⟨hy, e'⟩ : y.length ≤ sizeLine ∧ k = ((y.length : Int) != 0) := e
    subst e'
    exact PySem.P.truthy_str (by omega) ⟨H, I.tok _, q⟩
  | byt y =>
    obtain ⟨t, rfl⟩ := rx
    obtain ⟨hy, e'⟩ : y.size ≤ sizeLine ∧ k = ((y.size : Int) != 0) := e
    subst e'
    exact PySem.W.truthy_bytes (by omega) ⟨H, I.tok _, q⟩
  | ref p =>
    cases rx
    have e' : (∃ xs, SqL X.K H p xs ∧ k = !xs.isEmpty) ∨ (∃ xs, SqT X.K H p xs ∧ k = !xs.isEmpty) ∨ ∃ kvs, H p = some (.dK kvs) ∧ k = !kvs.isEmpty := e
    rcases e' with ⟨xs, hx, e'⟩ | ⟨xs, hx, e'⟩ | ⟨kvs, hx, e'⟩
    · subst e'
      obtain ⟨its, r, pl, hz⟩ := I.list hx
      have hlen := r.length
      exact wpAny_truthy_list pl.isList (by simp only [List.size_toArray]; omega) ⟨H, I.tok _, by rw [isEmpty_of r]; exact q⟩
    · subst e'
      obtain ⟨its, r, pl, hz⟩ := I.tuple hx
      have hlen := r.length
      exact truthy_tuple pl (by simp only [List.size_toArray]; omega) ⟨H, I.tok _, by rw [isEmpty_of r]; exact q⟩
    · subst e'
      obtain ⟨hz, hS, vs, r, m⟩ : kvs.length ≤ sizeLine ∧ (p == sysModules) = false ∧ ∃ vs, KV kvs vs ∧ s.heap.DictOf (mixKind X.prog X.w) p vs := I.hok p _ hx
      have hlen : kvs.length = vs.length := Paired.length r
      exact wpAny_truthy_dict hS m (by omega) ⟨H, I.tok _, by rw [isEmpty_kv r]; exact q⟩
  | _ => exact (show False from e).elim
/-- any expression whose test is its value's truth (a name, a call, a subscript, a field ..: he by fun _ => rfl) -/
theorem pt_truth (ha : PE X a ta) (he : ∀ whole, isTrue a X.env whole = (do let v ← whole; standAt a.pos; holding [v] (truthy v))) :
    PT X a (fun σ H Q => ta σ H fun x H' => ∃ k, TruV X.K x H' k ∧ Q k H') := by
  intro pins s σ H Q I h
  exact isTrue_plain (thn (ha pins s σ H _ I h) fun v s1 ⟨x, H1, I1, r1, q1⟩ => tru_ok pins s1 σ H1 x v Q I1 r1 q1) (he _)

/-! ### strs and bytes -/


/-! ### scalar builtins, by CallR -/
theorem vals1 {x : V} {us : List Value} (r : Vals [x] us) : ∃ u, us = [u] ∧ RelV x u := by
  cases r with
  | cons r1 r2 => cases r2; exact ⟨_, rfl, r1⟩
theorem vals2 {x y : V} {us : List Value} (r : Vals [x, y] us) : ∃ u w', us = [u, w'] ∧ RelV x u ∧ RelV y w' := by
  cases r with
  | cons r1 r2 =>
    cases r2 with
    | cons r3 r4 => cases r4; exact ⟨_, _, rfl, r1, r3⟩
theorem call_abs : CallR X (.builtin "abs") (fun xs H Q => ∃ i, xs = [.int i] ∧ Q (.int (if i < 0 then -i else i)) H) := by
  intro pins s σ H xs us Q I r h
  obtain ⟨i, rfl, q⟩ := h
  obtain ⟨u, rfl, t, rfl⟩ := vals1 r
  exact call_abs_int fun u tk => ⟨.int (if i < 0 then -i else i), H, I.tok _, ⟨_, rfl⟩, q⟩
theorem call_max2 (hc : X.calm = true) : CallR X (.builtin "max") (fun xs H Q => ∃ i j, xs = [.int i, .int j] ∧ Q (.int (if j > i then j else i)) H) := by
  intro pins s σ H xs us Q I r h
  obtain ⟨i, j, rfl, q⟩ := h
  obtain ⟨u, w', rfl, ⟨t, rfl⟩, ⟨t', rfl⟩⟩ := vals2 r
  refine max_two_ints (I.ok.hd hc) fun h' tk k => ⟨_, H, I.kept k, ?_, q⟩
  by_cases hj : j > i
  · rw [if_pos hj, if_pos hj]; exact ⟨_, rfl⟩
  · rw [if_neg hj, if_neg hj]; exact ⟨_, rfl⟩
theorem call_min2 (hc : X.calm = true) : CallR X (.builtin "min") (fun xs H Q => ∃ i j, xs = [.int i, .int j] ∧ Q (.int (if j < i then j else i)) H) := by
  intro pins s σ H xs us Q I r h
  obtain ⟨i, j, rfl, q⟩ := h
  obtain ⟨u, w', rfl, ⟨t, rfl⟩, ⟨t', rfl⟩⟩ := vals2 r
  refine min_two_ints (I.ok.hd hc) fun h' tk k => ⟨_, H, I.kept k, ?_, q⟩
  by_cases hj : j < i
  · rw [if_pos hj, if_pos hj]; exact ⟨_, rfl⟩
  · rw [if_neg hj, if_neg hj]; exact ⟨_, rfl⟩
/-- len of a str, a bytes, a list, a tuple -/
def LenV (K : PySem.W.Frag) (x : V) (H : Hp) (n : Nat) : Prop :=
  match x with
  | .str y => y.length ≤ sizeLine ∧ n = y.length
  | .byt y => y.size ≤ sizeLine ∧ n = y.size
  | .ref p => (∃ xs, SqL K H p xs ∧ n = xs.length) ∨ ∃ xs, SqT K H p xs ∧ n = xs.length
  | _ => False
theorem call_len : CallR X (.builtin "len") (fun xs H Q => ∃ x n, xs = [x] ∧ LenV X.K x H n ∧ Q (.int n) H) := by
  intro pins s σ H xs us Q I r h
  obtain ⟨x, n, rfl, e, q⟩ := h
  obtain ⟨u, rfl, rx⟩ := vals1 r
  have hl := line63
  have hs : sizeLine = 16777216 := sizeLine_eq
  cases x with
  | str y =>
    obtain ⟨t, rfl⟩ := rx
    obtain ⟨hy, e'⟩ : y.length ≤ sizeLine ∧ n = y.length := e
    subst e'
    exact len_str (by omega) ⟨.int _, H, I.tok _, ⟨_, rfl⟩, q⟩
  | byt y =>
    obtain ⟨t, rfl⟩ := rx
    obtain ⟨hy, e'⟩ : y.size ≤ sizeLine ∧ n = y.size := e
    subst e'
    exact PySem.W.len_bytes (by omega) ⟨.int _, H, I.tok _, ⟨_, rfl⟩, q⟩
  | ref p =>
    cases rx
    have e' : (∃ xs, SqL X.K H p xs ∧ n = xs.length) ∨ ∃ xs, SqT X.K H p xs ∧ n = xs.length := e
    rcases e' with ⟨xs, hx, e'⟩ | ⟨xs, hx, e'⟩
    · subst e'
      obtain ⟨its, r', pl, hz⟩ := I.list hx
      have hlen := r'.length
      exact Calls.call_len_list pl.isList (by simp only [List.size_toArray]; omega) ⟨.int xs.length, H, I.tok _, ⟨_, by simp only [List.size_toArray]; rw [hlen]⟩, q⟩
    · subst e'
      obtain ⟨its, r', pl, hz⟩ := I.tuple hx
      have hlen := r'.length
      exact len_tuple pl (by simp only [List.size_toArray]; omega) ⟨.int xs.length, H, I.tok _, ⟨_, by simp only [List.size_toArray]; rw [hlen]⟩, q⟩
  | _ => exact (show False from e).elim
end
end L2

namespace L2
open PySem PySem.Spec PyProof.Rows

/-! ### an instance, its attributes a map -/
structure ObjM (h : Heap) (x dx C : Addr) (mA : Str → Option Value) : Prop where
  obj : h.get? x = some (PySem.W.instObj C dx)
  ns : h.Ns1 dx mA
  ne : dx ≠ x

theorem lookIn_ns {h : Heap} {dx : Addr} {mA : Str → Option Value} (n : h.Ns1 dx mA) : ∃ od, h.get? dx = some od ∧ ∀ name, PySem.W.lookIn name od = some (mA name) := by
  obtain ⟨o, es, ep, ho, hd, hk, _, hm⟩ := n
  refine ⟨o, ho, fun name => ?_⟩
  have e := hm name
  unfold nsFind findBy at e
  rw [← Array.find?_toList] at e
  unfold PySem.W.lookIn
  rw [hd]
  dsimp only
  split
  · rename_i y q
    rw [q] at e
    exact congrArg some e
  · rename_i q
    rw [q] at e
    have a : es.toList.any (·.refKey) = false := by
      rw [List.any_eq_false]
      intro y hy
      obtain ⟨z, t, hkey⟩ := hk y (Array.mem_toList_iff.mp hy)
      simp [DictEntry.refKey, hkey]
    have a' : ¬ es.toList.any (·.refKey) = true := by rw [a]; exact Bool.false_ne_true
    rw [if_neg a']
    exact congrArg some e

theorem ObjM.look {h : Heap} {x dx C : Addr} {mA : Str → Option Value} (I : ObjM h x dx C mA) : ∃ od, PySem.W.InstAt h x (PySem.W.instObj C dx) C (some od) ∧ ∀ name, PySem.W.lookIn name od = some (mA name) :=
  let ⟨od, ho, hl⟩ := lookIn_ns I.ns
  ⟨od, ⟨I.obj, rfl, rfl, ho⟩, hl⟩

section
variable {prog : Program} {w : World} {A : Around} {E : Value → Shared → Prop} {s : Shared} {K : PySem.W.Frag} {x dx C f : Addr} {mA : Str → Option Value} {name : Str} {v : Value}

theorem get_map {expr : Bool} {Q : Value → Shared → Prop} (X : K.In s.heap) (I : ObjM s.heap x dx C mA) (hg : PySem.W.plainGet K C name = true) (hh : PySem.W.hasDictIn K C = true)
    (ha : PySem.W.findIn K (.ref C) name = some none) (hv : mA name = some v) (hv' : PySem.W.handedIn v = true) (h : Q v { s with toks := s.toks + 1 }) :
    wpAny (model prog w) A (getAttr (.ref x) name expr) Q E s := by
  obtain ⟨od, J, hl⟩ := I.look
  exact PySem.W.get_value X J (PySem.W.plainGet_of hg).1 (PySem.W.findObj_own hh ha rfl (by rw [hl, hv])) hv' h


theorem get_meth {pl : Sem Bool} {Q : Value × List Value → Shared → Prop} (X : K.In s.heap) (I : ObjM s.heap x dx C mA) (hg : PySem.W.plainGet K C name = true)
    (hf : PySem.W.findIn K (.ref C) name = some (some (.ref f))) (ht : PySem.W.isFn K (.ref f) = true) (hv : mA name = none) (h : Q (.ref f, [.ref x]) s) :
    wpAny (model prog w) A (getMethod (.ref x) name pl) Q E s := by
  obtain ⟨od, J, hl⟩ := I.look
  exact PySem.W.method_fn X J (PySem.W.plainGet_of hg).1 (PySem.W.plainGet_of hg).2 hf (beq_iff_eq.mp ht) (by show (PySem.W.lookIn name od).map (·.isSome) = some false; rw [hl, hv]; rfl) h

theorem set_map {ns : List Str} {Q : Unit → Shared → Prop} (X : K.In s.heap) (I : ObjM s.heap x dx C mA)
    (hs : PySem.W.findIn K (.ref C) "__setattr__" = some (some (.builtin "object.__setattr__"))) (hp : PySem.W.plainOver K C = true) (ht : PySem.W.takerIn K C name = some none) (hh : PySem.W.hasDictIn K C = true)
    (hw : PySem.Within mA ns) (hsz : ns.length ≤ sizeLine)
    (h : ∀ h', ObjM h' x dx C (fun y => if y = name then some v else mA y) → Heap.SameBut dx s.heap h' → Q () { s with heap := h', toks := s.toks + 2 }) :
    wpAny (model prog w) A (setAttr (.ref x) name v) Q E s := by
  obtain ⟨od, J, hl⟩ := I.look
  refine PySem.W.set_plain X J hs (PySem.W.osa_open (s := { s with toks := s.toks + 1 }) (r := none) X J hp ht fun b => ?_)
  obtain ⟨cd, hc, hd'⟩ := PySem.W.any_some hh
  have hx : s.heap.get? x = some ⟨.ref C, some dx, .plain, #[]⟩ := I.obj
  refine wpAny_bind (wpAny_pure (wpAny_bind (wpAny_bind (wpAny_loadPart hx (wpAny_bind (PySem.W.Looks.here (s := { s with toks := s.toks + 1 }) (PySem.W.looks_clsIn X hc) ?_))))))
  rw [hd']
  refine wpAny_pure (a := some dx) (wpAny_bind (wpAny_pure (wpAny_bind ?_)))
  refine wpAny_nsSet1 (s := { s with toks := s.toks + 1 }) I.ns fun h' hn2 hs2 => ?_
  obtain ⟨oD, esD, epD, hoD, hdD, hcD⟩ := hn2.count (PySem.Within.cons name v hw)
  refine wpAny_bind (wpAny_lookBehind hoD (by rw [hdD]; exact pastItsLine_dict (Nat.le_trans hcD (by rw [List.length_cons]; omega))) ?_)
  exact wpAny_pure (h _ ⟨(hs2.2 _ (Ne.symm I.ne)).trans I.obj, hn2, I.ne⟩ hs2)

/-- C(..): the dict at the heap's end, the instance behind it; then its __init__ -/
theorem make_map {R : Result → Shared → Prop} {vs : List Value} {kw : List (Str × Value)} (X : K.In s.heap) (hm : PySem.W.makesIn K C = true)
    (hi : PySem.W.findIn K (.ref C) "__init__" = some (some (.ref f))) (hf : PySem.W.typeIn K (.ref f) = some (.type "function"))
    (h : codeAny (model prog w) (A.under (.builtin "type.__call__" ⟨.ref C :: vs, kw⟩)) (.call (.ref f) ⟨.ref (s.heap.objs.size + 1) :: vs, kw⟩) (PySem.W.InitBack (s.heap.objs.size + 1) R)
      { s with heap := (s.heap.push PySem.W.emptyDict).push (PySem.W.instObj C s.heap.objs.size) }) :
    codeAny (model prog w) A (.call (.ref C) ⟨vs, kw⟩) R s := by
  obtain ⟨hh, g, d, t, os⟩ := s
  exact PySem.W.make_core (PySem.W.makes_of X hm) (PySem.W.looks_findIn X hi) (fun self => PySem.W.bind_fn X self hf) (.inl rfl) h
/-- C() where there is no __init__ but object's -/
theorem make_map0 {R : Result → Shared → Prop} (X : K.In s.heap) (hm : PySem.W.makesIn K C = true)
    (hi : PySem.W.findIn K (.ref C) "__init__" = some (some (.builtin "object.__init__")))
    (hb : ∀ self, PySem.W.Looks (model prog w) s.heap (bindSpecial (.builtin "object.__init__") self) (.builtin "object.__init__", [self]))
    (h : codeAny (model prog w) (A.under (.builtin "type.__call__" ⟨[.ref C], []⟩)) (.call (.builtin "object.__init__") ⟨[.ref (s.heap.objs.size + 1)], []⟩) (PySem.W.InitBack (s.heap.objs.size + 1) R)
      { s with heap := (s.heap.push PySem.W.emptyDict).push (PySem.W.instObj C s.heap.objs.size) }) :
    codeAny (model prog w) A (.call (.ref C) ⟨[], []⟩) R s := by
  obtain ⟨hh, g, d, t, os⟩ := s
  exact PySem.W.make_core (PySem.W.makes_of X hm) (PySem.W.looks_findIn X hi) hb (.inr ⟨rfl, rfl⟩) h
end

/-! ### the attributes as a list of pairs -/
def putF (f : Str) (v : V) : List (Str × V) → List (Str × V)
  | [] => [(f, v)]
  | (g, x) :: r => if g = f then (g, v) :: r else (g, x) :: putF f v r
theorem lookup_putF (f g : Str) (v : V) : ∀ fs : List (Str × V), (putF f v fs).lookup g = if g = f then some v else fs.lookup g
  | [] => by
    show List.lookup g [(f, v)] = _
    by_cases h : g = f
    · have hb : (g == f) = true := beq_iff_eq.mpr h
      simp only [List.lookup, hb, if_pos h]
    · have hb : (g == f) = false := beq_eq_false_iff_ne.mpr h
      simp only [List.lookup, hb, if_neg h]
  | (k, x) :: r => by
    have ih := lookup_putF f g v r
    rw [show putF f v ((k, x) :: r) = (if k = f then (k, v) :: r else (k, x) :: putF f v r) from rfl]
    by_cases hk : k = f
    · rw [if_pos hk]
      by_cases h : g = k
      · have hb : (g == k) = true := beq_iff_eq.mpr h
        simp only [List.lookup, hb, if_pos (h.trans hk)]
      · have hb : (g == k) = false := beq_eq_false_iff_ne.mpr h
        simp only [List.lookup, hb, if_neg (fun e : g = f => h (e.trans hk.symm))]
    · rw [if_neg hk]
      by_cases h : g = k
      · have hb : (g == k) = true := beq_iff_eq.mpr h
        simp only [List.lookup, hb, if_neg (fun e : g = f => hk (h.symm.trans e))]
      · have hb : (g == k) = false := beq_eq_false_iff_ne.mpr h
        simp only [List.lookup, hb]
        exact ih
theorem keys_putF (f : Str) (v : V) : ∀ fs : List (Str × V), f ∈ (putF f v fs).map (·.1) ∧ ∀ g, g ∈ fs.map (·.1) → g ∈ (putF f v fs).map (·.1)
  | [] => ⟨by simp [putF], fun g h => by simp at h⟩
  | (k, x) :: r => by
    obtain ⟨i1, i2⟩ := keys_putF f v r
    rw [show putF f v ((k, x) :: r) = (if k = f then (k, v) :: r else (k, x) :: putF f v r) from rfl]
    by_cases hk : k = f
    · rw [if_pos hk]
      subst hk
      exact ⟨by simp, fun g h => by simpa using h⟩
    · rw [if_neg hk]
      refine ⟨?_, fun g h => ?_⟩
      · rw [List.map_cons]
        exact List.mem_cons_of_mem _ i1
      · rw [List.map_cons] at h ⊢
        rcases List.mem_cons.mp h with e | e
        · exact List.mem_cons.mpr (.inl e)
        · exact List.mem_cons_of_mem _ (i2 g e)
theorem length_putF (f : Str) (v : V) : ∀ fs : List (Str × V), (putF f v fs).length ≤ fs.length + 1
  | [] => by simp [putF]
  | (k, x) :: r => by
    have ih := length_putF f v r
    rw [show putF f v ((k, x) :: r) = (if k = f then (k, v) :: r else (k, x) :: putF f v r) from rfl]
    by_cases hk : k = f
    · rw [if_pos hk, List.length_cons, List.length_cons]; omega
    · rw [if_neg hk, List.length_cons, List.length_cons]; omega

theorem RelO.some_of {v : V} {o : Option Value} (r : RelO (some v) o) : ∃ u, o = some u ∧ RelV v u := by
  cases o with
  | none => exact (show False from r).elim
  | some u => exact ⟨u, rfl, r⟩
theorem RelO.none_of {o : Option Value} (r : RelO none o) : o = none := by
  cases o with
  | none => rfl
  | some u => exact (show False from r).elim
theorem handed_of {v : V} {u : Value} (r : RelV v u) : PySem.W.handedIn u = true := by
  cases v with
  | non => cases (show u = Value.none from r); rfl
  | bl b => cases (show u = Value.bool b from r); rfl
  | int i => obtain ⟨t, e⟩ := (show ∃ t, u = Value.int i t from r); cases e; rfl
  | str x => obtain ⟨t, e⟩ := (show ∃ t, u = Value.str x t from r); cases e; rfl
  | byt b => obtain ⟨t, e⟩ := (show ∃ t, u = Value.bytes b t from r); cases e; rfl
  | flt b => obtain ⟨t, e⟩ := (show ∃ t, u = Value.float b t from r); cases e; rfl
  | ref a => cases (show u = Value.ref a from r); rfl
  | ty n => cases (show u = Value.type n from r); rfl

section
variable {P : Program} {w : World} {H H' : Hp} {h h' : Heap} {a C dx : Addr} {fs fs' : List (Str × V)}
theorem ins_get (hok : HOk P w H h) (e : H a = some (.ins C dx fs)) : ∃ mA, ObjM h a dx C mA ∧ (∀ f, RelO (fs.lookup f) (mA f)) ∧ PySem.Within mA (fs.map (·.1)) ∧ fs.length ≤ 1000 ∧ H dx = some (.own a) := by
  obtain ⟨d, z, ne, ob, mA, n, r, q⟩ := (show ObjOk P w H h a (.ins C dx fs) from hok a _ e)
  exact ⟨mA, ⟨ob, n, ne⟩, r, q, z, d⟩
end

/-! ### what of the text a class must have -/
structure Cls (K : PySem.W.Frag) (C : Addr) : Prop where
  pg : PySem.W.plainGet K C Str.empty = true
  hd : PySem.W.hasDictIn K C = true
  po : PySem.W.plainOver K C = true
  sa : PySem.W.findIn K (.ref C) "__setattr__" = some (some (.builtin "object.__setattr__"))
theorem Cls.get {K : PySem.W.Frag} {C : Addr} (c : Cls K C) (f : Str) : PySem.W.plainGet K C f = true := c.pg
/-- no class of it has the name -/
def NoAttr (K : PySem.W.Frag) (C : Addr) (f : Str) : Prop := PySem.W.findIn K (.ref C) f = some none
theorem NoAttr.taker {K : PySem.W.Frag} {C : Addr} {f : Str} (n : NoAttr K C f) : PySem.W.takerIn K C f = some none := by
  unfold PySem.W.takerIn
  rw [show PySem.W.findIn K (.ref C) f = some none from n]
  rfl
/-- a method: a plain def of the class or of one above it -/
structure Meth (K : PySem.W.Frag) (C : Addr) (m : Str) (f : Addr) : Prop where
  at_ : PySem.W.findIn K (.ref C) m = some (some (.ref f))
  fn : PySem.W.isFn K (.ref f) = true
  kp : PySem.W.keepIn K (.ref f) = true

section
variable {X : Cx} {pins : List (Addr × Obj)} {σ : St} {H : Hp} {s : Shared} {a C dx : Addr} {fs : List (Str × V)} {f : Str} {v : V} {A : Around} {E : Value → Shared → Prop}

theorem getattr_ok {b : Bool} {Q : Value → Shared → Prop} (I : Inv X pins σ H s) (e : H a = some (.ins C dx fs)) (c : Cls X.K C) (n : NoAttr X.K C f) (l : fs.lookup f = some v)
    (h : ∀ u s', Inv X pins σ H s' → RelV v u → Q u s') : wpAny (model X.prog X.w) A (getAttr (.ref a) f b) Q E s := by
  obtain ⟨mA, O, r, _, _, _⟩ := ins_get I.hok e
  obtain ⟨u, hu, ru⟩ := RelO.some_of (v := v) (o := mA f) (by rw [← l]; exact r f)
  exact get_map I.kIn O (c.get f) c.hd n hu (handed_of ru) (h u _ (I.tok _) ru)


theorem getmeth_ok {m : Str} {g : Addr} {pl : Sem Bool} {Q : Value × List Value → Shared → Prop} (I : Inv X pins σ H s) (e : H a = some (.ins C dx fs)) (c : Cls X.K C) (k : Meth X.K C m g) (l : fs.lookup m = none)
    (h : Q (.ref g, [.ref a]) s) : wpAny (model X.prog X.w) A (getMethod (.ref a) m pl) Q E s := by
  obtain ⟨mA, O, r, _, _, _⟩ := ins_get I.hok e
  have hn : mA m = none := RelO.none_of (by rw [← l]; exact r m)
  exact get_meth I.kIn O (c.get m) k.at_ k.fn hn h

theorem setattr_ok {y : V} {u : Value} {Q : Unit → Shared → Prop} (I : Inv X pins σ H s) (e : H a = some (.ins C dx fs)) (c : Cls X.K C) (n : NoAttr X.K C f) (hl : fs.length < 1000) (ry : RelV y u)
    (h : ∀ s', Inv X pins σ (upd H a (.ins C dx (putF f y fs))) s' → Q () s') : wpAny (model X.prog X.w) A (setAttr (.ref a) f u) Q E s := by
  obtain ⟨mA, O, r, wi, _, ho⟩ := ins_get I.hok e
  have hz : (fs.map (·.1)).length ≤ sizeLine := by rw [List.length_map, sizeLine_eq]; omega
  refine set_map I.kIn O c.sa c.po n.taker c.hd wi hz fun h' O' sb => h _ ?_
  have hd : ∃ o, h'.get? dx = some o := let ⟨o, _, _, e', _⟩ := O'.ns; ⟨o, e'⟩
  refine I.write (x := a) (e := dx) (by rw [e]; exact True.intro) (.inr ho) (fun b q hb z => (sb.2 b hb).trans z) hd ?_
  refine ⟨by rw [upd_ne O.ne]; exact ho, ?_, O.ne, O'.obj, _, O'.ns, fun g => ?_, fun g hg => ?_⟩
  · have := length_putF f y fs; omega
  · show RelO ((putF f y fs).lookup g) (if g = f then some u else mA g)
    rw [lookup_putF]
    by_cases q : g = f
    · rw [if_pos q, if_pos q]; exact ry
    · rw [if_neg q, if_neg q]; exact r g
  · by_cases q : g = f
    · rw [q]; exact (keys_putF f y fs).1
    · refine (keys_putF f y fs).2 g (wi g fun z => hg ?_)
      show (if g = f then some u else mA g) = none
      rw [if_neg q]; exact z

/-- a new instance, tracked, without attributes -/
theorem Inv.made (I : Inv X pins σ H s) : Inv X pins σ (upd (upd H s.heap.objs.size (.own (s.heap.objs.size + 1))) (s.heap.objs.size + 1) (.ins C s.heap.objs.size []))
    { s with heap := (s.heap.push PySem.W.emptyDict).push (PySem.W.instObj C s.heap.objs.size) } := by
  have e1 : (s.heap.push PySem.W.emptyDict).get? s.heap.objs.size = some PySem.W.emptyDict := Heap.get?_push_size s.heap rfl
  have e2 : ((s.heap.push PySem.W.emptyDict).push (PySem.W.instObj C s.heap.objs.size)).get? (s.heap.objs.size + 1) = some (PySem.W.instObj C s.heap.objs.size) := by
    have := Heap.get?_push_size (s.heap.push PySem.W.emptyDict) (o := PySem.W.instObj C s.heap.objs.size) rfl
    rwa [Heap.size_push] at this
  have e3 : (s.heap.push PySem.W.emptyDict).Ns s.heap.objs.size (fun _ => none) := ⟨PySem.W.emptyDict, #[], _, e1, rfl, (fun e he => absurd he (by simp)), fun _ => rfl⟩
  have I1 := I.laid (a := s.heap.objs.size) (o := .own (s.heap.objs.size + 1)) (h' := s.heap.push PySem.W.emptyDict) (t' := s.toks) (fun b u q => Heap.get?_push_of_some _ q) (Nat.le_refl _) ⟨_, e1⟩
  refine I1.laid (a := s.heap.objs.size + 1) (o := .ins C s.heap.objs.size []) (t' := s.toks) (fun b u q => Heap.get?_push_of_some _ q) (Nat.le_of_eq (Heap.size_push _ _)) ?_
  have ne : s.heap.objs.size ≠ s.heap.objs.size + 1 := Nat.ne_of_lt (Nat.lt_succ_self _)
  refine ⟨by rw [upd_ne ne, upd_same], Nat.zero_le _, ne, e2, fun _ => none, (Heap.Ns1.of_empty e3).at fun o q => Heap.get?_push_of_some _ q, fun _ => True.intro, fun y hy => absurd rfl hy⟩

/-- e.f where nothing but the object is asked: through attributeBase (super) and the last hold -/
theorem attr_of {prog : Program} {w : World} {env : Env} {e : Expr} {f : Str} {pos : Pos} {s : Shared} {Q : Value → Shared → Prop} (hb : attributeBase e f env (eval e env) = eval e env)
    (h : wpAny (model prog w) A (eval e env) (fun o s₁ => wpAny (model prog w) A (getAttr o f true) Q E s₁) E s) : wpAny (model prog w) A (eval (.Attribute e f pos) env) Q E s :=
  Attribute_any_ h (by rw [arm_eval_Attribute, hb])
end

/-! ### readings and rules -/
/-- e.f, an attribute of the instance -/
def tFld (K : PySem.W.Frag) (ta : TE) (f : Str) : TE := fun σ H Q => ta σ H fun x H1 => ∃ a C dx fs v, x = .ref a ∧ H1 a = some (.ins C dx fs) ∧ Cls K C ∧ NoAttr K C f ∧ fs.lookup f = some v ∧ Q v H1
/-- e.f = value -/
def sFld (K : PySem.W.Frag) (ta tv : TE) (f : Str) : TS := fun D σ H => tv σ H fun y H1 => ta σ H1 fun x H2 => ∃ a C dx fs, x = .ref a ∧ H2 a = some (.ins C dx fs) ∧ Cls K C ∧ NoAttr K C f ∧ fs.length < 1000 ∧
  D.nx σ (upd H2 a (.ins C dx (putF f y fs)))

section
variable {X : Cx} {o e value : Expr} {f : Str} {pos pos' tpos : Pos} {ta tv : TE}
theorem pe_fld (he : PE X e ta) (hb : attributeBase e f X.env (eval e X.env) = eval e X.env) : PE X (.Attribute e f pos) (tFld X.K ta f) := by
  intro pins s σ H Q I h
  refine attr_of hb (thn (he pins s σ H _ I h) fun u s1 ⟨x, H1, I1, rx, a, C, dx, fs, v, ex, ea, c, n, l, q⟩ => ?_)
  subst ex
  obtain rfl : u = Value.ref a := rx
  exact getattr_ok I1 ea c n l fun u' s2 I2 ru => ⟨v, H1, I2, ru, q⟩
theorem ps_fld (ha : PE X o ta) (hv : PE X value tv) (hs : swapsWith value (some (.Attribute o f pos')) pos.line X.env = pure false) : PS X (.Assign [.Attribute o f pos'] value pos) (sFld X.K ta tv f) := by
  intro pins s σ H D I h
  refine plainObj_wpAny_Assign_Attribute (thn (hv pins s σ H _ I h) fun u s1 ⟨y, H1, I1, ry, q⟩ => thn (ha pins s1 σ H1 _ I1 q) fun ov s2 ⟨x, H2, I2, rx, a, C, dx, fs, ex, ea, c, n, l, q2⟩ => ?_) hs
  subst ex
  obtain rfl : ov = Value.ref a := rx
  exact setattr_ok I2 ea c n l ry fun s3 I3 => ⟨σ, _, I3, q2⟩

end

/-! ### isinstance -/
section
variable {X : Cx} {pins : List (Addr × Obj)} {σ : St} {H : Hp} {s : Shared} {A : Around} {E : Value → Shared → Prop} {Q : Value → Shared → Prop} {c : Value} {b : Bool}
/-- the type of a value, as the fragment's deciders take it; for an instance its class -/
inductive TyOf (K : PySem.W.Frag) (H : Hp) : V → Value → Prop where
  | non : TyOf K H .non (.type "NoneType")
  | bl (x : Bool) : TyOf K H (.bl x) (.type "bool")
  | int (i : Int) : TyOf K H (.int i) (.type "int")
  | str (x : Str) : TyOf K H (.str x) (.type "str")
  | flt (x : UInt64) : TyOf K H (.flt x) (.type "float")
  | lst {a : Addr} {xs : List V} (e : H a = some (.lst xs)) : TyOf K H (.ref a) (.type "list")
  | frz {a : Addr} {o : Obj} {xs : List V} (e : H a = some (.frz o (.lst xs))) : TyOf K H (.ref a) (.type "list")
  | tup {a : Addr} {xs : List V} (e : H a = some (.tup xs)) : TyOf K H (.ref a) (.type "tuple")
  | dK {a : Addr} {kvs : List (Key × V)} (e : H a = some (.dK kvs)) : TyOf K H (.ref a) (.type "dict")
  | dT {a : Addr} {kvs : List (List Key × V)} (e : H a = some (.dT kvs)) : TyOf K H (.ref a) (.type "dict")
  | ins {a C dx : Addr} {fs : List (Str × V)} (e : H a = some (.ins C dx fs)) (cl : Cls K C) (ha : PySem.W.findIn K (.ref C) "__class__" = some (some (.builtin "object.__class__")))
      (hn : PySem.W.specialIn K (.builtin "object.__class__") "__get__" = some (some (.builtin "getset_descriptor.__get__"))) (htk : PySem.W.takesIn K (.builtin "object.__class__") = some true)
      (hm : PySem.W.mroIn K C (.type "object") = some true) : TyOf K H (.ref a) (.ref C)
/-- isinstance(x, c) for one class c, a built-in or an own one: kitOne's answer -/
theorem isinst_ok {x : V} {u t : Value} (I : Inv X pins σ H s) (rx : RelV x u) (ty : TyOf X.K H x t) (e : PySem.W.kitOne X.K t c = some b) (h : ∀ tk, Q (.bool b) { s with toks := tk }) :
    wpAny (model X.prog X.w) A (call (.builtin "isinstance") [u, c]) Q E s := by
  cases ty with
  | non => cases (show u = Value.none from rx); exact PySem.W.kia_one PySem.W.kitx_none I.kIn True.intro e (fun z => nomatch z) h
  | bl y => cases (show u = Value.bool y from rx); exact PySem.W.kia_one PySem.W.kitx_bool I.kIn True.intro e (fun z => nomatch z) h
  | int i => obtain ⟨t, q⟩ := (show ∃ t, u = Value.int i t from rx); cases q; exact PySem.W.kia_one PySem.W.kitx_int I.kIn True.intro e (fun z => nomatch z) h
  | str y => obtain ⟨t, q⟩ := (show ∃ t, u = Value.str y t from rx); cases q; exact PySem.W.kia_one PySem.W.kitx_str I.kIn True.intro e (fun z => nomatch z) h
  | flt y => obtain ⟨t, q⟩ := (show ∃ t, u = Value.float y t from rx); cases q; exact PySem.W.kia_one PySem.W.kitx_float I.kIn True.intro e (fun z => nomatch z) h
  | @lst a xs ea =>
    cases (show u = Value.ref a from rx)
    obtain ⟨_, _, n, _, h1⟩ := (show ObjOk X.prog X.w H s.heap a (.lst xs) from I.hok a _ ea)
    exact PySem.W.kia_one PySem.W.kitx_list I.kIn ⟨_, h1, rfl⟩ e (fun z => nomatch z) h
  | @frz a ob xs ea =>
    cases (show u = Value.ref a from rx)
    obtain ⟨_, _, _, n, _, h1⟩ := (show ObjOk X.prog X.w H s.heap a (.frz ob (.lst xs)) from I.hok a _ ea)
    exact PySem.W.kia_one PySem.W.kitx_list I.kIn ⟨_, h1, rfl⟩ e (fun z => nomatch z) h
  | @tup a xs ea =>
    cases (show u = Value.ref a from rx)
    obtain ⟨_, _, _, p⟩ := (show ObjOk X.prog X.w H s.heap a (.tup xs) from I.hok a _ ea)
    obtain ⟨o, h1, h2, _⟩ := p
    exact PySem.W.kia_one PySem.W.kitx_tuple I.kIn ⟨o, h1, h2⟩ e (fun z => nomatch z) h
  | @dK a kvs ea =>
    cases (show u = Value.ref a from rx)
    obtain ⟨_, _, vs, _, p⟩ := (show ObjOk X.prog X.w H s.heap a (.dK kvs) from I.hok a _ ea)
    obtain ⟨o, es, ep, h1, h2, _⟩ := p
    exact PySem.W.kia_one PySem.W.kitx_dict I.kIn ⟨o, h1, h2.1⟩ e (fun z => nomatch z) h
  | @dT a kvs ea =>
    cases (show u = Value.ref a from rx)
    obtain ⟨_, _, xs, _, o, es, ep, h1, h2, _⟩ := (show ObjOk X.prog X.w H s.heap a (.dT kvs) from I.hok a _ ea)
    exact PySem.W.kia_one PySem.W.kitx_dict I.kIn ⟨o, h1, h2.1⟩ e (fun z => nomatch z) h
  | @ins a C dx fs ea cl ha hn htk hm =>
    cases (show u = Value.ref a from rx)
    obtain ⟨mA, O, _⟩ := ins_get I.hok ea
    obtain ⟨od, J, _⟩ := O.look
    exact PySem.W.kia_one (PySem.W.kitx_own (cl.get _) cl.hd ha hn htk hm) I.kIn J e (fun z => nomatch z) h
end
end L2

namespace L2
open PySem PySem.Spec PyProof.Rows

/-! ### room -/
structure Room (k : Nat) (A : Around) : Prop where
  hd : A.handled = none
  dp : A.depth + 3 * k + 5 < recursionLimit
  un : A.units + 16 * k + 200 < cLine
theorem Room.mono {j k : Nat} {A : Around} (r : Room k A) (h : j ≤ k) : Room j A := ⟨r.hd, by have := r.dp; omega, by have := r.un; omega⟩
theorem Room.deeper {k : Nat} {A : Around} (r : Room (k + 1) A) (env : Env) : Room k (A.deeper env) :=
  ⟨r.hd, by have := r.dp; show A.depth + 1 + 3 * k + 5 < _; omega, by have := r.un; show A.units + 3 + 16 * k + 200 < _; omega⟩
theorem make_depth {A : Around} {C : Addr} {us : List Value} {kw : List (Str × Value)} : (A.under (.builtin "type.__call__" ⟨.ref C :: us, kw⟩)).depth = A.depth + 1 := by
  first | rfl | simp [Around.under, Code.weight, Code.isCreation, Code.isGuard, Code.isCaller, Code.frames, Code.isFrame, guardIds]
theorem make_units {A : Around} {C : Addr} {us : List Value} {kw : List (Str × Value)} : (A.under (.builtin "type.__call__" ⟨.ref C :: us, kw⟩)).units = A.units + 1 := by
  first | rfl | simp [Around.under, Code.cUnits, Code.frames, Code.isFrame]
theorem Room.make {k : Nat} {A : Around} (r : Room (k + 1) A) (C : Addr) (us : List Value) (kw : List (Str × Value)) : Room k (A.under (.builtin "type.__call__" ⟨.ref C :: us, kw⟩)) :=
  ⟨r.hd, by have := r.dp; rw [make_depth]; omega, by have := r.un; rw [make_units]; omega⟩
theorem Room.depth {k : Nat} {A : Around} (r : Room k A) : A.depth < recursionLimit := by have := r.dp; omega
theorem Room.units {k : Nat} {A : Around} (r : Room k A) : A.units + 64 < cLine := by have := r.un; omega

/-! ### argument lists and displays -/
def tNil : TA := fun _ H Q => Q [] H
def tCons (ta : TE) (tr : TA) : TA := fun σ H Q => ta σ H fun x H1 => tr σ H1 fun xs H2 => Q (x :: xs) H2
section
variable {X : Cx} {e : Expr} {es : List Expr} {te : TE} {t : TA} {pos : Pos}
theorem pa_nil : PA X [] tNil := fun _ _ _ _ H Q I h => Calls.spliced_nil ⟨[], H, I, .nil, h⟩
theorem pa_cons (ha : PE X e te) (hr : PA X es t) (hs : starEach (e :: es) X.env = (false, eval e X.env) :: starEach es X.env := by rfl) : PA X (e :: es) (tCons te t) := by
  intro pos pins s σ H Q I h
  rw [hs]
  show wpAny _ _ (spliced ((false, eval e X.env) :: backTo pos (starEach es X.env))) _ _ s
  refine Calls.spliced_cons (thn (ha pins s σ H _ I h) fun u s1 ⟨x, H1, I1, r1, q1⟩ => ?_)
  exact thn (hr pos pins s1 σ H1 _ I1 q1) fun us s2 ⟨xs, H2, I2, r2, q2⟩ => ⟨x :: xs, H2, I2, .cons r1 r2, q2⟩

/-- a tuple, a list of written items -/
def tTup (t : TA) : TE := fun σ H Q => t σ H fun xs H1 => xs.length ≤ sizeLine ∧ ∀ p, H1 p = none → Q (.ref p) (upd H1 p (.tup xs))
def tLst (t : TA) : TE := fun σ H Q => t σ H fun xs H1 => xs.length ≤ sizeLine ∧ ∀ p, H1 p = none → Q (.ref p) (upd H1 p (.lst xs))
theorem pe_tup {x1} (h : PA X es t) : PE X (.Tuple es x1 pos) (tTup t) := by
  intro pins s σ H Q I hq
  refine wpAny_Tuple_spliced (thn (h pos pins s σ H _ I hq) fun us s1 ⟨xs, H1, I1, r, z, q⟩ => ⟨by rw [← r.length]; exact z, ?_⟩)
  have hf : H1 s1.heap.objs.size = none := I1.hok.fresh (Nat.le_refl _)
  refine ⟨.ref s1.heap.objs.size, upd H1 s1.heap.objs.size (.tup xs), I1.laid (t' := s1.toks) (fun b u e => Heap.get?_push_of_some _ e) (Nat.le_refl _) ?_, rfl, q _ hf⟩
  exact ⟨z, us, r, ⟨_, Heap.get?_push_size _ rfl, rfl, _, rfl⟩⟩
theorem pe_lst (h : PA X es t) : PE X (.List es pos) (tLst t) := by
  intro pins s σ H Q I hq
  refine wpAny_List_spliced (thn (h pos pins s σ H _ I hq) fun us s1 ⟨xs, H1, I1, r, z, q⟩ => ⟨by rw [← r.length]; exact z, ?_⟩)
  have hf : H1 s1.heap.objs.size = none := I1.hok.fresh (Nat.le_refl _)
  refine ⟨.ref s1.heap.objs.size, upd H1 s1.heap.objs.size (.lst xs), I1.laid (t' := s1.toks) (fun b u e => Heap.get?_push_of_some _ e) (Nat.le_refl _) ?_, rfl, q _ hf⟩
  exact ⟨z, us, 0, r, Heap.get?_push_size _ rfl⟩
end

/-! ### what a def promises -/
/-- a def's promise: the bound arguments in the parameters' order, the heap, the wanted end, the wanted exception -/
abbrev Sp := List V → Hp → VK → XK → Prop
/-- how an exception lies behind a call (file 08 gives it): the callers' frames, abstract heap and state ahead of the call, the wish, the exception, the state -/
abbrev CXT := List Env → Hp → Shared → XK → Value → Shared → Prop

/-- the state at a call -/
structure Env0 (P : Program) (w : World) (K : PySem.W.Frag) (mg : Str → Option Value) (base : Heap) (A : Around) (outer : List Env) (s : Shared) (H : Hp) : Prop where
  frames : A.frames = some outer
  mod : Mod K mg base
  bs : ∀ b o, base.get? b = some o → s.heap.get? b = some o ∧ H b = none
  bsz : base.objs.size ≤ s.heap.objs.size
  funs : s.heap.FunFrames base outer
  frf : ∀ b ∈ frs outer, H b = none
  hok : HOk P w H s.heap
  bare : AllBare s.gens
/-- a call's end -/
def CE (outer : List Env) (P : Program) (w : World) (H : Hp) (s : Shared) (Q : VK) (u : Value) (s' : Shared) : Prop :=
  ∃ v H', s'.os = s.os ∧ AllBare s'.gens ∧ Un (frs outer) [] H H' s.heap s'.heap ∧ HOk P w H' s'.heap ∧ RelV v u ∧ Q v H'
def CR (CX : CXT) (outer : List Env) (P : Program) (w : World) (H : Hp) (s : Shared) (Q : VK) (E : XK) (r : Result) (s' : Shared) : Prop :=
  match r with
  | .ok (.ret u) => CE outer P w H s Q u s'
  | .ok _ => False
  | .error e => CX outer H s E e s'
structure FnOk (P : Program) (w : World) (K : PySem.W.Frag) (mg : Str → Option Value) (base : Heap) (CX : CXT) (k : Nat) (f : Addr) (fd : FuncData) (ps : List Str) (sp : Sp) : Prop where
  len : ∀ vs H Q E, sp vs H Q E → vs.length = ps.length
  run : ∀ (A : Around) (outer : List Env) (s : Shared) (H : Hp) (args : Args) (us : List Value) (vs : List V) (Q : VK) (E : XK), Room k A → Env0 P w K mg base A outer s H → BindsTo s fd args (ps.zip us) → Vals vs us → sp vs H Q E →
    codeAny (model P w) A (.call (.ref f) args) (CR CX outer P w H s Q E) s

theorem Env0.make {P : Program} {w : World} {K : PySem.W.Frag} {mg : Str → Option Value} {base : Heap} {A : Around} {outer : List Env} {s : Shared} {H : Hp} (e : Env0 P w K mg base A outer s H) (C : Addr) (us : List Value) (kw : List (Str × Value)) :
    Env0 P w K mg base (A.under (.builtin "type.__call__" ⟨.ref C :: us, kw⟩)) outer s H := ⟨by first | exact e.frames | (simpa [Around.under, Code.envs, Code.isFrame, pushEnvs] using e.frames), e.mod, e.bs, e.bsz, e.funs, e.frf, e.hok, e.bare⟩

section
variable {X : Cx} {pins : List (Addr × Obj)} {σ : St} {H : Hp} {s s' : Shared}
/-- from a body: what a callee wants -/
theorem Inv.env0 (I : Inv X pins σ H s) : Env0 X.prog X.w X.K X.mg X.base X.A X.stack s H :=
  ⟨I.ok.frames, I.ok.mod, I.bs, Nat.le_trans I.ok.bsz I.sz, I.stack, I.stkFree, I.hok, I.bare⟩
/-- behind a call -/
theorem Inv.after {Q : VK} {u : Value} (I : Inv X pins σ H s) (h : CE X.stack X.prog X.w H s Q u s') : EP X pins σ Q u s' := by
  obtain ⟨v, H', os, bare, un, hok, r, q⟩ := h
  obtain ⟨hh, g, d, t, os'⟩ := s'
  obtain rfl : os' = s.os := os
  exact ⟨v, H', I.call (h' := hh) (g' := g) (d' := d) (t' := t) (ch := []) un hok bare (fun b z => absurd z (by simp)), r, q⟩
end

/-! ### calls -/
/-- f(..): the written arguments, then the defaults dvs; E: what is wanted of an exception -/
def tCall (sp : Sp) (dvs : List V) (E : XK) (t : TA) : TE := fun σ H Q => t σ H fun vs H1 => sp (vs ++ dvs) H1 Q E
/-- C(..): a new instance and its dict, then __init__ -/
def tMake (C : Addr) (sp : Sp) (dvs : List V) (E : XK) (t : TA) : TE := fun σ H Q => t σ H fun vs H1 => ∀ x dx, H1 x = none → H1 dx = none → dx ≠ x →
  sp (.ref x :: (vs ++ dvs)) (upd (upd H1 dx (.own x)) x (.ins C dx [])) (fun v H2 => v = .non ∧ Q (.ref x) H2) E

/-- how the parameters are bound: us the positional arguments, kw the keywords' values by name, ds the defaults that fill up -/
def Binds (K : PySem.W.Frag) (fd : FuncData) (ps : List Str) (ds : List Value) : Prop :=
  ∀ (s : Shared) (us : List Value), K.In s.heap → (us ++ ds).length = ps.length → BindsTo s fd ⟨us, []⟩ (ps.zip (us ++ ds))
/-- every parameter is given -/
theorem Binds.all {K : PySem.W.Frag} {fd : FuncData} {ps : List Str} (h : ∀ us : List Value, us.length = ps.length → bindArgs fd ⟨us, []⟩ = pure (ps.zip us)) : Binds K fd ps [] := fun s us _ hl => by
  rw [List.append_nil] at hl ⊢
  exact .of_eq (h us hl)

/-- an exception of a callee reaches what this body wants of exceptions -/
def Passes (CX : CXT) (X : Cx) (E : XK) : Prop := ∀ (pins : List (Addr × Obj)) (σ : St) (H : Hp) (s : Shared) (e : Value) (s' : Shared), Inv X pins σ H s → CX X.stack H s E e s' → X.xe e s'

section
variable {X : Cx} {CX : CXT} {k : Nat} {f C : Addr} {fd : FuncData} {ps : List Str} {sp : Sp} {dvs : List V} {ds : List Value} {E : XK} {x m : Str} {p pos apos : Pos} {e o : Expr} {es : List Expr} {ta : TE} {t : TA}

/-- the callee runs -/
theorem run_fn {pins : List (Addr × Obj)} {σ : St} {H : Hp} {s : Shared} {Q : VK} {us : List Value} {vs : List V} (F : FnOk X.prog X.w X.K X.mg X.base CX k f fd ps sp) (hr : Room k X.A) (hb : Binds X.K fd ps ds) (hd : Vals dvs ds) (hx : Passes CX X E)
    (I : Inv X pins σ H s) (r : Vals vs us) (h : sp (vs ++ dvs) H Q E) : wpAny (model X.prog X.w) X.A (call (.ref f) us) (EP X pins σ Q) X.xe s := by
  have r2 : Vals (vs ++ dvs) (us ++ ds) := r.append hd
  have hl : (us ++ ds).length = ps.length := by rw [← r2.length]; exact F.len _ _ _ _ h
  refine wpAny_call (codeAny_mono (F.run X.A X.stack s H ⟨us, []⟩ (us ++ ds) (vs ++ dvs) Q E hr I.env0 (hb s us I.kIn hl) r2 h) fun r s' hq => ?_)
  cases r with
  | error e => exact hx pins σ H s e s' I hq
  | ok fl =>
    cases fl with
    | ret u => exact I.after hq
    | next => exact False.elim hq
    | brk => exact False.elim hq
    | cont => exact False.elim hq

theorem pe_call (F : FnOk X.prog X.w X.K X.mg X.base CX k f fd ps sp) (hr : Room k X.A) (hg : Gl X x) (hm : X.mg x = some (.ref f)) (hk : PySem.W.keepIn X.K (.ref f) = true) (hb : Binds X.K fd ps ds) (hd : Vals dvs ds) (hx : Passes CX X E)
    (ha : PA X (e :: es) t) (hdb : (x == ("__debug__" : Str)) = false := by decide) (he : starEach (e :: es) X.env = (false, eval e X.env) :: starEach es X.env := by rfl) (hpl : (backTo pos (starEach es X.env)).any (·.1) = false := by rfl) :
    PE X (.Call (.Name x p) (e :: es) [] pos) (tCall sp dvs E t) := by
  intro pins s σ H Q I h
  refine wpAny_Call_Name_kw (ld_glob I hg hm ?_ hdb)
  refine PySem.W.callWith_K (h₀ := X.base) I.ok.mod.kin hk (thn (ha pos pins s σ H _ I h) fun us s1 ⟨vs, H1, I1, r, q⟩ => ⟨I1.kIn, ?_⟩) he hpl
  exact run_fn F hr hb hd hx I1 r q


/-- what a class must have to be made -/
structure Mk (K : PySem.W.Frag) (C f : Addr) : Prop where
  makes : PySem.W.makesIn K C = true
  init : PySem.W.findIn K (.ref C) "__init__" = some (some (.ref f))
  fn : PySem.W.isFn K (.ref f) = true
  kp : PySem.W.keepIn K (.ref C) = true

theorem run_make {pins : List (Addr × Obj)} {σ : St} {H : Hp} {s : Shared} {Q : VK} {us : List Value} {vs : List V} (M : Mk X.K C f) (F : FnOk X.prog X.w X.K X.mg X.base CX k f fd ps sp) (hr : Room (k + 1) X.A) (hb : Binds X.K fd ps ds) (hd : Vals dvs ds)
    (hx : Passes CX X E) (I : Inv X pins σ H s) (r : Vals vs us)
    (h : ∀ x dx, H x = none → H dx = none → dx ≠ x → sp (.ref x :: (vs ++ dvs)) (upd (upd H dx (.own x)) x (.ins C dx [])) (fun v H2 => v = .non ∧ Q (.ref x) H2) E) :
    wpAny (model X.prog X.w) X.A (call (.ref C) us) (EP X pins σ Q) X.xe s := by
  have hq := h (s.heap.objs.size + 1) s.heap.objs.size (I.hok.fresh (Nat.le_succ _)) (I.hok.fresh (Nat.le_refl _)) (Nat.ne_of_lt (Nat.lt_succ_self _))
  have I2 := Inv.made (C := C) I
  have r2 : Vals (V.ref (s.heap.objs.size + 1) :: (vs ++ dvs)) (Value.ref (s.heap.objs.size + 1) :: (us ++ ds)) := .cons rfl (r.append hd)
  have hl : (Value.ref (s.heap.objs.size + 1) :: us ++ ds).length = ps.length := by
    have e := r2.length
    rw [F.len _ _ _ _ hq] at e
    exact e.symm
  refine wpAny_call (make_map (f := f) I.kIn M.makes M.init (beq_iff_eq.mp M.fn) (codeAny_mono (F.run _ X.stack _ _ ⟨Value.ref (s.heap.objs.size + 1) :: us, []⟩ (Value.ref (s.heap.objs.size + 1) :: (us ++ ds)) _ _ E (hr.make C us [])
    (I2.env0.make C us []) (hb _ (Value.ref (s.heap.objs.size + 1) :: us) I2.kIn hl) r2 hq) fun r s' hq' => ?_))
  cases r with
  | error e => exact hx pins σ _ _ e s' I2 hq'
  | ok fl =>
    cases fl with
    | ret u =>
      obtain ⟨v, H', I3, rv, ev, q3⟩ := I2.after hq'
      subst ev
      exact ⟨rv, ⟨V.ref (s.heap.objs.size + 1), H', I3, rfl, q3⟩⟩
    | next => exact False.elim hq'
    | brk => exact False.elim hq'
    | cont => exact False.elim hq'
theorem pe_make (M : Mk X.K C f) (F : FnOk X.prog X.w X.K X.mg X.base CX k f fd ps sp) (hr : Room (k + 1) X.A) (hg : Gl X x) (hm : X.mg x = some (.ref C)) (hb : Binds X.K fd ps ds) (hd : Vals dvs ds) (hx : Passes CX X E)
    (ha : PA X (e :: es) t) (hdb : (x == ("__debug__" : Str)) = false := by decide) (he : starEach (e :: es) X.env = (false, eval e X.env) :: starEach es X.env := by rfl) (hpl : (backTo pos (starEach es X.env)).any (·.1) = false := by rfl) :
    PE X (.Call (.Name x p) (e :: es) [] pos) (tMake C sp dvs E t) := by
  intro pins s σ H Q I h
  refine wpAny_Call_Name_kw (ld_glob I hg hm ?_ hdb)
  refine PySem.W.callWith_K (h₀ := X.base) I.ok.mod.kin M.kp (thn (ha pos pins s σ H _ I h) fun us s1 ⟨vs, H1, I1, r, q⟩ => ⟨I1.kIn, ?_⟩) he hpl
  exact run_make M F hr hb hd hx I1 r q
end

/-! ### keywords -/
section
variable {X : Cx} {CX : CXT} {k : Nat} {f C : Addr} {fd : FuncData} {ps ks : List Str} {sp : Sp} {E : XK} {x m : Str} {p pos apos kpos : Pos} {e o : Expr} {es : List Expr} {kws : List Keyword} {te ta : TE} {t tk : TA} {nm : Option Str}

variable {g : List Value → List Value → List Value} {gV : List V → List V → List V}
end

/-! ### a def's body keeps its promise -/
/-- names: the parameters first -/
structure FnScope (N P : List Str) (sc : Scope) : Prop where
  kind : sc.kind = .function
  co : sc.isCoroutine = false
  gen : sc.isGenerator = false
  nd : N.Nodup
  pre : N.take P.length = P
  par : ∀ x ∈ P, sc.names.lookup x = some .local ∨ sc.names.lookup x = some .cell
  nofree : ∀ y ∈ sc.names, y.2 ≠ .free

theorem bindL_out {kindOf : Str → Option NameKind} {x : Str} : ∀ {binds : List (Str × Value)} {m : Str → Option Value}, (∀ v, (x, v) ∉ binds) → bindL kindOf binds m x = m x
  | [], _, _ => rfl
  | (n, v) :: r, m, h => by
    unfold bindL
    rw [bindL_out fun w hw => h w (List.mem_cons_of_mem _ hw)]
    split
    · have : x ≠ n := by rintro rfl; exact h v List.mem_cons_self
      simp [this]
    · rfl
theorem bindC_out {kindOf : Str → Option NameKind} {x : Str} : ∀ {binds : List (Str × Value)} {m : Str → Option Value}, (∀ v, (x, v) ∉ binds) → bindC kindOf binds m x = m x
  | [], _, _ => rfl
  | (n, v) :: r, m, h => by
    unfold bindC
    rw [bindC_out fun w hw => h w (List.mem_cons_of_mem _ hw)]
    split
    · rfl
    · have : x ≠ n := by rintro rfl; exact h v List.mem_cons_self
      simp [this]
theorem bindL_get {kindOf : Str → Option NameKind} {x : Str} {v : Value} : ∀ {P : List Str} {vs : List Value} {i : Nat} {m : Str → Option Value}, P.Nodup → P[i]? = some x → vs[i]? = some v → kindOf x = some .local →
    bindL kindOf (P.zip vs) m x = some v
  | [], _, _, _, _, h, _, _ => by simp at h
  | _ :: _, [], _, _, _, _, h, _ => by simp at h
  | p :: P, w :: vs, 0, m, nd, h1, h2, hk => by
    simp at h1 h2; subst h1; subst h2
    show bindL kindOf ((p, w) :: P.zip vs) m p = _
    unfold bindL
    rw [bindL_out fun v hv => (List.nodup_cons.mp nd).1 (List.of_mem_zip hv).1, if_pos hk]
    simp
  | p :: P, w :: vs, i + 1, m, nd, h1, h2, hk => by
    show bindL kindOf ((p, w) :: P.zip vs) m x = _
    unfold bindL
    exact bindL_get (i := i) (List.nodup_cons.mp nd).2 (by simpa using h1) (by simpa using h2) hk
theorem bindC_get {kindOf : Str → Option NameKind} {x : Str} {v : Value} : ∀ {P : List Str} {vs : List Value} {i : Nat} {m : Str → Option Value}, P.Nodup → P[i]? = some x → vs[i]? = some v → kindOf x ≠ some .local →
    bindC kindOf (P.zip vs) m x = some v
  | [], _, _, _, _, h, _, _ => by simp at h
  | _ :: _, [], _, _, _, _, h, _ => by simp at h
  | p :: P, w :: vs, 0, m, nd, h1, h2, hk => by
    simp at h1 h2; subst h1; subst h2
    show bindC kindOf ((p, w) :: P.zip vs) m p = _
    unfold bindC
    rw [bindC_out fun v hv => (List.nodup_cons.mp nd).1 (List.of_mem_zip hv).1, if_neg hk]
    simp
  | p :: P, w :: vs, i + 1, m, nd, h1, h2, hk => by
    show bindC kindOf ((p, w) :: P.zip vs) m x = _
    unfold bindC
    exact bindC_get (i := i) (List.nodup_cons.mp nd).2 (by simpa using h1) (by simpa using h2) hk

/-- the names' values at the entry -/
def start (N : List Str) (vs : List V) : St := vs.map some ++ List.replicate (N.length - vs.length) none

/-- the context of a def's body, at its entry; an exception leaves the frame, then lies as CX says -/
def cxOf (CX : CXT) (P : Program) (w : World) (K : PySem.W.Frag) (mg : Str → Option Value) (base : Heap) (N : List Str) (qual : Str) (scope : Scope) (f : Addr) (cd : Value) (A : Around) (outer : List Env) (s : Shared) (H : Hp) (E : XK) : Cx where
  prog := P
  w := w
  K := K
  mg := mg
  base := base
  A := A.deeper (envOfC qual scope s.heap.objs.size f cd)
  N := N
  s₀ := s
  H₀ := H
  env := envOfC qual scope s.heap.objs.size f cd
  outer := outer
  stack := envOfC qual scope s.heap.objs.size f cd :: outer
  ex := []
  calm := true
  fn := fun _ => true
  pn := []
  xe := fun e s' => wpAny (model P w) (A.deeper (envOfC qual scope s.heap.objs.size f cd)) (leaving (envOfC qual scope s.heap.objs.size f cd) e) (fun _ s'' => CX outer H s E e s'') (fun e' s'' => CX outer H s E e' s'') s'

theorem cell_has {sc : Scope} {n : Nat} {x : Str} (h : sc.names.lookup x = some .cell) : ∃ c, (cellsFrom n sc.names []).lookup x = some c := by
  have q := PySem.W.cellsFrom_some sc.names n [] (.inl h)
  exact Option.isSome_iff_exists.mp q

theorem inv_start {CX : CXT} {P : Program} {w : World} {K : PySem.W.Frag} {mg : Str → Option Value} {base : Heap} {N ps : List Str} {qual : Str} {scope : Scope} {f : Addr} {cd : Value} {A : Around} {outer : List Env} {s s1 : Shared} {H : Hp} {E : XK} {us : List Value} {vs : List V}
    (S : FnScope N ps scope) (hd : A.handled = none) (e0 : Env0 P w K mg base A outer s H) (hl : vs.length = ps.length) (r : Vals vs us)
    (x : InCallC s s.heap.objs.size (bindL (envOfC qual scope s.heap.objs.size f cd).kindOf (ps.zip us) fun _ => none) (cellsFrom (s.heap.objs.size + 1) scope.names []) (bindC (envOfC qual scope s.heap.objs.size f cd).kindOf (ps.zip us) fun _ => none) s1) :
    Inv (cxOf CX P w K mg base N qual scope f cd A outer s H E) [] (start N vs) H s1 := by
  have hpl : ps.length ≤ N.length := by have := congrArg List.length S.pre; rw [List.length_take] at this; omega
  obtain ⟨h1, tk, rfl, hk⟩ := x.done
  have noA : ∀ b : Addr, b ∉ (cxOf CX P w K mg base N qual scope f cd A outer s H E).ex := fun b z => absurd (show b ∈ ([] : List Addr) from z) (by simp)
  refine ⟨⟨e0.mod, S.kind, rfl, rfl, Nat.le_refl _, fun y z c h1 h2 => ?_, fun y hy => ?_, fun y c _ h => ?_, fun _ => hd, Around.frames_deeper e0.frames, .inr ⟨rfl, rfl⟩, fun b z => absurd z (noA b), e0.bs, e0.bsz, fun b _ _ => noA b, fun b z => absurd z (noA b), e0.funs, e0.frf⟩,
    rfl, e0.bare, Un.kept hk, ⟨_, x.toInCall.ns, fun i y v h1 h2 h3 => ?_⟩, fun y c h => ⟨_, x.cell y c h⟩, e0.hok.fresh (Nat.le_refl _), fun y c h => ?_, fun p hp => absurd (show p ∈ ([] : List (Addr × Obj)) from hp) (by simp), e0.hok.kept hk, ?_⟩
  · exact name_of_addr x.apart (PySem.mem_of_lookup h1) (PySem.mem_of_lookup h2)
  · have hy : scope.names.lookup y = some .cell ∨ scope.names.lookup y = some .free := hy
    rcases hy with hy | hy
    · exact cell_has hy
    · exact absurd rfl (S.nofree _ (PySem.mem_of_lookup hy))
  · exact Nat.le_of_lt (x.above y c (PySem.mem_of_lookup h))
  · have hi : i < vs.length := by
      unfold start at h2
      by_cases hi : i < vs.length
      · exact hi
      · rw [List.getElem?_append_right (by simpa using hi)] at h2
        rw [List.getElem?_replicate] at h2
        split at h2 <;> cases h2
    have ha : vs[i]? = some v := by
      unfold start at h2
      rw [List.getElem?_append_left (by simpa using hi), List.getElem?_map] at h2
      cases e : vs[i]? with
      | none => rw [e] at h2; cases h2
      | some a => rw [e] at h2; cases h2; rfl
    obtain ⟨u, hu, rv⟩ := r.get ha
    have hp : ps[i]? = some y := by
      rw [← S.pre, List.getElem?_take_of_lt (by omega)]; exact h1
    have ndP : ps.Nodup := by rw [← S.pre]; exact S.nd.sublist (List.take_sublist _ _)
    refine ⟨u, rv, ?_⟩
    rcases S.par y (List.mem_of_getElem? hp) with k | k
    · exact .inl ⟨k, bindL_get ndP hp hu k⟩
    · obtain ⟨c, e⟩ := cell_has (n := s.heap.objs.size + 1) k
      refine .inr ⟨.inl k, c, e, ?_⟩
      have q := x.cell y c e
      rw [bindC_get ndP hp hu (by show scope.names.lookup y ≠ _; rw [k]; decide)] at q
      exact q
  · exact e0.hok.fresh (Nat.le_of_lt (x.above y c (PySem.mem_of_lookup h)))
  · unfold start
    show _ = N.length
    rw [List.length_append, List.length_map, List.length_replicate]
    omega

/-- THE RULE: a def (or a method) of the text, by its body. The body's reading t is chosen for each entry; it is run at the parameters' values -/
theorem fn_of {CX : CXT} {P : Program} {w : World} {K : PySem.W.Frag} {mg : Str → Option Value} {base : Heap} {k : Nat} {f : Addr} {name qual : Str} {params : Arguments} {body : List Stmt} {scope : Scope} {dV kV doc pm cdv ct oc : Value} {an od : Option Addr}
    {osl : Array (Option Value)} {N ps : List Str} {sp : Sp} (lk : K.lookup f = some ⟨oc, od, .func (PySem.W.fnOf name qual params body scope dV kV doc pm an cdv ct), osl⟩) (hcd : PySem.W.codeIn K cdv qual = true) (S : FnScope N ps scope)
    (len : ∀ vs H Q E, sp vs H Q E → vs.length = ps.length)
    (hbody : ∀ (A : Around) (outer : List Env) (s : Shared) (H : Hp) (vs : List V) (Q : VK) (E : XK), Room k (A.deeper (envOfC qual scope s.heap.objs.size f cdv)) → sp vs H Q E →
      ∃ t, PSs (cxOf CX P w K mg base N qual scope f cdv A outer s H E) body t ∧ t { nx := fun _ H' => Q .non H', rt := Q } (start N vs) H) :
    FnOk P w K mg base CX (k + 1) f (PySem.W.fnOf name qual params body scope dV kV doc pm an cdv ct) ps sp := by
  refine ⟨len, fun A outer s H args us vs Q E hr e0 hb r hsp => ?_⟩
  have hl := len _ _ _ _ hsp
  have KX : K.In s.heap := e0.mod.kin.keeps fun b o e => (e0.bs b o e).1
  have lim : s.heap.NoLimit := e0.mod.nolimit.keeps fun b o e => (e0.bs b o e).1
  have hkind : ∀ y ∈ ps.zip us, scope.names.lookup y.1 = some .local ∨ (scope.names.lookup y.1 = some .cell ∧ ((cellsFrom (s.heap.objs.size + 1) scope.names []).lookup y.1).isSome = true) := fun ⟨n, v⟩ hy => by
    rcases S.par n (List.of_mem_zip hy).1 with q | q
    · exact .inl q
    · exact .inr ⟨q, PySem.W.cellsFrom_some _ _ _ (.inl q)⟩
  refine codeAny_call_function hr.depth (KX _ _ lk) rfl S.co S.gen rfl (PySem.W.codeRec_of KX hcd) (hb _ _ _ _ ?_)
  refine wpAny_newFunctionEnv_cells S.kind hkind fun env he s1 x => ?_
  subst he
  refine ⟨lim.keeps x.toInCall.keep, codeAny_func ?_⟩
  obtain ⟨t, ht, hq⟩ := hbody A outer s H vs Q E (hr.deeper _) hsp
  have I : Inv (cxOf CX P w K mg base N qual scope f cdv A outer s H E) [] (start N vs) H s1 := inv_start S hr.hd e0 hl r x
  refine wpAny_mono (ht [] s1 (start N vs) H _ I hq) (fun fl s' hs => ?_) fun e s' hs => hs
  have fin : ∀ {σ' : St} {H' : Hp} {v : V} {u : Value}, Inv (cxOf CX P w K mg base N qual scope f cdv A outer s H E) [] σ' H' s' → RelV v u → Q v H' → CE outer P w H s Q u s' :=
    fun {σ' H' v u} J rv q => ⟨v, H', J.os, J.bare, J.base, J.hok, rv, q⟩
  cases fl with
  | ret u =>
    obtain ⟨v, σ', H', J, rv, q⟩ := hs
    exact fin J rv q
  | next =>
    obtain ⟨σ', H', J, q⟩ := hs
    exact fin (v := V.non) (u := Value.none) J rfl q
  | brk =>
    obtain ⟨_, _, _, q⟩ := hs
    exact False.elim q
  | cont =>
    obtain ⟨_, _, _, q⟩ := hs
    exact False.elim q
end L2

namespace L2
open PySem PySem.Spec PyProof.Rows
section
variable {X : Cx} {x : Str} {p pos : Pos} {e : Expr} {es : List Expr} {t : TA} {id T : String} {r : List V → Hp → VK → Prop}

def tCB (r : List V → Hp → VK → Prop) (t : TA) : TE := fun σ H Q => t σ H fun vs H1 => r vs H1 Q
/-- f(e, ..), f a built-in function -/
theorem pe_callB (hc : CallR X (.builtin id) r) (hg : Gl X x) (hm : X.mg x = none) (hv : bootBuiltins x = some (.builtin id)) (ha : PA X (e :: es) t) (hn : x ≠ "__name__" := by decide) (hdb : (x == ("__debug__" : Str)) = false := by decide)
    (he : starEach (e :: es) X.env = (false, eval e X.env) :: starEach es X.env := by rfl) (hpl : (backTo pos (starEach es X.env)).any (·.1) = false := by rfl) : PE X (.Call (.Name x p) (e :: es) [] pos) (tCB r t) := by
  intro pins s σ H Q I h
  refine wpAny_Call_Name_kw (ld_blt I hg hm hv ?_ hn hdb)
  exact PyProof.Rows.callWith_builtin1 (thn (ha pos pins s σ H _ I h) fun us s1 ⟨vs, H1, I1, r1, q1⟩ => hc pins s1 σ H1 vs us Q I1 r1 q1) he hpl
/-- T(e, ..), T a built-in type -/
theorem pe_callTy (hc : CallR X (.type T) r) (hg : Gl X x) (hm : X.mg x = none) (hv : bootBuiltins x = some (.type T)) (ha : PA X (e :: es) t) (hn : x ≠ "__name__" := by decide) (hdb : (x == ("__debug__" : Str)) = false := by decide)
    (he : starEach (e :: es) X.env = (false, eval e X.env) :: starEach es X.env := by rfl) (hpl : (backTo pos (starEach es X.env)).any (·.1) = false := by rfl) : PE X (.Call (.Name x p) (e :: es) [] pos) (tCB r t) := by
  intro pins s σ H Q I h
  refine wpAny_Call_Name_kw (ld_blt I hg hm hv ?_ hn hdb)
  exact PyProof.Rows.callWith_type1 (thn (ha pos pins s σ H _ I h) fun us s1 ⟨vs, H1, I1, r1, q1⟩ => hc pins s1 σ H1 vs us Q I1 r1 q1) he hpl
end
end L2

namespace HT
open PySem PyProof.Rows



section
open PySem.SeqAt
open PySem.AutoSeq1 (wpAny_loadPart')
open PySem.MeetsSeq PySem.MeetsSeq2 PySem.MeetsSeq3

end

section
variable {prog : Program} {w : World} {A : Around} {E : Value → Shared → Prop} {s : Shared}


/-- t + u, t not empty -/
theorem cat_tup {t b : Addr} {vs ws : List Value} {Q : Value → Shared → Prop} (ht : IsTup s.heap t vs.toArray) (hb : IsTup s.heap b ws.toArray) (hv : vs ≠ [])
    (h1 : ws = [] → Q (.ref t) s) (h2 : ws ≠ [] → Q (.ref s.heap.objs.size) { s with heap := s.heap.push { cls := .type "tuple", data := .seq (vs ++ ws).toArray } })
    (hsz : vs.length + ws.length ≤ sizeLine) : wpAny (model prog w) A (binaryOp .Add (.ref t) (.ref b)) Q E s := by
  obtain ⟨⟨cls, dd, data, sl⟩, ho, hc, n, hd⟩ := id ht
  obtain ⟨⟨cls2, dd2, data2, sl2⟩, ho2, hc2, n2, hd2⟩ := id hb
  simp only at hc hd hc2 hd2
  subst hc hd hc2 hd2
  have e : vs.toArray ++ ws.toArray = (vs ++ ws).toArray := by simp
  by_cases hw : ws = []
  · exact concat_meets ⟨_, ho, rfl⟩ ⟨_, ho2, rfl⟩ noFill_tuple_add seq_tuple_add PySem.F.slot_tuple_add PySem.F.entry_tuple_add (PySem.F.args_tuple_add_2 _ _)
      (tuple_addW1 t b vs.toArray ws.toArray n n2 dd dd2 sl sl2 (by simpa using hv) (by simp [hw])) ⟨ho, ho2, h1 hw⟩
  · refine concat_meets ⟨_, ho, rfl⟩ ⟨_, ho2, rfl⟩ noFill_tuple_add seq_tuple_add PySem.F.slot_tuple_add PySem.F.entry_tuple_add (PySem.F.args_tuple_add_2 _ _)
      (tuple_addW2 t b vs.toArray ws.toArray n n2 dd dd2 sl sl2 (by simpa using hv) (by simpa using hw) (by rw [List.size_toArray, List.size_toArray]; exact hsz)) ⟨ho, ho2, ?_⟩
    rw [e]
    exact h2 hw

/-! ### t[a:b], not the whole -/
/-- a slice's bound as a place among n (d where it is left out) -/
def sIx (n d : Nat) : Option Int → Nat
  | none => d
  | some v => if v < 0 then (v + (n : Int)).toNat else min v.toNat n
theorem sIx_none (n d : Nat) : sIx n d none = d := rfl
theorem sIx_le (n d : Nat) (hd : d ≤ n) (o : Option Int) : sIx n d o ≤ n := by
  cases o with
  | none => exact hd
  | some v =>
    show (if v < 0 then (v + (n : Int)).toNat else min v.toNat n) ≤ n
    by_cases hv : v < 0
    · rw [if_pos hv]; omega
    · rw [if_neg hv]; exact Nat.min_le_right _ _
theorem clip_eq (v : Int) (n d : Nat) : (if v < 0 then max (v + (n : Int)) 0 else min v (n : Int)) = ((sIx n d (some v) : Nat) : Int) := by
  show (if v < 0 then max (v + (n : Int)) 0 else min v (n : Int)) = (((if v < 0 then (v + (n : Int)).toNat else min v.toNat n) : Nat) : Int)
  by_cases hv : v < 0
  · simp only [if_pos hv]; omega
  · simp only [if_neg hv]; omega
theorem adjust_gen (lo hi : Option Int) (n : Nat) : Builtin.Slice.sliceAdjust lo hi 1 (n : Int) = (((sIx n 0 lo : Nat) : Int), ((sIx n n hi : Nat) : Int)) := by
  have h1 : ¬ ((1 : Int) < 0) := by omega
  unfold Builtin.Slice.sliceAdjust
  simp only [h1, if_false]
  refine Prod.ext ?_ ?_
  · cases lo with
    | none => rfl
    | some v => exact clip_eq v n 0
  · cases hi with
    | none => rfl
    | some v => exact clip_eq v n n
theorem places_gen (i j : Nat) : Builtin.Slice.slicePlaces (i : Int) (j : Int) 1 = j - i := by
  unfold Builtin.Slice.slicePlaces
  have h1 : (1 : Int) > 0 := by omega
  simp only [h1, if_true, Int.ediv_one]
  split <;> omega
theorem slicePart_ {v : Value} {o : Option Int} {Q : Option Int → Shared → Prop} (p : IsPart v o) (h : Q o s) : wpAny (model prog w) A (Builtin.Slice.slicePartIndex v) Q E s := by
  cases p with
  | none => exact slicePart_none h
  | int i t => exact slicePart_int h
theorem sliceApplied_gen {sl : Addr} {vl vu : Value} {lo hi : Option Int} {n : Nat} {Q : Int × Int × Nat → Shared → Prop} (hs : s.heap.IsSliceOf sl vl vu .none) (pl : IsPart vl lo) (pu : IsPart vu hi)
    (h : Q (((sIx n 0 lo : Nat) : Int), 1, sIx n n hi - sIx n 0 lo) s) : wpAny (model prog w) A (Builtin.Slice.sliceApplied (.ref sl) (pure (n : Int))) Q E s := by
  obtain ⟨os, hos, hcs, hds⟩ := id hs
  unfold Builtin.Slice.sliceApplied Builtin.Slice.sliceFields
  refine wpAny_bind (wpAny_bind (wpAny_field hos hds (x := vl) rfl (wpAny_bind (wpAny_field hos hds (x := vu) rfl (wpAny_bind (wpAny_field hos hds (x := .none) rfl (wpAny_pure ?_)))))))
  refine wpAny_bind (slicePart_none ?_)
  show wpAny _ _ (if ((1 : Int) == 0) = true then _ else _) _ _ s
  rw [if_neg (by decide)]
  refine wpAny_bind (slicePart_ pl (wpAny_bind (slicePart_ pu (wpAny_bind (wpAny_pure ?_)))))
  show wpAny _ _ (match Builtin.Slice.sliceAdjust lo hi 1 (n : Int) with | (lo, hi) => pure (lo, (1 : Int), Builtin.Slice.slicePlaces lo hi 1)) _ _ s
  rw [adjust_gen lo hi n]
  show wpAny _ _ (pure (((sIx n 0 lo : Nat) : Int), (1 : Int), Builtin.Slice.slicePlaces ((sIx n 0 lo : Nat) : Int) ((sIx n n hi : Nat) : Int) 1)) _ _ s
  rw [places_gen]
  exact wpAny_pure h
theorem pick_gen (xs : Array Value) (i k : Nat) : ((List.range k).filterMap fun (m : Nat) => xs[((i : Int) + (m : Int) * 1).toNat]?).toArray = ((xs.toList.drop i).take k).toArray := by
  have e : (fun (m : Nat) => xs[((i : Int) + (m : Int) * 1).toNat]?) = fun m => xs[i + m]? := by
    funext m
    have : ((i : Int) + (m : Int) * 1).toNat = i + m := by omega
    rw [this]
  rw [e]
  have := pick_run xs i k
  rw [List.filterMap_map] at this
  have e2 : ((fun x => xs[x]?) ∘ fun x => i + x) = fun m => xs[i + m]? := rfl
  rw [e2] at this
  rw [this]

theorem getItem_tuple_cut {t sl : Addr} {items : Array Value} {vl vu : Value} {lo hi : Option Int} {Q : Value → Shared → Prop} (ht : IsTup s.heap t items) (hs : s.heap.IsSliceOf sl vl vu .none) (pl : IsPart vl lo) (pu : IsPart vu hi)
    (hw : ¬ (sIx items.size 0 lo = 0 ∧ sIx items.size items.size hi = items.size))
    (h : Q (.ref s.heap.objs.size) { s with heap := s.heap.push { cls := .type "tuple", data := .seq ((items.toList.drop (sIx items.size 0 lo)).take (sIx items.size items.size hi - sIx items.size 0 lo)).toArray } })
    (hsz : items.size ≤ sizeLine) : wpAny (model prog w) A (getItem (.ref t) (.ref sl)) Q E s := by
  have htake : sizeOk (.seq ((items.toList.drop (sIx items.size 0 lo)).take (sIx items.size items.size hi - sIx items.size 0 lo)).toArray) := by
    show ((items.toList.drop (sIx items.size 0 lo)).take (sIx items.size items.size hi - sIx items.size 0 lo)).toArray.size ≤ sizeLine
    rw [List.size_toArray, List.length_take, List.length_drop, Array.length_toList]
    omega
  have hj : sIx items.size items.size hi ≤ items.size := sIx_le _ _ (Nat.le_refl _) hi
  obtain ⟨os, hos, hcs, hds⟩ := id hs
  have hTs : s.TypeIs (.ref sl) "slice" := ⟨os, hos, hcs⟩
  unfold getItem
  try with_reducible refine wpAny_holding ?_
  first | refine wpAny_bind (wpAny_pure ?_) | skip
  refine wpAny_bind (wpAny_sequenceKey ht.typeIs (by decide) ?_)
  refine wpAny_bind (wpAny_callSpecial?_slot (name := Str.ofString "__getitem__") ht.typeIs PyProof.Rows.slot_tuple_getitem
    (wpAny_call_entry PyProof.Rows.slot_tuple_getitem ht.typeIs entry_tuple_getitem ?_ (args_tuple_getitem _ _)))
  show wpAny _ _ (Builtin.Tuple.tupleItemsOf (.ref t) >>= _) _ _ s
  refine wpAny_bind (tupleItemsOf_ ht ?_)
  refine wpAny_bind (wpAny_typeOf hTs ?_)
  rw [if_pos (by decide)]
  refine wpAny_bind (sliceApplied_gen hs pl pu ?_)
  have hno : ¬ ((((sIx items.size 0 lo : Nat) : Int) == 0 && (1 : Int) == 1 && (sIx items.size items.size hi - sIx items.size 0 lo) == items.size) = true) := by
    intro q
    rw [Bool.and_eq_true, Bool.and_eq_true] at q
    have q1 : ((sIx items.size 0 lo : Nat) : Int) = 0 := eq_of_beq q.1.1
    have q2 : sIx items.size items.size hi - sIx items.size 0 lo = items.size := eq_of_beq q.2
    exact hw ⟨by omega, by omega⟩
  show wpAny _ _ (if (((sIx items.size 0 lo : Nat) : Int) == 0 && (1 : Int) == 1 && (sIx items.size items.size hi - sIx items.size 0 lo) == items.size) = true then _ else _) _ _ s
  rw [if_neg hno, pick_gen]
  first
    | exact wpAny_bind (m := Builtin.Tuple.tupleExact _) (wpAny_newObj_type (wpAny_pure ⟨_, rfl, wpAny_pure h⟩) htake)
    | exact wpAny_bind (m := Builtin.Tuple.tupleExact _) (wpAny_newObj_type (wpAny_bind (wpAny_pure (wpAny_pure ⟨_, rfl, wpAny_pure h⟩))) htake)
    | exact wpAny_bind (wpAny_bind (m := Builtin.Tuple.tupleExact _) (wpAny_newObj_type (wpAny_pure (wpAny_pure ⟨_, rfl, wpAny_pure h⟩)) htake))
    | exact wpAny_bind (wpAny_bind (m := Builtin.Tuple.tupleExact _) (wpAny_newObj_type (wpAny_pure ⟨_, rfl, wpAny_pure h⟩) htake))
end
end HT

namespace L2
open PySem PySem.Spec PyProof.Rows

/-! ### the parts of a slice -/
abbrev TO := St → Hp → (Option Int → Hp → Prop) → Prop
/-- a slice's part (left out, or an int) -/
def PO (X : Cx) (e : Option Expr) (t : TO) : Prop :=
  ∀ (pins : List (Addr × Obj)) (s : Shared) (σ : St) (H : Hp) (Q : Option Int → Hp → Prop), Inv X pins σ H s → t σ H Q →
    wpAny (model X.prog X.w) X.A (evalPart e X.env) (fun u s' => ∃ o H', Inv X pins σ H' s' ∧ IsPart u o ∧ Q o H') X.xe s
def tNoPart : TO := fun _ H Q => Q none H
def tPart (t : TE) : TO := fun σ H Q => t σ H fun x H1 => ∃ i, x = .int i ∧ Q (some i) H1


section
variable {X : Cx} {e : Expr} {te : TE} {lo hi : Option Expr} {tl th : TO} {pos p2 : Pos}

theorem po_none : PO X none tNoPart := by
  intro pins s σ H Q I h
  rw [evalPart_none]
  exact wpAny_pure ⟨none, H, I, .none, h⟩
theorem po_some (h : PE X e te) : PO X (some e) (tPart te) := by
  intro pins s σ H Q I hw
  rw [evalPart_some]
  refine thn (h pins s σ H _ I hw) fun u s1 ⟨x, H1, I1, r1, q1⟩ => ?_
  obtain ⟨i, rfl, q⟩ := q1
  obtain ⟨t, rfl⟩ := r1
  exact ⟨some i, H1, I1, .int i t, q⟩

/-- what a slice of a value is, by values: the slice object stands at sl -/
def SlR (X : Cx) (r : V → Option Int → Option Int → Hp → VK → Prop) : Prop :=
  ∀ (pins : List (Addr × Obj)) (s : Shared) (σ : St) (H : Hp) (x : V) (v vl vu : Value) (lo hi : Option Int) (sl : Addr) (Q : VK), Inv X pins σ H s → RelV x v → s.heap.IsSliceOf sl vl vu .none → IsPart vl lo → IsPart vu hi → r x lo hi H Q →
    ∃ T id, typeLookup (.type T) "__getitem__" = pure (some (.builtin id)) ∧ s.TypeIs v T ∧ wpAny (model X.prog X.w) X.A (getItem v (.ref sl)) (EP X pins σ Q) X.xe s
def tSl (r : V → Option Int → Option Int → Hp → VK → Prop) (te : TE) (tl th : TO) : TE := fun σ H Q => te σ H fun x H1 => tl σ H1 fun l H2 => th σ H2 fun u H3 => r x l u H3 Q
/-- a[lo:hi], any a -/
theorem pe_slice {r : V → Option Int → Option Int → Hp → VK → Prop} (hr : SlR X r) (he : PE X e te) (hl : PO X lo tl) (hu : PO X hi th) : PE X (.Subscript e (.Slice lo hi none p2) pos) (tSl r te tl th) := by
  intro pins s σ H Q I h
  refine Subscript_ (thn (he pins s σ H _ I h) fun v s1 ⟨x, H1, I1, r1, q1⟩ => ?_)
  refine wpAny_Slice (thn (hl pins s1 σ H1 _ I1 q1) fun vl s2 ⟨l, H2, I2, pl, q2⟩ => thn (hu pins s2 σ H2 _ I2 q2) fun vu s3 ⟨u, H3, I3, pu, q3⟩ => ?_)
  rw [evalPart_none]
  refine wpAny_pure ?_
  have I4 : Inv X pins σ H3 { s3 with heap := s3.heap.push { cls := .type "slice", data := .fields #[vl, vu, .none] } } := I3.kept (t' := s3.toks) fun b ob q => Heap.get?_push_of_some _ q
  obtain ⟨T, id, hT, ht, hg⟩ := hr pins { s3 with heap := s3.heap.push { cls := .type "slice", data := .fields #[vl, vu, .none] } } σ H3 x v vl vu l u s3.heap.objs.size Q I4 r1 (Heap.IsSliceOf.new ..) pl pu q3
  show wpAny (model X.prog X.w) X.A (subscriptTail e (.Slice lo hi none p2) v (.ref s3.heap.objs.size)) (EP X pins σ Q) X.xe { s3 with heap := s3.heap.push { cls := .type "slice", data := .fields #[vl, vu, .none] } }
  exact tail_any (ops := [.ref s3.heap.objs.size, v]) ht hT hg (by with_unfolding_all rfl)

/-- the items of xs[lo:hi] -/
def cutV (xs : List V) (lo hi : Option Int) : List V := (xs.drop (HT.sIx xs.length 0 lo)).take (HT.sIx xs.length xs.length hi - HT.sIx xs.length 0 lo)
theorem cutV_length (xs : List V) (lo hi : Option Int) : (cutV xs lo hi).length ≤ xs.length := by
  unfold cutV
  rw [List.length_take, List.length_drop]
  omega
/-- t[lo:hi], not the whole of it (the whole would be t itself) -/
def rSlT (K : PySem.W.Frag) : V → Option Int → Option Int → Hp → VK → Prop := fun x lo hi H Q => ∃ a xs, x = .ref a ∧ SqT K H a xs ∧
  ¬ (HT.sIx xs.length 0 lo = 0 ∧ HT.sIx xs.length xs.length hi = xs.length) ∧ ∀ p, H p = none → Q (.ref p) (upd H p (.tup (cutV xs lo hi)))
theorem sl_tup : SlR X (rSlT X.K) := by
  intro pins s σ H x v vl vu lo hi sl Q I rx hs pl pu h
  obtain ⟨a, xs, rfl, hx, hw, q⟩ := h
  cases rx
  obtain ⟨its, r, ht, hz⟩ := I.tuple hx
  have hlen : its.toArray.size = xs.length := by rw [List.size_toArray]; exact r.length.symm
  refine ⟨"tuple", _, PyProof.Rows.slot_tuple_getitem.lookup, ht.typeIs, ?_⟩
  refine HT.getItem_tuple_cut ht hs pl pu (by rw [hlen]; exact hw) ?_ (by rw [hlen]; exact hz)
  rw [hlen]
  refine ⟨.ref s.heap.objs.size, _, I.laid (t' := s.toks) (o := .tup (cutV xs lo hi)) (fun b ob q => Heap.get?_push_of_some _ q) (Nat.le_refl _) ?_, rfl, q _ (I.hok.fresh (Nat.le_refl _))⟩
  exact ⟨Nat.le_trans (cutV_length xs lo hi) hz, _, (r.drop (HT.sIx xs.length 0 lo)).take (HT.sIx xs.length xs.length hi - HT.sIx xs.length 0 lo), IsTup.new _ _⟩

/-! ### t < u, t + u -/
/-- t + u, t not empty: u empty gives t itself -/
def rCatT (K : PySem.W.Frag) : R2 := fun x y H Q => ∃ a b xs ys, x = .ref a ∧ y = .ref b ∧ SqT K H a xs ∧ SqT K H b ys ∧ xs ≠ [] ∧ xs.length + ys.length ≤ sizeLine ∧
  (ys = [] → Q (.ref a) H) ∧ (ys ≠ [] → ∀ p, H p = none → Q (.ref p) (upd H p (.tup (xs ++ ys))))
theorem Vals.nil_iff {xs : List V} {us : List Value} (r : Vals xs us) : us = [] ↔ xs = [] := by
  cases r with
  | nil => simp
  | cons _ _ => simp
theorem op_catT : OpR X (binaryOp .Add) (rCatT X.K) := by
  intro pins s σ H x y v u Q I rx ry h
  obtain ⟨a, b, xs, ys, rfl, rfl, ha, hb, hx, hz, q1, q2⟩ := h
  cases rx
  cases ry
  obtain ⟨its, r1, p1, _⟩ := I.tuple ha
  obtain ⟨its2, r2, p2, _⟩ := I.tuple hb
  refine HT.cat_tup p1 p2 (fun z => hx (r1.nil_iff.mp z)) (fun z => ⟨.ref a, H, I, rfl, q1 (r2.nil_iff.mp z)⟩) (fun z => ?_) (by rw [← r1.length, ← r2.length]; exact hz)
  refine ⟨.ref s.heap.objs.size, _, I.laid (t' := s.toks) (o := .tup (xs ++ ys)) (fun b ob q => Heap.get?_push_of_some _ q) (Nat.le_refl _) ?_, rfl, q2 (fun w => z (r2.nil_iff.mpr w)) _ (I.hok.fresh (Nat.le_refl _))⟩
  exact ⟨by rw [List.length_append]; exact hz, _, r1.append r2, IsTup.new _ _⟩
end
end L2

namespace L2
open PySem PySem.Spec PyProof.Rows

/-! ### places -/
/-- the place that an index of any sign means -/
def ixN (n : Nat) (i : Int) : Option Nat := if 0 ≤ i then (if i < n then some i.toNat else none) else if -(n : Int) ≤ i then some (i + n).toNat else none
def atI {α : Type} (xs : List α) (i : Int) : Option α := (ixN xs.length i).bind fun j => xs[j]?
theorem ixN_seq {n : Nat} {i : Int} {j : Nat} (h : ixN n i = some j) : seqIndex? i n = some j ∧ j < n ∧ -(n : Int) ≤ i ∧ i < n := by
  unfold ixN at h
  by_cases h0 : 0 ≤ i
  · rw [if_pos h0] at h
    by_cases h1 : i < n
    · rw [if_pos h1] at h
      have e : i.toNat = j := Option.some.inj h
      exact ⟨by rw [seqIndex_of h0 h1, e], by omega, by omega, h1⟩
    · rw [if_neg h1] at h; cases h
  · rw [if_neg h0] at h
    by_cases h1 : -(n : Int) ≤ i
    · rw [if_pos h1] at h
      have e : (i + n).toNat = j := Option.some.inj h
      exact ⟨by rw [seqIndex_neg (by omega) h1, e], by omega, h1, by omega⟩
    · rw [if_neg h1] at h; cases h
theorem atI_get {α : Type} {xs : List α} {i : Int} {v : α} (h : atI xs i = some v) : ∃ j, seqIndex? i xs.length = some j ∧ xs[j]? = some v ∧ j < xs.length ∧ -(xs.length : Int) ≤ i ∧ i < xs.length := by
  unfold atI at h
  cases e : ixN xs.length i with
  | none => rw [e] at h; cases h
  | some j =>
    rw [e] at h
    obtain ⟨h1, h2, h3, h4⟩ := ixN_seq e
    exact ⟨j, h1, h, h2, h3, h4⟩
theorem atI_nat {α : Type} {xs : List α} {j : Nat} {v : α} (h : xs[j]? = some v) : atI xs (j : Int) = some v := by
  have hj : j < xs.length := (List.getElem?_eq_some_iff.mp h).1
  have e : ixN xs.length (j : Int) = some j := by
    unfold ixN
    rw [if_pos (by omega), if_pos (by omega)]; simp
  unfold atI; rw [e]; exact h

/-! ### what may be subscripted -/
/-- what stands as an index of a plain subscript -/
def PlainIx (b : Expr) : Prop := ∀ o i, subscripted b false o i = operate [o, i] (getItem o i)
/-- a subscript by values -/
def IxR (X : Cx) (r : R2) : Prop :=
  ∀ (value slice : Expr) (pins : List (Addr × Obj)) (s : Shared) (σ : St) (H : Hp) (x y : V) (v u : Value) (Q : VK), Inv X pins σ H s → RelV x v → RelV y u → r x y H Q →
    subscripted slice false v u = operate [v, u] (getItem v u) → wpAny (model X.prog X.w) X.A (subscriptTail value slice v u) (EP X pins σ Q) X.xe s
/-- a call of a builtin's method by values: the receiver, the arguments -/
def MtR (X : Cx) (id : String) (r : V → List V → Hp → VK → Prop) : Prop :=
  ∀ (pins : List (Addr × Obj)) (s : Shared) (σ : St) (H : Hp) (x : V) (xs : List V) (v : Value) (us : List Value) (Q : VK), Inv X pins σ H s → RelV x v → Vals xs us → r x xs H Q →
    wpAny (model X.prog X.w) X.A (call (.builtin id) (v :: us)) (EP X pins σ Q) X.xe s
section
variable {X : Cx} {a b : Expr} {ta tb : TE} {pos : Pos}
/-- a[b] -/
theorem pe_ix {r : R2} (hr : IxR X r) (ha : PE X a ta) (hb : PE X b tb) (hs : PlainIx b) : PE X (.Subscript a b pos) (tOp r ta tb) := by
  intro pins s σ H Q I h
  exact Subscript_ (binT ha hb I h fun v u s2 x y H2 I2 rx ry q => hr a b pins s2 σ H2 x y v u Q I2 rx ry q (hs _ _))

def rIxL (K : PySem.W.Frag) : R2 := fun x y H Q => ∃ p xs i v, x = .ref p ∧ y = .int i ∧ SqL K H p xs ∧ atI xs i = some v ∧ Q v H
def rIxT (K : PySem.W.Frag) : R2 := fun x y H Q => ∃ p xs i v, x = .ref p ∧ y = .int i ∧ SqT K H p xs ∧ atI xs i = some v ∧ Q v H
theorem ix_list : IxR X (rIxL X.K) := by
  intro value slice pins s σ H x y v u Q I rx ry h hs
  obtain ⟨p, xs, i, z, rfl, rfl, hq, he, q⟩ := h
  cases rx
  obtain ⟨t, rfl⟩ := ry
  obtain ⟨its, r, pl, hz⟩ := I.list hq
  obtain ⟨j, h1, h2, h3, h4, h5⟩ := atI_get he
  obtain ⟨w, ew, rw'⟩ := r.get h2
  have hl := r.length
  have hn := line63
  have fin : EP X pins σ Q w s := ⟨z, H, I, rw', q⟩
  by_cases h0 : 0 ≤ i
  · have hj : i.toNat = j := by
      rw [seqIndex_of h0 h5] at h1
      exact Option.some.inj h1
    exact item_listR pl.isList h0 (by omega) (by rw [hj]; simpa using ew) fin hs
  · have hj : (i + (its.toArray.size : Int)).toNat = j := by
      rw [seqIndex_neg (by omega) h4] at h1
      rw [List.size_toArray, ← hl]
      exact Option.some.inj h1
    exact subscriptTail_builtinR (x := w) pl.isList.typeIs slot_list_getitem.lookup
      (wpAny_getItem_list_neg (Q := fun r s' => r = w ∧ EP X pins σ Q r s') pl.isList (by omega) (by rw [List.size_toArray] <;> omega) (by omega) (by rw [hj]; simpa using ew) ⟨rfl, fin⟩) hs
theorem ix_tup : IxR X (rIxT X.K) := by
  intro value slice pins s σ H x y v u Q I rx ry h hs
  obtain ⟨p, xs, i, z, rfl, rfl, hq, he, q⟩ := h
  cases rx
  obtain ⟨t, rfl⟩ := ry
  obtain ⟨its, r, pl, hz⟩ := I.tuple hq
  obtain ⟨j, h1, h2, h3, h4, h5⟩ := atI_get he
  obtain ⟨w, ew, rw'⟩ := r.get h2
  have hl := r.length
  have hn := line63
  have fin : EP X pins σ Q w s := ⟨z, H, I, rw', q⟩
  exact subscriptTail_builtinR (x := w) pl.typeIs slot_tuple_getitem.lookup
    (getItem_tuple (j := j) (Q := fun r s' => r = w ∧ EP X pins σ Q r s') pl (by omega) (by omega) (by rw [List.size_toArray, ← hl]; exact h1) (by simpa using ew) ⟨rfl, fin⟩) hs

/-! ### xs[i] = v, any sign -/
/-- the list's object behind a store -/
theorem mapSeq_set (its : List Value) (n j : Nat) (u : Value) : Obj.mapSeq (·.setIfInBounds j u) { cls := .type "list", data := .seq its.toArray n } = { cls := .type "list", data := .seq (its.set j u).toArray n } := by
  simp [Obj.mapSeq]
theorem Inv.lst {pins : List (Addr × Obj)} {σ : St} {H : Hp} {s : Shared} {p : Addr} {xs : List V} (I : Inv X pins σ H s) (h : H p = some (.lst xs)) :
    ∃ (its : List Value) (n : Nat), Vals xs its ∧ s.heap.get? p = some { cls := .type "list", data := .seq its.toArray n } ∧ xs.length ≤ sizeLine := by
  obtain ⟨z, its, n, r, e⟩ := I.hok p _ h
  exact ⟨its, n, r, e, z⟩
/-- the list at p is written by an update of its object -/
theorem Inv.lstUpd {pins : List (Addr × Obj)} {σ : St} {H : Hp} {s : Shared} {p : Addr} {xs ys : List V} {its its' : List Value} {n n' : Nat} {f : Obj → Obj} (I : Inv X pins σ H s) (h : H p = some (.lst xs))
    (ho : s.heap.get? p = some { cls := .type "list", data := .seq its.toArray n }) (hf : f { cls := .type "list", data := .seq its.toArray n } = { cls := .type "list", data := .seq its'.toArray n' }) (r : Vals ys its') (hz : ys.length ≤ sizeLine) (t : Nat) :
    Inv X pins σ (upd H p (.lst ys)) { s with heap := s.heap.update p f, toks := t } := by
  have e : (s.heap.update p f).get? p = some { cls := .type "list", data := .seq its'.toArray n' } := by
    rw [Heap.get?_update_self f ho (by rw [hf] <;> rfl), hf]
  refine I.write (x := p) (e := p) (by rw [h]; trivial) (.inl rfl) (fun b u hb q => (Heap.get?_update_other _ _ (Ne.symm hb)).trans q) ⟨_, e⟩ ?_
  exact ⟨hz, its', n', r, e⟩
def rSetL : V → V → V → Hp → (Hp → Prop) → Prop := fun o i v H Q => ∃ p xs k j, o = .ref p ∧ i = .int k ∧ H p = some (.lst xs) ∧ ixN xs.length k = some j ∧ Q (upd H p (.lst (xs.set j v)))
theorem set_list : PSet X rSetL := by
  intro pins s σ H o i v ov iv u Q I ro ri rv h
  obtain ⟨p, xs, k, j, rfl, rfl, hp, hj, q⟩ := h
  cases ro
  obtain ⟨t, rfl⟩ := ri
  obtain ⟨its, n, r, ho, hz⟩ := I.lst hp
  obtain ⟨h1, h2, h3, h4⟩ := ixN_seq hj
  have hl := r.length
  have hn := line63
  have I' : Inv X pins σ (upd H p (.lst (xs.set j v))) { s with heap := s.heap.update p (Obj.mapSeq (·.setIfInBounds j u)) } :=
    I.lstUpd hp ho (mapSeq_set its n j u) (r.set rv j) (by rw [List.length_set]; exact hz) s.toks
  by_cases h0 : 0 ≤ k
  · have hk : k.toNat = j := by
      rw [seqIndex_of h0 h4] at h1
      exact Option.some.inj h1
    exact PySem.W.ki_setAt ho h0 (by omega) (by rw [List.size_toArray, ← hl]; exact h4) (by rw [hk]; exact ⟨_, I', q⟩)
  · have hk : (k + (its.toArray.size : Int)).toNat = j := by
      rw [seqIndex_neg (by omega) h3] at h1
      rw [List.size_toArray, ← hl]
      exact Option.some.inj h1
    exact PySem.W.ki_setBack ho (by omega) (by rw [List.size_toArray, ← hl]; exact h3) (by omega) (by rw [hk]; exact ⟨_, I', q⟩)

/-! ### slices -/
theorem slice_bounds (lo hi : Option Int) (n : Nat) : (sliceBounds lo hi none n).1 = ((HT.sIx n 0 lo : Nat) : Int) ∧ (sliceBounds lo hi none n).2.1 = ((HT.sIx n n hi : Nat) : Int) ∧ (sliceBounds lo hi none n).2.2 = 1 := by
  refine ⟨?_, ?_, rfl⟩
  · cases lo with
    | none => simp [sliceBounds, HT.sIx]
    | some i =>
      simp only [sliceBounds, HT.sIx, Option.getD_none, show (1 : Int) > 0 by decide, if_true]
      by_cases h : i < 0
      · simp only [h, if_true] <;> omega
      · simp only [h, if_false] <;> omega
  · cases hi with
    | none => simp [sliceBounds, HT.sIx]
    | some i =>
      simp only [sliceBounds, HT.sIx, Option.getD_none, show (1 : Int) > 0 by decide, if_true]
      by_cases h : i < 0
      · simp only [h, if_true] <;> omega
      · simp only [h, if_false] <;> omega
theorem slicePick_cut (its : List Value) (lo hi : Option Int) : slicePick its.toArray lo hi none = ((its.drop (HT.sIx its.length 0 lo)).take (HT.sIx its.length its.length hi - HT.sIx its.length 0 lo)).toArray := by
  obtain ⟨h1, h2, h3⟩ := slice_bounds lo hi its.toArray.size
  unfold slicePick
  rw [h1, h2, h3]
  simp only [sliceRange_one, pick_run, List.size_toArray] <;> rfl
/-- xs[lo:hi] of a list: a new list -/
def rSlL (K : PySem.W.Frag) : V → Option Int → Option Int → Hp → VK → Prop := fun x lo hi H Q => ∃ a xs, x = .ref a ∧ SqL K H a xs ∧ ∀ p, H p = none → Q (.ref p) (upd H p (.lst (cutV xs lo hi)))
theorem sl_list : SlR X (rSlL X.K) := by
  intro pins s σ H x v vl vu lo hi sl Q I rx hs pl pu h
  obtain ⟨a, xs, rfl, hx, q⟩ := h
  cases rx
  obtain ⟨its, r, ht, hz⟩ := I.list hx
  have hlen := r.length
  refine ⟨"list", _, slot_list_getitem.lookup, ht.isList.typeIs, ?_⟩
  refine wpAny_getItem_list_slice ht.isList hs pl pu .none (by simp) ?_ (by rw [List.size_toArray] <;> omega)
  rw [slicePick_cut, ← hlen]
  refine ⟨.ref s.heap.objs.size, _, I.laid (t' := s.toks) (o := .lst (cutV xs lo hi)) (fun b ob q => Heap.get?_push_of_some _ q) (Nat.le_refl _) ?_, rfl, q _ (I.hok.fresh (Nat.le_refl _))⟩
  exact ⟨Nat.le_trans (cutV_length xs lo hi) hz, _, 0, (r.drop (HT.sIx xs.length 0 lo)).take (HT.sIx xs.length xs.length hi - HT.sIx xs.length 0 lo), Heap.get?_push_size _ rfl⟩

/-! ### in, not in: flat items -/

/-! ### len, list(x), tuple(x) of any list or tuple that is read -/
theorem call_list_of : CallR X (.type "list") (fun xs H Q => ∃ p ys, xs = [.ref p] ∧ (SqL X.K H p ys ∨ SqT X.K H p ys) ∧ ∀ l, H l = none → Q (.ref l) (upd H l (.lst ys))) := by
  intro pins s σ H xs us Q I r h
  obtain ⟨p, ys, rfl, hq, q⟩ := h
  obtain ⟨u, rfl, rx⟩ := vals1 r
  cases rx
  have fin : ∀ (its : List Value), Vals ys its → ys.length ≤ sizeLine → ∀ (h' : Heap) (c' : Nat), (∀ b o', s.heap.get? b = some o' → h'.get? b = some o') →
      h'.get? s.heap.objs.size = some { cls := .type "list", dict := none, data := .seq its.toArray c', slots := #[] } → EP X pins σ Q (.ref s.heap.objs.size) { s with heap := h' } := fun its r' hz h' c' kp e =>
    ⟨.ref s.heap.objs.size, _, I.laid (t' := s.toks) kp (Nat.le_refl _) (show ObjOk X.prog X.w _ h' _ (.lst ys) from ⟨hz, its, c', r', e⟩), rfl, q _ (I.hok.fresh (Nat.le_refl _))⟩
  rcases hq with hq | hq
  · obtain ⟨its, r', pl, hz⟩ := I.list hq
    have hlen := r'.length
    obtain ⟨o, ho, hc, n, hd⟩ := pl.isList
    exact call_list_seq p (.inl rfl) ho hc hd (fun h' c' kp e => fin its r' hz h' c' kp e) (by simp only [List.size_toArray] <;> omega)
  · obtain ⟨its, r', pl, hz⟩ := I.tuple hq
    have hlen := r'.length
    obtain ⟨o, ho, hc, n, hd⟩ := pl
    exact call_list_seq p (.inr rfl) ho hc hd (fun h' c' kp e => fin its r' hz h' c' kp e) (by simp only [List.size_toArray] <;> omega)
theorem call_tuple_of : CallR X (.type "tuple") (fun xs H Q => ∃ p ys, xs = [.ref p] ∧ ((SqL X.K H p ys ∧ ∀ l, H l = none → Q (.ref l) (upd H l (.tup ys))) ∨ (SqT X.K H p ys ∧ Q (.ref p) H))) := by
  intro pins s σ H xs us Q I r h
  obtain ⟨p, ys, rfl, h⟩ := h
  obtain ⟨u, rfl, rx⟩ := vals1 r
  cases rx
  rcases h with ⟨hq, q⟩ | ⟨hq, q⟩
  · obtain ⟨its, r', pl, hz⟩ := I.list hq
    have hlen := r'.length
    refine call_tuple_list pl.isList (fun h' kp => ?_) (by simp only [List.size_toArray] <;> omega)
    have I1 : Inv X pins σ H { s with heap := h' } := I.kept (t' := s.toks) kp
    have I2 : Inv X pins σ (upd H h'.objs.size (.tup ys)) { s with heap := h'.push { cls := .type "tuple", data := .seq its.toArray } } :=
      I1.laid (t' := s.toks) (fun b o e => Heap.get?_push_of_some _ e) (Nat.le_refl _) (show ObjOk X.prog X.w _ _ _ (.tup ys) from ⟨hz, its, r', IsTup.new _ _⟩)
    exact ⟨.ref h'.objs.size, _, I2, rfl, q _ (I1.hok.fresh (Nat.le_refl _))⟩
  · obtain ⟨its, r', pl, hz⟩ := I.tuple hq
    exact call_tuple_same pl ⟨.ref p, H, I, rfl, q⟩

/-! ### the call of a builtin's method: o.m(..) -/
/-- the value is of that builtin type -/
def tyV (K : PySem.W.Frag) (T : String) (x : V) (H : Hp) : Prop := match x with
  | .str _ => T = "str"
  | .int _ => T = "int"
  | .ref p => (T = "list" ∧ ∃ xs, SqL K H p xs) ∨ (T = "tuple" ∧ ∃ o, K.lookup p = some o ∧ o.cls = .type "tuple" ∧ o.dict = none) ∨
      (T = "dict" ∧ ((∃ kvs, H p = some (.dK kvs)) ∨ ∃ kvs, H p = some (.dT kvs))) ∨ (T = "set" ∧ ∃ S n, H p = some (.set S n))
  | _ => False
theorem tyV_is {pins : List (Addr × Obj)} {σ : St} {H : Hp} {s : Shared} {T : String} {x : V} {v : Value} (I : Inv X pins σ H s) (r : RelV x v) (ty : tyV X.K T x H) :
    s.TypeIs v T ∧ ∀ a, v = .ref a → ∃ ob, s.heap.get? a = some ob ∧ ob.dict = none := by
  cases x with
  | str z =>
    obtain ⟨t, rfl⟩ := r
    cases (show T = "str" from ty)
    exact ⟨typeIs_str s z t, fun _ e => nomatch e⟩
  | int i =>
    obtain ⟨t, rfl⟩ := r
    cases (show T = "int" from ty)
    exact ⟨typeIs_int s i t, fun _ e => nomatch e⟩
  | ref p =>
    cases r
    rcases ty with ⟨rfl, xs, hq⟩ | ⟨rfl, o, hk, hc, hd⟩ | ⟨rfl, hk⟩ | ⟨rfl, S, n, hk⟩
    · obtain ⟨its, _, pl, _⟩ := I.list hq
      refine ⟨pl.isList.typeIs, fun a e => ?_⟩
      cases e
      obtain ⟨o, n, e, c, hd, _⟩ := pl
      exact ⟨o, e, hd⟩
    · refine ⟨⟨o, I.kIn p o hk, hc⟩, fun a e => ?_⟩
      cases e
      exact ⟨o, I.kIn _ o hk, hd⟩
    · have z : ∃ o, s.heap.get? p = some o ∧ o.ExactDict := by
        rcases hk with ⟨kvs, hk⟩ | ⟨kvs, hk⟩
        · obtain ⟨_, _, _, _, o, _, _, e, ex, _⟩ := I.hok p _ hk
          exact ⟨o, e, ex⟩
        · obtain ⟨_, _, _, _, o, _, _, e, ex, _⟩ := I.hok p _ hk
          exact ⟨o, e, ex⟩
      obtain ⟨o, e, ex⟩ := z
      refine ⟨⟨o, e, ex.1⟩, fun a e2 => ?_⟩
      cases e2
      exact ⟨o, e, ex.2.1⟩
    · obtain ⟨o, _, _, _, e, ex, _⟩ := I.hok p _ hk
      refine ⟨⟨o, e, ex.1⟩, fun a e2 => ?_⟩
      cases e2
      exact ⟨o, e, ex.2.1⟩
  | _ => exact False.elim ty
def tBM0 (K : PySem.W.Frag) (T : String) (r : V → List V → Hp → VK → Prop) (to : TE) : TE := fun σ H Q => to σ H fun x H1 => tyV K T x H1 ∧ r x [] H1 Q
def tBM (K : PySem.W.Frag) (T : String) (r : V → List V → Hp → VK → Prop) (to : TE) (t : TA) : TE := fun σ H Q => to σ H fun x H1 => tyV K T x H1 ∧ t σ H1 fun xs H2 => r x xs H2 Q
variable {o e : Expr} {es : List Expr} {to : TE} {t : TA} {name : Str} {apos cpos : Pos} {T id : String} {r : V → List V → Hp → VK → Prop}
theorem pe_bm0 (pa : PlainAttrs T) (slot : Slot T name id) (hty : typeOf (.builtin id) = pure (.type "method_descriptor")) (hm : MtR X id r) (ho : PE X o to)
    (hbase : attributeBase o name X.env (eval o X.env) = eval o X.env := by rfl) (hline : (apos.endLine == cpos.line) = true := by rfl) : PE X (.Call (.Attribute o name apos) [] [] cpos) (tBM0 X.K T r to) := by
  intro pins s σ H Q I h
  refine wpAny_Call_method0_late hbase hline (thn (ho pins s σ H _ I h) fun v s1 ⟨x, H1, I1, r1, ty, q1⟩ => ?_)
  obtain ⟨h1, h2⟩ := tyV_is I1 r1 ty
  exact ⟨T, id, pa, slot, hty, h1, h2, Calls.callWith_builtin rfl (PySem.evalArgs_none (hm pins s1 σ H1 x [] v [] Q I1 r1 .nil q1))⟩
theorem pe_bm (pa : PlainAttrs T) (slot : Slot T name id) (hty : typeOf (.builtin id) = pure (.type "method_descriptor")) (hm : MtR X id r) (ho : PE X o to) (ha : PA X (e :: es) t)
    (hbase : attributeBase o name X.env (eval o X.env) = eval o X.env := by rfl)
    (hfew : ((backTo cpos (starEach (e :: es) X.env)).all (fun x => !x.1) && (backToKw cpos (keywordEach [] X.env)).all (fun x => x.1.isSome)
      && decide ((e :: es).length + ([] : List Keyword).length + (if ([] : List Keyword).isEmpty then 0 else 1) < 30)) = true := by rfl)
    (hline : (apos.endLine == cpos.line) = true := by rfl) (hs : starEach (e :: es) X.env = (false, eval e X.env) :: starEach es X.env := by rfl) (hplain : (backTo cpos (starEach es X.env)).any (·.1) = false := by rfl) :
    PE X (.Call (.Attribute o name apos) (e :: es) [] cpos) (tBM X.K T r to t) := by
  intro pins s σ H Q I h
  refine wpAny_Call_method_late hbase hfew hline rfl (thn (ho pins s σ H _ I h) fun v s1 ⟨x, H1, I1, r1, ty, q1⟩ => ?_)
  obtain ⟨h1, h2⟩ := tyV_is I1 r1 ty
  refine ⟨T, id, pa, slot, hty, h1, h2, ?_⟩
  have hA := ha cpos pins s1 σ H1 _ I1 q1
  rw [hs] at hA ⊢
  refine Calls.callWith_builtin (by show (false || (backTo cpos (starEach es X.env)).any (·.1)) = false; rw [hplain] <;> rfl) (Calls.evalArgs_plain ?_)
  exact thn hA fun us s2 ⟨vs, H2, I2, r2, q2⟩ => hm pins s2 σ H2 x vs v us Q I2 r1 r2 q2
/- xs.append(e), list.index on a module's tuple .. are MtR facts of 06m -/
end
end L2

namespace L2
open PySem PySem.Spec PyProof.Rows

def MtM (X : Cx) (id : String) (r : V → List V → Hp → VK → Prop) : Prop :=
  ∀ (pins : List (Addr × Obj)) (s : Shared) (σ : St) (H : Hp) (x : V) (xs : List V) (v : Value) (us : List Value) (Q : VK), Inv X pins σ H s → RelV x v → Vals xs us → r x xs H Q →
    wpAny (model X.prog X.w) X.A (call (.builtin id) (v :: us)) (EP X pins σ Q) X.xe s

/-! ### lists of values -/
theorem Vals.one : ∀ {x : V} {us : List Value}, Vals [x] us → ∃ u, us = [u] ∧ RelV x u
  | _, _, .cons r .nil => ⟨_, rfl, r⟩
theorem Vals.two : ∀ {x y : V} {us : List Value}, Vals [x, y] us → ∃ u v, us = [u, v] ∧ RelV x u ∧ RelV y v
  | _, _, _, .cons r (.cons q .nil) => ⟨_, _, rfl, r, q⟩
theorem Vals.zero : ∀ {us : List Value}, Vals [] us → us = []
  | _, .nil => rfl
theorem Vals.dropLast {xs : List V} {us : List Value} (h : Vals xs us) : Vals xs.dropLast us.dropLast := by
  induction h with
  | nil => exact .nil
  | cons r t ih =>
    cases t with
    | nil => exact .nil
    | cons q t' => exact .cons r ih
theorem Vals.reverse {xs : List V} {us : List Value} (h : Vals xs us) : Vals xs.reverse us.reverse := by
  induction h with
  | nil => exact .nil
  | cons r t ih => rw [List.reverse_cons, List.reverse_cons]; exact Vals.append ih (.cons r .nil)
theorem erase_last {α : Type} (l : List α) : l.eraseIdx (l.length - 1) = l.dropLast := by
  induction l with
  | nil => rfl
  | cons a r ih =>
    cases r with
    | nil => rfl
    | cons b r =>
      have e : (a :: b :: r).length - 1 = ((b :: r).length - 1) + 1 := by
        have h1 : (a :: b :: r).length = r.length + 2 := rfl
        have h2 : (b :: r).length = r.length + 1 := rfl
        omega
      rw [e, List.eraseIdx_cons_succ, ih]
      all_goals rfl

section
variable {X : Cx} {pins : List (Addr × Obj)} {σ : St} {H : Hp} {s : Shared} {l b : Addr} {xs ys zs : List V}

/-! ### the two steps: a tracked list is rewritten, a new list is laid -/
theorem Inv.lset {its its' : List Value} {n : Nat} {f : Array Value → Array Value} {t' : Nat} (I : Inv X pins σ H s) (hH : H l = some (.lst xs))
    (e : s.heap.get? l = some { cls := .type "list", data := .seq its.toArray n }) (hf : f its.toArray = its'.toArray) (hv : Vals ys its') (hz : ys.length ≤ sizeLine) :
    Inv X pins σ (upd H l (.lst ys)) { s with heap := s.heap.update l (Obj.mapSeq f), toks := t' } := by
  have q := PySem.IsL.update e f
  rw [hf] at q
  refine I.write (x := l) (e := l) (by rw [hH]; exact trivial) (.inl rfl) (fun b' u hb hu => (Heap.get?_update_other s.heap (Obj.mapSeq f) (Ne.symm hb)).trans hu) ⟨_, q⟩ ?_
  exact ⟨hz, its', _, hv, q⟩
theorem Inv.lnew {its : List Value} {t' : Nat} (I : Inv X pins σ H s) (hv : Vals ys its) (hz : ys.length ≤ sizeLine) :
    Inv X pins σ (upd H s.heap.objs.size (.lst ys)) { s with heap := s.heap.push { cls := .type "list", data := .seq its.toArray }, toks := t' } :=
  I.laid (fun _ _ q => Heap.get?_push_of_some _ q) (Nat.le_refl _) ⟨hz, its, 0, hv, Heap.get?_push_size _ rfl⟩
theorem Inv.fresh (I : Inv X pins σ H s) : H s.heap.objs.size = none := I.hok.fresh (Nat.le_refl _)
theorem Inv.lstM (I : Inv X pins σ H s) (hH : H l = some (.lst xs)) : xs.length ≤ sizeLine ∧ ∃ (its : List Value) (n : Nat), Vals xs its ∧ xs.length = its.length ∧ s.heap.get? l = some { cls := .type "list", data := .seq its.toArray n } := by
  obtain ⟨z, its, n, r, e⟩ := I.hok l _ hH
  exact ⟨z, its, n, r, r.length, e⟩

theorem notLongL {n : Nat} (h : n ≤ sizeLine) : Builtin.List.listTooLong n = false := by
  unfold Builtin.List.listTooLong
  exact decide_eq_false (by omega)
end

section
variable {X : Cx}

/-! ### methods -/
def rAppend : V → List V → Hp → VK → Prop := fun x vs H Q => ∃ l xs y, x = .ref l ∧ vs = [y] ∧ H l = some (.lst xs) ∧ xs.length < sizeLine ∧ Q .non (upd H l (.lst (xs ++ [y])))
theorem mt_append : MtM X "list.append" rAppend := by
  intro pins s σ H x vs v us Q I rx rv h
  obtain ⟨l, xs, y, rfl, rfl, hH, hz, q⟩ := h
  cases rx
  obtain ⟨u, rfl, ru⟩ := rv.one
  obtain ⟨z, its, n, r, hl, e⟩ := I.lstM hH
  refine call_meets F.slot_list_append ⟨_, e, rfl⟩ F.entry_list_append (F.args_list_append_2 _ _) (PySem.list_append l its.toArray n u (by rw [List.size_toArray]; omega)) ⟨e, ?_⟩
  refine ⟨.non, _, I.lset (its' := its ++ [u]) hH e (by simp) (r.append (.cons ru .nil)) ?_, rfl, q⟩
  rw [List.length_append, List.length_singleton]
  omega

def rExtend : V → List V → Hp → VK → Prop := fun x vs H Q => ∃ l b xs zs, x = .ref l ∧ vs = [.ref b] ∧ H l = some (.lst xs) ∧ H b = some (.lst zs) ∧ xs.length + zs.length ≤ sizeLine ∧ Q .non (upd H l (.lst (xs ++ zs)))
theorem mt_extend : MtM X "list.extend" rExtend := by
  intro pins s σ H x vs v us Q I rx rv h
  obtain ⟨l, b, xs, zs, rfl, rfl, hH, hB, hz, q⟩ := h
  cases rx
  obtain ⟨u, rfl, ru⟩ := rv.one
  cases ru
  obtain ⟨z, its, n, r, hl, e⟩ := I.lstM hH
  obtain ⟨z2, its2, n2, r2, hl2, e2⟩ := I.lstM hB
  have hsz : its.toArray.size + its2.toArray.size ≤ sizeLine := by rw [List.size_toArray, List.size_toArray]; omega
  have hlong : ¬ (!its.toArray.isEmpty && Builtin.List.listTooLong (its.toArray.size + its2.toArray.size)) = true := by
    rw [notLongL hsz, Bool.and_false]
    exact Bool.false_ne_true
  refine call_meets F.slot_list_extend ⟨_, e, rfl⟩ F.entry_list_extend (F.args_list_extend_2 _ _)
    (AutoSeq1.list_extend_list_list_0 l its.toArray n b its2.toArray n2 hlong (by rw [List.size_toArray]; omega) (by omega)) ⟨e, e2, ?_⟩
  refine ⟨.non, _, I.lset (its' := its ++ its2) hH e (by simp) (r.append r2) ?_, rfl, q⟩
  rw [List.length_append]
  omega

def rPop : V → List V → Hp → VK → Prop := fun x vs H Q => ∃ l xs y, x = .ref l ∧ vs = [] ∧ H l = some (.lst xs) ∧ xs[xs.length - 1]? = some y ∧ Q y (upd H l (.lst xs.dropLast))
theorem mt_pop : MtM X "list.pop" rPop := by
  intro pins s σ H x vs v us Q I rx rv h
  obtain ⟨l, xs, y, rfl, rfl, hH, hy, q⟩ := h
  cases rx
  have hus := rv.zero
  subst hus
  obtain ⟨z, its, n, r, hl, e⟩ := I.lstM hH
  obtain ⟨u, hu, ru⟩ := r.get hy
  have hy' : its.toArray[its.toArray.size - 1]? = some u := by
    show its.toArray[its.length - 1]? = some u
    rw [← Array.getElem?_toList, ← hl]
    exact hu
  refine call_meets F.slot_list_pop ⟨_, e, rfl⟩ F.entry_list_pop (F.args_list_pop_1 _) (MeetsSeq.list_pop_last l its.toArray n u hy' (by rw [List.size_toArray]; omega)) ⟨e, ?_⟩
  refine ⟨y, _, I.lset (its' := its.dropLast) hH e ?_ r.dropLast ?_, ru, q⟩
  · show its.toArray.eraseIdxIfInBounds (its.toArray.size - 1) = its.dropLast.toArray
    rw [List.size_toArray, List.eraseIdxIfInBounds_toArray, erase_last]
  · rw [List.length_dropLast]
    omega


def rReverse : V → List V → Hp → VK → Prop := fun x vs H Q => ∃ l xs, x = .ref l ∧ vs = [] ∧ H l = some (.lst xs) ∧ Q .non (upd H l (.lst xs.reverse))
theorem mt_reverse : MtM X "list.reverse" rReverse := by
  intro pins s σ H x vs v us Q I rx rv h
  obtain ⟨l, xs, rfl, rfl, hH, q⟩ := h
  cases rx
  have hus := rv.zero
  subst hus
  obtain ⟨z, its, n, r, hl, e⟩ := I.lstM hH
  refine call_meets F.slot_list_reverse ⟨_, e, rfl⟩ F.entry_list_reverse (F.args_list_reverse_1 _) (AutoSeq1.list_reverse_list_0 l its.toArray n (by rw [List.size_toArray]; omega)) ⟨e, ?_⟩
  refine ⟨.non, _, I.lset (its' := its.reverse) hH e (by simp) r.reverse ?_, rfl, q⟩
  rw [List.length_reverse]
  omega


/-! ### list + list, list += list, list * int -/
def rCat : R2 := fun x y H Q => ∃ l b xs zs, x = .ref l ∧ y = .ref b ∧ H l = some (.lst xs) ∧ H b = some (.lst zs) ∧ xs.length + zs.length ≤ sizeLine ∧ ∀ p, H p = none → Q (.ref p) (upd H p (.lst (xs ++ zs)))
theorem op_cat : OpR X (binaryOp .Add) rCat := by
  intro pins s σ H x y v u Q I rx ry h
  obtain ⟨l, b, xs, zs, rfl, rfl, hH, hB, hz, q⟩ := h
  cases rx
  cases ry
  obtain ⟨z, its, n, r, hl, e⟩ := I.lstM hH
  obtain ⟨z2, its2, n2, r2, hl2, e2⟩ := I.lstM hB
  refine PySem.P.add_list e e2 ?_ (by rw [List.size_toArray, List.size_toArray]; omega)
  have ea : its.toArray ++ its2.toArray = (its ++ its2).toArray := by simp
  rw [ea]
  exact ⟨.ref _, _, I.lnew (t' := s.toks) (r.append r2) (by rw [List.length_append]; omega), rfl, q _ I.fresh⟩

/-! ### del xs[i] -/
end

/-! ### xs[a:b] = ys -/
section
variable {prog : Program} {w : World} {A : Around} {E : Value → Shared → Prop} {s : Shared}
set_option maxRecDepth 100000 in
end

section
variable {X : Cx}
end
end L2

namespace Att
open PySem PySem.W PySem.Calls PyProof.Rows

/-! ### the script -/
theorem ints_of_wellAll {P : Params} {h : Heap} : ∀ (ns : List Int) (vs : List Value), WellAll P h vs (ns.map WData.int) → IntsAre vs ns := by
  intro ns
  induction ns with
  | nil =>
    intro vs w
    rw [List.map_nil] at w
    cases w
    exact .nil
  | cons n ns ih =>
    intro vs w
    rw [List.map_cons] at w
    cases w with
    | cons a b =>
      cases a
      exact .cons _ _ (ih _ b)

theorem script_of {l : OpenLaw} {n : Nat} (hn : l.most = some n) {P : Params} {h : Heap} {args : List WData} {vals : List Value}
    (hpre : l.row.toRowW.claim.pre args = true) (hwl : WellAll P h vals args) :
    ∃ a vs ns, vals = [Value.ref a] ∧ args = [WData.list (ns.map WData.int)] ∧ h.get? a = some { cls := .type "list", data := .seq vs.toArray } ∧ IntsAre vs ns ∧ ns.length ≤ n := by
  have hsh : WShape.hasAll [] args [.list .int] = true := (pre_splitW hpre).1
  have hc : l.pre.holds [] { args := args } = true := (pre_splitW hpre).2
  obtain ⟨d, r, rfl, h1, h2⟩ := hasAllW_cons hsh
  obtain rfl := hasAllW_nil h2
  obtain ⟨xs, rfl, h3⟩ := hasW_list h1
  obtain ⟨ns, rfl⟩ := items_int h3
  have hlen : ns.length ≤ n := by
    unfold OpenLaw.pre at hc
    have h4 : (WTm.not (.lt (.lit (.int (n : Int))) (.len (.arg 0)))).holds [] { args := [.list (ns.map .int)] } = true := by
      have h4 := (holds_andW hc).1
      rw [hn] at h4
      exact h4
    have h5 := condW_of h4 (w_not (w_lt w_lit (w_len_list (w_arg rfl))))
    rw [List.length_map] at h5
    refine Nat.le_of_not_lt fun q => ?_
    have q' : (n : Int) < ((ns.length : Nat) : Int) := by omega
    first
      | (rw [decide_eq_true q'] at h5; exact absurd h5 (by decide))
      | (simp at h5; omega)
  cases hwl with
  | cons w1 w2 =>
    cases w2
    cases w1 with
    | list ho hall => exact ⟨_, _, ns, rfl, rfl, ho, ints_of_wellAll ns _ hall, hlen⟩

theorem post_true (l : OpenLaw) (args : List WData) : l.row.toRowW.claim.post args (.bool true) args = true :=
  postW_of (r := l.row.toRowW) (X := (true == true))
    (show WShape.has [] (.bool true) .bool = true by first | rfl | decide | simp [WShape.has, WShape.arms, WShape.armsAll])
    (show (WTm.eq .res (.lit (.bool true))).value [] { args := args, res := some (.bool true), after := args } = some (.bool (true == true)) from w_eq_bool (w_res rfl) w_lit) rfl

/-! ### the attachment: holds_open's last premise (the goal 'hc' behind k_head) from a wpAny of the law's body -/



/-! ### rules over ANY heap (no ledger) from facts about the written part K: the library's own take a ledger (News) for what they write -/
section
variable {prog : Program} {w : World} {A : Around} {E : Value → Shared → Prop} {s : Shared} {K : Frag}





/-! the whole heap as the ledger: makes every rule that writes through a ledger a rule over any heap -/

end
end Att

namespace L2
open PySem PySem.Spec PyProof.Rows

theorem vals_ints : ∀ {vs : List Value} {ns : List Int}, IntsAre vs ns → Vals (ns.map V.int) vs
  | _, _, .nil => .nil
  | _, _, .cons n t h => .cons ⟨t, rfl⟩ (vals_ints h)

/-- nothing is tracked but the script, known to the object (or it is an object of the module) -/
def Only (H : Hp) : Prop := ∀ b, H b = none ∨ ∃ o xs, H b = some (.frz o (.lst xs))

/-- THE HEAD: the law's promise, at the heap behind the top. F, the promise of the law's def, may use that base is part of the heap (so K.In base, base.Ns mainGlobals mg stand in Mod) -/
theorem law_call {P : Program} {w : World} {K : PySem.W.Frag} {mg mb : Str → Option Value} {CX : CXT} {k : Nat} {fa a : Addr} {fd : FuncData} {x : Str} {sp : Sp} {s₁ : Shared} {vs : List Value} {ns : List Int}
    (KX : K.In s₁.heap) (hns : s₁.heap.Ns mainGlobals mg) (hb : s₁.heap.Ns builtinsNs mb) (hbb : ∀ x : Str, x ≠ "__name__" → mb x = bootBuiltins x) (hlim : s₁.heap.NoLimit) (hg : s₁.gens = #[])
    (ha : s₁.heap.get? a = some { cls := .type "list", data := .seq vs.toArray }) (hi : IntsAre vs ns) (hl : ns.length ≤ sizeLine) (hr : Room k callerA)
    (F : ∀ base : Heap, K.In base → base.Ns mainGlobals mg → FnOk P w K mg base CX k fa fd [x] sp) (hbind : ∀ (s : Shared) (u : Value), BindsTo s fd ⟨[u], []⟩ [(x, u)])
    (hsp : ∀ H : Hp, Only H → SqL K H a (ns.map V.int) → sp [.ref a] H (fun v _ => v = .bl true) fun _ _ _ => False)
    (hCX : ∀ H e s', CX [] H s₁ (fun _ _ _ => False) e s' → False) :
    codeAny (model P w) callerA (.call (.ref fa) ⟨[.ref a], []⟩) (fun r s' => r = .ok (.ret (.bool true)) ∧ OldK s₁.heap s'.heap ∧ s'.os = s₁.os ∧ AllBare s'.gens) s₁ := by
  have rv := vals_ints hi
  have lenV := hi.length
  -- from an abstract heap in which nothing but the script may be tracked
  have core : ∀ H : Hp, Only H → SqL K H a (ns.map V.int) → HOk P w H s₁.heap → (∀ b, H b ≠ none → b = a) → (H a ≠ none → K.lookup a = none) →
      codeAny (model P w) callerA (.call (.ref fa) ⟨[.ref a], []⟩) (fun r s' => r = .ok (.ret (.bool true)) ∧ OldK s₁.heap s'.heap ∧ s'.os = s₁.os ∧ AllBare s'.gens) s₁ := by
    intro H hO hS hok hA hK
    have base_of : ∀ {b : Addr} {o : Obj}, s₁.heap.get? b = some o → H b = none → (hidT s₁.heap H).get? b = some o := fun e n => hidT_get e n
    have noA : ∀ {b : Addr} {o : Obj} {es : Array DictEntry} {ep : Nat}, s₁.heap.get? b = some o → o.data = .dict es ep → H b = none := fun {b o es ep} e d => by
      cases q : H b with
      | none => rfl
      | some u =>
        have e' : b = a := hA b (by rw [q]; simp)
        subst e'
        rw [ha] at e; cases e
        have d' : Data.seq vs.toArray _ = Data.dict es ep := d
        cases d'
    have nsK : ∀ {b : Addr} {m : Str → Option Value}, s₁.heap.Ns b m → (hidT s₁.heap H).Ns b m := fun {b m} ⟨o, es, ep, e, d, r⟩ => ⟨o, es, ep, base_of e (noA e d), d, r⟩
    have hKb : K.In (hidT s₁.heap H) := fun b o e => base_of (KX b o e) (by
      cases q : H b with
      | none => rfl
      | some u =>
        have e' : b = a := hA b (by rw [q]; simp)
        subst e'
        rw [hK (by rw [q]; simp)] at e; cases e)
    have hM : Mod K mg (hidT s₁.heap H) := ⟨hKb, nsK hns, ⟨mb, nsK hb, hbb⟩, let ⟨mc, h1, h2⟩ := hlim; ⟨mc, nsK h1, h2⟩⟩
    have e0 : Env0 P w K mg (hidT s₁.heap H) callerA [] s₁ H := ⟨rfl, hM, fun b o e => of_hidT e, Nat.le_of_eq (hidT_size _ _), trivial, fun b hb => absurd (show b ∈ ([] : List Addr) from hb) (by simp), hok, .of_eq hg⟩
    refine codeAny_mono ((F _ hKb (nsK hns)).run callerA [] s₁ H ⟨[.ref a], []⟩ [.ref a] [.ref a] _ _ hr e0 (hbind s₁ (.ref a)) (.cons rfl .nil) (hsp H hO hS)) fun r s' h => ?_
    cases r with
    | error e => exact (hCX H e s' h).elim
    | ok fl =>
      cases fl with
      | next => exact False.elim h
      | brk => exact False.elim h
      | cont => exact False.elim h
      | ret u =>
        obtain ⟨v, H', os, bare, un, hok', r', q⟩ := h
        have q' : v = .bl true := q
        subst q'
        obtain rfl : u = Value.bool true := r'
        refine ⟨rfl, OldK.of_keep fun b o e => ?_, os, bare⟩
        cases q : H b with
        | none => exact un.keep b o e q (by intro z; exact absurd (show b ∈ ([] : List Addr) from z) (by simp)) (by simp)
        | some u =>
          rcases hO b with z | ⟨ob, xs, z⟩
          · rw [q] at z; cases z
          · have z2 := un.frzs b ob _ z
            obtain ⟨e1, _⟩ := hok b _ z
            obtain ⟨e2, _⟩ := hok' b _ z2
            rw [e] at e1; cases e1
            exact e2
  cases hk : K.lookup a with
  | some o =>
    -- the script is one of the module's own objects
    have e := KX a o hk
    rw [ha] at e
    cases e
    refine core (fun _ => none) (fun _ => .inl rfl) (.inr ⟨_, vs.toArray, _, hk, rfl, rfl, rfl, by rw [List.size_toArray, lenV]; exact hl, by simpa using rv⟩) (fun b u z => by have z' : (none : Option HO) = some u := z; cases z') (fun b z => absurd rfl z) fun z => absurd rfl z
  | none =>
    refine core (fun b => if b = a then some (.frz { cls := .type "list", data := .seq vs.toArray } (.lst (ns.map V.int))) else none) (fun b => ?_) (.inl (.inr ⟨{ cls := .type "list", data := .seq vs.toArray }, if_pos rfl⟩)) (fun b u z => ?_) (fun b z => ?_) fun _ => hk
    · by_cases hb : b = a
      · exact .inr ⟨_, _, if_pos hb⟩
      · exact .inl (if_neg hb)
    · by_cases hb : b = a
      · have z' := (if_pos hb).symm.trans z
        cases z'
        subst hb
        exact ⟨ha, by rw [List.length_map]; exact hl, vs, _, rv, ha⟩
      · have z' := (if_neg hb).symm.trans z
        cases z'
    · by_cases hb : b = a
      · exact hb
      · exact absurd (if_neg hb) z
end L2

namespace L2
open PySem PySem.Spec PyProof.Rows

abbrev KOf {K : PySem.W.Frag} {h : Heap} (_ : K.In h) : PySem.W.Frag := K

end L2

/- THE LAST THEOREM (shape; LID, My.* are yours):
   My.Adr: a structure of the addresses that your layer names (classes, functions); My.Txt K t: a structure (Prop) of the equations over K;
   My.txt_mk : {K} {implicit addresses ..} (e1 : nsIn K mainGlobals "law" = some (some (.ref f))) (e2 : K.lookup f = some ⟨oc, od, .func (fnOf "law" "law" params body scope dV kV doc pm an cdv ct), sl⟩) (e3 : codeIn K cdv "law" = true) .. : ∃ t, My.Txt K t

set_option maxRecDepth 100000 in
set_option maxHeartbeats 0 in
theorem PySem.Challenge.cw_LID_holds : PySem.Challenge.rw_LID.Holds := by
  w_on; o_law; k_head; (case hw => w_witness2)
  k_fill
  refine L2.walk_of (l := PySem.Challenge.rw_LID) (n := 63) (k := 40) (x := "script") (CX := fun w => ..) (sp := fun _ => My.sp_law) rfl (by decide) rfl ⟨rfl, by decide, by decide⟩ (fun w h Y => PySem.W.kIn_of Y) ?F ?S ?C
  case F =>
    intro w mg fa h KX G hmg
    have T : ∃ t, My.Txt (L2.KOf KX) t := by
      dsimp only [L2.KOf]                          -- K must stand as «<heap const> w.params» for k_is
      refine' My.txt_mk ?e1 ?e2 ?e3 ..
      (case e1 => PySem.W.k_is)                    -- in the order: a name -> its address -> its object -> its parts
      (case e2 => PySem.W.k_is)
      ..
    obtain ⟨t, T⟩ := T
    have e0 := hmg.symm.trans (PySem.W.mg_of KX G T.law)
    cases e0                                       -- fa is the law's own address
    exact ⟨_, fun s u => .of_eq rfl, fun base kb nb => My.law_fn T kb nb⟩     -- if «.of_eq rfl» comes too early: refine' ⟨_, ?b, fun base kb nb => My.law_fn T kb nb⟩; exact fun s u => .of_eq rfl
  case S => exact fun w H a ns hl hO hS => ..
  case C => exact ..
(the tactic k_is has no namespace: write k_is) -/

/-! SHORT WORDS over the layer: a def of the text, its body, what a loop and a test want. -/
namespace L2
open PySem PySem.Spec PyProof.Rows

/-! ### the text by places -/
/-- the j-th statement of a class's body -/
def inClass (s : Stmt) (j : Nat) : Stmt := match s with
  | .ClassDef _ _ _ body _ _ _ _ _ _ _ => body.getD j (.Pass ⟨0, 0, 0, 0⟩)
  | _ => .Pass ⟨0, 0, 0, 0⟩
def defArgs (s : Stmt) : Arguments := match s with
  | .FunctionDef _ a _ _ _ _ _ _ _ _ => a
  | _ => { posonlyargs := [], args := [], vararg := none, kwonlyargs := [], kw_defaults := [], kwarg := none, defaults := [] }
def defBody (s : Stmt) : List Stmt := match s with
  | .FunctionDef _ _ b _ _ _ _ _ _ _ => b
  | _ => []
def defScope (s : Stmt) : Scope := match s with
  | .FunctionDef _ _ _ _ _ _ sc _ _ _ => sc
  | _ => { kind := .function, names := [], isGenerator := false, isCoroutine := false }

/-! ### no exception leaves a def -/
abbrev CX0 : CXT := fun _ _ _ _ _ _ => False
abbrev E0 : XK := fun _ _ _ => False
theorem pass0 {X : Cx} : Passes CX0 X E0 := fun _ _ _ _ _ _ _ h => h.elim

/-! ### a def (or method) of the text as it stands behind the top -/
structure Fun (K : PySem.W.Frag) (x qual : Str) (st : Stmt) (f : Addr) (fd : FuncData) : Prop where
  ex : ∃ (oc : Value) (od : Option Addr) (kV doc pm : Value) (an : Option Addr) (cdv ct : Value) (osl : Array (Option Value)),
    fd = PySem.W.fnOf x qual (defArgs st) (defBody st) (defScope st) .none kV doc pm an cdv ct ∧ K.lookup f = some ⟨oc, od, .func fd, osl⟩ ∧ PySem.W.codeIn K cdv qual = true
  kp : PySem.W.keepIn K (.ref f) = true
section
variable {P : Program} {w : World} {K : PySem.W.Frag} {mg : Str → Option Value} {base : Heap}
/-- THE RULE for a def: its body as a term of rules, and the reading of that term -/
theorem Fun.ok {x qual : Str} {st : Stmt} {f : Addr} {fd : FuncData} {N ps : List Str} {k : Nat} {sp : Sp} (F : Fun K x qual st f fd) (S : FnScope N ps (defScope st)) (len : ∀ vs H Q E, sp vs H Q E → vs.length = ps.length)
    (hbody : ∀ (cdv : Value) (A : Around) (outer : List Env) (s : Shared) (H : Hp) (vs : List V) (Q : VK) (E : XK), Room k (A.deeper (envOfC qual (defScope st) s.heap.objs.size f cdv)) → sp vs H Q E →
      ∃ t, PSs (cxOf CX0 P w K mg base N qual (defScope st) f cdv A outer s H E).nox (defBody st) t ∧ t { nx := fun _ H' => Q .non H', rt := Q } (start N vs) H) : FnOk P w K mg base CX0 (k + 1) f fd ps sp := by
  obtain ⟨oc, od, kV, doc, pm, an, cdv, ct, osl, rfl, lk, hcd⟩ := F.ex
  refine fn_of lk hcd S len fun A outer s H vs Q E hr hsp => ?_
  obtain ⟨t, h, q⟩ := hbody cdv A outer s H vs Q E hr hsp
  exact ⟨t, h.nox, q⟩
/-- how its arguments bind (no defaults): h is «fun _ _ _ _ _ _ us hl => match us, hl with | [_, _], _ => rfl», one _ a parameter -/
theorem Fun.binds {x qual : Str} {st : Stmt} {f : Addr} {fd : FuncData} {ps : List Str} (F : Fun K x qual st f fd)
    (h : ∀ (kV doc pm : Value) (an : Option Addr) (cdv ct : Value) (us : List Value), us.length = ps.length → bindArgs (PySem.W.fnOf x qual (defArgs st) (defBody st) (defScope st) .none kV doc pm an cdv ct) ⟨us, []⟩ = pure (ps.zip us)) : Binds K fd ps [] := by
  obtain ⟨oc, od, kV, doc, pm, an, cdv, ct, osl, rfl, lk, hcd⟩ := F.ex
  exact .all (h kV doc pm an cdv ct)
theorem fun_mk {x qual : Str} {st : Stmt} {f : Addr} {oc : Value} {od an : Option Addr} {osl : Array (Option Value)} {kV doc pm cdv ct : Value} (l : K.lookup f = some ⟨oc, od, .func (PySem.W.fnOf x qual (defArgs st) (defBody st) (defScope st) .none kV doc pm an cdv ct), osl⟩)
    (c : PySem.W.codeIn K cdv qual = true) (k : PySem.W.keepIn K (.ref f) = true) : Fun K x qual st f (PySem.W.fnOf x qual (defArgs st) (defBody st) (defScope st) .none kV doc pm an cdv ct) := ⟨⟨oc, od, kV, doc, pm, an, cdv, ct, osl, rfl, l, c⟩, k⟩
end
theorem hu_of {A : Around} {k : Nat} (hr : Room k A) : A.units + 1 < cLine := Nat.lt_of_le_of_lt (Nat.add_le_add_left (by decide : 1 ≤ 64) _) hr.units

/-! ### expressions in short: the name that stands in the i-th slot -/
section
variable {X : Cx}
theorem pv (i : Nat) {x : Str} {pos : Pos} (hN : X.N[i]? = some x := by rfl) (hv : Vis X.env.scope x := by first | exact Or.inl rfl | exact Or.inr (Or.inl rfl) | exact Or.inr (Or.inr rfl)) (hd : (x == ("__debug__" : Str)) = false := by decide)
    (hcd : (x == ("__classdict__" : Str)) = false := by decide) : PE X (.Name x pos) (tVar i) := pe_var hN hv hd hcd
end

/-! ### tests -/
theorem iteF {A B : Prop} (h : B) : if false = true then A else B := by
  rw [if_neg Bool.false_ne_true]
  exact h
theorem iteT {A B : Prop} (h : A) : if true = true then A else B := by
  rw [if_pos rfl]
  exact h
theorem ite2 {c A B : Prop} [Decidable c] (h1 : c → A) (h2 : ¬ c → B) : if c then A else B := by
  by_cases h : c
  · rw [if_pos h]
    exact h1 h
  · rw [if_neg h]
    exact h2 h
theorem iteNS {c A B : Prop} [Decidable c] (hc : c) (h : B) : if (!decide c) = true then A else B := by
  rw [decide_eq_true hc]
  exact iteF h

/-! ### heaps -/
/-- all that was tracked is as it was -/
def Same (H H' : Hp) : Prop := ∀ b o, H b = some o → H' b = some o
theorem Same.refl (H : Hp) : Same H H := fun _ _ h => h
theorem Same.trans {H H1 H2 : Hp} (a : Same H H1) (b : Same H1 H2) : Same H H2 := fun c o h => b c o (a c o h)
theorem Same.free {H H' : Hp} (e : Same H H') {l : Addr} (h : H' l = Option.none) : H l = Option.none := by
  cases q : H l with
  | none => rfl
  | some o =>
    rw [e l o q] at h
    cases h
theorem Same.seq {K : PySem.W.Frag} {H H' : Hp} {a : Addr} {xs : List V} (e : Same H H') (h : SqL K H a xs) : SqL K H' a xs := by
  rcases h with (h | ⟨o, h⟩) | h
  · exact .inl (.inl (e _ _ h))
  · exact .inl (.inr ⟨o, e _ _ h⟩)
  · exact .inr h

end L2

set_option Elab.async false
set_option linter.all false
set_option maxRecDepth 100000
set_option maxHeartbeats 4000000
namespace L2
open PySem PySem.Spec PyProof.Rows

/-! ### a list comprehension: its block as a context of its own -/
/-- the context of the block: s, H the state behind the new list; fp the iterator's records -/
def cxComp (X : Cx) (scope : Scope) (cl : List (Str × Addr)) (N : List Str) (s : Shared) (H : Hp) (fp : List Addr) : Cx :=
  { prog := X.prog, w := X.w, K := X.K, mg := X.mg, base := X.base, A := X.A, N := N, s₀ := s, H₀ := H, env := compEnvC scope cl s.heap.objs.size X.env,
    outer := X.stack, stack := X.stack, ex := fp, fn := fun _ => false, calm := X.calm, pn := [], xe := fun _ _ => False }
/-- the names that the block sees: its own one, then those of the def at the places js -/
def cNames (X : Cx) (x : Str) (js : List Nat) : List Str := x :: js.map fun j => X.N.getD j ""
def cVals (js : List Nat) (σ : St) : St := js.map fun j => (σ[j]?).getD none
/-- each place holds a name that is a cell of the def's and free in the block -/
structure FreeAt (X : Cx) (scope : Scope) (js : List Nat) : Prop where
  all : ∀ j ∈ js, ∃ y, X.N[j]? = some y ∧ (X.env.kindOf y = some .cell ∨ X.env.kindOf y = some .free) ∧ (y, NameKind.free) ∈ scope.names ∧
    ((relabel scope X.env).names.lookup y = some .cell ∨ (relabel scope X.env).names.lookup y = some .free)
theorem fa_nil {X : Cx} {scope : Scope} : FreeAt X scope [] := ⟨fun _ h => nomatch h⟩
theorem fa_cons {X : Cx} {scope : Scope} {j : Nat} {js : List Nat} {y : Str} (h1 : X.N[j]? = some y) (h2 : X.env.kindOf y = some .cell ∨ X.env.kindOf y = some .free) (h3 : (y, NameKind.free) ∈ scope.names)
    (h4 : (relabel scope X.env).names.lookup y = some .cell ∨ (relabel scope X.env).names.lookup y = some .free) (r : FreeAt X scope js) : FreeAt X scope (j :: js) :=
  ⟨fun k hk => by
    rcases List.mem_cons.mp hk with e | e
    · subst e; exact ⟨y, h1, h2, h3, h4⟩
    · exact r.all k e⟩

theorem lookup_relabel {env : Env} : ∀ {names : List (Str × NameKind)} {y : Str} {k : NameKind},
    (names.map fun (n, k) => if (k == NameKind.free && env.scope.kind == .function && env.kindOf n == some .cell) then (n, NameKind.cell) else (n, k)).lookup y = some k →
    ∃ k', (y, k') ∈ names ∧ (k' = k ∨ (k = .cell ∧ k' = .free))
  | [], _, _, h => by simp at h
  | (n, k0) :: r, y, k, h => by
    by_cases hc : (k0 == NameKind.free && env.scope.kind == .function && env.kindOf n == some .cell) = true
    · rw [List.map_cons] at h
      dsimp only at h
      rw [if_pos hc] at h
      simp only [List.lookup_cons] at h
      have hf : k0 = .free := by
        rw [Bool.and_eq_true, Bool.and_eq_true] at hc
        exact beq_iff_eq.mp hc.1.1
      cases hx : y == n with
      | true =>
        rw [hx] at h
        have e := beq_iff_eq.mp hx
        subst e
        have e2 := Option.some.inj h
        exact ⟨k0, List.mem_cons_self, .inr ⟨e2.symm, hf⟩⟩
      | false =>
        rw [hx] at h
        obtain ⟨k', m, q⟩ := lookup_relabel h
        exact ⟨k', List.mem_cons_of_mem _ m, q⟩
    · rw [List.map_cons] at h
      dsimp only at h
      rw [if_neg hc] at h
      simp only [List.lookup_cons] at h
      cases hx : y == n with
      | true =>
        rw [hx] at h
        have e := beq_iff_eq.mp hx
        subst e
        have e2 := Option.some.inj h
        exact ⟨k0, List.mem_cons_self, .inl e2⟩
      | false =>
        rw [hx] at h
        obtain ⟨k', m, q⟩ := lookup_relabel h
        exact ⟨k', List.mem_cons_of_mem _ m, q⟩

section
variable {X : Cx} {pins : List (Addr × Obj)} {σ : St} {H : Hp} {s : Shared} {scope : Scope} {cl : List (Str × Addr)} {x : Str} {js : List Nat} {fp : List Addr}

theorem comp_ok (I : Inv X pins σ H s) (hk : scope.kind = .function) (hcell : ∀ y ∈ scope.names, y.2 ≠ .cell)
    (hcl1 : ∀ y c, cl.lookup y = some c → X.env.cells.lookup y = some c) (hcl2 : ∀ y, (y, NameKind.free) ∈ scope.names → ∃ c, cl.lookup y = some c)
    (hf : ∀ b ∈ fp, FpOk X pins H b) (hlt : ∀ b ∈ fp, b < s.heap.objs.size) : (cxComp X scope cl (cNames X x js) s H fp).Ok where
  mod := I.ok.mod
  kind := hk
  glob := I.ok.glob
  blt := I.ok.blt
  above := Nat.le_refl _
  inj := fun y z c h1 h2 => I.ok.inj y z c (hcl1 y c h1) (hcl1 z c h2)
  has := fun y hy => by
    have hy' : (relabel scope X.env).names.lookup y = some .cell ∨ (relabel scope X.env).names.lookup y = some .free := hy
    rcases hy' with h | h
    · obtain ⟨k', m, q⟩ := lookup_relabel h
      rcases q with q | ⟨_, q⟩
      · exact absurd q (hcell _ m)
      · subst q; exact hcl2 y m
    · obtain ⟨k', m, q⟩ := lookup_relabel h
      rcases q with q | ⟨q, _⟩
      · subst q; exact hcl2 y m
      · cases q
  cab := fun y c h _ => by cases h
  hd := I.ok.hd
  frames := I.ok.frames
  stk := .inl rfl
  exf := fun b hb => ⟨Nat.ne_of_lt (hlt b hb), fun y c h => (hf b hb).2.2.2.2.1 y c (hcl1 y c h)⟩
  bs := I.bs
  bsz := Nat.le_trans I.ok.bsz I.sz
  noex := fun b o e hb => by
    rcases (hf b hb).2.2.2.1 with z | z
    · exact I.ok.noex b o e z
    · exact absurd (Nat.lt_of_lt_of_le (Heap.lt_size e) (Nat.le_trans I.ok.bsz z)) (Nat.lt_irrefl _)
  exfs := fun b hb hz => (List.mem_cons.mp (I.stkSub b hz)).elim (hf b hb).2.1 (hf b hb).2.2.1
  funs := I.stack
  frf := I.stkFree

theorem comp_start {h₁ : Heap} {tk : Nat} (I : Inv X pins σ H s) (hk : scope.kind = .function) (hcell : ∀ y ∈ scope.names, y.2 ≠ .cell)
    (hcl1 : ∀ y c, cl.lookup y = some c → X.env.cells.lookup y = some c) (hcl2 : ∀ y, (y, NameKind.free) ∈ scope.names → ∃ c, cl.lookup y = some c) (hjs : FreeAt X scope js)
    (hf : ∀ b ∈ fp, FpOk X pins H b) (hlt : ∀ b ∈ fp, b < s.heap.objs.size) {m : Str → Option Value} (hn : h₁.Ns s.heap.objs.size m) (hkeep : ∀ b o, s.heap.get? b = some o → h₁.get? b = some o) :
    Inv (cxComp X scope cl (cNames X x js) s H fp) [] (none :: cVals js σ) H { s with heap := h₁, toks := tk } where
  ok := comp_ok I hk hcell hcl1 hcl2 hf hlt
  os := rfl
  bare := I.bare
  base := Un.kept hkeep
  loc := by
    refine ⟨m, hn, fun i y v h1 h2 h3 => ?_⟩
    cases i with
    | zero =>
      have z : (some none : Option (Option V)) = some (some v) := h2
      cases z
    | succ k =>
      have h1' : (js.map fun j => X.N.getD j "")[k]? = some y := h1
      have h2' : (js.map fun j => (σ[j]?).getD none)[k]? = some (some v) := h2
      rw [List.getElem?_map] at h1' h2'
      cases hj : js[k]? with
      | none => rw [hj] at h1'; cases h1'
      | some j =>
        rw [hj] at h1' h2'
        have e1 : X.N.getD j "" = y := Option.some.inj h1'
        have e2 : (σ[j]?).getD none = some v := Option.some.inj h2'
        obtain ⟨y', n1, n2, n3, n4⟩ := hjs.all j (List.mem_of_getElem? hj)
        have e3 : y' = y := by rw [← e1, List.getD_eq_getElem?_getD, n1]; rfl
        subst e3
        have e4 : σ[j]? = some (some v) := by
          cases q : σ[j]? with
          | none => rw [q] at e2; cases e2
          | some a => rw [q] at e2; exact congrArg some e2
        obtain ⟨m0, _, hl⟩ := I.loc
        obtain ⟨u, r, l⟩ := hl j y' v n1 e4 (n2.elim (fun z => Or.inr (Or.inl z)) fun z => Or.inr (Or.inr z))
        refine ⟨u, r, .inr ⟨n4, ?_⟩⟩
        rcases l with ⟨l, _⟩ | ⟨_, c, hc, hi⟩
        · exfalso
          rcases n2 with z | z <;> (rw [z] at l; cases l)
        · obtain ⟨c', hc'⟩ := hcl2 y' n3
          have e5 := hcl1 y' c' hc'
          rw [hc] at e5
          have e6 := Option.some.inj e5
          subst e6
          obtain ⟨o, ho, hd⟩ := hi
          exact ⟨c, hc', o, hkeep c o ho, hd⟩
  cell := fun y c h => by
    obtain ⟨v, o, ho, hd⟩ := I.cell y c (hcl1 y c h)
    exact ⟨v, o, hkeep c o ho, hd⟩
  free := I.hok.fresh (Nat.le_refl _)
  freeC := fun y c h => I.freeC y c (hcl1 y c h)
  pin := fun p hp => absurd (show p ∈ ([] : List (Addr × Obj)) from hp) (by simp)
  hok := I.hok.kept hkeep
  len := by
    show (none :: cVals js σ).length = (cNames X x js).length
    simp [cVals, cNames]
end

/-- the tests of a clause -/
def PIf (X : Cx) (ifs : List Expr) (t : TT) : Prop :=
  ∀ (pins : List (Addr × Obj)) (s : Shared) (σ : St) (H : Hp) (Q : Bool → Hp → Prop), Inv X pins σ H s → t σ H Q →
    wpAny (model X.prog X.w) X.A (forIn ifs true fun c r => if r = true then do let ok ← isTrue c X.env (eval c X.env); pure (ForInStep.yield ok) else pure (ForInStep.yield r)) (TP X pins σ Q) X.xe s
def tNoIf : TT := fun _ H Q => Q true H
theorem pif_nil {X : Cx} : PIf X [] tNoIf := fun _ _ _ H _ I h => wpAny_tests_nil ⟨H, I, h⟩
theorem pif_one {X : Cx} {c : Expr} {t : TT} (h : PT X c t) : PIf X [c] t := fun pins s σ H Q I q => wpAny_tests_one (h pins s σ H Q I q)

/-- [elt for x in iter if ..]: W an invariant by the turn and a measure; the list grows at D -/
def tComp (wi : TI) (tc : TT) (te : TE) (js : List Nat) : TE := fun σ H Q => wi σ H fun J H1 => ∀ D, H1 D = none →
  ∃ W : Nat → Nat → Hp → Prop, (∃ m, W 0 m (upd H1 D (.lst []))) ∧ ∀ i m H2, W i m H2 → (J.stop i H2 ∧ Q (.ref D) H2) ∨
    (J.go i H2 ∧ ∀ v H3, J.yld i H2 v H3 → tc (some v :: cVals js σ) H3 fun b H4 => if b = true then te (some v :: cVals js σ) H4 fun y H5 =>
      ∃ ys, H5 D = some (.lst ys) ∧ ys.length < sizeLine ∧ ∃ m', m' < m ∧ W (i + 1) m' (upd H5 D (.lst (ys ++ [y]))) else ∃ m', m' < m ∧ W (i + 1) m' H4)

section
variable {X : Cx} {elt iter : Expr} {x : Str} {px pos : Pos} {ifs : List Expr} {scope : Scope} {cl : List (Str × Addr)} {wi : TI} {tc : TT} {te : TE} {js : List Nat}

theorem comp_core {use : Option (Value → Sem Unit)} {Qv : Value → Shared → Prop} {pins : List (Addr × Obj)} {s : Shared} {σ : St} {H : Hp} {Q : VK}
    (hc : X.calm = true) (hi : PI X (.Name x px) iter wi) (hk : scope.kind = .function) (hcell : ∀ y ∈ scope.names, y.2 ≠ .cell) (hx : (relabel scope X.env).names.lookup x = some .local)
    (hcl1 : ∀ y c, cl.lookup y = some c → X.env.cells.lookup y = some c) (hcl2 : ∀ y, (y, NameKind.free) ∈ scope.names → ∃ c, cl.lookup y = some c) (hjs : FreeAt X scope js) (hnd : (cNames X x js).Nodup)
    (ht : ∀ s' H' fp, PIf (cxComp X scope cl (cNames X x js) s' H' fp) ifs tc) (he : ∀ s' H' fp, PE (cxComp X scope cl (cNames X x js) s' H' fp) elt te)
    (I : Inv X pins σ H s) (h : tComp wi tc te js σ H Q)
    (fin : ∀ (D C : Addr) (H' : Hp) (s' : Shared), Inv X pins σ H' s' → FpOk X pins H' C → (∃ m, s'.heap.Ns C m) → Q (.ref D) H' → compPost (model X.prog X.w) X.A X.xe use Qv (.ref D) C (.ok .next) s') :
    wpAny (model X.prog X.w) X.A (eval iter X.env) (fun xv s₁ => wpAny (model X.prog X.w) X.A (pyIter xv) (fun it s₂ => wpAny (model X.prog X.w) X.A (newList []) (fun acc s₃ =>
      wpAny (model X.prog X.w) X.A (newFunctionEnv scope X.env.globals cl [] X.env.qual none .none (some X.env)) (fun cenv s₄ =>
        codeAny (model X.prog X.w) X.A (.compStart (.ListComp elt [⟨.Name x px, iter, ifs, 0⟩] scope pos) 0 it acc { cenv with scope := relabel scope X.env })
          (compPost (model X.prog X.w) X.A X.xe use Qv acc cenv.locals) s₄) X.xe s₃) X.xe s₂) X.xe s₁) X.xe s := by
  refine thn (hi pins s σ H _ I h) fun v s1 h1 => thn h1 fun itv s2 h2 => ?_
  obtain ⟨it, fp, tn, J, H2, e, I2, T, st2, f2, hW⟩ := h2
  subst e
  obtain ⟨W, ⟨m0, w0⟩, turn⟩ := hW s2.heap.objs.size (I2.hok.fresh (Nat.le_refl _))
  have hlt2 : ∀ b ∈ fp, b < s2.heap.objs.size := fun b hb => let ⟨_, e, _⟩ := T.obj _ _ st2 b hb; Heap.lt_size e
  have I3 : Inv X pins σ (upd H2 s2.heap.objs.size (.lst [])) { s2 with heap := s2.heap.push { cls := .type "list", data := .seq ([] : List Value).toArray } } :=
    I2.lnew (t' := s2.toks) (its := []) .nil (Nat.zero_le _)
  refine wpAny_newObj_type ?_
  have k23 : ∀ b o, s2.heap.get? b = some o → (s2.heap.push { cls := .type "list", data := .seq ([] : List Value).toArray }).get? b = some o := fun b o e => Heap.get?_push_of_some _ e
  have sz3 : (s2.heap.push { cls := .type "list", data := .seq ([] : List Value).toArray }).objs.size = s2.heap.objs.size + 1 := Heap.size_push ..
  generalize hs3 : ({ s2 with heap := s2.heap.push { cls := .type "list", data := .seq ([] : List Value).toArray } } : Shared) = s3 at I3
  have hs3' : s3.heap = s2.heap.push { cls := .type "list", data := .seq ([] : List Value).toArray } := by rw [← hs3]
  have hlt3 : ∀ b ∈ fp, b < s3.heap.objs.size := fun b hb => by rw [hs3', sz3]; exact Nat.lt_succ_of_lt (hlt2 b hb)
  have f3 : ∀ b ∈ fp, FpOk X pins (upd H2 s2.heap.objs.size (.lst [])) b := fun b hb => ⟨by rw [upd_ne (Nat.ne_of_lt (hlt2 b hb))]; exact (f2 b hb).1, (f2 b hb).2⟩
  refine wpAny_newFunctionEnv hcell (by intro y hy; simp at hy) (fun h₁ hns hsb => ?_) hk
  have k34 : ∀ b o, s3.heap.get? b = some o → h₁.get? b = some o := fun b o e => hsb.extBut b o (Nat.ne_of_lt (Heap.lt_size e)) (Heap.get?_push_of_some _ e)
  have I4 := comp_start (x := x) (js := js) (tk := s3.toks + ([] : List (Str × Value)).length) I3 hk hcell hcl1 hcl2 hjs f3 hlt3 hns k34
  have st4 : tn 0 h₁ := T.keep 0 _ _ st2 fun b hb o e => k34 b o (by rw [hs3']; exact k23 b o e)
  -- the iterator's records stay what they are
  have stat : ∀ {H' : Hp}, (∀ b ∈ fp, H' b = none) → ∀ b ∈ fp, FpOk (cxComp X scope cl (cNames X x js) s3 (upd H2 s2.heap.objs.size (.lst [])) fp) [] H' b := fun hn b hb =>
    ⟨hn b hb, Nat.ne_of_lt (hlt3 b hb), fun hz => (List.mem_cons.mp (I3.stkSub b hz)).elim (f2 b hb).2.1 (f2 b hb).2.2.1, .inl hb, fun y c q => (f2 b hb).2.2.2.2.1 y c (hcl1 y c q), fun p hp => absurd (show p ∈ ([] : List (Addr × Obj)) from hp) (by simp)⟩
  have back : ∀ {σ' : St} {H' : Hp} {s' : Shared}, Inv (cxComp X scope cl (cNames X x js) s3 (upd H2 s2.heap.objs.size (.lst [])) fp) [] σ' H' s' → Inv X pins σ H' s' := fun {σ' H' s'} J' =>
    I3.call' (ch := fp) J'.os J'.base J'.hok J'.bare fun b hb => ⟨(f2 b hb).2.2.2.1, (f2 b hb).2.1, (f2 b hb).2.2.2.2.1, (f2 b hb).2.2.2.2.2⟩
  have loop : codeAny (model X.prog X.w) X.A (.compLoop (.ListComp elt [⟨.Name x px, iter, ifs, 0⟩] scope pos) 0 (.ref it) (.ref s2.heap.objs.size) (compEnvC scope cl s3.heap.objs.size X.env))
      (compPost (model X.prog X.w) X.A X.xe use Qv (.ref s2.heap.objs.size) s3.heap.objs.size) { s3 with heap := h₁, toks := s3.toks + ([] : List (Str × Value)).length } := by
    refine codeAny_compLoop_tests (fun n s' => ∃ i o H', Inv (cxComp X scope cl (cNames X x js) s3 (upd H2 s2.heap.objs.size (.lst [])) fp) [] (o :: cVals js σ) H' s' ∧ tn i s'.heap ∧ (∀ b ∈ fp, H' b = none) ∧ W i n H') ?_ m0
      ⟨0, none, _, I4, st4, fun b hb => (f3 b hb).1, w0⟩
    rintro n s5 ⟨i, o, H5, I5, st5, fr5, w5⟩
    rcases turn i n H5 w5 with ⟨stop, q⟩ | ⟨go, step⟩
    · refine thn (T.done (cxComp X scope cl (cNames X x js) s3 (upd H2 s2.heap.objs.size (.lst [])) fp) rfl rfl rfl hc i [] s5 _ H5 _ I5 (stat fr5) st5 stop) fun r s6 ⟨hr, I6⟩ => ?_
      subst hr
      exact fin _ _ H5 s6 (back I6) (I3.fpOk (Nat.le_refl _) I6.free) (let ⟨m, hm, _⟩ := I6.loc; ⟨m, hm⟩) q
    · refine thn (T.item (cxComp X scope cl (cNames X x js) s3 (upd H2 s2.heap.objs.size (.lst [])) fp) rfl rfl rfl hc i [] s5 _ H5 _ I5 (stat fr5) st5 go) fun r s6 ⟨u, hr, h6⟩ => ?_
      subst hr
      show wpAny _ _ (assign (.Name x px) _ u) _ _ s6
      intro Γ p hΓ
      have h6' := h6 Γ p hΓ
      obtain ⟨v, H6, I6, r6, y6, st6, fr6⟩ := h6'
      refine (?_ : wpAny _ _ _ _ _ s6) Γ p hΓ
      have I6' := I6.pinned (stat fr6) (T.obj _ _ st6)
      have hg : PG (cxComp X scope cl (cNames X x js) s3 (upd H2 s2.heap.objs.size (.lst [])) fp) (.Name x px) (gName 0) := pg_name (i := 0) hnd rfl (Or.inl hx) (.inr hx)
      refine wpAny_mono (hg _ s6 _ H6 v u (fun σ' H' => σ' = some v :: cVals js σ ∧ H' = H6) I6' r6 ⟨rfl, rfl⟩) (fun _ s7 q7 => ?_) (fun _ _ f => False.elim f)
      obtain ⟨σ7, H7, I7, e7, e8⟩ := q7
      subst e7 e8
      refine wpAny_mono (ht s3 _ fp _ s7 _ H7 _ I7 (step v H7 y6)) (fun ok s8 q8 => ?_) (fun _ _ f => False.elim f)
      obtain ⟨H8, I8, q8⟩ := q8
      have again : ∀ {s9 : Shared} {σ9 : St} {H9 : Hp} {m' : Nat}, Inv (cxComp X scope cl (cNames X x js) s3 (upd H2 s2.heap.objs.size (.lst [])) fp) ([] ++ pinsAt fp s6.heap) (some v :: cVals js σ) H9 s9 → m' < n → W (i + 1) m' H9 →
          ∃ m, m < n ∧ ∃ i o H', Inv (cxComp X scope cl (cNames X x js) s3 (upd H2 s2.heap.objs.size (.lst [])) fp) [] (o :: cVals js σ) H' s9 ∧ tn i s9.heap ∧ (∀ b ∈ fp, H' b = none) ∧ W i m H' := fun {s9 σ9 H9 m'} I9 hm w9 => by
        refine ⟨m', hm, i + 1, some v, H9, I9.unpinned, T.keep _ _ _ st6 fun b hb o e => (I9.pin (b, o) (List.mem_append_right _ (List.mem_append_right _ (mem_pinsAt hb e)))).1, fun b hb => ?_, w9⟩
        obtain ⟨o, e, d⟩ := T.obj _ _ st6 b hb
        exact (I9.pin (b, o) (List.mem_append_right _ (List.mem_append_right _ (mem_pinsAt hb e)))).2.1
      cases ok with
      | false =>
        rw [if_neg Bool.false_ne_true] at q8 ⊢
        obtain ⟨m', hm, w9⟩ := q8
        exact again (σ9 := []) I8 hm w9
      | true =>
        rw [if_pos rfl] at q8 ⊢
        refine wpAny_mono (he s3 _ fp _ s8 _ H8 _ I8 q8) (fun y s9 q9 => ?_) (fun _ _ f => False.elim f)
        obtain ⟨yv, H9, I9, r9, ys, hD, hl, m', hm, w9⟩ := q9
        refine wpAny_mono (mt_append (X := cxComp X scope cl (cNames X x js) s3 (upd H2 s2.heap.objs.size (.lst [])) fp) _ s9 _ H9 (.ref s2.heap.objs.size) [yv] (.ref s2.heap.objs.size) [y] (fun _ H' => H' = upd H9 s2.heap.objs.size (.lst (ys ++ [yv]))) I9 rfl (.cons r9 .nil) ⟨_, ys, yv, rfl, rfl, hD, hl, rfl⟩) (fun _ s10 q10 => ?_) (fun _ _ f => False.elim f)
        obtain ⟨_, H10, I10, _, e10⟩ := q10
        subst e10
        exact again (σ9 := []) I10 hm w9
  exact codeAny_compStart_list loop (T.self _ 0 _ _ _ st4 loop)

/-- the comprehension as an expression -/
theorem pe_comp (hc : X.calm = true) (hi : PI X (.Name x px) iter wi) (hk : scope.kind = .function) (hcell : ∀ y ∈ scope.names, y.2 ≠ .cell) (hnames : ∀ y ∈ scope.names, y.2 = .local → scope.names.lookup y.1 = some .local) (hx : (relabel scope X.env).names.lookup x = some .local)
    (hclos : closureFor scope X.env = pure cl) (hcl1 : ∀ y c, cl.lookup y = some c → X.env.cells.lookup y = some c) (hcl2 : ∀ y, (y, NameKind.free) ∈ scope.names → ∃ c, cl.lookup y = some c) (hjs : FreeAt X scope js) (hnd : (cNames X x js).Nodup)
    (ht : ∀ s' H' fp, PIf (cxComp X scope cl (cNames X x js) s' H' fp) ifs tc) (he : ∀ s' H' fp, PE (cxComp X scope cl (cNames X x js) s' H' fp) elt te)
    (hs : ∀ x, foldedSetIterable iter X.env x = pure x := by intro _; rfl) : PE X (.ListComp elt [⟨.Name x px, iter, ifs, 0⟩] scope pos) (tComp wi tc te js) := by
  intro pins s σ H Q I h
  rw [eval_ListComp]
  refine wpAny_comprehension_free (use := none) rfl hs hclos hk hnames (comp_core hc hi hk hcell hx hcl1 hcl2 hjs hnd ht he I h fun D C H' s' I' fC hC q => ?_)
  obtain ⟨m, hm⟩ := hC
  refine ⟨m, hm, fun h' sb => ?_⟩
  obtain ⟨f0, f1, f2, f3, f4, f5⟩ := fC
  exact ⟨.ref D, H', I'.turned (t' := s'.toks) (fun b o hb e => (sb.2 b hb).trans e) f0 f1 f3 f4 f5, rfl, q⟩

/-- y = [..] -/
def tAsgC (i : Nat) (te : TE) : TS := fun D σ H => te σ H fun v H1 => D.nx (σ.set i (some v)) H1
theorem ps_setC {y : Str} {i : Nat} {py spos : Pos} (hN : X.N.Nodup) (hy : X.N[i]? = some y) (hyl : Loc X.env.scope y) (hyf : X.fn y = true ∨ X.env.scope.names.lookup y = some .local)
    (hsw : swapsWith (.ListComp elt [⟨.Name x px, iter, ifs, 0⟩] scope pos) (some (.Name y py)) spos.line X.env = pure true)
    (hc : X.calm = true) (hi : PI X (.Name x px) iter wi) (hk : scope.kind = .function) (hcell : ∀ y ∈ scope.names, y.2 ≠ .cell) (hnames : ∀ y ∈ scope.names, y.2 = .local → scope.names.lookup y.1 = some .local) (hx : (relabel scope X.env).names.lookup x = some .local)
    (hclos : closureFor scope X.env = pure cl) (hcl1 : ∀ y c, cl.lookup y = some c → X.env.cells.lookup y = some c) (hcl2 : ∀ y, (y, NameKind.free) ∈ scope.names → ∃ c, cl.lookup y = some c) (hjs : FreeAt X scope js) (hnd : (cNames X x js).Nodup)
    (ht : ∀ s' H' fp, PIf (cxComp X scope cl (cNames X x js) s' H' fp) ifs tc) (he : ∀ s' H' fp, PE (cxComp X scope cl (cNames X x js) s' H' fp) elt te)
    (hs : ∀ x, foldedSetIterable iter X.env x = pure x := by intro _; rfl) :
    PS X (.Assign [.Name y py] (.ListComp elt [⟨.Name x px, iter, ifs, 0⟩] scope pos) spos) (tAsgC i (tComp wi tc te js)) := by
  intro pins s σ H D I h
  rw [exec_Assign_Name_used _ _ _ _ hsw]
  refine wpAny_bind (wpAny_standAt (wpAny_bind ?_))
  show wpAny _ _ (do let _ ← comprehension (.ListComp elt [⟨.Name x px, iter, ifs, 0⟩] scope pos) scope X.env _ (newList []) false (eval iter X.env) (some (assign (.Name y py) X.env))) _ _ s
  refine wpAny_bind (wpAny_mono (wpAny_comprehension_free (use := some (assign (.Name y py) X.env)) (Q := fun _ s' => SP X pins D .next s') rfl hs hclos hk hnames
    (comp_core hc hi hk hcell hx hcl1 hcl2 hjs hnd ht he I h fun D' C H' s' I' fC hC q => ?_)) (fun _ s' hq => wpAny_pure (wpAny_pure hq)) fun _ _ e => e)
  obtain ⟨m, o, es, ep, ho, hd, hr⟩ := hC
  obtain ⟨f0, f1, f2, f3, f4, f5⟩ := fC
  have Ip : Inv X (pins ++ [(C, o)]) σ H' s' := I'.pins_of fun p hp => (List.mem_append.mp hp).elim (fun z => I'.pin p (List.mem_append_right _ z)) fun z => by
    have e : p = (C, o) := by simpa using z
    subst e
    exact ⟨ho, f0, f1, f2, fun v z => by rw [hd] at z; cases z⟩
  have hg : PG X (.Name y py) (gName i) := pg_name hN hy hyl hyf
  refine thn (hg _ s' σ H' (.ref D') (.ref D') (fun σ' H'' => σ' = σ.set i (some (.ref D')) ∧ H'' = H') Ip rfl ⟨rfl, rfl⟩) fun _ s'' q'' => ?_
  obtain ⟨σ'', H'', I'', e1, e2⟩ := q''
  subst e1 e2
  have hp := (I''.pin (C, o) (by simp)).1
  refine ⟨m, ⟨o, es, ep, hp, hd, hr⟩, fun h' sb => ?_⟩
  exact ⟨_, _, (I''.unpinned).turned (t' := s''.toks) (fun b o hb e => (sb.2 b hb).trans e) f0 f1 f3 f4 f5, q⟩
end
end L2


set_option Elab.async false
set_option linter.all false
set_option maxRecDepth 100000
set_option maxHeartbeats 4000000
namespace L2
open PySem PySem.Spec PyProof.Rows

/-! ### a def of the text: where it stands, what it promises -/
/-- the def st stands at the top by the name x -/
structure TopDef (K : PySem.W.Frag) (mg : Str → Option Value) (x : Str) (st : Stmt) : Prop where
  ex : ∃ (f : Addr) (fd : FuncData), Fun K x x st f fd ∧ mg x = some (.ref f)
theorem top_mk {K : PySem.W.Frag} {h : Heap} {mg : Str → Option Value} {x : Str} {st : Stmt} {f : Addr} {oc kV doc pm cdv ct : Value} {od an : Option Addr} {osl : Array (Option Value)} (X : K.In h) (G : h.Ns mainGlobals mg)
    (a : PySem.W.nsIn K mainGlobals x = some (some (.ref f)))
    (l : K.lookup f = some ⟨oc, od, .func (PySem.W.fnOf x x (defArgs st) (defBody st) (defScope st) .none kV doc pm an cdv ct), osl⟩)
    (c : PySem.W.codeIn K cdv x = true) (k : PySem.W.keepIn K (.ref f) = true) : TopDef K mg x st :=
  ⟨_, _, fun_mk l c k, PySem.W.mg_of X G a⟩
/-- the def by the name x keeps sp, within n calls of one another -/
structure Def (P : Program) (w : World) (K : PySem.W.Frag) (mg : Str → Option Value) (base : Heap) (n : Nat) (x : Str) (ps : List Str) (sp : Sp) : Prop where
  ex : ∃ (f : Addr) (fd : FuncData), FnOk P w K mg base CX0 n f fd ps sp ∧ Binds K fd ps [] ∧ PySem.W.keepIn K (.ref f) = true ∧ mg x = some (.ref f)
section
variable {P : Program} {w : World} {K : PySem.W.Frag} {mg : Str → Option Value} {base : Heap}
theorem def_of {x : Str} {st : Stmt} {N ps : List Str} {k : Nat} {sp : Sp} (T : TopDef K mg x st) (S : FnScope N ps (defScope st))
    (bd : ∀ (kV doc pm : Value) (an : Option Addr) (cdv ct : Value) (us : List Value), us.length = ps.length → bindArgs (PySem.W.fnOf x x (defArgs st) (defBody st) (defScope st) .none kV doc pm an cdv ct) ⟨us, []⟩ = pure (ps.zip us))
    (len : ∀ vs H Q E, sp vs H Q E → vs.length = ps.length)
    (body : ∀ (f : Addr) (cdv : Value) (A : Around) (outer : List Env) (s : Shared) (H : Hp) (vs : List V) (Q : VK) (E : XK), Room k (A.deeper (envOfC x (defScope st) s.heap.objs.size f cdv)) → sp vs H Q E →
      ∃ t, PSs (cxOf CX0 P w K mg base N x (defScope st) f cdv A outer s H E).nox (defBody st) t ∧ t { nx := fun _ H' => Q .non H', rt := Q } (start N vs) H) :
    Def P w K mg base (k + 1) x ps sp := by
  obtain ⟨f, fd, F, m⟩ := T.ex
  exact ⟨f, fd, F.ok S len (body f), F.binds bd, F.kp, m⟩
end
section
variable {X : Cx} {n : Nat} {x : Str} {ps : List Str} {sp : Sp} {e a b : Expr} {es : List Expr} {t : TA} {ta tb : TE} {p pos : Pos}
/-- f(..) of such a def -/
theorem pe_def (D : Def X.prog X.w X.K X.mg X.base n x ps sp) (hr : Room n X.A) (hg : Gl X x) (ha : PA X (e :: es) t) (hdb : (x == ("__debug__" : Str)) = false := by decide)
    (he : starEach (e :: es) X.env = (false, eval e X.env) :: starEach es X.env := by rfl) (hpl : (backTo pos (starEach es X.env)).any (·.1) = false := by rfl) :
    PE X (.Call (.Name x p) (e :: es) [] pos) (tCall sp [] E0 t) := by
  obtain ⟨f, fd, F, b, kp, m⟩ := D.ex
  exact pe_call F hr hg m kp b .nil pass0 ha hdb he hpl

/-! ### ints of any size -/
theorem op_mulK : OpR X (binaryOp .Mult) (rI IntMulOk fun i j => .int (i * j)) := opI fun _ _ _ _ _ _ _ hc q => PyProof.Rows.mul_int q hc
def CDivK (_ j : Int) : Prop := j ≠ 0 ∧ j.natAbs.log2 < 9000
theorem op_fdivK : OpR X (binaryOp .FloorDiv) (rI CDivK fun i j => .int (i.fdiv j)) := opI fun _ _ _ _ _ _ _ hc q => PyProof.Rows.floordiv_int hc.1 q (.inl (PyProof.noPylong_of_log2 hc.2))

/-! ### isinstance(x, c) -/
theorem call_isi : CallR X (.builtin "isinstance") (fun xs H Q => ∃ (y : V) (c : V) (cv t : Value) (k : Bool), xs = [y, c] ∧ (∀ u, RelV c u → u = cv) ∧ TyOf X.K H y t ∧ PySem.W.kitOne X.K t cv = some k ∧ Q (.bl k) H) := by
  intro pins s σ H xs us Q I r h
  obtain ⟨y, c, cv, t, k, rfl, hc, ty, kt, q⟩ := h
  obtain ⟨u, w', rfl, r1, r2⟩ := vals2 r
  have e := hc _ r2
  subst e
  exact isinst_ok I r1 ty kt fun tk => ⟨.bl k, H, I.tok tk, rfl, q⟩
/-! ### sep.join(a list of texts) -/
end
end L2


set_option Elab.async false
set_option linter.all false
set_option maxRecDepth 100000
set_option maxHeartbeats 4000000
namespace L2
open PySem PySem.Spec PySem.Calls PyProof.Rows PySem.W PySem.Builtin.Getset_descriptor
section
variable {prog : Program} {w : World} {A : Around} {E : Value → Shared → Prop} {s : Shared} {K : Frag} {x D : Addr}
end
end L2


set_option Elab.async false
set_option linter.all false
set_option maxRecDepth 100000
set_option maxHeartbeats 4000000
namespace L2
open PySem PySem.Spec PyProof.Rows
section
variable {P : Program} {w : World} {H : Hp} {h : Heap} {a : Addr} {o : HO}
end

/-! ### how an exception lies behind a call: ea the object, C its class; whatever is tracked, or stood ahead of the call, stands in B, which stays -/

/-! ### raise: the exception leaves the def -/
section
variable {P : Program} {w : World} {K : PySem.W.Frag} {mg : Str → Option Value} {base : Heap} {N : List Str} {qual : Str} {scope : Scope} {f : Addr} {cd : Value} {A : Around} {outer : List Env} {s : Shared} {H : Hp} {E : XK}
end
end L2


set_option Elab.async false
set_option linter.all false
set_option maxRecDepth 100000
set_option maxHeartbeats 4000000
namespace L2
open PySem PySem.Spec PyProof.Rows PySem.W

/-! ### raise X(..) of an own class without __init__ -/

section
variable {P : Program} {w : World} {K : Frag} {mg : Str → Option Value} {base : Heap} {N : List Str} {qual : Str} {scope : Scope} {f : Addr} {cd : Value} {A : Around} {outer : List Env} {s : Shared} {H : Hp} {E : XK}
end

/-! ### a def that may raise -/

/-! ### except X -/
end L2


set_option Elab.async false
set_option linter.all false
set_option maxRecDepth 100000
set_option maxHeartbeats 4000000
namespace L2
open PySem PySem.Spec PyProof.Rows PySem.W

section
variable {X : Cx} {pins : List (Addr × Obj)} {σ : St} {H H' : Hp} {s s' : Shared}
end
end L2


set_option Elab.async false
set_option linter.all false
set_option maxRecDepth 100000
set_option maxHeartbeats 4000000
namespace L2
open PySem PySem.Spec PyProof.Rows PySem.W

/-! ### try: f(..) except Y as n: suite -/

/-! ### isinstance(an exception that was caught, c) -/
end L2


set_option Elab.async false
set_option linter.all false
set_option maxRecDepth 100000
set_option maxHeartbeats 4000000
namespace L2
open PySem PySem.Spec PyProof.Rows PySem.W
section
variable {X : Cx}
/-! ### == of two tuples of ints -/

/-! ### a, b = a list -/

/-! ### a comprehension's free names -/
theorem clo_aux {env : Env} : ∀ (names : List (Str × NameKind)) (acc : List (Str × Addr)), (∀ y, (y, NameKind.free) ∈ names → ∃ c, env.cells.lookup y = some c) →
    ∃ cl : List (Str × Addr), (forIn names acc (fun x r => match x with
        | (name, kind) => if (kind == NameKind.free) = true then do let a ← cellOf env name; pure (ForInStep.yield ((name, a) :: r)) else pure (ForInStep.yield r)) : Sem _) = pure cl ∧
      (∀ y c, cl.lookup y = some c → acc.lookup y = some c ∨ env.cells.lookup y = some c) ∧ (∀ y, (y, NameKind.free) ∈ names → ∃ c, cl.lookup y = some c) ∧ ∀ y, (∃ c, acc.lookup y = some c) → ∃ c, cl.lookup y = some c
  | [], acc, _ => ⟨acc, rfl, fun _ _ h => .inl h, (fun _ h => nomatch h), fun _ h => h⟩
  | (nm, kd) :: r, acc, h => by
    by_cases hk : kd = .free
    · subst hk
      obtain ⟨c, hc⟩ := h nm List.mem_cons_self
      obtain ⟨cl, e, p1, p2, p3⟩ := clo_aux r ((nm, c) :: acc) fun y hy => h y (List.mem_cons_of_mem _ hy)
      refine ⟨cl, ?_, fun y d hd => ?_, fun y hy => ?_, fun y hy => ?_⟩
      · rw [List.forIn_cons]
        have z : cellOf env nm = pure c := by unfold cellOf; rw [hc]
        simp only [z, beq_self_eq_true, if_true]
        exact e
      · rcases p1 y d hd with q | q
        · rw [List.lookup_cons] at q
          cases hy : y == nm with
          | true =>
            rw [hy] at q
            have e1 := beq_iff_eq.mp hy
            subst e1
            cases q
            exact .inr hc
          | false => rw [hy] at q; exact .inl q
        · exact .inr q
      · rcases List.mem_cons.mp hy with q | q
        · cases q
          exact p3 nm ⟨c, by rw [List.lookup_cons, beq_self_eq_true]⟩
        · exact p2 y q
      · obtain ⟨d, hd⟩ := hy
        refine p3 y ?_
        rw [List.lookup_cons]
        cases y == nm with
        | true => exact ⟨c, rfl⟩
        | false => exact ⟨d, hd⟩
    · obtain ⟨cl, e, p1, p2, p3⟩ := clo_aux r acc fun y hy => h y (List.mem_cons_of_mem _ hy)
      refine ⟨cl, ?_, p1, fun y hy => ?_, p3⟩
      · rw [List.forIn_cons]
        have z : (kd == NameKind.free) = false := by simpa using hk
        simp only [z, Bool.false_eq_true, if_false]
        exact e
      · rcases List.mem_cons.mp hy with q | q
        · cases q; exact absurd rfl hk
        · exact p2 y q
theorem clo_of {scope : Scope} {env : Env} (h : ∀ y, (y, NameKind.free) ∈ scope.names → ∃ c, env.cells.lookup y = some c) :
    ∃ cl, closureFor scope env = pure cl ∧ (∀ y c, cl.lookup y = some c → env.cells.lookup y = some c) ∧ ∀ y, (y, NameKind.free) ∈ scope.names → ∃ c, cl.lookup y = some c := by
  obtain ⟨cl, e, p1, p2, _⟩ := clo_aux (env := env) scope.names [] h
  refine ⟨cl, ?_, fun y c hc => (p1 y c hc).elim (fun z => by cases z) fun z => z, p2⟩
  unfold closureFor
  show (forIn scope.names [] _ >>= fun s => pure s) = pure cl
  rw [bind_pure]
  exact e
/-- what the block's free names ask: each is one of those at js -/
theorem free_of {scope : Scope} {js : List Nat} {pins : List (Addr × Obj)} {σ : St} {H : Hp} {s : Shared} (I : Inv X pins σ H s) (hf : ∀ y, (y, NameKind.free) ∈ scope.names → X.env.kindOf y = some .cell ∨ X.env.kindOf y = some .free) :
    ∀ y, (y, NameKind.free) ∈ scope.names → ∃ c, X.env.cells.lookup y = some c := fun y hy => I.ok.has y (hf y hy)
variable {elt iter : Expr} {x : Str} {px pos : Pos} {ifs : List Expr} {scope : Scope} {wi : TI} {tc : TT} {te : TE} {js : List Nat}
theorem pe_compF (hc : X.calm = true) (hi : PI X (.Name x px) iter wi) (hk : scope.kind = .function) (hcell : ∀ y ∈ scope.names, y.2 ≠ .cell) (hnames : ∀ y ∈ scope.names, y.2 = .local → scope.names.lookup y.1 = some .local) (hx : (relabel scope X.env).names.lookup x = some .local)
    (hf : ∀ p ∈ scope.names, p.2 = .free → X.env.kindOf p.1 = some .cell ∨ X.env.kindOf p.1 = some .free) (hjs : FreeAt X scope js) (hnd : (cNames X x js).Nodup)
    (ht : ∀ cl s' H' fp, PIf (cxComp X scope cl (cNames X x js) s' H' fp) ifs tc) (he : ∀ cl s' H' fp, PE (cxComp X scope cl (cNames X x js) s' H' fp) elt te)
    (hs : ∀ x, foldedSetIterable iter X.env x = pure x := by intro _; rfl) : PE X (.ListComp elt [⟨.Name x px, iter, ifs, 0⟩] scope pos) (tComp wi tc te js) := by
  intro pins s σ H Q I h
  obtain ⟨cl, e, p1, p2⟩ := clo_of (free_of (js := js) I fun y hy => hf (y, .free) hy rfl)
  exact pe_comp hc hi hk hcell hnames hx e p1 p2 hjs hnd (ht cl) (he cl) hs pins s σ H Q I h
theorem ps_setF {y : Str} {i : Nat} {py spos : Pos} (hN : X.N.Nodup) (hy : X.N[i]? = some y) (hyl : Loc X.env.scope y) (hyf : X.fn y = true ∨ X.env.scope.names.lookup y = some .local)
    (hsw : swapsWith (.ListComp elt [⟨.Name x px, iter, ifs, 0⟩] scope pos) (some (.Name y py)) spos.line X.env = pure true)
    (hc : X.calm = true) (hi : PI X (.Name x px) iter wi) (hk : scope.kind = .function) (hcell : ∀ y ∈ scope.names, y.2 ≠ .cell) (hnames : ∀ y ∈ scope.names, y.2 = .local → scope.names.lookup y.1 = some .local) (hx : (relabel scope X.env).names.lookup x = some .local)
    (hf : ∀ p ∈ scope.names, p.2 = .free → X.env.kindOf p.1 = some .cell ∨ X.env.kindOf p.1 = some .free) (hjs : FreeAt X scope js) (hnd : (cNames X x js).Nodup)
    (ht : ∀ cl s' H' fp, PIf (cxComp X scope cl (cNames X x js) s' H' fp) ifs tc) (he : ∀ cl s' H' fp, PE (cxComp X scope cl (cNames X x js) s' H' fp) elt te)
    (hs : ∀ x, foldedSetIterable iter X.env x = pure x := by intro _; rfl) :
    PS X (.Assign [.Name y py] (.ListComp elt [⟨.Name x px, iter, ifs, 0⟩] scope pos) spos) (tAsgC i (tComp wi tc te js)) := by
  intro pins s σ H D I h
  obtain ⟨cl, e, p1, p2⟩ := clo_of (free_of (js := js) I fun y hy => hf (y, .free) hy rfl)
  exact ps_setC hN hy hyl hyf hsw hc hi hk hcell hnames hx e p1 p2 hjs hnd (ht cl) (he cl) hs pins s σ H D I h
end
end L2


set_option Elab.async false
set_option maxRecDepth 100000
set_option maxHeartbeats 4000000
/-! ### the law's call, with the bound of its ints' bits -/
namespace L2
open PySem PySem.Spec PyProof.Rows PySem.W
theorem weight_mem : ∀ {ns : List Int} {n : Int}, n ∈ ns → WData.weight (.int n) ≤ WData.weightAll (ns.map WData.int)
  | [], _, h => nomatch h
  | m :: r, n, h => by
    show _ ≤ WData.weight (.int m) + 1 + WData.weightAll (r.map WData.int)
    rcases List.mem_cons.mp h with e | e
    · subst e; omega
    · have := weight_mem (ns := r) e
      omega
theorem bits_weight (n : Int) : Builtin.Int.intBits n = WData.weight (.int n) := by
  show _ = if n == 0 then 0 else n.natAbs.log2 + 1
  unfold Builtin.Int.intBits
  by_cases h : n = 0
  · subst h; rfl
  · simp [h]
theorem script_bits {ns : List Int} (h : WData.layableAll [.list (ns.map .int)] = true) : ∀ n ∈ ns, Builtin.Int.intBits n ≤ 1048576 := fun n hn => by
  have h1 : WData.layable (.list (ns.map .int)) = true := by
    simpa [WData.layableAll] using h
  have h2 : WData.weight (.list (ns.map .int)) ≤ 2 ^ 20 := by
    unfold WData.layable at h1
    rw [Bool.and_eq_true, Bool.and_eq_true] at h1
    exact of_decide_eq_true h1.2
  have h3 : WData.weightAll (ns.map WData.int) ≤ 2 ^ 20 := h2
  have h4 := weight_mem hn
  rw [bits_weight]
  omega
theorem walk_bits {l : OpenLaw} {n k : Nat} {q : Program} {loose : List Str} {XP : (Str → Option Value) → Heap → Prop} {YP : World → Heap → Prop} {d : DefRec} {K : Params → Frag} {CX : CXT} {sp : Frag → Sp} {x : Str}
    (hn : l.most = some n) (hn2 : n ≤ sizeLine) (hdf : d.params.defaults = []) (hr : Room k callerA) (hY : ∀ (w : World) (h : Heap), YP w h → (K w.params).In h)
    (F : ∀ (w : World) (mg : Str → Option Value) (fa : Addr) (h : Heap), (K w.params).In h → h.Ns mainGlobals mg → mg d.name = some (.ref fa) →
      ∃ fd : FuncData, (∀ (s : Shared) (u : Value), BindsTo s fd ⟨[u], []⟩ [(x, u)]) ∧ ∀ base : Heap, (K w.params).In base → base.Ns mainGlobals mg → FnOk l.prog w (K w.params) mg base CX k fa fd [x] (sp (K w.params)))
    (hsp : ∀ (K : Frag) (H : Hp) (a : Addr) (ns : List Int), ns.length ≤ n → (∀ m ∈ ns, Builtin.Int.intBits m ≤ 1048576) → Only H → SqL K H a (ns.map V.int) → sp K [.ref a] H (fun v _ => v = .bl true) fun _ _ _ => False)
    (hCX : ∀ (H : Hp) (s : Shared) (e : Value) (s' : Shared), CX [] H s (fun _ _ _ => False) e s' → False) : WalkO q loose XP YP l.row.toRowW d [] (fun f vs => PySem.call f vs) := by
  intro w s₀ s₁ mg mb G Y fa o pm cd doc dV kV ho hd hcd hD hmg hg args vals as hpre hlay hrd hwl hlo
  obtain rfl : dV = .none := Dflts.none hD hdf
  obtain rfl : kV = .none := Dflts.noKw hD
  obtain ⟨a, vs, ns, rfl, rfl, hobj, hints, hlen⟩ := Att.script_of hn hpre hwl
  have KX := hY w _ Y
  obtain ⟨fd, hb, hF⟩ := F w mg fa _ KX G.T.g hmg
  have c := law_call KX G.T.g G.T.b G.T.builtins G.T.nolimit hg hobj hints (Nat.le_trans hlen hn2) hr hF hb (fun H hO hS => hsp (K w.params) H a ns hlen (script_bits hlay) hO hS) fun H e s' => hCX H s₁ e s'
  refine enter_call (codeAny_mono c fun r s' hq => ?_)
  obtain ⟨rfl, h2, h3, h4⟩ := hq
  exact ⟨.inl ⟨.bool true, .bool true, [], rfl, fun _ => rfl, .bool true, Att.post_true l _, fun _ => ⟨List.Pairwise.nil, fun _ hm => (nomatch hm)⟩⟩, h2, h3, h4⟩
end L2


namespace L2
open PySem PySem.Spec PyProof.Rows

/-! ### lists of pairs as tables -/
section
variable {κ : Type} [DecidableEq κ]
def valV (kvs : List (κ × V)) (k : κ) : Option V := (kvs.find? fun kv => decide (kv.1 = k)).map (·.2)
/-- in its place, or at the end -/
def putK (kvs : List (κ × V)) (k : κ) (v : V) : List (κ × V) :=
  if (kvs.any fun kv => decide (kv.1 = k)) = true then kvs.map (fun kv => if kv.1 = k then (kv.1, v) else kv) else kvs ++ [(k, v)]

theorem valV_pos {p : κ × V} {r : List (κ × V)} {k : κ} (e : p.1 = k) : valV (p :: r) k = some p.2 := by simp [valV, List.find?_cons, e]
theorem valV_neg {p : κ × V} {r : List (κ × V)} {k : κ} (e : ¬ p.1 = k) : valV (p :: r) k = valV r k := by simp [valV, List.find?_cons, e]
theorem valV_any (k : κ) : ∀ kvs : List (κ × V), (kvs.any fun kv => decide (kv.1 = k)) = (valV kvs k).isSome
  | [] => rfl
  | p :: r => by
    rw [List.any_cons]
    by_cases e : p.1 = k
    · simp only [valV_pos e, decide_eq_true e, Bool.true_or, Option.isSome_some]
    · rw [valV_neg e, decide_eq_false e, Bool.false_or]; exact valV_any k r
theorem valV_map (k j : κ) (y : V) : ∀ kvs : List (κ × V), valV (kvs.map fun kv => if kv.1 = k then (kv.1, y) else kv) j = (valV kvs j).map fun x => if j = k then y else x
  | [] => rfl
  | p :: r => by
    have ih := valV_map k j y r
    rw [List.map_cons]
    by_cases h : p.1 = k
    · rw [if_pos h]
      by_cases e : p.1 = j
      · rw [valV_pos (p := (p.1, y)) e, valV_pos e, Option.map_some, if_pos (e.symm.trans h)]
      · rw [valV_neg (p := (p.1, y)) e, valV_neg e, ih]
    · rw [if_neg h]
      by_cases e : p.1 = j
      · rw [valV_pos (p := p) e, valV_pos e, Option.map_some, if_neg (fun z => h (e.trans z))]
      · rw [valV_neg (p := p) e, valV_neg e, ih]
theorem valV_snoc (k j : κ) (y : V) : ∀ kvs : List (κ × V), valV kvs k = none → valV (kvs ++ [(k, y)]) j = if j = k then some y else valV kvs j
  | [], _ => by
    by_cases e : k = j
    · rw [if_pos e.symm]; exact valV_pos (p := (k, y)) e
    · rw [if_neg (fun z => e z.symm)]; exact valV_neg (p := (k, y)) e
  | p :: r, hn => by
    rw [List.cons_append]
    have hk : ¬ p.1 = k := fun z => by rw [valV_pos z] at hn; cases hn
    rw [valV_neg hk] at hn
    have ih := valV_snoc k j y r hn
    by_cases e : p.1 = j
    · rw [valV_pos e, valV_pos e, if_neg (fun z => hk (e.trans z))]
    · rw [valV_neg e, valV_neg e, ih]
theorem valV_put (kvs : List (κ × V)) (k j : κ) (y : V) : valV (putK kvs k y) j = if j = k then some y else valV kvs j := by
  unfold putK
  by_cases a : (kvs.any fun kv => decide (kv.1 = k)) = true
  · rw [if_pos a, valV_map]
    rw [valV_any] at a
    by_cases e : j = k
    · obtain ⟨x, hx⟩ := Option.isSome_iff_exists.mp a
      rw [if_pos e, e, hx, Option.map_some, if_pos rfl]
    · rw [if_neg e]
      cases valV kvs j with
      | none => rfl
      | some x => rw [Option.map_some, if_neg e]
  · rw [if_neg a]
    refine valV_snoc k j y kvs ?_
    rw [valV_any] at a
    cases q : valV kvs k with
    | none => rfl
    | some x => rw [q] at a; exact (a rfl).elim
theorem length_putK (kvs : List (κ × V)) (k : κ) (v : V) : (putK kvs k v).length ≤ kvs.length + 1 := by
  unfold putK
  split
  · rw [List.length_map]; omega
  · rw [List.length_append, List.length_cons, List.length_nil]; omega
theorem putK_new {kvs : List (κ × V)} {k : κ} (v : V) (h : valV kvs k = none) : putK kvs k v = kvs ++ [(k, v)] := by
  unfold putK
  rw [valV_any, h]
  exact if_neg (by decide)

theorem RelO.isSome_eq {o : Option V} {u : Option Value} (r : RelO o u) : o.isSome = u.isSome := by
  cases o with
  | none => cases u with
    | none => rfl
    | some _ => exact (show False from r).elim
  | some _ => cases u with
    | none => exact (show False from r).elim
    | some _ => rfl

/-- raw tables of the same keys -/
theorem KV.val {kvs : List (κ × V)} {vs : List (κ × Value)} (r : KV kvs vs) (k : κ) : RelO (valV kvs k) (valueAt vs k) := by
  unfold KV at r
  induction r with
  | nil => exact True.intro
  | @cons p q ps qs h t ih =>
    obtain ⟨h1, h2⟩ := h
    by_cases e : p.1 = k
    · have e' : q.1 = k := h1.symm.trans e
      have b : valueAt (q :: qs) k = some q.2 := by simp [valueAt, List.find?_cons, e']
      rw [valV_pos e, b]; exact h2
    · have e' : ¬ q.1 = k := fun z => e (h1.trans z)
      have b : valueAt (q :: qs) k = valueAt qs k := by simp [valueAt, List.find?_cons, e']
      rw [valV_neg e, b]; exact ih
theorem KV.any {kvs : List (κ × V)} {vs : List (κ × Value)} (r : KV kvs vs) (k : κ) : (kvs.any fun kv => decide (kv.1 = k)) = vs.any fun kv => decide (kv.1 = k) := by
  unfold KV at r
  induction r with
  | nil => rfl
  | cons h t ih => rw [List.any_cons, List.any_cons, ih, h.1]
theorem KV.repl {kvs : List (κ × V)} {vs : List (κ × Value)} (r : KV kvs vs) (k : κ) {y : V} {u : Value} (ry : RelV y u) :
    KV (kvs.map fun kv => if kv.1 = k then (kv.1, y) else kv) (vs.map fun kv => if kv.1 = k then (kv.1, u) else kv) := by
  unfold KV at r ⊢
  induction r with
  | nil => exact .nil
  | @cons p q ps qs h t ih =>
    rw [List.map_cons, List.map_cons]
    refine .cons ?_ ih
    obtain ⟨h1, h2⟩ := h
    by_cases e : p.1 = k
    · rw [if_pos e, if_pos (h1.symm.trans e)]; exact ⟨h1, ry⟩
    · rw [if_neg e, if_neg (fun z => e (h1.trans z))]; exact ⟨h1, h2⟩
theorem KV.put {kvs : List (κ × V)} {vs : List (κ × Value)} (r : KV kvs vs) (k : κ) {y : V} {u : Value} (ry : RelV y u) : KV (putK kvs k y) (stored vs k u) := by
  unfold putK stored
  rw [r.any k]
  by_cases e : (vs.any fun kv => decide (kv.1 = k)) = true
  · rw [if_pos e, if_pos e]; exact r.repl k ry
  · rw [if_neg e, if_neg e]; exact Paired.snoc r ⟨rfl, ry⟩
theorem KV.length {kvs : List (κ × V)} {vs : List (κ × Value)} (r : KV kvs vs) : kvs.length = vs.length := Paired.length r
end


/-! ### a tracked dict, its keys ints and texts or tuples of these -/
theorem kV_is {P : Program} {w : World} {k : Key} {u : Value} (r : RelV (kV k) u) : (mixKind P w).is k u = true := by
  cases k with
  | inl i => obtain ⟨t, e⟩ := (show ∃ t, u = Value.int i t from r); subst e; exact mixKind_int P w i t
  | inr x => obtain ⟨t, e⟩ := (show ∃ t, u = Value.str x t from r); subst e; exact mixKind_str P w x t
theorem items_are {P : Program} {w : World} : ∀ {ks : List Key} {us : List Value}, Vals (ks.map kV) us → ItemsAre (mixKind P w) ks us
  | [], _, r => by rw [List.map_nil] at r; cases r; exact .nil
  | k :: ks, _, r => by
    rw [List.map_cons] at r
    cases r with
    | cons h t => exact .cons (kV_is h) (items_are t)

/-- raw entries of a dict with tuple keys -/
abbrev KT (H : Hp) : List (List Key × V) → List (List Key × Addr × Value) → Prop := Paired fun p q => p.1 = q.1 ∧ H q.2.1 = some (.tup (p.1.map kV)) ∧ RelV p.2 q.2.2
theorem KT.val {H : Hp} {kvs : List (List Key × V)} {xs : List (List Key × Addr × Value)} (r : KT H kvs xs) (k : List Key) : RelO (valV kvs k) ((atKey xs k).map (·.2)) := by
  induction r with
  | nil => exact True.intro
  | @cons p q ps qs h t ih =>
    obtain ⟨h1, _, h2⟩ := h
    by_cases e : p.1 = k
    · have e' : q.1 = k := h1.symm.trans e
      have b : atKey (q :: qs) k = some q.2 := by simp [atKey, List.find?_cons, e']
      rw [valV_pos e, b]; exact h2
    · have e' : ¬ q.1 = k := fun z => e (h1.trans z)
      have b : atKey (q :: qs) k = atKey qs k := by simp [atKey, List.find?_cons, e']
      rw [valV_neg e, b]; exact ih
theorem KT.repl {H : Hp} {kvs : List (List Key × V)} {xs : List (List Key × Addr × Value)} (r : KT H kvs xs) (k : List Key) {y : V} {u : Value} (ry : RelV y u) :
    KT H (kvs.map fun kv => if kv.1 = k then (kv.1, y) else kv) (xs.map (putAt k u)) := by
  induction r with
  | nil => exact .nil
  | @cons p q ps qs h t ih =>
    rw [List.map_cons, List.map_cons]
    refine .cons ?_ ih
    obtain ⟨h1, h2, h3⟩ := h
    unfold putAt
    by_cases e : p.1 = k
    · rw [if_pos e, if_pos (h1.symm.trans e)]; exact ⟨h1, h2, ry⟩
    · rw [if_neg e, if_neg (fun z => e (h1.trans z))]; exact ⟨h1, h2, h3⟩
theorem KT.put {H : Hp} {kvs : List (List Key × V)} {xs : List (List Key × Addr × Value)} (r : KT H kvs xs) (k : List Key) {b : Addr} {y : V} {u : Value} (hb : H b = some (.tup (k.map kV))) (ry : RelV y u) :
    KT H (putK kvs k y) (storedH xs k b u) := by
  have e : (kvs.any fun kv => decide (kv.1 = k)) = (atKey xs k).isSome := by
    rw [valV_any, (r.val k).isSome_eq, Option.isSome_map]
  unfold putK storedH
  rw [e]
  by_cases q : (atKey xs k).isSome = true
  · rw [if_pos q, if_pos q]; exact r.repl k ry
  · rw [if_neg q, if_neg q]; exact Paired.snoc r ⟨rfl, hb, ry⟩
theorem KT.keeps {H H' : Hp} {kvs : List (List Key × V)} {xs : List (List Key × Addr × Value)} (r : KT H kvs xs) (ht : ∀ b ys, H b = some (.tup ys) → H' b = some (.tup ys)) : KT H' kvs xs :=
  Paired.mapP r fun _ _ z => ⟨z.1, ht _ _ z.2.1, z.2.2⟩

section
variable {P : Program} {w : World} {H : Hp} {h : Heap} {a : Addr}
theorem rd_of {u : HO} (ok : HOk P w H h) (e : Rd H a u) : ObjOk P w H h a u := e.ok ok
theorem dk_rd {kvs : List (Key × V)} (ok : HOk P w H h) (e : Rd H a (.dK kvs)) : kvs.length ≤ sizeLine ∧ (a == sysModules) = false ∧ ∃ vs, KV kvs vs ∧ h.DictOf (mixKind P w) a vs :=
  show ObjOk P w H h a (.dK kvs) from rd_of ok e
theorem dk_of {kvs : List (Key × V)} (ok : HOk P w H h) (e : H a = some (.dK kvs)) : kvs.length ≤ sizeLine ∧ (a == sysModules) = false ∧ ∃ vs, KV kvs vs ∧ h.DictOf (mixKind P w) a vs := dk_rd ok (.inl e)
/-- a tracked tuple of ints and texts is a key -/
theorem key_of {ks : List Key} (ok : HOk P w H h) (e : H a = some (.tup (ks.map kV))) : (tupleKind (mixKind P w)).is h ks a := by
  obtain ⟨_, its, r, o, h1, h2, n, h3⟩ := (show ObjOk P w H h a (.tup (ks.map kV)) from ok a _ e)
  exact ⟨o, its.toArray, n, h1, h2, h3, by simpa using items_are r⟩
theorem dt_rd {kvs : List (List Key × V)} (ok : HOk P w H h) (e : Rd H a (.dT kvs)) : kvs.length ≤ sizeLine ∧ (a == sysModules) = false ∧
    ∃ xs, KT H kvs xs ∧ h.DictOfH (tupleKind (mixKind P w)) a xs := by
  obtain ⟨z, y, xs, r, o, es, ep, h1, h2, h3, h4, h5⟩ := (show ObjOk P w H h a (.dT kvs) from rd_of ok e)
  refine ⟨z, y, xs, r, o, es, ep, h1, h2, h3, h4, fun x hx => ?_, h5⟩
  have all : ∀ {l : List (List Key × V)} {m : List (List Key × Addr × Value)}, KT H l m → ∀ x ∈ m, (tupleKind (mixKind P w)).is h x.1 x.2.1 := by
    intro l m q
    induction q with
    | nil => intro x hx; exact nomatch hx
    | @cons p q ps qs hq t ih =>
      intro x hx
      rcases List.mem_cons.mp hx with e | hx
      · subst e
        exact key_of ok (by rw [← hq.1]; exact hq.2.1)
      · exact ih x hx
  exact all r x hx
theorem dt_of {kvs : List (List Key × V)} (ok : HOk P w H h) (e : H a = some (.dT kvs)) : kvs.length ≤ sizeLine ∧ (a == sysModules) = false ∧
    ∃ xs, KT H kvs xs ∧ h.DictOfH (tupleKind (mixKind P w)) a xs := dt_rd ok (.inl e)
end

/-- what the dict at a holds at the key y -/
def DGet (H : Hp) (a : Addr) (y : V) (r : Option V) : Prop :=
  (∃ kvs k, Rd H a (.dK kvs) ∧ y = kV k ∧ r = valV kvs k) ∨ ∃ kvs k b, Rd H a (.dT kvs) ∧ y = .ref b ∧ H b = some (.tup (k.map kV)) ∧ r = valV kvs k
/-- the heap behind a[y] = v -/
def DPut (H : Hp) (a : Addr) (y v : V) (H' : Hp) : Prop :=
  (∃ kvs k, H a = some (.dK kvs) ∧ y = kV k ∧ kvs.length < sizeLine ∧ H' = upd H a (.dK (putK kvs k v))) ∨
  ∃ kvs k b, H a = some (.dT kvs) ∧ y = .ref b ∧ H b = some (.tup (k.map kV)) ∧ kvs.length < sizeLine ∧ H' = upd H a (.dT (putK kvs k v))
theorem DGet.t {H : Hp} {a b : Addr} {kvs : List (List Key × V)} {k : List Key} (e : H a = some (.dT kvs)) (eb : H b = some (.tup (k.map kV))) : DGet H a (.ref b) (valV kvs k) := .inr ⟨kvs, k, b, .inl e, rfl, eb, rfl⟩
theorem DPut.t {H : Hp} {a b : Addr} {kvs : List (List Key × V)} {k : List Key} {v : V} (e : H a = some (.dT kvs)) (eb : H b = some (.tup (k.map kV))) (hl : kvs.length < sizeLine) :
    DPut H a (.ref b) v (upd H a (.dT (putK kvs k v))) := .inr ⟨kvs, k, b, e, rfl, eb, hl, rfl⟩


section
variable {X : Cx} {pins : List (Addr × Obj)} {σ : St} {H : Hp} {s : Shared} {a : Addr} {y v : V} {u r : Value} {o : Option V} {A : Around} {E : Value → Shared → Prop}

theorem Inv.big (I : Inv X pins σ H s) : sysModules < s.heap.objs.size := by
  have h : mainGlobals < s.heap.objs.size := (I.mod.glob.keeps I.bk).lt
  exact Nat.lt_trans (by decide) h

/-- d[y], there -/
theorem d_getItem {Q : Value → Shared → Prop} (hu : A.units + 1 < cLine) (I : Inv X pins σ H s) (g : DGet H a y (some v)) (ry : RelV y u) (h : ∀ w' s', Inv X pins σ H s' → RelV v w' → Q w' s') :
    wpAny (model X.prog X.w) A (getItem (.ref a) u) Q E s := by
  rcases g with ⟨kvs, k, e, ey, l⟩ | ⟨kvs, k, b, e, ey, eb, l⟩
  · subst ey
    obtain ⟨z, hd, vs, rel, dd⟩ := dk_rd I.hok e
    obtain ⟨w', hw, rw'⟩ := RelO.some_of (v := v) (o := valueAt vs k) (by rw [l]; exact rel.val k)
    exact wpAny_getItem_of (kV_is ry) dd.mapOf hw (h w' _ (I.tok _) rw')
  · subst ey
    cases (show u = Value.ref b from ry)
    obtain ⟨z, hd, xs, rel, dd⟩ := dt_rd I.hok e
    obtain ⟨w', hw, rw'⟩ := RelO.some_of (v := v) (o := (atKey xs k).map (·.2)) (by rw [l]; exact rel.val k)
    obtain ⟨p, hp, hp2⟩ := Option.map_eq_some_iff.mp hw
    refine wpAny_getItem_heap (tupleKind_room_in1 hu) (key_of I.hok eb) dd hp ?_
    rw [hp2]
    exact h w' _ (I.tok _) rw'
theorem d_notIn {Q : Value → Shared → Prop} (hu : A.units + 1 < cLine) (I : Inv X pins σ H s) (g : DGet H a y o) (ry : RelV y u) (h : ∀ s', Inv X pins σ H s' → Q (.bool (!o.isSome)) s') :
    wpAny (model X.prog X.w) A (compareOp .NotIn u (.ref a)) Q E s := by
  rcases g with ⟨kvs, k, e, ey, l⟩ | ⟨kvs, k, b, e, ey, eb, l⟩
  · subst ey
    obtain ⟨z, hd, vs, rel, dd⟩ := dk_rd I.hok e
    refine wpAny_notIn_of (kV_is ry) hd dd.mapOf ?_
    rw [← (rel.val k).isSome_eq, ← l]
    exact h _ (I.tok _)
  · subst ey
    cases (show u = Value.ref b from ry)
    obtain ⟨z, hd, xs, rel, dd⟩ := dt_rd I.hok e
    refine wpAny_notIn_heap (tupleKind_room_in1 hu) (key_of I.hok eb) hd dd ?_
    have q := (rel.val k).isSome_eq
    rw [Option.isSome_map] at q
    rw [← q, ← l]
    exact h _ (I.tok _)
/-- a dict's object is replaced -/
theorem d_write {h' : Heap} {t' : Nat} {ob : HO} (I : Inv X pins σ H s) (mu : Mut (H a)) (hs : Heap.SameBut a s.heap h') (he : ∃ q, h'.get? a = some q) (new : ObjOk X.prog X.w (upd H a ob) h' a ob) :
    Inv X pins σ (upd H a ob) { s with heap := h', toks := t' } :=
  I.write (x := a) (e := a) mu (.inl rfl) (fun b q hb z => (hs.2 b hb).trans z) he new
theorem dk_new {P : Program} {w : World} {H' : Hp} {h' : Heap} {kvs : List (Key × V)} {vs : List (Key × Value)} (z : kvs.length ≤ sizeLine) (hd : (a == sysModules) = false) (rel : KV kvs vs) (dd : h'.DictOf (mixKind P w) a vs) :
    ObjOk P w H' h' a (.dK kvs) := ⟨z, hd, vs, rel, dd⟩
/-- d[y] = v -/
theorem d_setItem {H' : Hp} {Q : Unit → Shared → Prop} (hu : A.units + 1 < cLine) (I : Inv X pins σ H s) (g : DPut H a y v H') (ry : RelV y u) (rv : RelV v r) (h : ∀ s', Inv X pins σ H' s' → Q () s') :
    wpAny (model X.prog X.w) A (setItem (.ref a) u r) Q E s := by
  rcases g with ⟨kvs, k, e, ey, l, eH⟩ | ⟨kvs, k, b, e, ey, eb, l, eH⟩
  · subst ey eH
    obtain ⟨z, hd, vs, rel, dd⟩ := dk_of I.hok e
    have hz : vs.length ≤ sizeLine := by rw [← rel.length]; exact z
    have hl : (putK kvs k v).length ≤ sizeLine := by have := length_putK kvs k v; omega
    refine wpAny_setItem_pairs (hsz := hz) (kV_is ry) dd fun h' dd' hs => h _ ?_
    have he : ∃ q, h'.get? a = some q := let ⟨q, _, _, hq, _⟩ := dd'; ⟨q, hq⟩
    exact d_write I (by rw [e]; exact True.intro) hs he (dk_new hl hd (rel.put k rv) dd')
  · subst ey eH
    cases (show u = Value.ref b from ry)
    obtain ⟨z, hd, xs, rel, dd⟩ := dt_of I.hok e
    have hz : xs.length ≤ sizeLine := by rw [← Paired.length rel]; exact z
    have hl : (putK kvs k v).length ≤ sizeLine := by have := length_putK kvs k v; omega
    refine wpAny_setItem_heap (hsz := hz) (tupleKind_room_in1 hu) (key_of I.hok eb) dd fun h' dd' hs => h _ ?_
    obtain ⟨q, es, ep, hq, h2, h3, h4, _, h5⟩ := dd'
    refine d_write I (by rw [e]; exact True.intro) hs ⟨q, hq⟩ ⟨hl, hd, _, (rel.put k eb rv).keeps fun c ys ec => ?_, q, es, ep, hq, h2, h3, h4, h5⟩
    rw [upd_ne (ne_of ec e (fun z => nomatch z))]
    exact ec
end

section
variable {X : Cx} {pins : List (Addr × Obj)} {σ : St} {H : Hp} {s : Shared} {a : Addr} {kvs : List (Key × V)} {k : Key} {u : Value} {A : Around} {E : Value → Shared → Prop}
end


/-! ### readings and rules -/
/-- the element of a subscription, not a slice -/
def NoSl (i : Expr) : Prop := ∀ ov iv, subscripted i false ov iv = operate [ov, iv] (getItem ov iv)
theorem subD_of {prog : Program} {w : World} {A : Around} {E : Value → Shared → Prop} {s : Shared} {env : Env} {value slice : Expr} {pos : Pos} {T id : String} {Q : Value → Shared → Prop}
    (hl : typeLookup (.type T) "__getitem__" = pure (some (.builtin id))) (hs : NoSl slice)
    (h : wpAny (model prog w) A (eval value env) (fun o s₁ => wpAny (model prog w) A (eval slice env) (fun i s₂ => s₂.TypeIs o T ∧ wpAny (model prog w) A (getItem o i) Q E s₂) E s₁) E s) :
    wpAny (model prog w) A (eval (.Subscript value slice pos) env) Q E s := by
  refine Subscript_ (wpAny_mono h (fun o s₁ h₁ => wpAny_mono h₁ (fun i s₂ h₂ => ?_) fun _ _ x => x) fun _ _ x => x)
  obtain ⟨hT, h₂⟩ := h₂
  unfold subscriptTail
  refine wpAny_bind ?_
  rw [getitemInPython_of_ne hT.not_modules]
  refine wpAny_bind (wpAny_specialOf hT hl ?_)
  have fin : wpAny (model prog w) A (subscripted slice false o i) (fun r s₃ => wpAny (model prog w) A (letTemporaryGo value o r >>= fun _ => pure r) Q E s₃) E s₂ := by
    rw [hs o i]
    exact wpAny_operating (wpAny_mono h₂ (fun r s₃ h₃ => wpAny_bind (wpAny_letTemporaryGo (wpAny_pure h₃))) fun _ _ x => x)
  first
    | exact wpAny_pure (wpAny_bind fin)
    | exact wpAny_bind (wpAny_pure (wpAny_bind fin))
    | exact wpAny_bind fin

theorem dict_typeIs {X : Cx} {pins : List (Addr × Obj)} {σ : St} {H : Hp} {s : Shared} {a : Addr} {y : V} {o : Option V} (I : Inv X pins σ H s) (g : DGet H a y o) : s.TypeIs (.ref a) "dict" := by
  rcases g with ⟨kvs, k, e, _, _⟩ | ⟨kvs, k, b, e, _, _, _⟩
  · obtain ⟨_, _, vs, _, dd⟩ := dk_rd I.hok e
    exact dd.typeIs
  · obtain ⟨_, _, xs, _, dd⟩ := dt_rd I.hok e
    exact dd.typeIs

/-- d[y] -/
def tDGet (td ty : TE) : TE := fun σ H Q => td σ H fun x H1 => ty σ H1 fun y H2 => ∃ a v, x = .ref a ∧ DGet H2 a y (some v) ∧ Q v H2
def tDNotIn (ty td : TE) : TE := fun σ H Q => ty σ H fun y H1 => td σ H1 fun x H2 => ∃ a o, x = .ref a ∧ DGet H2 a y o ∧ Q (.bl (!o.isSome)) H2
/-- d[y] = v -/
def sDPut (td ty tv : TE) : TS := fun D σ H => tv σ H fun v H1 => td σ H1 fun x H2 => ty σ H2 fun y H3 => ∃ a H4, x = .ref a ∧ DPut H3 a y v H4 ∧ D.nx σ H4

section
variable {X : Cx} {o i e value : Expr} {pos pos' tpos : Pos} {td ty tv : TE}
theorem pe_dget (hu : X.A.units + 1 < cLine) (ho : PE X o td) (hi : PE X i ty) (hs : NoSl i) : PE X (.Subscript o i pos) (tDGet td ty) := by
  intro pins s σ H Q I h
  refine subD_of PySem.F.slot_dict_getitem.lookup hs (thn (ho pins s σ H _ I h) fun u s1 ⟨x, H1, I1, rx, q1⟩ => thn (hi pins s1 σ H1 _ I1 q1) fun iv s2 ⟨y, H2, I2, ry, a, v, ex, g, q2⟩ => ?_)
  subst ex
  obtain rfl : u = Value.ref a := rx
  exact ⟨dict_typeIs I2 g, d_getItem hu I2 g ry fun w' s3 I3 rw' => ⟨v, H2, I3, rw', q2⟩⟩
theorem pc_dnotin (hu : X.A.units + 1 < cLine) (hi : PE X i ty) (ho : PE X o td) : PC X .NotIn i o (tDNotIn ty td) := by
  intro pins s σ H Q I h
  refine thn (hi pins s σ H _ I h) fun iv s1 ⟨y, H1, I1, ry, q1⟩ => thn (ho pins s1 σ H1 _ I1 q1) fun u s2 ⟨x, H2, I2, rx, a, ov, ex, g, q2⟩ => ?_
  subst ex
  obtain rfl : u = Value.ref a := rx
  exact d_notIn hu I2 g ry fun s3 I3 => ⟨.bl (!ov.isSome), H2, I3, rfl, q2⟩
theorem ps_dput (hu : X.A.units + 1 < cLine) (ho : PE X o td) (hi : PE X i ty) (hv : PE X value tv) (hs : swapsWith value (some (.Subscript o i pos')) pos.line X.env = pure false) :
    PS X (.Assign [.Subscript o i pos'] value pos) (sDPut td ty tv) := by
  intro pins s σ H D I h
  refine wpAny_Assign_Subscript (thn (hv pins s σ H _ I h) fun r s1 ⟨v, H1, I1, rv, q1⟩ => thn (ho pins s1 σ H1 _ I1 q1) fun u s2 ⟨x, H2, I2, rx, q2⟩ => thn (hi pins s2 σ H2 _ I2 q2) fun iv s3 ⟨y, H3, I3, ry, a, H4, ex, g, q3⟩ => ?_) hs
  subst ex
  obtain rfl : u = Value.ref a := rx
  exact d_setItem hu I3 g ry rv fun s4 I4 => ⟨σ, H4, I4, q3⟩
end


/-! ### displays -/
theorem dt_empty {P : Program} {w : World} {H : Hp} (h : Heap) (hb : sysModules < h.objs.size) : ObjOk P w H (h.push { cls := .type "dict", data := .dict #[] }) h.objs.size (.dT []) :=
  ⟨Nat.zero_le _, beq_eq_false_iff_ne.mpr (Ne.symm (Nat.ne_of_lt hb)), [], .nil, _, #[], 0, Heap.get?_push_size _ rfl, ⟨rfl, rfl, rfl⟩, rfl, rfl, List.nodup_nil⟩
def tDNewT : TE := fun _ H Q => ∀ p, H p = none → Q (.ref p) (upd H p (.dT []))
section
variable {X : Cx} {pos : Pos}
theorem pe_dnewT : PE X (.Dict [] [] pos) tDNewT := fun pins s σ H Q I h =>
  wpAny_Dict_empty ⟨.ref s.heap.objs.size, _, I.laid (a := s.heap.objs.size) (o := .dT []) (t' := s.toks) (fun _ _ q => Heap.get?_push_of_some _ q) (Nat.le_refl _) (dt_empty s.heap I.big), rfl, h _ (I.hok.fresh (Nat.le_refl _))⟩
end




/-! ### methods -/


section
variable {X : Cx} {pins : List (Addr × Obj)} {σ : St} {H : Hp} {s : Shared} {a : Addr} {y d : V} {u r : Value} {o : Option V} {A : Around} {E : Value → Shared → Prop}
end

section
variable {X : Cx} {o e f : Expr} {apos cpos : Pos} {td ty tx : TE}
end

/-! ### dict(d): a copy -/
section
variable {X : Cx} {pins : List (Addr × Obj)} {σ : St} {H : Hp} {s : Shared} {a : Addr} {kvs : List (Key × V)} {A : Around} {E : Value → Shared → Prop}
end


section
variable {X : Cx} {pins : List (Addr × Obj)} {σ : St} {H : Hp} {s : Shared} {a : Addr} {y : V} {u : Value} {A : Around} {E : Value → Shared → Prop}
end
end L2


set_option Elab.async false
set_option linter.all false
set_option maxRecDepth 100000
set_option maxHeartbeats 4000000
namespace L2
open PySem PySem.Spec PyProof.Rows
/-! ### list(reversed(a list)) -/
section
variable {prog : Program} {w : World} {A : Around} {E : Value → Shared → Prop} {s : Shared} {R : Result → Shared → Prop} {l it S : Addr} {items : Array Value}
end
end L2


set_option Elab.async false
set_option linter.all false
set_option maxRecDepth 100000
set_option maxHeartbeats 4000000
namespace L2
open PySem PySem.Spec PyProof.Rows
/-! ### a method of whatever class the object is of -/
/-- the method m of the class C keeps sp -/
structure MethOk (P : Program) (w : World) (K : PySem.W.Frag) (mg : Str → Option Value) (base : Heap) (C : Addr) (m : Str) (k : Nat) (ps : List Str) (sp : Sp) : Prop where
  cl : Cls K C
  ex : ∃ (f : Addr) (fd : FuncData), Meth K C m f ∧ FnOk P w K mg base CX0 k f fd ps sp ∧ Binds K fd ps []
section
variable {X : Cx} {o e : Expr} {es : List Expr} {ta te : TE} {t : TA} {m x : Str} {k : Nat} {p pos apos p2 pos2 : Pos} {C : Addr}
def tMethD (X : Cx) (k : Nat) (m : Str) (ta : TE) (t : TA) : TE := fun σ H Q => ta σ H fun x H1 => ∃ (a C dx : Addr) (fs : List (Str × V)) (ps : List Str) (sp : Sp), x = .ref a ∧ H1 a = some (.ins C dx fs) ∧ fs.lookup m = none ∧
  MethOk X.prog X.w X.K X.mg X.base C m k ps sp ∧ t σ H1 fun vs H2 => sp (.ref a :: vs) H2 Q E0
/-- o.m() -/
theorem pe_methD0 {pl : Sem Bool} (he : PE X o ta) (hr : Room k X.A)
    (ht : eval (.Call (.Attribute o m apos) [] [] pos) X.env = (do
      let ov ← eval o X.env
      standAt apos.atName
      let (f, first) ← holding [ov] (getMethod ov m pl)
      callWith pos f first (backTo pos (starEach [] X.env)) (backToKw pos (keywordEach [] X.env))) := by rfl) :
    PE X (.Call (.Attribute o m apos) [] [] pos) (tMethD X k m ta tNil) := by
  intro pins s σ H Q I h
  refine PySem.W.methodCall_KW (pl := pl) (thn (he pins s σ H _ I h) fun u s1 ⟨y, H1, I1, ry, a, C, dx, fs, ps, sp, ey, ea, lo, M, q⟩ => ?_) ht
  subst ey
  have eu : u = Value.ref a := ry
  subst eu
  obtain ⟨f, fd, hm, G, hb⟩ := M.ex
  refine getmeth_ok I1 ea M.cl hm lo ?_
  exact PySem.W.callWith_K0 (first := [.ref a]) I1.kIn hm.kp (run_fn (us := [.ref a]) (vs := [.ref a]) G hr hb .nil pass0 I1 (.cons rfl .nil) q)
/-! ### C(), no __init__ of its own -/
structure Mk0 (K : PySem.W.Frag) (C : Addr) : Prop where
  makes : PySem.W.makesIn K C = true
  init : PySem.W.findIn K (.ref C) "__init__" = some (some (.builtin "object.__init__"))
  kp : PySem.W.keepIn K (.ref C) = true
def tMakeN (C : Addr) : TE := fun _ H Q => ∀ a dx, H a = none → H dx = none → dx ≠ a → Q (.ref a) (upd (upd H dx (.own a)) a (.ins C dx []))
theorem pe_makeN (M : Mk0 X.K C) (hg : Gl X x) (hm : X.mg x = some (.ref C)) (hdb : (x == ("__debug__" : Str)) = false := by decide) : PE X (.Call (.Name x p) [] [] pos) (tMakeN C) := by
  intro pins s σ H Q I h
  refine wpAny_Call_Name_kw (ld_glob I hg hm ?_ hdb)
  refine PySem.W.callWith_K0 I.kIn M.kp (wpAny_call ?_)
  have Y := PySem.W.makes_of (M := model X.prog X.w) I.kIn M.makes
  refine make_map0 I.kIn M.makes M.init (fun self => PySem.W.Looks.of_pure (PySem.W.oi_bind self)) ?_
  have I2 := Inv.made (C := C) I
  have e2 : ((s.heap.push PySem.W.emptyDict).push (PySem.W.instObj C s.heap.objs.size)).get? (s.heap.objs.size + 1) = some (PySem.W.instObj C s.heap.objs.size) := by
    have z := Heap.get?_push_size (s.heap.push PySem.W.emptyDict) (o := PySem.W.instObj C s.heap.objs.size) rfl
    rwa [Heap.size_push] at z
  have t1 : PySem.W.Looks (model X.prog X.w) ((s.heap.push PySem.W.emptyDict).push (PySem.W.instObj C s.heap.objs.size)) (typeOf (.ref (s.heap.objs.size + 1))) (.ref C) := (PySem.W.Looks.ld e2).andThen .now
  have t2 : PySem.W.Looks (model X.prog X.w) ((s.heap.push PySem.W.emptyDict).push (PySem.W.instObj C s.heap.objs.size)) (isInstance (.ref (s.heap.objs.size + 1)) (.type "object")) true :=
    t1.andThen (Y.top.keeps fun b q z => Heap.get?_push_of_some _ (Heap.get?_push_of_some _ z))
  have z := h (s.heap.objs.size + 1) s.heap.objs.size (I.hok.fresh (Nat.le_succ _)) (I.hok.fresh (Nat.le_refl _)) (Nat.ne_of_lt (Nat.lt_succ_self _))
  refine codeAny_call_builtin PySem.W.oi_plain PySem.W.entry_oi (PySem.W.check_slot (i := "object.__init__") (owner := "object") (n := "__init__") (self := .ref (s.heap.objs.size + 1)) (rest := []) (kw := []) PySem.W.oi_kind PySem.W.oi_split t2 (PySem.W.oi_args _) ?_)
  rw [PySem.W.oi_run]
  exact wpAny_pure (And.intro rfl ⟨V.ref (s.heap.objs.size + 1), _, I2, rfl, z⟩)
/-! ### list(reversed(e)) -/
/-! ### != of two lists of texts -/
end
end L2


set_option Elab.async false
set_option linter.all false
set_option maxRecDepth 100000
set_option maxHeartbeats 4000000
namespace Mine
open PySem
/-! ### sayings as trees -/
inductive W5 where
  | more | less | greater | lesser | leads
def W5.str : W5 → Str
  | .more => "more" | .less => "less" | .greater => "greater" | .lesser => "lesser" | .leads => "leads"
inductive Tr where
  | never | always | lp | lq
  | no (t : Tr)
  | fold (w : W5) (a b : Tr)
def Tr.size : Tr → Nat
  | .no t => t.size + 1
  | .fold _ a b => a.size + b.size + 1
  | _ => 1
theorem Tr.size_pos : ∀ t : Tr, 1 ≤ t.size
  | .never | .always | .lp | .lq => Nat.le_refl _
  | .no _ => Nat.le_add_left _ _
  | .fold _ _ _ => Nat.le_add_left _ _
/-! ### a text is of one tree -/
/-! ### worths, putting in, the parts in their order -/
def W5.worth (w : W5) (n a b : Int) : Int := match w with
  | .more => min (a + b) n
  | .less => max (a + b - n) 0
  | .greater => max a b
  | .lesser => min a b
  | .leads => min (n - a + b) n
def Tr.post : Tr → List Tr
  | .no t => t.post ++ [.no t]
  | .fold w a b => a.post ++ b.post ++ [.fold w a b]
  | t => [t]
theorem post_len : ∀ t : Tr, t.post.length = t.size
  | .no t => by simp [Tr.post, Tr.size, post_len t]
  | .fold w a b => by simp [Tr.post, Tr.size, post_len a, post_len b]; omega
  | .never => rfl
  | .always => rfl
  | .lp => rfl
  | .lq => rfl
end Mine


set_option Elab.async false
set_option linter.all false
set_option maxRecDepth 100000
set_option maxHeartbeats 4000000
namespace L2
open PySem PySem.Spec PyProof.Rows

/-! ### data in the heap: ints, truths, texts, None, and tuples of these -/
mutual
def Dat (K : PySem.W.Frag) (H : Hp) : PyData → V → Prop
  | .none, v => v = .non
  | .bool b, v => v = .bl b
  | .int i, v => v = .int i
  | .str x, v => v = .str x
  | .tuple ds, v => ∃ a xs, v = .ref a ∧ SqT K H a xs ∧ DatAll K H ds xs
  | .list _, _ => False
  | .dict _, _ => False
def DatAll (K : PySem.W.Frag) (H : Hp) : List PyData → List V → Prop
  | [], xs => xs = []
  | d :: ds, xs => ∃ x r, xs = x :: r ∧ Dat K H d x ∧ DatAll K H ds r
end
/-- tuples, and what is frozen, stay -/
structure Tst (H H' : Hp) : Prop where
  t : ∀ b xs, H b = some (.tup xs) → H' b = some (.tup xs)
  f : ∀ b o u, H b = some (.frz o u) → H' b = some (.frz o u)
theorem Tst.refl (H : Hp) : Tst H H := ⟨fun _ _ h => h, fun _ _ _ h => h⟩
theorem Tst.trans {H H1 H2 : Hp} (a : Tst H H1) (b : Tst H1 H2) : Tst H H2 := ⟨fun c xs h => b.t c xs (a.t c xs h), fun c o u h => b.f c o u (a.f c o u h)⟩
theorem Same.ts {H H' : Hp} (e : Same H H') : Tst H H' := ⟨fun b xs h => e b _ h, fun b o u h => e b _ h⟩
theorem ts_mut {H : Hp} {l : Addr} {xs : List V} {o : HO} (e : H l = some (.lst xs)) : Tst H (upd H l o) :=
  ⟨fun b ys h => by rw [upd_ne (ne_of h e (by intro z; cases z))]; exact h, fun b o u h => by rw [upd_ne (ne_of h e (by intro z; cases z))]; exact h⟩
theorem SqT.ts {K : PySem.W.Frag} {H H' : Hp} {a : Addr} {xs : List V} (h : SqT K H a xs) (e : Tst H H') : SqT K H' a xs := by
  rcases h with (h | ⟨o, h⟩) | h
  · exact .inl (.inl (e.t _ _ h))
  · exact .inl (.inr ⟨o, e.f _ _ _ h⟩)
  · exact .inr h
mutual
theorem Dat.ts {K : PySem.W.Frag} {H H' : Hp} (e : Tst H H') : ∀ {d : PyData} {v : V}, Dat K H d v → Dat K H' d v
  | .none, _, h => h
  | .bool _, _, h => h
  | .int _, _, h => h
  | .str _, _, h => h
  | .tuple _, _, ⟨a, xs, h1, h2, h3⟩ => ⟨a, xs, h1, h2.ts e, DatAll.ts e h3⟩
  | .list _, _, h => h
  | .dict _, _, h => h
theorem DatAll.ts {K : PySem.W.Frag} {H H' : Hp} (e : Tst H H') : ∀ {ds : List PyData} {xs : List V}, DatAll K H ds xs → DatAll K H' ds xs
  | [], _, h => h
  | _ :: _, _, ⟨x, r, h1, h2, h3⟩ => ⟨x, r, h1, Dat.ts e h2, DatAll.ts e h3⟩
end
theorem DatAll.len {K : PySem.W.Frag} {H : Hp} : ∀ {ds : List PyData} {xs : List V}, DatAll K H ds xs → xs.length = ds.length
  | [], _, h => by subst h; rfl
  | _ :: _, _, ⟨x, r, h1, _, h3⟩ => by subst h1; simp [h3.len]
theorem DatAll.get {K : PySem.W.Frag} {H : Hp} : ∀ {ds : List PyData} {xs : List V} {i : Nat} {d : PyData}, DatAll K H ds xs → ds[i]? = some d → ∃ x, xs[i]? = some x ∧ Dat K H d x
  | [], _, _, _, _, e => by cases e
  | _ :: _, _, 0, _, ⟨x, r, h1, h2, _⟩, e => by subst h1; cases e; exact ⟨x, rfl, h2⟩
  | _ :: _, _, i + 1, _, ⟨x, r, h1, _, h3⟩, e => by
    subst h1
    obtain ⟨y, e1, e2⟩ := h3.get (i := i) (by simpa using e)
    exact ⟨y, by simpa using e1, e2⟩
theorem DatAll.get' {K : PySem.W.Frag} {H : Hp} {ds : List PyData} {xs : List V} {i : Nat} {x : V} (h : DatAll K H ds xs) (e : xs[i]? = some x) : ∃ d, ds[i]? = some d ∧ Dat K H d x := by
  have hl := h.len
  have hi := (List.getElem?_eq_some_iff.mp e).1
  have hd : ds[i]? = some (ds[i]'(by omega)) := List.getElem?_eq_getElem (by omega)
  obtain ⟨y, e1, e2⟩ := h.get hd
  rw [e] at e1
  cases e1
  exact ⟨_, hd, e2⟩
theorem DatAll.append {K : PySem.W.Frag} {H : Hp} : ∀ {ds es : List PyData} {xs ys : List V}, DatAll K H ds xs → DatAll K H es ys → DatAll K H (ds ++ es) (xs ++ ys)
  | [], _, _, _, h, g => by subst h; exact g
  | _ :: _, _, _, _, ⟨x, r, h1, h2, h3⟩, g => by subst h1; exact ⟨x, _, rfl, h2, h3.append g⟩
theorem DatAll.snoc {K : PySem.W.Frag} {H : Hp} {ds : List PyData} {xs : List V} {d : PyData} {x : V} (h : DatAll K H ds xs) (g : Dat K H d x) : DatAll K H (ds ++ [d]) (xs ++ [x]) := h.append ⟨x, [], rfl, g, rfl⟩
mutual
theorem Dat.reads {X : Cx} {pins : List (Addr × Obj)} {σ : St} {H : Hp} {s : Shared} (I : Inv X pins σ H s) : ∀ (d : PyData) {v : V} {u : Value}, Dat X.K H d v → RelV v u → ∃ as, Reads s.heap u d as
  | .none, _, _, h, r => by
    cases (show _ = V.non from h)
    cases (show _ = Value.none from r)
    exact ⟨[], .none⟩
  | .bool b, _, _, h, r => by
    cases (show _ = V.bl b from h)
    cases (show _ = Value.bool b from r)
    exact ⟨[], .bool b⟩
  | .int i, _, _, h, r => by
    cases (show _ = V.int i from h)
    obtain ⟨t, q⟩ := (show ∃ t, _ = Value.int i t from r)
    cases q
    exact ⟨[], .int i t⟩
  | .str x, _, _, h, r => by
    cases (show _ = V.str x from h)
    obtain ⟨t, q⟩ := (show ∃ t, _ = Value.str x t from r)
    cases q
    exact ⟨[], .str x t⟩
  | .tuple ds, _, _, ⟨a, xs, h1, h2, h3⟩, r => by
    cases h1
    cases (show _ = Value.ref a from r)
    obtain ⟨its, rv, ⟨o, ho, hc, n, hd⟩, _⟩ := I.tuple h2
    obtain ⟨as, ra⟩ := DatAll.reads I ds h3 rv
    exact ⟨as, .tuple ho hc hd (by simpa using ra)⟩
  | .list _, _, _, h, _ => False.elim h
  | .dict _, _, _, h, _ => False.elim h
theorem DatAll.reads {X : Cx} {pins : List (Addr × Obj)} {σ : St} {H : Hp} {s : Shared} (I : Inv X pins σ H s) : ∀ (ds : List PyData) {xs : List V} {us : List Value}, DatAll X.K H ds xs → Vals xs us → ∃ as, ReadsAll s.heap us ds as
  | [], _, _, h, r => by
    cases (show _ = ([] : List V) from h)
    cases r
    exact ⟨[], .nil⟩
  | d :: ds, _, _, ⟨x, t, h1, h2, h3⟩, r => by
    cases h1
    cases r with
    | cons r1 r2 =>
      obtain ⟨as, a1⟩ := Dat.reads I d h2 r1
      obtain ⟨bs, b1⟩ := DatAll.reads I ds h3 r2
      exact ⟨as ++ bs, .cons a1 b1⟩
end
/-- such data, or a list of such data -/
def DatX (K : PySem.W.Frag) (H : Hp) (d : PyData) (v : V) : Prop := Dat K H d v ∨ ∃ ds a xs, d = .list ds ∧ v = .ref a ∧ SqL K H a xs ∧ DatAll K H ds xs
theorem DatX.reads {X : Cx} {pins : List (Addr × Obj)} {σ : St} {H : Hp} {s : Shared} {d : PyData} {v : V} {u : Value} (I : Inv X pins σ H s) (h : DatX X.K H d v) (r : RelV v u) : ∃ as, Reads s.heap u d as := by
  rcases h with h | ⟨ds, a, xs, rfl, rfl, h2, h3⟩
  · exact Dat.reads I d h r
  · cases (show _ = Value.ref a from r)
    obtain ⟨its, rv, ⟨o, n, ho, hc, _, hd⟩, _⟩ := I.list h2
    obtain ⟨as, ra⟩ := DatAll.reads I ds h3 rv
    exact ⟨a :: as, .list ho hc hd (by simpa using ra)⟩
section
variable {X : Cx}
def rEqD (K : PySem.W.Frag) : R2 := fun x y H Q => ∃ d e, DatX K H d x ∧ DatX K H e y ∧ SeqAt.shaped d = true ∧ SeqAt.shaped e = true ∧ Q (.bl (PyData.eqv d e)) H
def rNeD (K : PySem.W.Frag) : R2 := fun x y H Q => ∃ d e, DatX K H d x ∧ DatX K H e y ∧ SeqAt.shaped d = true ∧ SeqAt.shaped e = true ∧ Q (.bl (!PyData.eqv d e)) H
theorem op_eqD (hu : X.A.units + 64 < cLine) : OpR X (compareOp .Eq) (rEqD X.K) := by
  intro pins s σ H x y v u Q I rx ry h
  obtain ⟨d, e, hd, he, sd, se, q⟩ := h
  obtain ⟨as, ra⟩ := hd.reads I rx
  obtain ⟨bs, rb⟩ := he.reads I ry
  exact eq_dataH ra rb sd se hu ⟨.bl _, H, I, rfl, q⟩
theorem op_neD (hu : X.A.units + 64 < cLine) : OpR X (compareOp .NotEq) (rNeD X.K) := by
  intro pins s σ H x y v u Q I rx ry h
  obtain ⟨d, e, hd, he, sd, se, q⟩ := h
  obtain ⟨as, ra⟩ := hd.reads I rx
  obtain ⟨bs, rb⟩ := he.reads I ry
  exact ne_dataH ra rb sd se hu ⟨.bl _, H, I, rfl, q⟩
/-! ### isinstance of a tuple, a list that is read -/
theorem call_isiT : CallR X (.builtin "isinstance") (fun xs H Q => ∃ (a : Addr) (ys : List V) (c : V) (cv : Value) (k : Bool), xs = [.ref a, c] ∧ (∀ u, RelV c u → u = cv) ∧ SqT X.K H a ys ∧ PySem.W.kitOne X.K (.type "tuple") cv = some k ∧ Q (.bl k) H) := by
  intro pins s σ H xs us Q I r h
  obtain ⟨a, ys, c, cv, k, rfl, hc, hq, kt, q⟩ := h
  obtain ⟨u, w', rfl, r1, r2⟩ := vals2 r
  have e := hc _ r2
  subst e
  cases (show u = Value.ref a from r1)
  obtain ⟨its, rv, ⟨o, h1, h2, _⟩, _⟩ := I.tuple hq
  exact PySem.W.kia_one PySem.W.kitx_tuple I.kIn ⟨o, h1, h2⟩ kt (fun z => nomatch z) fun tk => ⟨.bl k, H, I.tok tk, rfl, q⟩
/-! ### all, any of a list of truths -/
theorem bools_of {bs : List Bool} : ∀ {us : List Value}, Vals (bs.map V.bl) us → LSm.BoolsAre us bs := by
  induction bs with
  | nil => intro us r; cases r; exact .nil
  | cons b r ih =>
    intro us q
    cases q with
    | cons a t =>
      cases (show _ = Value.bool b from a)
      exact .cons b (ih t)
theorem call_all (hc : X.calm = true) : CallR X (.builtin "all") (fun xs H Q => ∃ (l : Addr) (bs : List Bool), xs = [.ref l] ∧ SqL X.K H l (bs.map V.bl) ∧ Q (.bl (bs.all id)) H) := by
  intro pins s σ H xs us Q I r h
  obtain ⟨l, bs, rfl, hq, q⟩ := h
  obtain ⟨u, rfl, rx⟩ := vals1 r
  cases rx
  obtain ⟨its, rv, pl, _⟩ := I.list hq
  have hl := pl.isList
  have hb := bools_of rv
  have hlt : l < s.heap.objs.size := by obtain ⟨_, e, _⟩ := hl; exact Heap.lt_size e
  refine call_all_walk (wpAny_pyIter_list hl ?_)
  refine ⟨s.heap.objs.size, [s.heap.objs.size, l], [s.heap.objs.size], its.toArray.size, _, _, fun i => (bs[i]?).getD true, rfl, Walks.list (A := X.A.in1) (I.ok.hd hc) _ l (Nat.ne_of_lt hlt) its.toArray,
    ⟨⟨_, Heap.get?_push_size _ rfl, rfl, rfl⟩, hl.push _⟩, fun i v s' Q' E' hP hQ => ?_, fun h' tk hk => ?_⟩
  · obtain ⟨b, e, rfl⟩ := hb.get i v (by simpa using hP)
    simp only [e, Option.getD_some] at hQ
    exact wpAny_truthy_bool hQ
  · have e : ((List.range its.toArray.size).all fun i => (bs[i]?).getD true) = bs.all id := by
      rw [List.size_toArray, hb.length]; exact LSm.range_all bs
    rw [e]
    exact ⟨.bl _, H, I.kept (t' := tk) (LSm.kept_iter hk), rfl, q⟩
end
/-! ### the same, where the context's K is named (within a comprehension the reading may not name the context) -/
section
variable {X : Cx} {K : PySem.W.Frag}
theorem ix_tupK (e : X.K = K) : IxR X (rIxT K) := e ▸ ix_tup
end
/-! ### what such data say when they are compared -/
theorem lay_map {α : Type} {f : α → PyData} (h : ∀ a, (f a).canLay0 = true) : ∀ L : List α, PyData.canLayAll0 (L.map f) = true
  | [] => by simp [PyData.canLayAll0]
  | a :: r => by simp [PyData.canLayAll0, h a, lay_map h r]
theorem depth_map {α : Type} {f : α → PyData} {n : Nat} (h : ∀ a, (f a).depth ≤ n) : ∀ L : List α, PyData.depthAll (L.map f) ≤ n
  | [] => by simp [PyData.depthAll]
  | a :: r => by
    have h1 := h a
    have h2 := depth_map h r
    simp only [List.map_cons, PyData.depthAll]
    omega
theorem eqv_map {α : Type} [DecidableEq α] {f : α → PyData} (h : ∀ a b, PyData.eqv (f a) (f b) = decide (a = b)) : ∀ L M : List α, PyData.eqvAll (L.map f) (M.map f) = decide (L = M)
  | [], [] => by simp [PyData.eqvAll]
  | [], _ :: _ => by simp [PyData.eqvAll]
  | _ :: _, [] => by simp [PyData.eqvAll]
  | a :: r, b :: t => by
    simp only [List.map_cons, PyData.eqvAll, h a b, eqv_map h r t]
    by_cases h1 : a = b <;> by_cases h2 : r = t <;> simp [h1, h2]
/-! ### a tuple, an int that stands at the top -/
structure TopTup (K : PySem.W.Frag) (mg : Str → Option Value) (x : Str) (ns : List Int) : Prop where
  ex : ∃ a, mg x = some (.ref a) ∧ ∀ H, SqT K H a (ns.map V.int)
theorem toptup_mk {K : PySem.W.Frag} {h : Heap} {mg : Str → Option Value} {x : Str} {a : Addr} {od : Option Addr} {its : Array Value} {n : Nat} {osl : Array (Option Value)} {ns : List Int} (X : K.In h) (G : h.Ns mainGlobals mg)
    (e : PySem.W.nsIn K mainGlobals x = some (some (.ref a))) (l : K.lookup a = some ⟨.type "tuple", od, .seq its n, osl⟩) (hz : its.size ≤ sizeLine) (v : Vals (ns.map V.int) its.toList) : TopTup K mg x ns :=
  ⟨a, PySem.W.mg_of X G e, fun _ => .inr ⟨_, its, n, l, rfl, rfl, hz, v⟩⟩
end L2


set_option Elab.async false
namespace Mine
theorem int_or (a b : Int) : a < b ∨ b ≤ a := by omega
namespace Lo
/-- the greatest common factor, as an int -/
def gc (a b : Int) : Int := (Int.gcd a b : Nat)
theorem gc_pos {a b : Int} (h : b ≠ 0) : 0 < gc a b := by
  have := Int.gcd_pos_of_ne_zero_right a h
  unfold gc; omega
theorem gc_zero {a : Int} (h : 0 ≤ a) : gc a 0 = a := by
  unfold gc; rw [Int.gcd_zero_right]; omega
theorem gc_natAbs (a b : Int) : gc a.natAbs b.natAbs = gc a b := by
  unfold gc Int.gcd; simp
theorem gc_turn (g l : Int) : gc l (g.fmod l) = gc g l := by
  unfold gc
  congr 1
  rw [Int.fmod_def]
  rw [Int.gcd_comm g l]
  have : g - l * g.fdiv l = g + l * (-(g.fdiv l)) := by rw [Int.mul_neg]; omega
  rw [this]
  exact Int.gcd_add_mul_left_right ..
theorem gc_dvd_left (a b : Int) : gc a b ∣ a := Int.gcd_dvd_left ..
theorem gc_dvd_right (a b : Int) : gc a b ∣ b := Int.gcd_dvd_right ..
/-- the factor with the bottom's sign -/
def sg (t b : Int) : Int := if b < 0 then -(gc t b) else gc t b
def lowT (t b : Int) : Int := t.fdiv (sg t b)
def lowB (t b : Int) : Int := b.fdiv (sg t b)
theorem sg_ne {t b : Int} (h : b ≠ 0) : sg t b ≠ 0 := by
  have := gc_pos (a := t) h
  unfold sg; split <;> omega
theorem sg_dvd_t (t b : Int) : sg t b ∣ t := by
  unfold sg; split
  · exact Int.neg_dvd.mpr (gc_dvd_left t b)
  · exact gc_dvd_left t b
theorem sg_dvd_b (t b : Int) : sg t b ∣ b := by
  unfold sg; split
  · exact Int.neg_dvd.mpr (gc_dvd_right t b)
  · exact gc_dvd_right t b
theorem lowT_eq (t b : Int) : sg t b * lowT t b = t := by
  unfold lowT
  rw [Int.fdiv_eq_ediv_of_dvd (sg_dvd_t t b)]
  exact Int.mul_ediv_cancel' (sg_dvd_t t b)
theorem lowB_eq (t b : Int) : sg t b * lowB t b = b := by
  unfold lowB
  rw [Int.fdiv_eq_ediv_of_dvd (sg_dvd_b t b)]
  exact Int.mul_ediv_cancel' (sg_dvd_b t b)
theorem lowB_pos {t b : Int} (h : b ≠ 0) : 0 < lowB t b := by
  have e := lowB_eq t b
  have g := gc_pos (a := t) h
  rcases Int.lt_trichotomy (lowB t b) 0 with q | q | q
  · exfalso
    by_cases c : b < 0
    · have s : sg t b = -(gc t b) := by unfold sg; rw [if_pos c]
      have s0 : sg t b < 0 := by omega
      have := Int.mul_pos_of_neg_of_neg s0 q
      omega
    · have s : sg t b = gc t b := by unfold sg; rw [if_neg c]
      have s0 : 0 < sg t b := by omega
      have := Int.mul_neg_of_pos_of_neg s0 q
      omega
  · rw [q] at e; simp at e; omega
  · exact q
theorem gc_mul (f t b : Int) : gc (f * t) (f * b) = f.natAbs * gc t b := by
  unfold gc
  rw [Int.gcd_mul_left]
  rfl
theorem sg_mul {f : Int} (hf : f ≠ 0) (t : Int) {b : Int} (hb : b ≠ 0) : sg (f * t) (f * b) = f * sg t b := by
  unfold sg
  rw [gc_mul]
  rcases (by omega : 0 < f ∨ f < 0) with p | n
  · have e : (f.natAbs : Int) = f := by omega
    rw [e]
    by_cases c : b < 0
    · rw [if_pos c, if_pos (Int.mul_neg_of_pos_of_neg p c), Int.mul_neg]
    · have := Int.mul_pos p (show 0 < b by omega)
      rw [if_neg c, if_neg (by omega)]
  · have e : (f.natAbs : Int) = -f := by omega
    rw [e]
    by_cases c : b < 0
    · have := Int.mul_pos_of_neg_of_neg n c
      rw [if_pos c, if_neg (by omega), Int.mul_neg, Int.neg_mul]
    · have := Int.mul_neg_of_neg_of_pos n (show 0 < b by omega)
      rw [if_neg c, if_pos (by omega), Int.neg_mul, Int.neg_neg]
theorem lowT_mul {f : Int} (hf : f ≠ 0) (t : Int) {b : Int} (hb : b ≠ 0) : lowT (f * t) (f * b) = lowT t b := by
  have h := lowT_eq (f * t) (f * b)
  rw [sg_mul hf t hb, Int.mul_assoc] at h
  have h2 := Int.eq_of_mul_eq_mul_left hf h
  have h3 := lowT_eq t b
  exact Int.eq_of_mul_eq_mul_left (sg_ne hb) (h2.trans h3.symm)
theorem lowB_mul {f : Int} (hf : f ≠ 0) (t : Int) {b : Int} (hb : b ≠ 0) : lowB (f * t) (f * b) = lowB t b := by
  have h := lowB_eq (f * t) (f * b)
  rw [sg_mul hf t hb, Int.mul_assoc] at h
  have h2 := Int.eq_of_mul_eq_mul_left hf h
  have h3 := lowB_eq t b
  exact Int.eq_of_mul_eq_mul_left (sg_ne hb) (h2.trans h3.symm)
/-- sizes -/
theorem natAbs_le_of_mul {s x n : Int} (hs : s ≠ 0) (e : s * x = n) : x.natAbs ≤ n.natAbs := by
  rw [← e, Int.natAbs_mul]
  have : 1 ≤ s.natAbs := by omega
  exact Nat.le_mul_of_pos_left _ this
theorem lowB_le {t b : Int} (hb : b ≠ 0) : (lowB t b).natAbs ≤ b.natAbs := natAbs_le_of_mul (sg_ne hb) (lowB_eq t b)
theorem gc_le {t b : Int} (hb : b ≠ 0) : (gc t b).natAbs ≤ b.natAbs := by
  have h := Int.gcd_dvd_right (a := t) (b := b)
  have := Nat.le_of_dvd (by omega) (Int.natAbs_dvd_natAbs.mpr h)
  unfold gc; exact this
theorem sg_le {t b : Int} (hb : b ≠ 0) : (sg t b).natAbs ≤ b.natAbs := by
  have := gc_le (t := t) hb
  unfold sg; split <;> omega
theorem low_gc {t b : Int} (hb : b ≠ 0) : gc (lowT t b) (lowB t b) = 1 := by
  have h1 := lowT_eq t b
  have h2 := lowB_eq t b
  have h3 := gc_mul (sg t b) (lowT t b) (lowB t b)
  rw [h1, h2] at h3
  have h4 := gc_pos (a := t) hb
  have h5 : ((sg t b).natAbs : Int) = gc t b := by
    unfold sg; split <;> omega
  rw [h5] at h3
  have h6 : gc t b * gc (lowT t b) (lowB t b) = gc t b * 1 := by rw [← h3, Int.mul_one]
  exact Int.eq_of_mul_eq_mul_left (by omega) h6
/-- a fraction in lowest terms is its own -/
theorem low_own {p q : Int} (hq : 0 < q) (h : gc p q = 1) : lowT p q = p ∧ lowB p q = q := by
  have s : sg p q = 1 := by unfold sg; rw [if_neg (by omega), h]
  have h1 := lowT_eq p q
  have h2 := lowB_eq p q
  rw [s, Int.one_mul] at h1 h2
  exact ⟨h1, h2⟩
theorem sg_pos {t b : Int} (hb : 0 < b) : 0 < sg t b := by
  have := gc_pos (a := t) (b := b) (by omega)
  unfold sg; rw [if_neg (by omega)]; exact this
end Lo

/-! ### stretches and lines, as they are told -/
structure St4 where
  p : Int
  q : Int
  m : Int
  h : Int
  deriving DecidableEq
namespace Ln
def Adj (s t : St4) : Prop := s.p * t.q < t.p * s.q ∧ (t.m - s.m) * s.p + (t.h - s.h) * s.q = 0 ∧ t.m ≠ s.m
def Ch : List St4 → Prop
  | [] => True
  | [_] => True
  | s :: t :: r => Adj s t ∧ Ch (t :: r)
theorem rule_at {m d : Int} (hd : d ≠ 0) : d * Lo.lowT m d = m * Lo.lowB m d := by
  have e1 := Lo.lowT_eq m d
  have e2 := Lo.lowB_eq m d
  have : Lo.sg m d * (d * Lo.lowT m d) = Lo.sg m d * (m * Lo.lowB m d) := by
    rw [← Int.mul_assoc, Int.mul_comm (Lo.sg m d) d, Int.mul_assoc, e1, ← Int.mul_assoc, Int.mul_comm (Lo.sg m d) m, Int.mul_assoc, e2, Int.mul_comm]
  exact Int.eq_of_mul_eq_mul_left (Lo.sg_ne hd) this
/-! ### the stretch in which x lies -/
def pk (L : List St4) (p q : Int) : Option St4 := L.find? fun s => !decide (s.p * q < p * s.q)
theorem pk_at {p q : Int} : ∀ {L : List St4} {k : Nat} {s : St4}, (∀ j, j < k → ∀ t, L[j]? = some t → t.p * q < p * t.q) → L[k]? = some s → ¬ s.p * q < p * s.q → pk L p q = some s
  | [], _, _, _, h, _ => by cases h
  | t :: r, 0, s, _, h, n => by
    cases h
    unfold pk
    rw [List.find?_cons]
    simp only [decide_eq_false n, Bool.not_false]
  | t :: r, k + 1, s, a, h, n => by
    have h1 := a 0 (by omega) t rfl
    unfold pk
    rw [List.find?_cons]
    simp only [decide_eq_true h1, Bool.not_true]
    exact pk_at (L := r) (k := k) (fun j hj u hu => a (j + 1) (by omega) u hu) h n
theorem last_at {L : List St4} {s : St4} (h : L.getLast? = some s) : 0 < L.length ∧ L[L.length - 1]? = some s := by
  rw [List.getLast?_eq_getElem?] at h
  refine ⟨?_, h⟩
  rcases Nat.eq_zero_or_pos L.length with z | z
  · rw [List.length_eq_zero_iff.mp z] at h; cases h
  · exact z
theorem Ch.get : ∀ {L : List St4} {i : Nat} {s t : St4}, Ch L → L[i]? = some s → L[i + 1]? = some t → Adj s t
  | [], _, _, _, _, h, _ => by cases h
  | [_], 0, _, _, _, _, h => by cases h
  | [_], _ + 1, _, _, _, h, _ => by cases h
  | _ :: _ :: _, 0, _, _, c, h, g => by cases h; cases g; exact c.1
  | _ :: b :: r, i + 1, _, _, c, h, g => Ch.get (L := b :: r) (i := i) c.2 h g
/-- the ends rise -/
theorem lt_trans' {a b c d e f : Int} (hb : 0 < b) (hd : 0 < d) (hf : 0 < f) (h1 : a * d < c * b) (h2 : c * f < e * d) : a * f < e * b := by
  have z1 : a * d * f < c * b * f := Int.mul_lt_mul_of_pos_right h1 hf
  have z2 : c * f * b < e * d * b := Int.mul_lt_mul_of_pos_right h2 hb
  have e1 : c * b * f = c * f * b := by rw [Int.mul_assoc, Int.mul_comm b f, ← Int.mul_assoc]
  have z3 : a * d * f < e * d * b := by omega
  have e2 : a * d * f = d * (a * f) := by rw [Int.mul_comm a d, Int.mul_assoc]
  have e3 : e * d * b = d * (e * b) := by rw [Int.mul_comm e d, Int.mul_assoc]
  rw [e2, e3] at z3
  exact Int.lt_of_mul_lt_mul_left z3 (by omega)
end Ln
end Mine


set_option Elab.async false
set_option linter.all false
set_option maxRecDepth 100000
set_option maxHeartbeats 4000000
namespace Mine
open PySem L2
/-! ### small numbers -/
def Sm (x : Int) : Prop := x.natAbs < 2 ^ 200
abbrev bits (x : Int) : Nat := Builtin.Int.intBits x
theorem bits_of {x : Int} {m : Nat} (h : x.natAbs < 2 ^ m) : bits x ≤ m := intBits_le_iff.mpr h
theorem mulS {a b : Int} (ha : Sm a) (hb : Sm b) : IntMulOk a b := IntMulOk.of_le (m := 200) (n := 200) (bits_of ha) (bits_of hb) (by decide)
theorem sm_of {x : Int} (h : x.natAbs ≤ 10 ^ 50) : Sm x := Nat.lt_of_le_of_lt h (by decide +kernel)
theorem div_ok {t x : Int} (h0 : x ≠ 0) (h : Sm x) : CDivK t x := ⟨h0, Nat.lt_of_lt_of_le ((Nat.log2_lt (by omega)).mpr h) (by decide)⟩
theorem abs_is (i : Int) : (if i < 0 then -i else i) = (i.natAbs : Int) := by split <;> omega
theorem Sm.neg {x : Int} (h : Sm x) : Sm (-x) := by unfold Sm at *; rw [Int.natAbs_neg]; exact h
/-! ### items of the script -/
theorem at_script {ns : List Int} {i : Int} (h0 : 0 ≤ i) (h : i < (ns.length : Int)) : ∃ v : Int, atI (ns.map V.int) i = some (.int v) ∧ v ∈ ns := by
  have hi : i.toNat < ns.length := by omega
  have ek : i = ((i.toNat : Nat) : Int) := by omega
  have q : atI (ns.map V.int) ((i.toNat : Nat) : Int) = some (.int ns[i.toNat]) := atI_nat (by rw [List.getElem?_map, List.getElem?_eq_getElem hi] <;> rfl)
  rw [← ek] at q
  exact ⟨_, q, List.getElem_mem hi⟩
theorem at_of {xs : List V} {i : Int} {x : V} (h0 : 0 ≤ i) (h : xs[i.toNat]? = some x) : atI xs i = some x := by
  have ek : i = ((i.toNat : Nat) : Int) := by omega
  rw [ek]
  exact atI_nat h
/-- a script as the law has it: a list of at most 63 ints, each of at most 2 ** 20 bits; it is frozen -/
structure Scr (K : PySem.W.Frag) (H : Hp) (a : Addr) (ns : List Int) : Prop where
  sq : (∃ o, H a = some (.frz o (.lst (ns.map V.int)))) ∨ ∃ (o : Obj) (its : Array Value) (n : Nat), K.lookup a = some o ∧ o.cls = .type "list" ∧ o.dict = none ∧ o.data = .seq its n ∧ its.size ≤ sizeLine ∧ Vals (ns.map V.int) its.toList
  few : ns.length ≤ 63
  bit : ∀ n ∈ ns, bits n ≤ 1048576
theorem Scr.l {K : PySem.W.Frag} {H : Hp} {a : Addr} {ns : List Int} (S : Scr K H a ns) : SqL K H a (ns.map V.int) := S.sq.elim (fun h => .inl (.inr h)) .inr
theorem Scr.ts {K : PySem.W.Frag} {H H' : Hp} {a : Addr} {ns : List Int} (S : Scr K H a ns) (e : Tst H H') : Scr K H' a ns := ⟨S.sq.elim (fun ⟨o, h⟩ => .inl ⟨o, e.f _ _ _ h⟩) .inr, S.few, S.bit⟩
theorem scr_of {K : PySem.W.Frag} {H : Hp} {a : Addr} {ns : List Int} (O : Only H) (h : SqL K H a (ns.map V.int)) (few : ns.length ≤ 63) (bit : ∀ n ∈ ns, bits n ≤ 1048576) : Scr K H a ns := by
  refine ⟨?_, few, bit⟩
  rcases h with (h | h) | h
  · exfalso
    rcases O a with z | ⟨o, xs, z⟩
    · rw [h] at z; cases z
    · rw [h] at z; cases z
  · exact .inl h
  · exact .inr h
theorem same_new {H : Hp} {p : Addr} (h : H p = none) (o : HO) : Same H (upd H p o) := fun b u q => by rw [upd_ne (ne_of_none q h)]; exact q
/-- a change at what was not there at first -/
theorem same_mut {H H' : Hp} {l : Addr} (e : Same H H') (h : H l = none) (o : HO) : Same H (upd H' l o) := fun b u q => by rw [upd_ne (ne_of_none q h)]; exact e b u q
/-! ### fractions, stretches, lines as data -/
def frD (p q : Int) : PyData := .tuple [.int p, .int q]
def stD (s : St4) : PyData := .tuple [frD s.p s.q, .int s.m, .int s.h]
def lnD (L : List St4) : PyData := .tuple (L.map stD)
section
variable {K : PySem.W.Frag} {H H' : Hp} {a : Addr} {v e : V} {p q m h : Int} {s : St4} {L : List St4}
theorem fr_mk (g : SqT K H a [.int p, .int q]) : Dat K H (frD p q) (.ref a) := ⟨a, _, rfl, g, _, _, rfl, rfl, _, _, rfl, rfl, rfl⟩
theorem fr_el (g : Dat K H (frD p q) v) : ∃ a, v = .ref a ∧ SqT K H a [.int p, .int q] := by
  obtain ⟨a, xs, rfl, g, x, r, rfl, hx, y, t, rfl, hy, ht⟩ := g
  cases (show x = V.int p from hx)
  cases (show y = V.int q from hy)
  cases (show t = [] from ht)
  exact ⟨a, rfl, g⟩
theorem st_mk (g : SqT K H a [e, .int s.m, .int s.h]) (f : Dat K H (frD s.p s.q) e) : Dat K H (stD s) (.ref a) := ⟨a, _, rfl, g, _, _, rfl, f, _, _, rfl, rfl, _, _, rfl, rfl, rfl⟩
theorem st_el (g : Dat K H (stD s) v) : ∃ a e, v = .ref a ∧ SqT K H a [e, .int s.m, .int s.h] ∧ Dat K H (frD s.p s.q) e := by
  obtain ⟨a, xs, rfl, g, x, r, rfl, hx, y, t, rfl, hy, z, u, rfl, hz, hu⟩ := g
  cases (show y = V.int s.m from hy)
  cases (show z = V.int s.h from hz)
  cases (show u = [] from hu)
  exact ⟨a, x, rfl, g, hx⟩
theorem ln_el (g : Dat K H (lnD L) v) : ∃ a xs, v = .ref a ∧ SqT K H a xs ∧ DatAll K H (L.map stD) xs := g
theorem ln_at {xs : List V} (g : DatAll K H (L.map stD) xs) {i : Nat} (h : L[i]? = some s) : ∃ x, xs[i]? = some x ∧ Dat K H (stD s) x := g.get (by rw [List.getElem?_map, h]; rfl)
theorem ln_at' {xs : List V} (g : DatAll K H (L.map stD) xs) {i : Nat} {x : V} (h : xs[i]? = some x) : ∃ s, L[i]? = some s ∧ Dat K H (stD s) x := by
  obtain ⟨d, e1, e2⟩ := g.get' h
  rw [List.getElem?_map] at e1
  cases z : L[i]? with
  | none => rw [z] at e1; cases e1
  | some s => rw [z] at e1; cases e1; exact ⟨s, rfl, e2⟩
theorem ln_len {xs : List V} (g : DatAll K H (L.map stD) xs) : xs.length = L.length := by rw [g.len, List.length_map]
end
theorem fr_lay (p q : Int) : (frD p q).canLay0 = true := by simp [frD, PyData.canLay0, PyData.canLayAll0]
theorem fr_depth (p q : Int) : (frD p q).depth = 1 := by simp [frD, PyData.depth, PyData.depthAll]
theorem st_lay (s : St4) : (stD s).canLay0 = true := by simp [stD, PyData.canLay0, PyData.canLayAll0, fr_lay]
theorem st_depth (s : St4) : (stD s).depth = 2 := by simp [stD, PyData.depth, PyData.depthAll, fr_depth]
theorem ln_shaped (L : List St4) : SeqAt.shaped (lnD L) = true := by
  have h1 := lay_map st_lay L
  have h2 := depth_map (f := stD) (n := 2) (fun s => by rw [st_depth]; exact Nat.le_refl _) L
  have h3 : PyData.depthAll (L.map stD) + 1 ≤ 64 := by omega
  simp only [SeqAt.shaped, lnD, PyData.canLay0, h1, PyData.depth, Bool.true_and]
  exact decide_eq_true h3
theorem lnl_shaped (L : List St4) : SeqAt.shaped (.list (L.map stD)) = true := by
  have h1 := lay_map st_lay L
  have h2 := depth_map (f := stD) (n := 2) (fun s => by rw [st_depth]; exact Nat.le_refl _) L
  have h3 : PyData.depthAll (L.map stD) + 1 ≤ 64 := by omega
  simp only [SeqAt.shaped, PyData.canLay0, h1, PyData.depth, Bool.true_and]
  exact decide_eq_true h3
theorem fr_shaped (p q : Int) : SeqAt.shaped (frD p q) = true := by simp [SeqAt.shaped, fr_lay, fr_depth]
theorem fr_eqv (p q r s : Int) : PyData.eqv (frD p q) (frD r s) = decide (p = r ∧ q = s) := by
  simp only [frD, PyData.eqv, PyData.eqvAll, Bool.and_true]
  by_cases h1 : p = r <;> by_cases h2 : q = s <;> simp [h1, h2]
theorem st_eqv (s t : St4) : PyData.eqv (stD s) (stD t) = decide (s = t) := by
  obtain ⟨p, q, m, h⟩ := s
  obtain ⟨p', q', m', h'⟩ := t
  simp only [stD, PyData.eqv, PyData.eqvAll, Bool.and_true, fr_eqv, St4.mk.injEq]
  by_cases h1 : p = p' <;> by_cases h2 : q = q' <;> by_cases h3 : m = m' <;> by_cases h4 : h = h' <;> simp [h1, h2, h3, h4]
theorem ln_eqv (L M : List St4) : PyData.eqv (lnD L) (lnD M) = decide (L = M) := by
  simp only [lnD, PyData.eqv]
  exact eqv_map st_eqv L M
mutual
theorem eqv_self : ∀ d : PyData, d.canLay0 = true → PyData.eqv d d = true
  | .none, _ => by simp [PyData.eqv]
  | .bool _, _ => by simp [PyData.eqv]
  | .int _, _ => by simp [PyData.eqv]
  | .str _, _ => by simp [PyData.eqv]
  | .list xs, h => by simp only [PyData.eqv]; exact eqvAll_self xs (by simpa [PyData.canLay0] using h)
  | .tuple xs, h => by simp only [PyData.eqv]; exact eqvAll_self xs (by simpa [PyData.canLay0] using h)
  | .dict _, h => by simp [PyData.canLay0] at h
theorem eqvAll_self : ∀ xs : List PyData, PyData.canLayAll0 xs = true → PyData.eqvAll xs xs = true
  | [], _ => by simp [PyData.eqvAll]
  | x :: xs, h => by
    have h' : x.canLay0 = true ∧ PyData.canLayAll0 xs = true := by simpa [PyData.canLayAll0] using h
    simp [PyData.eqvAll, eqv_self x h'.1, eqvAll_self xs h'.2]
end
theorem eqv_shaped {d : PyData} (h : SeqAt.shaped d = true) : PyData.eqv d d = true := eqv_self d (SeqAt.canLay_of_shaped h)
end Mine


set_option Elab.async false
set_option linter.all false
set_option maxRecDepth 100000
set_option maxHeartbeats 4000000
namespace Mine
open PySem L2
/-! ### what stands in the heap -/
/-- tuples and instances stay -/
def fixO : HO → Bool
  | .tup _ => true
  | .ins _ _ _ => true
  | .own _ => true
  | .frz _ _ => true
  | _ => false
def Kp (H H' : Hp) : Prop := ∀ b o, H b = some o → fixO o = true → H' b = some o
theorem Kp.trans {H H1 H2 : Hp} (a : Kp H H1) (b : Kp H1 H2) : Kp H H2 := fun c o h f => b c o (a c o h f) f
theorem Kp.of {H H' : Hp} (e : Same H H') : Kp H H' := fun b o h _ => e b o h
theorem kp_new {H : Hp} {p : Addr} (h : H p = none) (o : HO) : Kp H (upd H p o) := Kp.of (fun b u z => by rw [upd_ne (ne_of_none z h)]; exact z)
theorem kp_mut {H : Hp} {l : Addr} {o u : HO} (h : H l = some o) (f : fixO o = false) : Kp H (upd H l u) := fun b z hb fz => by
  rw [upd_ne (ne_of hb h fun e => by rw [e, f] at fz; cases fz)]
  exact hb
theorem kit_same {K : PySem.W.Frag} {t : Value} : PySem.W.kitOne K t t = some true := by unfold PySem.W.kitOne; rw [if_pos (beq_self_eq_true t)]
/-- the law's tuples -/
inductive Tu (H : Hp) : Addr → Tr → Prop where
  | never {a} : H a = some (.tup [.str "never"]) → Tu H a .never
  | always {a} : H a = some (.tup [.str "always"]) → Tu H a .always
  | lp {a} : H a = some (.tup [.str "p"]) → Tu H a .lp
  | lq {a} : H a = some (.tup [.str "q"]) → Tu H a .lq
  | no {a b t} : H a = some (.tup [.str "not", .ref b]) → Tu H b t → Tu H a (.no t)
  | fold {a b d w x y} : H a = some (.tup [.str (W5.str w), .ref b, .ref d]) → Tu H b x → Tu H d y → Tu H a (.fold w x y)
theorem Tu.to {H H' : Hp} {a : Addr} {t : Tr} (h : Tu H a t) (e : Kp H H') : Tu H' a t := by
  induction h with
  | never h => exact .never (e _ _ h rfl)
  | always h => exact .always (e _ _ h rfl)
  | lp h => exact .lp (e _ _ h rfl)
  | lq h => exact .lq (e _ _ h rfl)
  | no h _ ih => exact .no (e _ _ h rfl) ih
  | fold h _ _ i1 i2 => exact .fold (e _ _ h rfl) i1 i2
/-- the program's classes -/
structure CCs where
  (ne al le no mo ls gr lr ld : Addr)
def CCs.fold (c : CCs) : W5 → Addr
  | .more => c.mo | .less => c.ls | .greater => c.gr | .lesser => c.lr | .leads => c.ld
def fName (x : V) : List (Str × V) := [("name", x)]
def fPart (x : V) : List (Str × V) := [("part", x)]
def fTwo (x y : V) : List (Str × V) := [("one", x), ("other", y)]
inductive Ob (c : CCs) (H : Hp) : Addr → Tr → Prop where
  | never {a dx} : H a = some (.ins c.ne dx []) → Ob c H a .never
  | always {a dx} : H a = some (.ins c.al dx []) → Ob c H a .always
  | lp {a dx} : H a = some (.ins c.le dx (fName (.str "p"))) → Ob c H a .lp
  | lq {a dx} : H a = some (.ins c.le dx (fName (.str "q"))) → Ob c H a .lq
  | no {a dx b t} : H a = some (.ins c.no dx (fPart (.ref b))) → Ob c H b t → Ob c H a (.no t)
  | fold {a dx b d w x y} : H a = some (.ins (c.fold w) dx (fTwo (.ref b) (.ref d))) → Ob c H b x → Ob c H d y → Ob c H a (.fold w x y)
theorem Ob.to {c : CCs} {H H' : Hp} {a : Addr} {t : Tr} (h : Ob c H a t) (e : Kp H H') : Ob c H' a t := by
  induction h with
  | never h => exact .never (e _ _ h rfl)
  | always h => exact .always (e _ _ h rfl)
  | lp h => exact .lp (e _ _ h rfl)
  | lq h => exact .lq (e _ _ h rfl)
  | no h _ ih => exact .no (e _ _ h rfl) ih
  | fold h _ _ i1 i2 => exact .fold (e _ _ h rfl) i1 i2
/-- things one by one -/
inductive All2 {α β : Type} (R : α → β → Prop) : List α → List β → Prop where
  | nil : All2 R [] []
  | cons {a b as bs} : R a b → All2 R as bs → All2 R (a :: as) (b :: bs)
theorem All2.imp {α β : Type} {R R' : α → β → Prop} (f : ∀ a b, R a b → R' a b) {as : List α} {bs : List β} (h : All2 R as bs) : All2 R' as bs := by
  induction h with
  | nil => exact .nil
  | cons r _ ih => exact .cons (f _ _ r) ih
theorem All2.app {α β : Type} {R : α → β → Prop} {as cs : List α} {bs ds : List β} (h : All2 R as bs) (k : All2 R cs ds) : All2 R (as ++ cs) (bs ++ ds) := by
  induction h with
  | nil => exact k
  | cons r _ ih => exact .cons r ih
theorem All2.rev {α β : Type} {R : α → β → Prop} {as : List α} {bs : List β} (h : All2 R as bs) : All2 R as.reverse bs.reverse := by
  induction h with
  | nil => exact .nil
  | cons r _ ih => rw [List.reverse_cons, List.reverse_cons]; exact ih.app (.cons r .nil)
theorem All2.len {α β : Type} {R : α → β → Prop} {as : List α} {bs : List β} (h : All2 R as bs) : as.length = bs.length := by
  induction h with
  | nil => rfl
  | cons _ _ ih => rw [List.length_cons, List.length_cons, ih]
theorem All2.get {α β : Type} {R : α → β → Prop} {as : List α} {bs : List β} (h : All2 R as bs) : ∀ (i : Nat) (a : α), as[i]? = some a → ∃ b, bs[i]? = some b ∧ R a b := by
  induction h with
  | nil => intro i a z; cases z
  | cons r _ ih =>
    intro i x z
    cases i with
    | zero => cases z; exact ⟨_, rfl, r⟩
    | succ i => exact ih i x z
/-- the last one apart -/
theorem All2.last {α β : Type} {R : α → β → Prop} {as : List α} {bs : List β} (h : All2 R as bs) (n : as ≠ []) : ∃ as' a bs' b, as = as' ++ [a] ∧ bs = bs' ++ [b] ∧ R a b ∧ All2 R as' bs' := by
  have h' := h.rev
  have n' : as.reverse ≠ [] := fun z => n (List.reverse_eq_nil_iff.mp z)
  have e1 : as = as.reverse.reverse := (List.reverse_reverse _).symm
  have e2 : bs = bs.reverse.reverse := (List.reverse_reverse _).symm
  rw [e1, e2]
  revert h' n'
  generalize as.reverse = u
  generalize bs.reverse = v
  intro h' n'
  cases h' with
  | nil => exact absurd rfl n'
  | cons r k => exact ⟨_, _, _, _, List.reverse_cons, List.reverse_cons, r, k.rev⟩
theorem snoc_last {α : Type} (ys : List α) (a : α) : (ys ++ [a])[(ys ++ [a]).length - 1]? = some a := by simp
/-- objects, each with its tree -/
abbrev ObV (c : CCs) (H : Hp) (v : V) (t : Tr) : Prop := ∃ a, v = .ref a ∧ Ob c H a t
theorem ObV.to {c : CCs} {H H' : Hp} (e : Kp H H') (v : V) (t : Tr) (h : ObV c H v t) : ObV c H' v t := by
  obtain ⟨a, r, o⟩ := h
  exact ⟨a, r, o.to e⟩
/-- what a saying is made of -/
def Tr.kids : Tr → List Tr
  | .no t => [t]
  | .fold _ a b => [a, b]
  | _ => []
def sizes (ts : List Tr) : Nat := (ts.map Tr.size).sum
theorem sizes_app (a b : List Tr) : sizes (a ++ b) = sizes a + sizes b := by simp [sizes]
theorem kids_size (t : Tr) : sizes t.kids + 1 = t.size := by cases t <;> simp [sizes, Tr.kids, Tr.size]
/-- the parts as laid_out meets them -/
theorem post_rev (t : Tr) : t.post.reverse = t :: (t.kids.reverse.flatMap fun x => x.post.reverse) := by
  cases t <;> simp [Tr.post, Tr.kids]
/-- a piece: a word or a saying -/
inductive Pc where
  | w (x : Str)
  | t (t : Tr)
def Tr.pieces : Tr → List Pc
  | .never => [.w "never"]
  | .always => [.w "always"]
  | .lp => [.w "p"]
  | .lq => [.w "q"]
  | .no t => [.w "not", .t t]
  | .fold w a b => [.w "(", .t a, .w w.str, .t b, .w ")"]
inductive PcV (c : CCs) (H : Hp) : V → Pc → Prop where
  | w (x : Str) : PcV c H (.str x) (.w x)
  | t {a : Addr} {t : Tr} : Ob c H a t → PcV c H (.ref a) (.t t)
theorem min_is (i j : Int) : (if j < i then j else i) = min i j := by
  rw [Int.min_def]; split <;> split <;> omega
theorem max_is (i j : Int) : (if j > i then j else i) = max i j := by
  rw [Int.max_def]; split <;> split <;> omega
end Mine

namespace L2
open PySem PySem.Spec PyProof.Rows
/-- the method m of the class C is the def st -/
structure MethF (K : PySem.W.Frag) (C : Addr) (m qual : Str) (st : Stmt) : Prop where
  cl : Cls K C
  ex : ∃ (f : Addr) (fd : FuncData), Meth K C m f ∧ Fun K m qual st f fd
section
variable {P : Program} {w : World} {K : PySem.W.Frag} {mg : Str → Option Value} {base : Heap}
theorem meth_of {C : Addr} {m qual : Str} {st : Stmt} {N ps : List Str} {k : Nat} {sp : Sp} (T : MethF K C m qual st) (S : FnScope N ps (defScope st))
    (bd : ∀ (kV doc pm : Value) (an : Option Addr) (cdv ct : Value) (us : List Value), us.length = ps.length → bindArgs (PySem.W.fnOf m qual (defArgs st) (defBody st) (defScope st) .none kV doc pm an cdv ct) ⟨us, []⟩ = pure (ps.zip us))
    (len : ∀ vs H Q E, sp vs H Q E → vs.length = ps.length)
    (body : ∀ (f : Addr) (cdv : Value) (A : Around) (outer : List Env) (s : Shared) (H : Hp) (vs : List V) (Q : VK) (E : XK), Room k (A.deeper (envOfC qual (defScope st) s.heap.objs.size f cdv)) → sp vs H Q E →
      ∃ t, PSs (cxOf CX0 P w K mg base N qual (defScope st) f cdv A outer s H E).nox (defBody st) t ∧ t { nx := fun _ H' => Q .non H', rt := Q } (start N vs) H) :
    MethOk P w K mg base C m (k + 1) ps sp := by
  obtain ⟨f, fd, hm, G⟩ := T.ex
  exact ⟨T.cl, f, fd, hm, G.ok S len (body f), G.binds bd⟩
/-- the class C, by the name x, is made with its __init__ -/
structure MkF (K : PySem.W.Frag) (mg : Str → Option Value) (x : Str) (C : Addr) (qual : Str) (st : Stmt) : Prop where
  cl : Cls K C
  mg_ : mg x = some (.ref C)
  ex : ∃ (f : Addr) (fd : FuncData), Mk K C f ∧ Fun K "__init__" qual st f fd
structure MkOk (P : Program) (w : World) (K : PySem.W.Frag) (mg : Str → Option Value) (base : Heap) (x : Str) (C : Addr) (k : Nat) (ps : List Str) (sp : Sp) : Prop where
  mg_ : mg x = some (.ref C)
  ex : ∃ (f : Addr) (fd : FuncData), Mk K C f ∧ FnOk P w K mg base CX0 k f fd ps sp ∧ Binds K fd ps []
theorem mk_of {C : Addr} {x qual : Str} {st : Stmt} {N ps : List Str} {k : Nat} {sp : Sp} (T : MkF K mg x C qual st) (S : FnScope N ps (defScope st))
    (bd : ∀ (kV doc pm : Value) (an : Option Addr) (cdv ct : Value) (us : List Value), us.length = ps.length → bindArgs (PySem.W.fnOf "__init__" qual (defArgs st) (defBody st) (defScope st) .none kV doc pm an cdv ct) ⟨us, []⟩ = pure (ps.zip us))
    (len : ∀ vs H Q E, sp vs H Q E → vs.length = ps.length)
    (body : ∀ (f : Addr) (cdv : Value) (A : Around) (outer : List Env) (s : Shared) (H : Hp) (vs : List V) (Q : VK) (E : XK), Room k (A.deeper (envOfC qual (defScope st) s.heap.objs.size f cdv)) → sp vs H Q E →
      ∃ t, PSs (cxOf CX0 P w K mg base N qual (defScope st) f cdv A outer s H E).nox (defBody st) t ∧ t { nx := fun _ H' => Q .non H', rt := Q } (start N vs) H) :
    MkOk P w K mg base x C (k + 1) ps sp := by
  obtain ⟨f, fd, hm, G⟩ := T.ex
  exact ⟨T.mg_, f, fd, hm, G.ok S len (body f), G.binds bd⟩
end
section
variable {X : Cx} {x : Str} {C : Addr} {k : Nat} {ps : List Str} {sp : Sp} {e : Expr} {es : List Expr} {t : TA} {p pos : Pos}
theorem pe_mk (M : MkOk X.prog X.w X.K X.mg X.base x C k ps sp) (hr : Room (k + 1) X.A) (hg : Gl X x) (ha : PA X (e :: es) t) (hdb : (x == ("__debug__" : Str)) = false := by decide)
    (he : starEach (e :: es) X.env = (false, eval e X.env) :: starEach es X.env := by rfl) (hpl : (backTo pos (starEach es X.env)).any (·.1) = false := by rfl) :
    PE X (.Call (.Name x p) (e :: es) [] pos) (tMake C sp [] E0 t) := by
  obtain ⟨f, fd, hm, G, hb⟩ := M.ex
  exact pe_make hm G hr hg M.mg_ hb .nil pass0 ha hdb he hpl
end
end L2
namespace Mine
open PySem L2
/-! ### the classes -/
def CCs.of (c : CCs) : Tr → Addr
  | .never => c.ne
  | .always => c.al
  | .lp => c.le
  | .lq => c.le
  | .no _ => c.no
  | .fold w _ _ => c.fold w
theorem look_name (x : V) : (fName x).lookup ("name" : Str) = some x := by unfold fName; rw [List.lookup_cons, beq_self_eq_true]
theorem look_part (x : V) : (fPart x).lookup ("part" : Str) = some x := by unfold fPart; rw [List.lookup_cons, beq_self_eq_true]
theorem look_one (x y : V) : (fTwo x y).lookup ("one" : Str) = some x := by unfold fTwo; rw [List.lookup_cons, beq_self_eq_true]
theorem look_other (x y : V) : (fTwo x y).lookup ("other" : Str) = some y := by
  unfold fTwo
  rw [List.lookup_cons, show (("other" : Str) == ("one" : Str)) = false by decide +kernel]
  show List.lookup ("other" : Str) [("other", y)] = some y
  rw [List.lookup_cons, beq_self_eq_true]
abbrev NoF (m : Str) : Prop := m ≠ "name" ∧ m ≠ "part" ∧ m ≠ "one" ∧ m ≠ "other"
theorem look_none {m a : Str} {x : V} {r : List (Str × V)} (h : m ≠ a) (k : r.lookup m = none) : ((a, x) :: r).lookup m = none := by
  rw [List.lookup_cons, beq_eq_false_iff_ne.mpr h]
  exact k
theorem Ob.cls {c : CCs} {H : Hp} {a : Addr} {t : Tr} (h : Ob c H a t) : ∃ dx fs, H a = some (.ins (c.of t) dx fs) ∧ ∀ m, NoF m → fs.lookup m = none := by
  cases h with
  | never h => exact ⟨_, _, h, fun m _ => rfl⟩
  | always h => exact ⟨_, _, h, fun m _ => rfl⟩
  | lp h => exact ⟨_, _, h, fun m n => look_none n.1 rfl⟩
  | lq h => exact ⟨_, _, h, fun m n => look_none n.1 rfl⟩
  | no h _ => exact ⟨_, _, h, fun m n => look_none n.2.1 rfl⟩
  | fold h _ _ => exact ⟨_, _, h, fun m n => look_none n.2.2.1 (look_none n.2.2.2 rfl)⟩
structure Fx (K : PySem.W.Frag) (c : CCs) : Prop where
  cl : ∀ t, Cls K (c.of t)
  ha : ∀ t, PySem.W.findIn K (.ref (c.of t)) "__class__" = some (some (.builtin "object.__class__"))
  hm : ∀ t, PySem.W.mroIn K (c.of t) (.type "object") = some true
  ks : ∀ t, PySem.W.kitOne K (.ref (c.of t)) (.type "str") = some false
  hn : PySem.W.specialIn K (.builtin "object.__class__") "__get__" = some (some (.builtin "getset_descriptor.__get__"))
  tk : PySem.W.takesIn K (.builtin "object.__class__") = some true
  nName : NoAttr K c.le "name"
  nPart : NoAttr K c.no "part"
  nOne : ∀ w, NoAttr K (c.fold w) "one"
  nOther : ∀ w, NoAttr K (c.fold w) "other"
/-- the word of a tuple -/
def Tr.word : Tr → Str
  | .never => "never"
  | .always => "always"
  | .lp => "p"
  | .lq => "q"
  | .no _ => "not"
  | .fold u _ _ => u.str
/-! ### promises -/
def spMade (c : CCs) (t : Tr) : Sp := fun vs H Q _ => ∃ a, vs = [.ref a] ∧ Ob c H a t ∧ ∀ l us, H l = none → All2 (ObV c H) us t.kids → Q (.ref l) (upd H l (.lst us))
def spPieces (c : CCs) (t : Tr) : Sp := fun vs H Q _ => ∃ a, vs = [.ref a] ∧ Ob c H a t ∧ ∀ l us, H l = none → All2 (PcV c H) us t.pieces → Q (.ref l) (upd H l (.lst us))
def spWord (c : CCs) (t : Tr) : Sp := fun vs H Q _ => ∃ a : Addr, vs = [.ref a] ∧ Ob c H a t ∧ Q (.str t.word) H
def spLaid (c : CCs) (t : Tr) : Sp := fun vs H Q _ => ∃ a, vs = [.ref a] ∧ Ob c H a t ∧ t.size ≤ 1000 ∧ ∀ l us H', Same H H' → H l = none → H' l = some (.lst us) → All2 (ObV c H') us t.post → Q (.ref l) H'
def spInit1 (C : Addr) (fl : V → List (Str × V)) : Sp := fun vs H Q _ => ∃ (a dx : Addr) (x : V), vs = [.ref a, x] ∧ H a = some (.ins C dx []) ∧ Q .non (upd H a (.ins C dx (fl x)))
def spInit2 (C : Addr) : Sp := fun vs H Q _ => ∃ (a dx : Addr) (x y : V), vs = [.ref a, x, y] ∧ H a = some (.ins C dx []) ∧ Q .non (upd H a (.ins C dx (fTwo x y)))
theorem putF_two (x y : V) : putF "other" y (putF "one" x []) = fTwo x y := by
  show (if ("one" : Str) = "other" then [(("one" : Str), y)] else (("one" : Str), x) :: putF "other" y []) = _
  rw [if_neg (by decide +kernel)]
  rfl
end Mine

namespace Mine
open PySem L2
def W5.cls : W5 → Str
  | .more => "More" | .less => "Less" | .greater => "Greater" | .lesser => "Lesser" | .leads => "Leads"
theorem upd_none {H : Hp} {l p : Addr} {o : HO} (h : upd H l o p = none) : H p = none := by
  by_cases e : p = l
  · subst e; rw [upd_same] at h; cases h
  · rw [upd_ne e] at h; exact h
/-- a new instance, its attributes stored -/
theorem same_made {H : Hp} {C z dz : Addr} {fs : List (Str × V)} (hz : H z = none) (hd : H dz = none) (ne : dz ≠ z) : Same H (upd (upd (upd H dz (.own z)) z (.ins C dz [])) z (.ins C dz fs)) := fun b o h => by
  rw [upd_ne (ne_of_none h hz), upd_ne (ne_of_none h hz), upd_ne (ne_of_none h hd)]
  exact h
theorem made_fold {c : CCs} {H : Hp} {z dz b d : Addr} {u : W5} {t t' : Tr} {Q : VK} (hz : H z = none) (hd : H dz = none) (ne : dz ≠ z) (o : Ob c H b t) (o' : Ob c H d t') (q : ∀ e H', Same H H' → Ob c H' e (.fold u t t') → Q (.ref e) H') :
    Q (.ref z) (upd (upd (upd H dz (.own z)) z (.ins (c.fold u) dz [])) z (.ins (c.fold u) dz (fTwo (.ref b) (.ref d)))) := by
  have sm := same_made (C := c.fold u) (fs := fTwo (.ref b) (.ref d)) hz hd ne
  exact q z _ sm (.fold upd_same (o.to (Kp.of sm)) (o'.to (Kp.of sm)))

end Mine
namespace Mine
open PySem L2
theorem flat_len : ∀ ts : List Tr, (ts.flatMap fun x => x.post.reverse).length = sizes ts
  | [] => rfl
  | t :: r => by
    rw [List.flatMap_cons, List.length_append, List.length_reverse, post_len, flat_len r]
    simp [sizes]
theorem sizes_rev (ts : List Tr) : sizes ts.reverse = sizes ts := by simp [sizes]
theorem len_sizes : ∀ ts : List Tr, ts.length ≤ sizes ts
  | [] => Nat.le_refl _
  | t :: r => by
    have h := len_sizes r
    have p := t.size_pos
    have e : sizes (t :: r) = t.size + sizes r := by simp [sizes]
    rw [e, List.length_cons]; omega
theorem kids_len (t : Tr) : t.kids.length ≤ 2 := by cases t <;> simp [Tr.kids]
theorem drop_at {α : Type} {xs : List α} {i : Nat} {x : α} (h : xs[i]? = some x) : xs.drop i = x :: xs.drop (i + 1) := by
  obtain ⟨hi, e⟩ := List.getElem?_eq_some_iff.mp h
  rw [List.drop_eq_getElem_cons hi, e]
end Mine


set_option Elab.async false
set_option linter.all false
set_option maxRecDepth 100000
set_option maxHeartbeats 4000000
namespace Mine
open PySem L2
theorem ite_yes {a b : Str} {A B : Prop} (h : a = b) (k : A) : if decide (V.str a = V.str b) = true then A else B := by
  rw [decide_eq_true (congrArg V.str h), if_pos rfl]
  exact k
theorem ite_no {a b : Str} {A B : Prop} (h : a ≠ b) (k : B) : if decide (V.str a = V.str b) = true then A else B := by
  rw [decide_eq_false (fun z => h (V.str.inj z)), if_neg Bool.false_ne_true]
  exact k
theorem Scr.to {K : PySem.W.Frag} {H H' : Hp} {a : Addr} {ns : List Int} (h : Scr K H a ns) (e : Same H H') : Scr K H' a ns := h.ts e.ts
/-! ### promises of the law's own defs -/
end Mine
namespace L2
open PySem PySem.Spec PyProof.Rows
/-! ### t[lo:hi], also the whole -/
namespace HT
variable {prog : Program} {w : World} {A : Around} {E : Value → Shared → Prop} {s : Shared}
end HT
section
variable {X : Cx}
end
end L2
namespace Mine
open PySem L2
end Mine
namespace Mine
open PySem L2
theorem word_at (m : Int) (h0 : 0 ≤ m) (h : m < 5) : ∃ u : W5, atI [V.str "more", .str "less", .str "greater", .str "lesser", .str "leads"] m = some (.str u.str) := by
  have hm : m = 0 ∨ m = 1 ∨ m = 2 ∨ m = 3 ∨ m = 4 := by omega
  rcases hm with rfl | rfl | rfl | rfl | rfl
  · exact ⟨.more, rfl⟩
  · exact ⟨.less, rfl⟩
  · exact ⟨.greater, rfl⟩
  · exact ⟨.lesser, rfl⟩
  · exact ⟨.leads, rfl⟩
theorem two_at {x y : V} (m : Int) (h : m = 0 ∨ m = 1) : ∃ z, atI [x, y] m = some z ∧ (z = x ∨ z = y) := by
  rcases h with rfl | rfl
  · exact ⟨x, rfl, .inl rfl⟩
  · exact ⟨y, rfl, .inr rfl⟩
end Mine
namespace Mine
open PySem L2
theorem w_ne (u : W5) : u.str ≠ "never" := by cases u <;> decide +kernel
theorem w_al (u : W5) : u.str ≠ "always" := by cases u <;> decide +kernel
theorem same_made0 {H : Hp} {C z dz : Addr} (hz : H z = none) (hd : H dz = none) : Same H (upd (upd H dz (.own z)) z (.ins C dz [])) := fun b o h => by
  rw [upd_ne (ne_of_none h hz), upd_ne (ne_of_none h hd)]
  exact h
end Mine
namespace Mine
open PySem L2
theorem tNoIf_go {σ : St} {H : Hp} {A B : Hp → Prop} (h : A H) : tNoIf σ H fun b H4 => if b = true then A H4 else B H4 := by
  show if true = true then A H else B H
  rw [if_pos rfl]
  exact h
end Mine
namespace L2
open PySem PySem.Spec PyProof.Rows
end L2
namespace Mine
open PySem L2
def spLaw (K : PySem.W.Frag) : Sp := fun vs H Q _ => ∃ (a : Addr) (ns : List Int), vs = [.ref a] ∧ Scr K H a ns ∧ ∀ H', Q (.bl true) H'
/-! ### comprehensions without a test -/
theorem comp_from {wi : TI} {tc : TT} {te : TE} {js : List Nat} {σ : St} {H : Hp} {Q : VK} (h : wi σ H fun J H1 => tComp (fun _ H R => R J H) tc te js σ H1 Q) : tComp wi tc te js σ H Q := h
theorem comp_list {K : PySem.W.Frag} {wi : TI} {te : TE} {js : List Nat} {σ : St} {H0 : Hp} {Q : VK} {xs : List V} (Src : Addr → Hp → Prop) (hwi : ∀ R : It → Hp → Prop, (∀ l H, Src l H → R (Itl K l) H) → wi σ H0 R) (hsrc : ∀ l H, Src l H → H l = some (.lst xs)) (hx : xs.length ≤ 1000)
    (Pv : Addr → Addr → Nat → List V → Hp → Prop) (h0 : ∀ l H D, Src l H → H D = none → Pv l D 0 [] (upd H D (.lst [])))
    (hs : ∀ l D i v ys H', xs[i]? = some v → l ≠ D → H' l = some (.lst xs) → H' D = some (.lst ys) → Pv l D i ys H' → ∀ N : VK, (∀ y H'', H'' l = some (.lst xs) → H'' D = some (.lst ys) → Pv l D (i + 1) (ys ++ [y]) (upd H'' D (.lst (ys ++ [y]))) → N y H'') → te (some v :: cVals js σ) H' N)
    (hd : ∀ l D ys H', H' l = some (.lst xs) → H' D = some (.lst ys) → Pv l D xs.length ys H' → Q (.ref D) H') : tComp wi tNoIf te js σ H0 Q := by
  refine hwi _ fun l H src => ?_
  intro D hD
  have e := hsrc l H src
  have nl : l ≠ D := ne_of_none e hD
  refine ⟨fun i m H' => m = xs.length - i ∧ i ≤ xs.length ∧ H' l = some (.lst xs) ∧ ∃ ys, ys.length = i ∧ H' D = some (.lst ys) ∧ Pv l D i ys H', ⟨xs.length, rfl, Nat.zero_le _, by rw [upd_ne nl]; exact e, [], rfl, upd_same, h0 l H D src hD⟩, ?_⟩
  rintro i m H2 ⟨rfl, hi, e2, ys, hy, eD, p⟩
  by_cases hlt : i < xs.length
  · refine .inr ⟨⟨xs, xs[i], SqL.of e2, by simp [hlt]⟩, fun v H3 y => ?_⟩
    obtain ⟨eh, y⟩ := y
    subst eh
    refine tNoIf_go ?_
    refine hs l D i v ys _ (y xs (SqL.of e2)) nl e2 eD p _ fun y H5 z1 z2 z3 => ?_
    exact ⟨ys, z2, Nat.lt_of_le_of_lt (show ys.length ≤ 1000 by omega) (by decide), xs.length - (i + 1), by omega, rfl, hlt, by rw [upd_ne nl]; exact z1, ys ++ [y], by rw [List.length_append, hy]; rfl, upd_same, z3⟩
  · have ei : i = xs.length := by omega
    subst ei
    exact .inl ⟨⟨xs, SqL.of e2, Nat.le_refl _⟩, hd l D ys H2 e2 eD p⟩

end Mine
namespace Mine
open PySem L2
end Mine


set_option Elab.async false
set_option linter.all false
set_option maxRecDepth 100000
set_option maxHeartbeats 4000000
namespace Mine
open PySem L2
/-! ### rows: a word and numbers of rows ahead -/
abbrev Rw := List Key
def rowK (x : Str) (is : List Nat) : Rw := .inr x :: is.map fun i : Nat => .inl (i : Int)
def idx (rs : List Rw) (r : Rw) : Option Nat := match rs with
  | [] => none
  | x :: t => if x = r then some 0 else (idx t r).map (· + 1)
def pushRow (rs : List Rw) (r : Rw) : List Rw × Nat := match idx rs r with
  | some i => (rs, i)
  | none => (rs ++ [r], rs.length)
theorem idx_lt : ∀ {rs : List Rw} {r : Rw} {i : Nat}, idx rs r = some i → i < rs.length
  | [], _, _, h => by cases h
  | x :: t, r, i, h => by
    unfold idx at h
    split at h
    · cases h; simp
    · cases e : idx t r with
      | none => rw [e] at h; cases h
      | some j => rw [e] at h; cases h; have := idx_lt e; simp; omega
theorem idx_at : ∀ {rs : List Rw} {r : Rw} {i : Nat}, idx rs r = some i → rs[i]? = some r
  | [], _, _, h => by cases h
  | x :: t, r, i, h => by
    unfold idx at h
    split at h
    · rename_i z; cases h; simp [z]
    · cases e : idx t r with
      | none => rw [e] at h; cases h
      | some j => rw [e] at h; cases h; have := idx_at e; simpa using this
theorem idx_app {rs : List Rw} {r s : Rw} : idx (rs ++ [r]) s = match idx rs s with | some i => some i | none => if r = s then some rs.length else none := by
  induction rs with
  | nil =>
    show (if r = s then some 0 else (idx [] s).map (· + 1)) = if r = s then some 0 else none
    rfl
  | cons x t ih =>
    show (if x = s then some 0 else (idx (t ++ [r]) s).map (· + 1)) = _
    by_cases z : x = s
    · rw [if_pos z]
      show _ = match (if x = s then some 0 else (idx t s).map (· + 1)) with | some i => some i | none => _
      rw [if_pos z]
    · rw [if_neg z, ih]
      show _ = match (if x = s then some 0 else (idx t s).map (· + 1)) with | some i => some i | none => if r = s then some (t.length + 1) else none
      rw [if_neg z]
      cases idx t s with
      | some i => rfl
      | none =>
        show (if r = s then some t.length else none).map (· + 1) = if r = s then some (t.length + 1) else none
        split <;> rfl
theorem push_len (rs : List Rw) (r : Rw) : (pushRow rs r).1.length ≤ rs.length + 1 := by
  unfold pushRow
  cases idx rs r <;> simp
def Tr.putR : Tr → List Rw → List Rw × Nat
  | .no t, rs => pushRow (t.putR rs).1 (rowK "not" [(t.putR rs).2])
  | .fold w a b, rs => pushRow (b.putR (a.putR rs).1).1 (rowK w.str [(a.putR rs).2, (b.putR (a.putR rs).1).2])
  | .never, rs => pushRow rs (rowK "never" [])
  | .always, rs => pushRow rs (rowK "always" [])
  | .lp, rs => pushRow rs (rowK "p" [])
  | .lq, rs => pushRow rs (rowK "q" [])
def Tr.rows (t : Tr) : List Rw := (t.putR []).1
theorem putR_len : ∀ (t : Tr) (rs : List Rw), (t.putR rs).1.length ≤ rs.length + t.size
  | .no t, rs => by
    have := putR_len t rs
    have := push_len (t.putR rs).1 (rowK "not" [(t.putR rs).2])
    simp only [Tr.putR, Tr.size]; omega
  | .fold w a b, rs => by
    have := putR_len a rs
    have := putR_len b (a.putR rs).1
    have := push_len (b.putR (a.putR rs).1).1 (rowK w.str [(a.putR rs).2, (b.putR (a.putR rs).1).2])
    simp only [Tr.putR, Tr.size]; omega
  | .never, rs => push_len _ _
  | .always, rs => push_len _ _
  | .lp, rs => push_len _ _
  | .lq, rs => push_len _ _
/-- one part more: its numbers from the end of what waits -/
def rstep (s : List Rw × List Nat) (x : Tr) : Option (List Rw × List Nat) :=
  if s.2.length < x.kids.length then none else
    some ((pushRow s.1 (rowK x.word (s.2.take x.kids.length).reverse)).1, (pushRow s.1 (rowK x.word (s.2.take x.kids.length).reverse)).2 :: s.2.drop x.kids.length)
def rrun : List Rw × List Nat → List Tr → Option (List Rw × List Nat)
  | s, [] => some s
  | s, t :: r => (rstep s t).bind fun s' => rrun s' r
theorem rrun_post : ∀ (t : Tr) (rs : List Rw) (st : List Nat) (r : List Tr), rrun (rs, st) (t.post ++ r) = rrun ((t.putR rs).1, (t.putR rs).2 :: st) r
  | .no t, rs, st, r => by
    show rrun (rs, st) (t.post ++ [.no t] ++ r) = _
    rw [List.append_assoc, rrun_post t rs st]
    rfl
  | .fold w a b, rs, st, r => by
    show rrun (rs, st) (a.post ++ b.post ++ [.fold w a b] ++ r) = _
    rw [List.append_assoc, List.append_assoc, rrun_post a rs st, rrun_post b _ _]
    rfl
  | .never, rs, st, r => rfl
  | .always, rs, st, r => rfl
  | .lp, rs, st, r => rfl
  | .lq, rs, st, r => rfl
theorem rrun_all (t : Tr) : rrun ([], []) t.post = some (t.rows, [(t.putR []).2]) := by
  have h := rrun_post t [] [] []
  rw [List.append_nil] at h
  rw [h]
  rfl
theorem rrun_cons {s Z : List Rw × List Nat} {t : Tr} {r : List Tr} (h : rrun s (t :: r) = some Z) : ∃ s', rstep s t = some s' ∧ rrun s' r = some Z := by
  unfold rrun at h
  cases e : rstep s t with
  | none => rw [e] at h; cases h
  | some s' => rw [e] at h; exact ⟨s', rfl, h⟩
theorem rstep_is {s s' : List Rw × List Nat} {x : Tr} (h : rstep s x = some s') : x.kids.length ≤ s.2.length ∧ s' = ((pushRow s.1 (rowK x.word (s.2.take x.kids.length).reverse)).1, (pushRow s.1 (rowK x.word (s.2.take x.kids.length).reverse)).2 :: s.2.drop x.kids.length) := by
  unfold rstep at h
  split at h
  · cases h
  · exact ⟨by omega, (Option.some.inj h).symm⟩
theorem catT_any {K : PySem.W.Frag} {H : Hp} {a b : Addr} {xs ys : List V} {Q : VK} (ea : H a = some (.tup xs)) (eb : H b = some (.tup ys)) (nx : xs ≠ []) (hz : xs.length + ys.length ≤ sizeLine) (h : ∀ p H', Same H H' → H' p = some (.tup (xs ++ ys)) → Q (.ref p) H') : rCatT K (.ref a) (.ref b) H Q := by
  refine ⟨a, b, xs, ys, rfl, rfl, SqT.of ea, SqT.of eb, nx, hz, fun z => ?_, fun _ p hp => h p _ (same_new hp _) upd_same⟩
  refine h a H (Same.refl _) ?_
  rw [z, List.append_nil]
  exact ea
/-- a row as a tuple on the heap -/
abbrev RwV (H : Hp) (v : V) (r : Rw) : Prop := ∃ a, v = .ref a ∧ H a = some (.tup (r.map kV))
theorem RwV.to {H H' : Hp} (e : Kp H H') (v : V) (r : Rw) (h : RwV H v r) : RwV H' v r := by
  obtain ⟨a, z, o⟩ := h
  exact ⟨a, z, e _ _ o rfl⟩
theorem rowK_kV (x : Str) (is : List Nat) : (rowK x is).map kV = V.str x :: is.map fun i : Nat => V.int (i : Int) := by
  unfold rowK
  rw [List.map_cons, List.map_map]
  rfl
/-- the dict of places -/
def PlO (kvs : List (Rw × V)) (rs : List Rw) : Prop := kvs.length = rs.length ∧ ∀ k, valV kvs k = (idx rs k).map fun i : Nat => V.int (i : Int)
theorem PlO.nil : PlO [] [] := ⟨rfl, fun _ => rfl⟩
theorem PlO.put {kvs : List (Rw × V)} {rs : List Rw} {r : Rw} (h : PlO kvs rs) (n : idx rs r = none) : PlO (putK kvs r (.int (rs.length : Int))) (rs ++ [r]) := by
  have hv : valV kvs r = none := by rw [h.2 r, n]; rfl
  refine ⟨by rw [putK_new _ hv, List.length_append, List.length_append, h.1]; rfl, fun k => ?_⟩
  rw [valV_put, idx_app]
  by_cases e : k = r
  · subst e
    rw [if_pos rfl, n]
    show _ = (if k = k then some rs.length else none).map _
    rw [if_pos rfl]; rfl
  · rw [if_neg e, h.2 k]
    cases idx rs k with
    | some i => rfl
    | none =>
      show _ = (if r = k then some rs.length else none).map _
      rw [if_neg fun z => e z.symm]
def spRowsOf (c : CCs) : Sp := fun vs H Q _ => ∃ (a : Addr) (t : Tr), vs = [.ref a] ∧ Ob c H a t ∧ t.size ≤ 1000 ∧ ∀ l us H', Same H H' → H l = none → H' l = some (.lst us) → All2 (RwV H') us t.rows → Q (.ref l) H'
end Mine


set_option Elab.async false
set_option linter.all false
set_option maxRecDepth 100000
set_option maxHeartbeats 4000000
namespace L2
open PySem PySem.Spec PyProof.Rows
section
variable {X : Cx} {pins : List (Addr × Obj)} {σ : St} {H H' : Hp} {s s' : Shared} {h' : Heap}
/-- several records of ours have turned -/
theorem Inv.turnedL {t' : Nat} {fp : List Addr} (I : Inv X pins σ H s) (kp : ∀ b o, b ∉ fp → s.heap.get? b = some o → h'.get? b = some o) (hf : ∀ b ∈ fp, FpOk X pins H b) : Inv X pins σ H { s with heap := h', toks := t' } := by
  have far : ∀ b u, H b = some u → b ∉ fp := fun b u e z => by
    have := (hf b z).1
    rw [e] at this; cases this
  refine I.step (ch := fp) (g' := s.gens) (d' := s.drawn) (fun b hb => ⟨(hf b hb).2.2.2.1, (hf b hb).2.1, (hf b hb).2.2.2.2.1, (hf b hb).2.2.2.2.2⟩) (fun b o _ _ hc e _ => kp b o hc e) (fun b o _ _ hc e _ => ⟨o.slots, kp b o hc e⟩) (fun _ _ _ _ n => n)
    (fun b o hc e => ⟨o, kp b o hc e⟩) (fun _ _ e => e) (fun _ _ _ e => e) (fun b ps e => ⟨#[], by rw [e]; simp⟩) (fun m hm => ?_) (fun b u e => ?_) I.bare
  · obtain ⟨o, es, ep, ho, r⟩ := hm
    exact ⟨o, es, ep, kp _ o (fun z => (hf _ z).2.1 rfl) ho, r⟩
  · exact (I.hok b u e).stay (fun c v hc q => kp c v (hc.elim (fun z => by rw [z]; exact far b u e) fun z => far c _ z) q) (fun _ q => q) fun _ _ q => q
/-- what lies there untracked is tracked from now on -/
theorem Inv.trackO {a : Addr} {o : HO} (I : Inv X pins σ H s) (n : H a = none) (new : X.s₀.heap.get? a = none) (hL : a ≠ X.env.locals) (hc : ∀ x c, X.env.cells.lookup x = some c → c ≠ a) (hp : ∀ p ∈ X.pn ++ pins, p.1 ≠ a)
    (p : ObjOk X.prog X.w (upd H a o) s.heap a o) : Inv X pins σ (upd H a o) s :=
  ⟨I.ok, I.os, I.bare, ⟨I.base.keep, I.base.slot, fun b o e z hx => by rw [upd_ne (fun q => by rw [q, new] at e; cases e)]; exact I.base.free b o e z hx, I.base.there,
      fun b xs e => by have q := I.base.tups b xs e; rw [upd_ne (ne_of_none q n)]; exact q, fun b o u e => by have q := I.base.frzs b o u e; rw [upd_ne (ne_of_none q n)]; exact q,
      fun b ps e => by obtain ⟨m, q⟩ := I.base.tbls b ps e; exact ⟨m, by rw [upd_ne (ne_of_none q n)]; exact q⟩⟩,
    I.loc, I.cell, by rw [upd_ne (Ne.symm hL)]; exact I.free, fun x c e => by rw [upd_ne (hc x c e)]; exact I.freeC x c e,
    fun q hq => by obtain ⟨a1, a2, a3⟩ := I.pin q hq; exact ⟨a1, by rw [upd_ne (hp q hq)]; exact a2, a3⟩,
    fun b u e => by
      by_cases hb : b = a
      · subst hb
        rw [upd_same] at e
        cases e
        exact p
      · rw [upd_ne hb] at e
        exact (I.hok b u e).stay (fun _ _ _ z => z) (fun c z => by rw [upd_ne (ne_of_none z n)]; exact z) fun c xs z => by rw [upd_ne (ne_of_none z n)]; exact z,
    I.len⟩
end

/-! ### what yields a new tuple at each turn -/
/-- src: what stands in the tuple of turn i -/
def ItT (go : Nat → Hp → Prop) (src : Nat → Hp → List V → Prop) (n : Nat → Hp → Prop) : It :=
  ⟨go, fun i H v H' => ∃ (T : Addr) (vs : List V), H T = none ∧ v = .ref T ∧ H' = upd H T (.tup vs) ∧ src i H vs, n⟩
/-- one turn, by the library's walk that yields tuples -/
theorem turn_item {X : Cx} {elts : List Expr} {kk : Nat} {tpos : Pos} {I₀ : Addr} {fp' wr fp : List Addr} {n : Nat} {Pt : Nat → Array Value → Prop} {St : Nat → Heap → Prop} {Mid : Nat → Addr → Heap → Prop} (W : WalksT X.prog X.w X.A I₀ fp' wr n Pt St Mid)
    {pins : List (Addr × Obj)} {s : Shared} {σ : L2.St} {H : Hp} {E : Value → Shared → Prop} {i : Nat} {vs : List V} {src : Nat → Hp → List V → Prop} {tn : Nat → Heap → Prop} (I : Inv X pins σ H s) (hf : ∀ b ∈ fp, FpOk X pins H b) (hob : ∀ b ∈ fp, ∃ o, s.heap.get? b = some o) (hw : ∀ b ∈ wr, b ∈ fp) (hi : i < n) (st : St i s.heap)
    (hv : ∀ vals, Pt i vals → Vals vs vals.toList) (hz : vs.length ≤ sizeLine) (hsrc : src i H vs) (htn : ∀ h, St (i + 1) h → tn (i + 1) h) {gop stp : Nat → Hp → Prop} :
    wpAny (model X.prog X.w) X.A (pyNext (.ref I₀)) (fun r s1 => ∃ u, r = some u ∧
      wpAny (model X.prog X.w) X.A (letOwnedTupleGo (.Tuple elts kk tpos) (.ref I₀) u) (fun _ s2 => ∃ x H', Inv X pins σ H' s2 ∧ RelV x u ∧ (ItT gop src stp).yld i H x H' ∧ tn (i + 1) s2.heap ∧ ∀ b ∈ fp, H' b = none) E s1) E s := by
  refine W.item i s _ _ hi st fun T vals h1 tk hP hT hTup hM kp => ?_
  refine ⟨.ref T, rfl, W.go elts kk tpos i T { s with heap := h1, toks := tk } _ _ hM fun h2 hst kp2 => ?_⟩
  have I1 : Inv X pins σ H { s with heap := h2, toks := tk } := I.turnedL (fun b o hb e => kp2 b o (fun z => hb (hw b z)) (kp b o (fun z => hb (hw b z)) e)) hf
  have nT : H T = none := I.hok.fresh hT
  have tup : h2.IsTuple T vals := by
    obtain ⟨o, e, r⟩ := hTup
    exact ⟨o, kp2 T o (W.apart i T h1 hM) e, r⟩
  have new : X.s₀.heap.get? T = none := by
    cases z : X.s₀.heap.get? T with
    | none => rfl
    | some o => exact absurd (Nat.lt_of_lt_of_le (Heap.lt_size z) (Nat.le_trans I.sz hT)) (Nat.lt_irrefl _)
  refine ⟨.ref T, upd H T (.tup vs), I1.trackO nT new (Nat.ne_of_gt (Nat.lt_of_lt_of_le I.lt hT)) (fun x c e z => ?_) (fun p hp z => ?_) ⟨hz, vals.toList, hv vals hP, (by rw [Array.toArray_toList]; exact tup)⟩, rfl, ⟨T, vs, nT, rfl, rfl, hsrc⟩, htn _ hst, fun b hb => ?_⟩
  · obtain ⟨v, o, ho, _⟩ := I.cell x c e
    exact absurd (Nat.lt_of_lt_of_le (Heap.lt_size ho) (by rw [z]; exact hT)) (Nat.lt_irrefl _)
  · exact absurd (Nat.lt_of_lt_of_le (Heap.lt_size (I.pin p hp).1) (by rw [z]; exact hT)) (Nat.lt_irrefl _)
  · have e0 := (hf b hb).1
    obtain ⟨o, ho⟩ := hob b hb
    have bT : b ≠ T := fun z => absurd (Nat.lt_of_lt_of_le (Heap.lt_size ho) (by rw [z]; exact hT)) (Nat.lt_irrefl _)
    rw [upd_ne bT]
    exact e0
/-! ### enumerate of a list -/
theorem isList_ne {h : Heap} {a b : Addr} {its : Array Value} {o : Obj} {T : String} (l : h.IsList a its) (e : h.get? b = some o) (c : o.cls = .type T) (n : T ≠ "list") : a ≠ b := fun z => by
  obtain ⟨o', e', c', _⟩ := l
  rw [z, e] at e'
  cases e'
  rw [c] at c'
  exact n (Value.type.inj c')
section
variable {X : Cx}
end
end L2


set_option Elab.async false
set_option linter.all false
set_option maxRecDepth 100000
set_option maxHeartbeats 4000000
namespace L2
open PySem PySem.Spec PyProof.Rows PySem.AutoSeq1
/-! ### enumerate of a tuple -/
abbrev titObj (t : Addr) : Obj := { cls := .type "tuple_iterator", data := .fields #[.ref t, .int 0 0] }
section
variable {prog : Program} {w : World} {A : Around} {E : Value → Shared → Prop} {s : Shared}
theorem nextOf_tup {it t : Addr} {i : Nat} {ys : Array Value} {x : Value} {Q : Value → Shared → Prop} (st : s.heap.IsTupleIter it t i) (tp : s.heap.IsTuple t ys) (e : ys[i]? = some x)
    (k : ∀ h', h'.IsTupleIter it t (i + 1) → Heap.SameBut it s.heap h' → Q x { s with heap := h' }) : wpAny (model prog w) A (Builtin.SmallTypes.nextOf (.ref it)) Q E s := by
  obtain ⟨ob, gb, cb, db⟩ := id st; obtain ⟨ot, gt, _, nt, dt⟩ := tp
  unfold Builtin.SmallTypes.nextOf; refine wpAny_bind (wpAny_callSpecial?_slot (name := Str.ofString "__next__") st.typeIs F.slot_tuple_iterator_next (wpAny_call_entry F.slot_tuple_iterator_next st.typeIs F.entry_tuple_iterator_next ?_ (F.args_tuple_iterator_next_1 _)))
  show wpAny _ _ (field (.ref it) 0 >>= _) _ _ s; refine wpAny_bind (wpAny_field gb db (x := .ref t) rfl ?_)
  show wpAny _ _ (if (Value.ref t == Value.none) = true then _ else _) _ _ s; rw [if_neg (show ¬ ((Value.ref t == Value.none) = true) from Bool.false_ne_true)]
  show wpAny _ _ (field (.ref it) 1 >>= _) _ _ s; refine wpAny_bind (wpAny_field gb db (x := .int i 0) rfl ?_)
  show wpAny _ _ (seqItems? (.ref t) >>= _) _ _ s; refine wpAny_bind (wpAny_seqItems gt dt ?_)
  simp only [Int.toNat_natCast, e]; refine wpAny_bind (wpAny_setField gb db (by simp) (wpAny_pure ⟨x, rfl, wpAny_pure (k _ ?_ (Heap.SameBut.update ..))⟩))
  exact ⟨_, Heap.get?_update_self _ gb (Obj.isFreed_of_fields (Obj.data_mapFields db _)), (Obj.cls_mapFields ..).trans cb, by rw [Obj.data_mapFields db]; simp [rawInt]⟩
theorem nextOf_tupEnd {it t : Addr} {i : Nat} {ys : Array Value} {Q : Value → Shared → Prop} (hd : A.handled = none) (st : s.heap.IsTupleIter it t i) (tp : s.heap.IsTuple t ys) (e : ys[i]? = none)
    (k : ∀ h' x, Heap.ExtBut it s.heap h' → (∃ o, h'.get? x = some o ∧ o.cls = .type "StopIteration") → E (.ref x) { s with heap := h' }) : wpAny (model prog w) A (Builtin.SmallTypes.nextOf (.ref it)) Q E s := by
  obtain ⟨ob, gb, cb, db⟩ := id st; obtain ⟨ot, gt, _, nt, dt⟩ := tp
  unfold Builtin.SmallTypes.nextOf; refine wpAny_bind (wpAny_callSpecial?_slot (name := Str.ofString "__next__") st.typeIs F.slot_tuple_iterator_next (wpAny_call_entry F.slot_tuple_iterator_next st.typeIs F.entry_tuple_iterator_next ?_ (F.args_tuple_iterator_next_1 _)))
  show wpAny _ _ (field (.ref it) 0 >>= _) _ _ s; refine wpAny_bind (wpAny_field gb db (x := .ref t) rfl ?_)
  show wpAny _ _ (if (Value.ref t == Value.none) = true then _ else _) _ _ s; rw [if_neg (show ¬ ((Value.ref t == Value.none) = true) from Bool.false_ne_true)]
  show wpAny _ _ (field (.ref it) 1 >>= _) _ _ s; refine wpAny_bind (wpAny_field gb db (x := .int i 0) rfl ?_)
  show wpAny _ _ (seqItems? (.ref t) >>= _) _ _ s; refine wpAny_bind (wpAny_seqItems gt dt ?_)
  simp only [Int.toNat_natCast, e]; refine wpAny_bind (wpAny_rule (wpAny_bind (wpAny_setField gb db (by simp) ?_)))
  show wpAny _ _ (newExc (.type "StopIteration") [] >>= _) _ _ _; refine wpAny_bind ?_; simp only [newExc, newTuple]
  refine wpAny_bind (wpAny_newObj_type ?_ (by size_fits)); refine wpAny_bind (m := firstArgMember _ _) (wpAny_of_eq (a := Value.none) (by first | rfl | (simp only [firstArgMember]; rfl)) ?_); refine wpAny_newObj_type ?_ (by size_fits)
  simp only [raiseNew]; refine wpAny_bind (wpAny_handled ?_); first | rw [show A.in1.handled = none from hd] | rw [hd]
  refine wpAny_bind (wpAny_pure (wpAny_throw ?_)); exact k _ _ (((Heap.SameBut.update ..).extBut.push _).push _) ⟨_, Heap.get?_push_size _ rfl, rfl⟩
theorem draws_tup (hd : A.handled = none) (it t : Addr) (ne : t ≠ it) (ys : Array Value) : Draws prog w A it [it, t] ys.size (fun i v => ys[i]? = some v) (fun i h => h.IsTupleIter it t i ∧ h.IsTuple t ys) where
  live := fun _ _ z => let ⟨o, q, _⟩ := z.1; ⟨o, q⟩
  frame := fun _ _ _ z kp => by
    obtain ⟨⟨o, q, r⟩, ⟨o', q', r'⟩⟩ := z
    exact ⟨⟨o, kp it (by simp) o q, r⟩, ⟨o', kp t (by simp) o' q', r'⟩⟩
  item := fun i s Q E hi z kq => by
    refine nextOf_tup z.1 z.2 (x := ys[i]) (by simp [hi]) fun h' z' sb => ?_
    exact kq _ h' s.toks (by simp [hi]) ⟨z', z.2.extBut sb.extBut ne⟩ sb
  done := fun s Q E z kq => nextOf_tupEnd hd z.1 z.2 (by simp) kq
theorem enum_newT (l : Addr) (ys : Array Value) (n : Nat) (dct : Option Addr) (sl : Array (Option Value)) : Meets (Builtin.«enumerate.__new__» ⟨[.type "enumerate", .ref l], []⟩) (fun _ R s => s.heap.get? l = some { cls := .type "tuple", dict := dct, data := .seq ys n, slots := sl } ∧
      R (.ok (.ret (.ref (s.heap.push (titObj l)).objs.size))) { s with heap := (s.heap.push (titObj l)).push { cls := .type "enumerate", data := .fields #[.none, .bool false, .ref s.heap.objs.size, rawInt 0, .none, .none] } }) :=
  .of_wp fun prog w A R s h => by
    obtain ⟨hp, g, d, tk, os⟩ := s; obtain ⟨hl, h⟩ := h; have su := sub_enumerate
    have tT : Heap.IsTuple (Shared.heap ⟨hp, g, d, tk, os⟩) l ys := ⟨_, hl, rfl, n, rfl⟩
    wp_walk using wpAny_loadPart' hl
    refine wpAny_stack_any fun st => wpAny_pure ?_; split
    · rename_i c _ _ _ _ _; cases (c == Value.type "enumerate")
      · wp_walk using wpAny_loadPart' hl, wpAny_pyIter_tuple tT
        exact ⟨_, rfl, h⟩
      · wp_walk using wpAny_loadPart' hl, wpAny_pyIter_tuple tT
        exact ⟨_, rfl, h⟩
    · wp_walk using wpAny_loadPart' hl, wpAny_pyIter_tuple tT
      exact ⟨_, rfl, h⟩
theorem call_enumT {l : Addr} {ys : Array Value} {Q : Value → Shared → Prop} (tT : s.heap.IsTuple l ys)
    (k : ∀ h', IsEnum h' (s.heap.objs.size + 1) s.heap.objs.size 0 .none → h'.IsTupleIter s.heap.objs.size l 0 → (∀ b o, s.heap.get? b = some o → h'.get? b = some o) → Q (.ref (s.heap.objs.size + 1)) { s with heap := h' }) : wpAny (model prog w) A (call (.type "enumerate") [.ref l]) Q E s := by
  obtain ⟨⟨c, dct, dt, sl⟩, hl, hc, n, hd⟩ := tT
  have hc' : c = .type "tuple" := hc
  have hd' : dt = .seq ys n := hd
  subst hc' hd'
  refine callType_new F.called_enumerate (by decide) (F.typeCall_enumerate_1 _) (F.newCall_enumerate_1 _) (fun obj => F.args_object_init_2 obj _) F.entry_enumerate_new (enum_newT l ys n dct sl) ⟨hl, ?_⟩
  have sz : (s.heap.push (titObj l)).objs.size = s.heap.objs.size + 1 := Heap.size_push ..
  show _ ∧ _; rw [sz]
  have en : IsEnum ((s.heap.push (titObj l)).push { cls := .type "enumerate", data := .fields #[.none, .bool false, .ref s.heap.objs.size, rawInt 0, .none, .none] }) (s.heap.objs.size + 1) s.heap.objs.size 0 .none := by
    have z := Heap.get?_push_size (s.heap.push (titObj l)) (o := { cls := .type "enumerate", data := .fields #[.none, .bool false, .ref s.heap.objs.size, rawInt 0, .none, .none] }) rfl
    rw [sz] at z; exact z
  exact ⟨⟨_, en, rfl⟩, k _ en ⟨_, Heap.get?_push_of_some _ (Heap.get?_push_size _ rfl), rfl, rfl⟩ fun b o x => Heap.get?_push_of_some _ (Heap.get?_push_of_some _ x)⟩
end
def srcET (K : PySem.W.Frag) (a : Addr) : Nat → Hp → List V → Prop := fun i H vs => ∃ x, vs = [.int i, x] ∧ ∀ xs, SqT K H a xs → xs[i]? = some x
def ItET (K : PySem.W.Frag) (a : Addr) : It := ItT (fun i H => ∃ xs x, SqT K H a xs ∧ xs[i]? = some x) (srcET K a) fun i H => ∃ xs, SqT K H a xs ∧ xs.length ≤ i
theorem isTup_ne {h : Heap} {a b : Addr} {its : Array Value} {o : Obj} {T : String} (l : h.IsTuple a its) (e : h.get? b = some o) (c : o.cls = .type T) (n : T ≠ "tuple") : a ≠ b := fun z => by
  obtain ⟨o', e', c', _⟩ := l
  rw [z, e] at e'
  cases e'
  rw [c] at c'
  exact n (Value.type.inj c')
theorem turn_enumT {P : Program} {w : World} {K : PySem.W.Frag} {elts : List Expr} {kk : Nat} {tpos : Pos} (a e it : Addr) (hei : e ≠ it) :
    Turn P w K (.Tuple elts kk tpos) (ItET K a) [e, it] e (fun i h => (∃ old, IsEnum h e it i old) ∧ h.IsTupleIter it a i) where
  mem := by simp
  obj := fun i h st b hb => by
    obtain ⟨⟨old, he⟩, o, ho, _, hd⟩ := st
    rcases List.mem_cons.mp hb with rfl | hb
    · exact ⟨_, he, fun v z => by cases z⟩
    · rw [List.mem_singleton.mp hb]
      exact ⟨o, ho, fun v z => by rw [hd] at z; cases z⟩
  keep := fun i h h' st k => by
    obtain ⟨⟨old, he⟩, o, ho, r⟩ := st
    exact ⟨⟨old, k e (by simp) _ he⟩, o, k it (by simp) o ho, r⟩
  item := by
    intro X hP hw hK hc i pins s σ H E I hf st hg
    subst hP hw hK
    obtain ⟨xs, x, hq, hx⟩ := hg
    obtain ⟨its, rv, p, hz⟩ := I.tuple hq
    obtain ⟨u, hu, ru⟩ := rv.get hx
    obtain ⟨⟨old, he⟩, hit⟩ := st
    have hL : s.heap.IsTuple a its.toArray := p
    have ne1 : a ≠ e := isTup_ne hL he rfl (by decide)
    have ne2 : a ≠ it := by
      obtain ⟨o, ho, hc', _⟩ := id hit
      exact isTup_ne hL ho hc' (by decide)
    have W := WalksT.enumerateD (A := X.A) (draws_tup (prog := X.prog) (w := X.w) (A := X.A.in1) (I.ok.hd hc) it a ne2 its.toArray) e hei (by simp; exact ⟨hei, Ne.symm ne1⟩) (by simp)
    refine turn_item (fp := [e, it]) (vs := [.int i, x]) (src := srcET X.K a) (tn := fun i h => (∃ old, IsEnum h e it i old) ∧ h.IsTupleIter it a i) W I hf (fun b hb => ?_) (fun b hb => hb) (by have := (List.getElem?_eq_some_iff.mp hu).1; simpa using this) ⟨⟨old, he⟩, hit, hL⟩ (fun vals hP => ?_) (by show 2 ≤ sizeLine; decide) ⟨x, rfl, fun ys hy => by rw [I.tuple_inj hy hq]; exact hx⟩ fun h st => ⟨?_, st.2.1⟩
    · rcases List.mem_cons.mp hb with rfl | hb
      · exact ⟨_, he⟩
      · rw [List.mem_singleton.mp hb]
        obtain ⟨o, ho, _⟩ := id hit
        exact ⟨o, ho⟩
    · obtain ⟨t, y, hy, rfl⟩ := hP
      have ey : y = u := by
        have : its[i]? = some y := by simpa using hy
        rw [hu] at this
        exact (Option.some.inj this).symm
      subst ey
      exact .cons ⟨t, rfl⟩ (.cons ru .nil)
    · obtain ⟨old', z⟩ := st.1
      exact ⟨old', z⟩
  done := by
    intro X hP hw hK hc i pins s σ H E I hf st hg
    subst hP hw hK
    obtain ⟨xs, hq, hx⟩ := hg
    obtain ⟨its, rv, p, hz⟩ := I.tuple hq
    obtain ⟨⟨old, he⟩, hit⟩ := st
    have hL : s.heap.IsTuple a its.toArray := p
    have hl := rv.length
    have ne2 : a ≠ it := by
      obtain ⟨o, ho, hc', _⟩ := id hit
      exact isTup_ne hL ho hc' (by decide)
    obtain ⟨f0, f1, f2, f3, f4, f5⟩ := hf it (by simp)
    have st2 : s.heap.IsTupleIter it a i := hit
    unfold pyNext
    have hT : s.TypeIs (.ref e) "enumerate" := ⟨_, he, rfl⟩
    refine wpAny_bind (wpAny_attempt (wpAny_callSpecial?_slot (name := Str.ofString "__next__") hT F.slot_enumerate_next (wpAny_call_entry F.slot_enumerate_next hT F.entry_enumerate_next ?_ (F.args_enumerate_next_1 _))))
    show wpAny _ _ (field (.ref e) 2 >>= _) _ _ _; refine wpAny_bind (wpAny_field he rfl (x := .ref it) rfl ?_)
    refine wpAny_bind (nextOf_tupEnd (I.ok.hd hc) st2 hL (by simp; omega) fun h' x eb ox => ?_); obtain ⟨o, ho, hoc⟩ := ox
    refine wpAny_bind (wpAny_isInstance (T := "StopIteration") (b := true) ⟨o, ho, hoc⟩ isSubtype_stop ?_); exact wpAny_pure ⟨rfl, I.turned (t' := s.toks) (fun b o hb e => eb b o hb e) f0 f1 f3 f4 f5⟩
  self := fun _ _ _ _ _ st h => by
    obtain ⟨⟨old, he⟩, _⟩ := st
    exact wpAny_pyIter_enum he h
section
variable {X : Cx}
def iEnumT (K : PySem.W.Frag) (tl : TE) : TI := fun σ H R => tl σ H fun x H1 => ∃ a, x = .ref a ∧ (∃ xs, SqT K H1 a xs) ∧ R (ItET K a) H1
theorem pi_enumT {elts : List Expr} {kk : Nat} {tpos p pos : Pos} {e : Expr} {te : TE} (hg : Gl X "enumerate") (hm : X.mg "enumerate" = none) (he : PE X e te)
    (hs : starEach [e] X.env = [(false, eval e X.env)] := by rfl) : PI X (.Tuple elts kk tpos) (.Call (.Name "enumerate" p) [e] [] pos) (iEnumT X.K te) := by
  intro pins s σ H R I h
  have b1 : bootBuiltins "enumerate" = some (.type "enumerate") := by decide +kernel
  refine wpAny_Call_Name_kw (ld_blt I hg hm b1 ?_ (by decide) (by decide))
  refine PyProof.Rows.callWith_type1 ?_ hs (by rfl)
  rw [hs]
  refine Calls.spliced_cons (thn (he pins s σ H _ I h) fun u s1 ⟨y, H1, I1, ry, a, ey, ⟨xs, hq⟩, q⟩ => ?_)
  subst ey
  have eu : u = Value.ref a := ry
  subst eu
  refine Calls.spliced_nil ?_
  obtain ⟨its, rv, pl, hz⟩ := I1.tuple hq
  refine call_enumT (show s1.heap.IsTuple a its.toArray from pl) fun h' e1 e2 kp => ?_
  have I2 : Inv X pins σ H1 { s1 with heap := h' } := I1.kept (t' := s1.toks) kp
  refine wpAny_pyIter_enum (s := { s1 with heap := h' }) e1 ?_
  refine ⟨_, [s1.heap.objs.size + 1, s1.heap.objs.size], _, ItET X.K a, H1, rfl, I2, turn_enumT a _ _ (Nat.ne_of_gt (Nat.lt_succ_self _)), ⟨⟨_, e1⟩, e2⟩, fun b hb => ?_, q⟩
  have nb : s1.heap.objs.size ≤ b := by
    rcases List.mem_cons.mp hb with rfl | hb
    · exact Nat.le_succ _
    · rw [List.mem_singleton.mp hb]; exact Nat.le_refl _
  exact I1.fpOk nb (I1.hok.fresh nb)
end
theorem for_enumT {K : PySem.W.Frag} {a : Addr} {xs : List V} {g : TG} {tb : TS} {D : Ends} {σ : St} {H : Hp} (Pv : Nat → St → Hp → Prop) (h0 : Pv 0 σ H) (hl : ∀ i σ H, i ≤ xs.length → Pv i σ H → SqT K H a xs)
    (hs : ∀ i x T σ H, xs[i]? = some x → Pv i σ H → H T = none → g (.ref T) σ (upd H T (.tup [.int i, x])) fun σ2 H2 => tb { D with nx := Pv (i + 1), ct := Pv (i + 1), bk := D.nx } σ2 H2) (hd : ∀ σ H, Pv xs.length σ H → D.nx σ H) :
    ∃ W : Nat → Nat → St → Hp → Prop, (∃ m, W 0 m σ H) ∧ ∀ i m σ H, W i m σ H →
      ((ItET K a).stop i H ∧ D.nx σ H) ∨ ((ItET K a).go i H ∧ ∃ N : St → Hp → Prop, (∀ σ' H', N σ' H' → ∃ m', m' < m ∧ W (i + 1) m' σ' H') ∧ ∀ x H', (ItET K a).yld i H x H' → g x σ H' fun σ2 H2 => tb { D with nx := N, ct := N, bk := D.nx } σ2 H2) := by
  refine ⟨fun i m σ H => m = xs.length - i ∧ i ≤ xs.length ∧ Pv i σ H, ⟨xs.length, by simp, Nat.zero_le _, h0⟩, ?_⟩
  rintro i m σ H ⟨rfl, hi, p⟩
  have q := hl i σ H hi p
  by_cases hlt : i < xs.length
  · refine .inr ⟨⟨xs, xs[i], q, by simp [hlt]⟩, Pv (i + 1), fun σ' H' p' => ⟨xs.length - (i + 1), by omega, rfl, hlt, p'⟩, fun x H' y => ?_⟩
    obtain ⟨T, vs, nT, rfl, rfl, x, rfl, hx⟩ := y
    exact hs i x T σ H (hx xs q) p nT
  · have e : i = xs.length := by omega
    subst e
    exact .inl ⟨⟨xs, q, Nat.le_refl _⟩, hd σ H p⟩
end L2


set_option Elab.async false
set_option linter.all false
set_option maxRecDepth 100000
set_option maxHeartbeats 4000000
namespace L2
open PySem PySem.Spec PyProof.Rows
/-! ### zip of two lists -/
def srcZ (K : PySem.W.Frag) (a b : Addr) : Nat → Hp → List V → Prop := fun i H vs => ∃ x y, vs = [x, y] ∧ (∀ xs, SqL K H a xs → xs[i]? = some x) ∧ ∀ ys, SqL K H b ys → ys[i]? = some y
def ItZ (K : PySem.W.Frag) (a b : Addr) : It := ItT (fun i H => ∃ xs ys x y, SqL K H a xs ∧ SqL K H b ys ∧ xs[i]? = some x ∧ ys[i]? = some y) (srcZ K a b) fun i H => ∃ xs ys, SqL K H a xs ∧ SqL K H b ys ∧ (xs.length ≤ i ∨ ys.length ≤ i)
/-- the zip's own records, apart from one another -/
structure ZOwn (z TI TO i1 i2 : Addr) : Prop where
  a1 : TI ≠ z
  a2 : TO ≠ z
  a3 : i1 ≠ z
  a4 : i2 ≠ z
  a5 : TI ≠ TO
  a6 : TI ≠ i1
  a7 : TI ≠ i2
  a8 : TO ≠ i1
  a9 : TO ≠ i2
  a10 : i1 ≠ i2
def tnZ (a b z TI TO i1 i2 : Addr) (i : Nat) (h : Heap) : Prop := IsZip h z TI TO .none ∧ IsPair h TI (.ref i1) (.ref i2) ∧ (∃ u v, IsPair h TO u v) ∧ h.IsListIter i1 a i ∧ h.IsListIter i2 b i
theorem zapart {h : Heap} {a b z TI TO i1 i2 : Addr} {i : Nat} {xs ys : Array Value} (o : ZOwn z TI TO i1 i2) (st : tnZ a b z TI TO i1 i2 i h) (la : h.IsList a xs) (lb : h.IsList b ys) : ZipApart z TI TO i1 i2 a b := by
  obtain ⟨hz, hTI, ⟨u, v, hTO⟩, h1, h2⟩ := st
  obtain ⟨o1, g1, c1, _⟩ := h1
  obtain ⟨o2, g2, c2, _⟩ := h2
  refine ⟨o.a1, o.a2, o.a3, o.a4, o.a5, o.a6, o.a7, o.a8, o.a9, o.a10, ?_, ?_, ?_, ?_, ?_, ?_, ?_, ?_⟩
  all_goals first
    | exact isList_ne la hz rfl (by decide)
    | exact isList_ne la hTO rfl (by decide)
    | exact isList_ne la g1 c1 (by decide)
    | exact isList_ne la g2 c2 (by decide)
    | exact isList_ne lb hz rfl (by decide)
    | exact isList_ne lb hTO rfl (by decide)
    | exact isList_ne lb g1 c1 (by decide)
    | exact isList_ne lb g2 c2 (by decide)
theorem zobj {h : Heap} {a b z TI TO i1 i2 : Addr} {i : Nat} (st : tnZ a b z TI TO i1 i2 i h) : ∀ c ∈ [z, TI, TO, i1, i2], ∃ o, h.get? c = some o ∧ ∀ v, o.data ≠ .cell v := by
  intro c hc
  obtain ⟨hz, hTI, ⟨u, v, hTO⟩, ⟨o1, g1, _, d1⟩, ⟨o2, g2, _, d2⟩⟩ := st
  simp only [List.mem_cons, List.not_mem_nil, or_false] at hc
  rcases hc with rfl | rfl | rfl | rfl | rfl
  · exact ⟨_, hz, fun v z => by cases z⟩
  · exact ⟨_, hTI, fun v z => by cases z⟩
  · exact ⟨_, hTO, fun v z => by cases z⟩
  · exact ⟨_, g1, fun v z => by rw [d1] at z; cases z⟩
  · exact ⟨_, g2, fun v z => by rw [d2] at z; cases z⟩
theorem turn_zip {P : Program} {w : World} {K : PySem.W.Frag} {elts : List Expr} {kk : Nat} {tpos : Pos} (a b z TI TO i1 i2 : Addr) (own : ZOwn z TI TO i1 i2) :
    Turn P w K (.Tuple elts kk tpos) (ItZ K a b) [z, TI, TO, i1, i2] z (tnZ a b z TI TO i1 i2) where
  mem := by simp
  obj := fun i h st c hc => zobj st c hc
  keep := fun i h h' st k => by
    obtain ⟨hz, hTI, ⟨u, v, hTO⟩, l1, l2⟩ := st
    exact ⟨k z (by simp) _ hz, k TI (by simp) _ hTI, ⟨u, v, k TO (by simp) _ hTO⟩, l1.at fun o q => k i1 (by simp) o q, l2.at fun o q => k i2 (by simp) o q⟩
  item := by
    intro X hP hw hK hc i pins s σ H E I hf st hg
    subst hP hw hK
    obtain ⟨xs, ys, x, y, hq, hq2, hx, hy⟩ := hg
    obtain ⟨its, rv, p, hz⟩ := I.list hq
    obtain ⟨its2, rv2, p2, hz2⟩ := I.list hq2
    obtain ⟨u, hu, ru⟩ := rv.get hx
    obtain ⟨u2, hu2, ru2⟩ := rv2.get hy
    have D := zapart own st p.isList p2.isList
    have W := WalksT.zip2 (prog := X.prog) (w := X.w) (A := X.A) (I.ok.hd hc) z TI TO i1 i2 a b D its.toArray its2.toArray
    have l1 := (List.getElem?_eq_some_iff.mp hu).1
    have l2 := (List.getElem?_eq_some_iff.mp hu2).1
    obtain ⟨s1, s2, s3, s4, s5⟩ := id st
    refine turn_item (fp := [z, TI, TO, i1, i2]) (vs := [x, y]) (src := srcZ X.K a b) (tn := tnZ a b z TI TO i1 i2) W I hf (fun c hc => let ⟨o, q, _⟩ := zobj st c hc; ⟨o, q⟩) (fun c hc => ?_) (by simp only [List.size_toArray]; omega) ⟨s1, s2, s3, s4, s5, p.isList, p2.isList⟩ (fun vals hP => ?_) (by show 2 ≤ sizeLine; decide)
      ⟨x, y, rfl, fun zs hzs => by rw [I.list_inj hzs hq]; exact hx, fun zs hzs => by rw [I.list_inj hzs hq2]; exact hy⟩ fun h st => ⟨st.1, st.2.1, st.2.2.1, st.2.2.2.1, st.2.2.2.2.1⟩
    · simp only [List.mem_cons, List.not_mem_nil, or_false] at hc ⊢
      rcases hc with q | q | q | q <;> simp [q]
    · obtain ⟨v1, v2, e1, e2, rfl⟩ := hP
      have f1 : v1 = u := by
        have q : its[i]? = some v1 := by simpa using e1
        rw [hu] at q
        exact (Option.some.inj q).symm
      have f2 : v2 = u2 := by
        have q : its2[i]? = some v2 := by simpa using e2
        rw [hu2] at q
        exact (Option.some.inj q).symm
      subst f1 f2
      exact .cons ru (.cons ru2 .nil)
  done := by
    intro X hP hw hK hc i pins s σ H E I hf st hg
    subst hP hw hK
    obtain ⟨xs, ys, hq, hq2, hend⟩ := hg
    obtain ⟨its, rv, p, hz⟩ := I.list hq
    obtain ⟨its2, rv2, p2, hz2⟩ := I.list hq2
    have D := zapart own st p.isList p2.isList
    obtain ⟨s1, s2, ⟨u, v, s3⟩, s4, s5⟩ := id st
    have e1 := rv.length
    have e2 := rv2.length
    refine wpAny_pyNext_zip_end (I.ok.hd hc) D s1 s2 s3 s4 s5 p.isList p2.isList (by
      rcases hend with q | q
      · exact .inl (by simp; omega)
      · exact .inr (by simp; omega)) fun h' kp => ⟨rfl, I.turnedL (t' := s.toks) (fun c o hc q => kp c o (fun e => hc (by simp [e])) (fun e => hc (by simp [e])) (fun e => hc (by simp [e])) (fun e => hc (by simp [e])) q) hf⟩
  self := fun _ _ _ _ _ st h => wpAny_pyIter_zip st.1 h
section
variable {X : Cx}
def iZip (K : PySem.W.Frag) (ta tb : TE) : TI := fun σ H R => ta σ H fun x H1 => tb σ H1 fun y H2 => ∃ a b, x = .ref a ∧ y = .ref b ∧ (∃ xs, SqL K H2 a xs) ∧ (∃ ys, SqL K H2 b ys) ∧ R (ItZ K a b) H2
theorem pi_zip {elts : List Expr} {kk : Nat} {tpos p pos : Pos} {e f : Expr} {te tf : TE} (hg : Gl X "zip") (hm : X.mg "zip" = none) (he : PE X e te) (hf : PE X f tf)
    (hs : starEach [e, f] X.env = [(false, eval e X.env), (false, eval f X.env)] := by rfl) (hs2 : starEach [f] X.env = [(false, eval f X.env)] := by rfl) : PI X (.Tuple elts kk tpos) (.Call (.Name "zip" p) [e, f] [] pos) (iZip X.K te tf) := by
  intro pins s σ H R I h
  have b1 : bootBuiltins "zip" = some (.type "zip") := by decide +kernel
  refine wpAny_Call_Name_kw (ld_blt I hg hm b1 ?_ (by decide) (by decide))
  refine PyProof.Rows.callWith_type1 ?_ (by rw [hs, hs2]) (by rw [hs2]; rfl)
  rw [hs]
  refine Calls.spliced_cons (thn (he pins s σ H _ I h) fun u s1 ⟨x, H1, I1, rx, q1⟩ => ?_)
  refine Calls.spliced_cons (thn (hf pins s1 σ H1 _ I1 q1) fun u2 s2 ⟨y, H2, I2, ry, a, b, ex, ey, ⟨xs, hq⟩, ⟨ys, hq2⟩, q⟩ => ?_)
  subst ex ey
  have eu : u = Value.ref a := rx
  have eu2 : u2 = Value.ref b := ry
  subst eu eu2
  refine Calls.spliced_nil ?_
  obtain ⟨its, rv, pl, hz⟩ := I2.list hq
  obtain ⟨its2, rv2, pl2, hz2⟩ := I2.list hq2
  refine call_zip_2 pl.isList pl2.isList fun h' z TI TO i1 i2 sz kp => ?_
  have I3 : Inv X pins σ H2 { s2 with heap := h' } := I2.kept (t' := s2.toks) kp
  refine wpAny_pyIter_zip (s := { s2 with heap := h' }) z ?_
  have ne : ∀ i j : Nat, i ≠ j → s2.heap.objs.size + i ≠ s2.heap.objs.size + j := fun i j hij e => hij (Nat.add_left_cancel e)
  refine ⟨_, [s2.heap.objs.size + 4, s2.heap.objs.size + 2, s2.heap.objs.size + 3, s2.heap.objs.size, s2.heap.objs.size + 1], _, ItZ X.K a b, H2, rfl, I3,
    turn_zip a b _ _ _ _ _ ⟨ne 2 4 (by decide), ne 3 4 (by decide), ne 0 4 (by decide), ne 1 4 (by decide), ne 2 3 (by decide), ne 2 0 (by decide), ne 2 1 (by decide), ne 3 0 (by decide), ne 3 1 (by decide), ne 0 1 (by decide)⟩,
    ⟨z, TI, ⟨_, _, TO⟩, i1, i2⟩, fun c hc => ?_, q⟩
  have nb : s2.heap.objs.size ≤ c := by
    simp only [List.mem_cons, List.not_mem_nil, or_false] at hc
    rcases hc with rfl | rfl | rfl | rfl | rfl
    · exact Nat.le_add_right _ _
    · exact Nat.le_add_right _ _
    · exact Nat.le_add_right _ _
    · exact Nat.le_refl _
    · exact Nat.le_add_right _ _
  exact I2.fpOk nb (I2.hok.fresh nb)
end
theorem for_zip {K : PySem.W.Frag} {a b : Addr} {xs ys : List V} {g : TG} {tb : TS} {D : Ends} {σ : St} {H : Hp} (Pv : Nat → St → Hp → Prop) (n : Nat) (hn : n = min xs.length ys.length) (h0 : Pv 0 σ H) (hl : ∀ i σ H, i ≤ n → Pv i σ H → SqL K H a xs ∧ SqL K H b ys)
    (hs : ∀ i x y T σ H, xs[i]? = some x → ys[i]? = some y → Pv i σ H → H T = none → g (.ref T) σ (upd H T (.tup [x, y])) fun σ2 H2 => tb { D with nx := Pv (i + 1), ct := Pv (i + 1), bk := D.nx } σ2 H2) (hd : ∀ σ H, Pv n σ H → D.nx σ H) :
    ∃ W : Nat → Nat → St → Hp → Prop, (∃ m, W 0 m σ H) ∧ ∀ i m σ H, W i m σ H →
      ((ItZ K a b).stop i H ∧ D.nx σ H) ∨ ((ItZ K a b).go i H ∧ ∃ N : St → Hp → Prop, (∀ σ' H', N σ' H' → ∃ m', m' < m ∧ W (i + 1) m' σ' H') ∧ ∀ x H', (ItZ K a b).yld i H x H' → g x σ H' fun σ2 H2 => tb { D with nx := N, ct := N, bk := D.nx } σ2 H2) := by
  refine ⟨fun i m σ H => m = n - i ∧ i ≤ n ∧ Pv i σ H, ⟨n, by simp, Nat.zero_le _, h0⟩, ?_⟩
  rintro i m σ H ⟨rfl, hi, p⟩
  have q := hl i σ H hi p
  by_cases hlt : i < n
  · have l1 : i < xs.length := by omega
    have l2 : i < ys.length := by omega
    refine .inr ⟨⟨xs, ys, xs[i], ys[i], q.1, q.2, by simp [l1], by simp [l2]⟩, Pv (i + 1), fun σ' H' p' => ⟨n - (i + 1), by omega, rfl, hlt, p'⟩, fun x H' y => ?_⟩
    obtain ⟨T, vs, nT, rfl, rfl, x, y, rfl, hx, hy⟩ := y
    exact hs i x y T σ H (hx xs q.1) (hy ys q.2) p nT
  · have e : i = n := by omega
    subst e
    exact .inl ⟨⟨xs, ys, q.1, q.2, by omega⟩, hd σ H p⟩
end L2


set_option Elab.async false
set_option linter.all false
set_option maxRecDepth 100000
set_option maxHeartbeats 4000000
namespace L2
open PySem PySem.Spec PyProof.Rows
/-! ### list.insert at a place that is not below nought -/
section
variable {X : Cx}
def rInsert : V → List V → Hp → VK → Prop := fun x vs H Q => ∃ l xs i y, x = .ref l ∧ vs = [.int i, y] ∧ H l = some (.lst xs) ∧ 0 ≤ i ∧ i < 2 ^ 63 ∧ xs.length < sizeLine ∧ Q .non (upd H l (.lst (xs.take i.toNat ++ y :: xs.drop i.toNat)))
theorem insArr (its : List Value) (i : Int) (u : Value) (hi : 0 ≤ i) : (have k := if i < 0 then (i + (its.toArray.size : Int)).toNat else min i.toNat its.toArray.size; (its.toArray.extract 0 k).push u ++ its.toArray.extract k) = (its.take i.toNat ++ u :: its.drop i.toNat).toArray := by
  have hn : ¬ i < 0 := by omega
  simp only [hn, if_false, List.size_toArray]
  apply Array.toList_inj.mp
  simp only [Array.toList_append, Array.toList_push, Array.toList_extract]
  simp
  by_cases hl : i.toNat ≤ its.length
  · rw [Nat.min_eq_left hl]
    simp
    rw [List.take_of_length_le (by simp)]
  · have hl' : its.length ≤ i.toNat := by omega
    rw [Nat.min_eq_right hl', List.drop_eq_nil_of_le hl', List.take_of_length_le hl']
    simp
theorem mt_insert : MtM X "list.insert" rInsert := by
  intro pins s σ H x vs v us Q I rx rv h
  obtain ⟨l, xs, i, y, rfl, rfl, hH, h1, h2, hz, q⟩ := h
  cases rx
  obtain ⟨u, u2, rfl, ru, ru2⟩ := rv.two
  obtain ⟨t, rfl⟩ := ru
  obtain ⟨z, its, n, r, hl, e⟩ := I.lstM hH
  refine call_meets F.slot_list_insert ⟨_, e, rfl⟩ F.entry_list_insert (F.args_list_insert_3 _ _ _) (AutoSeq1.list_insert_list_int_val_1 l its.toArray n i t u2 (by rw [fitsIndex_both (by omega) h2]; decide) (by rw [List.size_toArray]; omega)) ⟨e, ?_⟩
  refine ⟨.non, _, I.lset (its' := its.take i.toNat ++ u2 :: its.drop i.toNat) hH e (insArr its i u2 h1) ((r.take _).append (.cons ru2 (r.drop _))) ?_, rfl, q⟩
  simp only [List.length_append, List.length_cons, List.length_take, List.length_drop]
  omega
end
end L2


set_option Elab.async false
set_option linter.all false
set_option maxRecDepth 100000
set_option maxHeartbeats 4000000
namespace L2
open PySem PySem.Spec PyProof.Rows
/-! ### in and not in, of data in a list -/
section
variable {X : Cx}
def rInD (K : PySem.W.Frag) (no : Bool) : R2 := fun x y H Q => ∃ d ds a ys, DatX K H d x ∧ y = .ref a ∧ SqL K H a ys ∧ DatAll K H ds ys ∧ PyData.canLayAll0 ds = true ∧ d.canLay0 = true ∧ PyData.depthAll ds ≤ 60 ∧ Q (.bl (Bool.xor no (ds.any fun e => PyData.eqv e d))) H
theorem op_inD (hu : X.A.units + 64 < cLine) : OpR X (compareOp .In) (rInD X.K false) := by
  intro pins s σ H x y u v Q I rx ry h
  obtain ⟨d, ds, a, ys, hx, rfl, hl, hd, c1, c2, c3, q⟩ := h
  obtain ⟨bs, r1⟩ := hx.reads I rx
  obtain ⟨as, r2⟩ := DatX.reads I (d := .list ds) (v := .ref a) (.inr ⟨ds, a, ys, rfl, rfl, hl, hd⟩) ry
  refine PySem.SeqAt.in_list_reads r2 r1 c1 c2 (by have := Nat.min_le_left (PyData.depthAll ds) d.depth; omega) ⟨_, H, I, ?_, q⟩
  exact congrArg Value.bool (Bool.false_xor _).symm
theorem op_notinD (hu : X.A.units + 64 < cLine) : OpR X (compareOp .NotIn) (rInD X.K true) := by
  intro pins s σ H x y u v Q I rx ry h
  obtain ⟨d, ds, a, ys, hx, rfl, hl, hd, c1, c2, c3, q⟩ := h
  obtain ⟨bs, r1⟩ := hx.reads I rx
  obtain ⟨as, r2⟩ := DatX.reads I (d := .list ds) (v := .ref a) (.inr ⟨ds, a, ys, rfl, rfl, hl, hd⟩) ry
  refine PySem.SeqAt.notIn_list_reads r2 r1 c1 c2 (by have := Nat.min_le_left (PyData.depthAll ds) d.depth; omega) ⟨_, H, I, ?_, q⟩
  exact congrArg Value.bool (Bool.true_xor _).symm
end
end L2


set_option Elab.async false
set_option linter.all false
set_option maxRecDepth 100000
set_option maxHeartbeats 4000000
namespace L2
open PySem PySem.Spec PyProof.Rows
section
variable {X : Cx}
/-! ### l.index(x) of data -/
end
end L2


set_option Elab.async false
set_option linter.all false
set_option maxRecDepth 100000
set_option maxHeartbeats 4000000
namespace Mine
open PySem L2
/-! ### rows as data -/
def kD : Key → PyData
  | .inl i => .int i
  | .inr x => .str x
def rwD (r : Rw) : PyData := .tuple (r.map kD)
theorem kD_eqv (a b : Key) : PyData.eqv (kD a) (kD b) = decide (a = b) := by
  cases a <;> cases b <;> simp [kD, PyData.eqv] <;> (rw [Bool.eq_iff_iff]; simp)
theorem rwD_eqv (a b : Rw) : PyData.eqv (rwD a) (rwD b) = decide (a = b) := by
  simp only [rwD, PyData.eqv]
  exact eqv_map kD_eqv a b
theorem kD_dat {K : PySem.W.Frag} {H : Hp} (k : Key) : Dat K H (kD k) (kV k) := by cases k <;> rfl
theorem kD_all {K : PySem.W.Frag} {H : Hp} : ∀ r : Rw, DatAll K H (r.map kD) (r.map kV)
  | [] => rfl
  | k :: r => ⟨_, _, rfl, kD_dat k, kD_all r⟩
theorem RwV.dat {K : PySem.W.Frag} {H : Hp} {v : V} {r : Rw} (h : RwV H v r) : Dat K H (rwD r) v := by
  obtain ⟨a, rfl, e⟩ := h
  exact ⟨a, _, rfl, SqT.of e, kD_all r⟩
theorem RwV.all {K : PySem.W.Frag} {H : Hp} {vs : List V} {rs : List Rw} (h : All2 (RwV H) vs rs) : DatAll K H (rs.map rwD) vs := by
  induction h with
  | nil => rfl
  | cons r _ ih => exact ⟨_, _, rfl, r.dat, ih⟩
/-- rows of words and numbers as they are laid -/
def KOk : Key → Prop
  | .inl _ => True
  | .inr x => PyData.strOk x = true
def RwOk (r : Rw) : Prop := ∀ k ∈ r, KOk k
theorem kD_lay {k : Key} (h : KOk k) : (kD k).canLay0 = true := by
  cases k with
  | inl _ => rfl
  | inr x => simp only [kD, PyData.canLay0]; exact h
theorem kDs_lay : ∀ {r : Rw}, RwOk r → PyData.canLayAll0 (r.map kD) = true
  | [], _ => rfl
  | k :: r, h => by simp [PyData.canLayAll0, kD_lay (h k (by simp)), kDs_lay (r := r) fun x hx => h x (List.mem_cons_of_mem _ hx)]
theorem rowK_ok {x : Str} {is : List Nat} (h : PyData.strOk x = true) : RwOk (rowK x is) := fun k hk => by
  rcases List.mem_cons.mp hk with rfl | hk
  · exact h
  · obtain ⟨i, _, rfl⟩ := List.mem_map.mp hk
    exact True.intro
theorem push_ok {rs : List Rw} {r : Rw} (h : ∀ x ∈ rs, RwOk x) (hr : RwOk r) : ∀ x ∈ (pushRow rs r).1, RwOk x := by
  unfold pushRow
  cases idx rs r with
  | some i => exact h
  | none =>
    intro x hx
    rcases List.mem_append.mp hx with hx | hx
    · exact h x hx
    · rw [List.mem_singleton.mp hx]; exact hr
theorem w5_ok (w : W5) : PyData.strOk w.str = true := by cases w <;> decide +kernel
theorem word_ok (t : Tr) : PyData.strOk t.word = true := by
  cases t with
  | fold w a b => exact w5_ok w
  | never => show PyData.strOk "never" = true; decide +kernel
  | always => show PyData.strOk "always" = true; decide +kernel
  | lp => show PyData.strOk "p" = true; decide +kernel
  | lq => show PyData.strOk "q" = true; decide +kernel
  | no t => show PyData.strOk "not" = true; decide +kernel
theorem putR_ok : ∀ (t : Tr) (rs : List Rw), (∀ x ∈ rs, RwOk x) → ∀ x ∈ (t.putR rs).1, RwOk x
  | .no t, rs, h => push_ok (putR_ok t rs h) (rowK_ok (by decide +kernel))
  | .fold w a b, rs, h => push_ok (putR_ok b _ (putR_ok a rs h)) (rowK_ok (w5_ok w))
  | .never, rs, h => push_ok h (rowK_ok (by decide +kernel))
  | .always, rs, h => push_ok h (rowK_ok (by decide +kernel))
  | .lp, rs, h => push_ok h (rowK_ok (by decide +kernel))
  | .lq, rs, h => push_ok h (rowK_ok (by decide +kernel))
theorem kDs_depth : ∀ r : Rw, PyData.depthAll (r.map kD) = 0
  | [] => rfl
  | k :: r => by
    rw [List.map_cons]
    show max (kD k).depth (PyData.depthAll (r.map kD)) = 0
    rw [kDs_depth r]
    cases k <;> rfl
theorem rw_lay {r : Rw} (h : RwOk r) : (rwD r).canLay0 = true := by simp only [rwD, PyData.canLay0]; exact kDs_lay h
theorem rws_lay : ∀ {rs : List Rw}, (∀ x ∈ rs, RwOk x) → PyData.canLayAll0 (rs.map rwD) = true
  | [], _ => rfl
  | r :: rs, h => by simp [PyData.canLayAll0, rw_lay (h r (by simp)), rws_lay (rs := rs) fun x hx => h x (List.mem_cons_of_mem _ hx)]
theorem rw_depth (r : Rw) : (rwD r).depth ≤ 1 := by
  show PyData.depthAll (r.map kD) + 1 ≤ 1
  rw [kDs_depth]
  exact Nat.le_refl _
theorem rws_depth : ∀ rs : List Rw, PyData.depthAll (rs.map rwD) ≤ 1
  | [] => Nat.zero_le _
  | r :: rs => by
    rw [List.map_cons]
    show max (rwD r).depth (PyData.depthAll (rs.map rwD)) ≤ 1
    exact Nat.max_le.mpr ⟨rw_depth r, rws_depth rs⟩
theorem rws_any (rs : List Rw) (r : Rw) : ((rs.map rwD).any fun y => PyData.eqv y (rwD r)) = (idx rs r).isSome := by
  induction rs with
  | nil => rfl
  | cons x t ih =>
    rw [List.map_cons, List.any_cons, ih, rwD_eqv]
    show _ = (if x = r then some 0 else (idx t r).map (· + 1)).isSome
    by_cases z : x = r
    · rw [if_pos z, decide_eq_true z]; rfl
    · rw [if_neg z, decide_eq_false z]
      cases idx t r <;> rfl
end Mine


set_option Elab.async false
set_option linter.all false
set_option maxRecDepth 100000
set_option maxHeartbeats 4000000
namespace Mine
open PySem L2
/-! ### rows by their kinds -/
inductive Gr where
  | ne | al | p | q
  | no (i : Nat)
  | fold (u : W5) (i j : Nat)
def Gr.word : Gr → Str
  | .ne => "never" | .al => "always" | .p => "p" | .q => "q" | .no _ => "not" | .fold u _ _ => u.str
def Gr.nums : Gr → List Nat
  | .no i => [i]
  | .fold _ i j => [i, j]
  | _ => []
def Gr.rw (g : Gr) : Rw := rowK g.word g.nums
/-- each of rows ahead -/
def GrOk (k : Nat) (g : Gr) : Prop := ∀ i ∈ g.nums, i < k
def GrsOk (gs : List Gr) : Prop := ∀ k g, gs[k]? = some g → GrOk k g
/-! ### each row a saying of letters -/
/-! ### the rows of a tree -/
end Mine


set_option Elab.async false
set_option linter.all false
set_option maxRecDepth 100000
set_option maxHeartbeats 4000000
namespace Mine
open PySem L2
/-! ### rows and the trees that they stand for -/
def GrT (ts : List Tr) : Gr → Tr → Prop
  | .ne, .never => True
  | .al, .always => True
  | .p, .lp => True
  | .q, .lq => True
  | .no i, .no t => ts[i]? = some t
  | .fold u i j, .fold v a b => u = v ∧ ts[i]? = some a ∧ ts[j]? = some b
  | _, _ => False
theorem at_more {α : Type} {ts e : List α} {i : Nat} {t : α} (h : ts[i]? = some t) : (ts ++ e)[i]? = some t := by
  rw [List.getElem?_append_left (List.getElem?_eq_some_iff.mp h).1]
  exact h
theorem GrT.more {ts e : List Tr} {g : Gr} {t : Tr} (h : GrT ts g t) : GrT (ts ++ e) g t := by
  cases g <;> cases t <;> first | exact h | exact at_more h | exact ⟨h.1, at_more h.2.1, at_more h.2.2⟩
theorem some_uniq {α : Type} {o : Option α} {a b : α} (h : o = some a) (k : o = some b) : a = b := by rw [h] at k; exact Option.some.inj k
theorem GrT.uniq {ts : List Tr} {g : Gr} {t t' : Tr} (h : GrT ts g t) (k : GrT ts g t') : t = t' := by
  cases g with
  | no i =>
    cases t <;> first | exact h.elim | skip
    cases t' <;> first | exact k.elim | skip
    exact congrArg Tr.no (some_uniq h k)
  | fold u i j =>
    cases t <;> first | exact h.elim | skip
    cases t' <;> first | exact k.elim | skip
    obtain ⟨rfl, h1, h2⟩ := h
    obtain ⟨rfl, k1, k2⟩ := k
    rw [some_uniq h1 k1, some_uniq h2 k2]
  | ne => cases t <;> first | exact h.elim | (cases t' <;> first | exact k.elim | rfl)
  | al => cases t <;> first | exact h.elim | (cases t' <;> first | exact k.elim | rfl)
  | p => cases t <;> first | exact h.elim | (cases t' <;> first | exact k.elim | rfl)
  | q => cases t <;> first | exact h.elim | (cases t' <;> first | exact k.elim | rfl)
theorem w5_inj {u v : W5} (h : u.str = v.str) : u = v := by
  cases u <;> cases v <;> first | rfl | exact absurd h (by decide +kernel)
theorem nums_inj : ∀ {a b : List Nat}, (a.map fun i : Nat => (Sum.inl (i : Int) : Key)) = b.map (fun i : Nat => (Sum.inl (i : Int) : Key)) → a = b
  | [], [], _ => rfl
  | [], _ :: _, h => nomatch h
  | _ :: _, [], h => nomatch h
  | x :: a, y :: b, h => by
    have e1 := (List.cons.inj h).1
    have e2 := nums_inj (List.cons.inj h).2
    have : (x : Int) = (y : Int) := Sum.inl.inj e1
    rw [e2, show x = y by omega]
theorem rw_inj {g k : Gr} (h : g.rw = k.rw) : g = k := by
  have e1 : g.word = k.word := Sum.inr.inj (List.cons.inj h).1
  have e2 : g.nums = k.nums := nums_inj (List.cons.inj h).2
  cases g with
  | no i =>
    cases k with
    | no j => rw [show i = j from (List.cons.inj e2).1]
    | fold u a b => exact absurd (congrArg List.length e2) (by show 1 ≠ 2; decide)
    | _ => exact nomatch e2
  | fold u a b =>
    cases k with
    | no j => exact absurd (congrArg List.length e2) (by show 2 ≠ 1; decide)
    | fold v c d =>
      have z := List.cons.inj e2
      rw [w5_inj e1, z.1, (List.cons.inj z.2).1]
    | _ => exact nomatch e2
  | ne => cases k <;> first | rfl | exact absurd e1 (by decide +kernel) | exact absurd (congrArg List.length e2) (by show 0 ≠ 1; decide) | exact absurd (congrArg List.length e2) (by show 0 ≠ 2; decide)
  | al => cases k <;> first | rfl | exact absurd e1 (by decide +kernel) | exact absurd (congrArg List.length e2) (by show 0 ≠ 1; decide) | exact absurd (congrArg List.length e2) (by show 0 ≠ 2; decide)
  | p => cases k <;> first | rfl | exact absurd e1 (by decide +kernel) | exact absurd (congrArg List.length e2) (by show 0 ≠ 1; decide) | exact absurd (congrArg List.length e2) (by show 0 ≠ 2; decide)
  | q => cases k <;> first | rfl | exact absurd e1 (by decide +kernel) | exact absurd (congrArg List.length e2) (by show 0 ≠ 1; decide) | exact absurd (congrArg List.length e2) (by show 0 ≠ 2; decide)
inductive Tab : List Gr → List Tr → Prop where
  | nil : Tab [] []
  | snoc {gs : List Gr} {ts : List Tr} {g : Gr} {t : Tr} : Tab gs ts → GrT ts g t → Tab (gs ++ [g]) (ts ++ [t])
theorem Tab.len {gs : List Gr} {ts : List Tr} (h : Tab gs ts) : gs.length = ts.length := by
  induction h with
  | nil => rfl
  | snoc _ _ ih => rw [List.length_append, List.length_append, ih]; rfl
theorem Tab.at {gs : List Gr} {ts : List Tr} (h : Tab gs ts) : ∀ {i : Nat} {g : Gr}, gs[i]? = some g → ∃ t, ts[i]? = some t ∧ GrT ts g t := by
  induction h with
  | nil => intro i g e; cases e
  | @snoc gs ts g0 t0 h0 r ih =>
    intro i g e
    by_cases z : i < gs.length
    · rw [List.getElem?_append_left z] at e
      obtain ⟨t, e1, e2⟩ := ih e
      exact ⟨t, at_more e1, e2.more⟩
    · have z0 : i = gs.length := by
        have := (List.getElem?_eq_some_iff.mp e).1
        rw [List.length_append] at this
        simp at this
        omega
      subst z0
      rw [List.getElem?_concat_length] at e
      cases e
      refine ⟨t0, ?_, r.more⟩
      rw [h0.len, List.getElem?_concat_length]
theorem Tab.push {gs : List Gr} {ts : List Tr} {g : Gr} {t : Tr} (h : Tab gs ts) (r : GrT ts g t) : ∃ gs' ts', (pushRow (gs.map Gr.rw) g.rw).1 = gs'.map Gr.rw ∧ Tab gs' ts' ∧ ts'[(pushRow (gs.map Gr.rw) g.rw).2]? = some t ∧ ((t ∈ ts ∧ ts' = ts) ∨ ts' = ts ++ [t]) := by
  unfold pushRow
  cases z : idx (gs.map Gr.rw) g.rw with
  | some i =>
    have e := idx_at z
    rw [List.getElem?_map] at e
    cases y : gs[i]? with
    | none => rw [y] at e; cases e
    | some k =>
      rw [y] at e
      have ek : k = g := rw_inj (Option.some.inj e)
      subst ek
      obtain ⟨t', e1, e2⟩ := h.at y
      have et := e2.uniq r
      subst et
      exact ⟨gs, ts, rfl, h, e1, .inl ⟨List.mem_of_getElem? e1, rfl⟩⟩
  | none =>
    refine ⟨gs ++ [g], ts ++ [t], by rw [List.map_append]; rfl, .snoc h r, ?_, .inr rfl⟩
    show (ts ++ [t])[(gs.map Gr.rw).length]? = some t
    rw [List.length_map, h.len, List.getElem?_concat_length]
theorem GrT.ok {ts : List Tr} {g : Gr} {t : Tr} (h : GrT ts g t) : GrOk ts.length g := by
  intro k hk
  cases g with
  | no i =>
    cases t <;> first | exact h.elim | skip
    rw [show k = i by simpa [Gr.nums] using hk]
    exact (List.getElem?_eq_some_iff.mp h).1
  | fold u i j =>
    cases t <;> first | exact h.elim | skip
    obtain ⟨_, h1, h2⟩ := h
    have z : k = i ∨ k = j := by simpa [Gr.nums] using hk
    rcases z with rfl | rfl
    · exact (List.getElem?_eq_some_iff.mp h1).1
    · exact (List.getElem?_eq_some_iff.mp h2).1
  | ne => exact nomatch hk
  | al => exact nomatch hk
  | p => exact nomatch hk
  | q => exact nomatch hk
theorem Tab.ok {gs : List Gr} {ts : List Tr} (h : Tab gs ts) : GrsOk gs := by
  induction h with
  | nil => intro k g e; cases e
  | @snoc gs ts g0 t0 h0 r ih =>
    intro k g e
    by_cases z : k < gs.length
    · rw [List.getElem?_append_left z] at e
      exact ih k g e
    · have z0 : k = gs.length := by
        have := (List.getElem?_eq_some_iff.mp e).1
        rw [List.length_append] at this
        simp at this
        omega
      subst z0
      rw [List.getElem?_concat_length] at e
      cases e
      rw [h0.len]
      exact r.ok
end Mine


set_option Elab.async false
set_option linter.all false
set_option maxRecDepth 100000
set_option maxHeartbeats 4000000
namespace Mine
open PySem L2
/-! ### a tree's rows stand for its parts -/
theorem post_self (t : Tr) : t ∈ t.post := by cases t <;> simp [Tr.post]
theorem post_size : ∀ (t x : Tr), x ∈ t.post → x.size ≤ t.size
  | .no t, x, h => by
    rcases List.mem_append.mp (show x ∈ t.post ++ [.no t] from h) with h | h
    · exact Nat.le_succ_of_le (post_size t x h)
    · rw [List.mem_singleton.mp h]; exact Nat.le_refl _
  | .fold u a b, x, h => by
    rcases List.mem_append.mp (show x ∈ a.post ++ b.post ++ [.fold u a b] from h) with h | h
    · rcases List.mem_append.mp h with h | h
      · have := post_size a x h; show _ ≤ a.size + b.size + 1; omega
      · have := post_size b x h; show _ ≤ a.size + b.size + 1; omega
    · rw [List.mem_singleton.mp h]; exact Nat.le_refl _
  | .never, x, h => by rw [List.mem_singleton.mp h]; exact Nat.le_refl _
  | .always, x, h => by rw [List.mem_singleton.mp h]; exact Nat.le_refl _
  | .lp, x, h => by rw [List.mem_singleton.mp h]; exact Nat.le_refl _
  | .lq, x, h => by rw [List.mem_singleton.mp h]; exact Nat.le_refl _
theorem putR_sub : ∀ (t : Tr) {gs : List Gr} {ts : List Tr}, Tab gs ts → ∃ gs' e, (t.putR (gs.map Gr.rw)).1 = gs'.map Gr.rw ∧ Tab gs' (ts ++ e) ∧ (ts ++ e)[(t.putR (gs.map Gr.rw)).2]? = some t ∧ (∀ x ∈ e, x ∈ t.post) ∧ (t ∉ ts → ∃ e', e = e' ++ [t]) := by
  have leaf : ∀ (t : Tr) (g : Gr) {gs : List Gr} {ts : List Tr}, Tab gs ts → GrT ts g t → ∃ gs' e, (pushRow (gs.map Gr.rw) g.rw).1 = gs'.map Gr.rw ∧ Tab gs' (ts ++ e) ∧ (ts ++ e)[(pushRow (gs.map Gr.rw) g.rw).2]? = some t ∧ (∀ x ∈ e, x ∈ t.post) ∧ (t ∉ ts → ∃ e', e = e' ++ [t]) := by
    intro t g gs ts h r
    obtain ⟨gs', ts', e1, e2, e3, e4⟩ := h.push r
    rcases e4 with ⟨m, rfl⟩ | rfl
    · exact ⟨gs', [], e1, by rw [List.append_nil]; exact e2, by rw [List.append_nil]; exact e3, (fun _ z => by cases z), fun z => absurd m z⟩
    · exact ⟨gs', [t], e1, e2, e3, fun x z => by rw [List.mem_singleton.mp z]; exact post_self t, fun _ => ⟨[], rfl⟩⟩
  intro t
  induction t with
  | never => intro gs ts h; exact leaf .never .ne h trivial
  | always => intro gs ts h; exact leaf .always .al h trivial
  | lp => intro gs ts h; exact leaf .lp .p h trivial
  | lq => intro gs ts h; exact leaf .lq .q h trivial
  | no t ih =>
    intro gs ts h
    obtain ⟨gs1, e, a1, a2, a3, a4, _⟩ := ih h
    obtain ⟨gs2, ts2, b1, b2, b3, b4⟩ := a2.push (g := .no (t.putR (gs.map Gr.rw)).2) (t := .no t) a3
    have key : (Tr.no t).putR (gs.map Gr.rw) = pushRow (gs1.map Gr.rw) (Gr.rw (.no (t.putR (gs.map Gr.rw)).2)) := by rw [← a1]; rfl
    rw [key]
    have up : ∀ x ∈ t.post, x ∈ (Tr.no t).post := fun x z => List.mem_append.mpr (.inl z)
    rcases b4 with ⟨m, rfl⟩ | rfl
    · refine ⟨gs2, e, b1, b2, b3, fun x z => up x (a4 x z), fun z => ?_⟩
      rcases List.mem_append.mp m with m | m
      · exact absurd m z
      · exact absurd (post_size _ _ (a4 _ m)) (by show ¬ t.size + 1 ≤ t.size; omega)
    · refine ⟨gs2, e ++ [.no t], b1, by rw [← List.append_assoc]; exact b2, by rw [← List.append_assoc]; exact b3, fun x z => ?_, fun _ => ⟨e, rfl⟩⟩
      rcases List.mem_append.mp z with z | z
      · exact up x (a4 x z)
      · rw [List.mem_singleton.mp z]; exact post_self _
  | fold u a b iha ihb =>
    intro gs ts h
    obtain ⟨gs1, e, a1, a2, a3, a4, _⟩ := iha h
    obtain ⟨gs2, f, c1, c2, c3, c4, _⟩ := ihb a2
    have a3' := at_more (e := f) a3
    obtain ⟨gs3, ts3, b1, b2, b3, b4⟩ := c2.push (g := .fold u (a.putR (gs.map Gr.rw)).2 (b.putR (gs1.map Gr.rw)).2) (t := .fold u a b) ⟨rfl, a3', c3⟩
    have key : (Tr.fold u a b).putR (gs.map Gr.rw) = pushRow (gs2.map Gr.rw) (Gr.rw (.fold u (a.putR (gs.map Gr.rw)).2 (b.putR (gs1.map Gr.rw)).2)) := by
      show pushRow (b.putR (a.putR (gs.map Gr.rw)).1).1 (rowK u.str [(a.putR (gs.map Gr.rw)).2, (b.putR (a.putR (gs.map Gr.rw)).1).2]) = _
      rw [a1, c1]
      rfl
    rw [key]
    have ua : ∀ x ∈ a.post, x ∈ (Tr.fold u a b).post := fun x z => List.mem_append.mpr (.inl (List.mem_append.mpr (.inl z)))
    have ub : ∀ x ∈ b.post, x ∈ (Tr.fold u a b).post := fun x z => List.mem_append.mpr (.inl (List.mem_append.mpr (.inr z)))
    have sz : ∀ x ∈ e ++ f, x.size ≤ a.size + b.size ∧ x ∈ (Tr.fold u a b).post := fun x z => by
      rcases List.mem_append.mp z with z | z
      · exact ⟨Nat.le_trans (post_size _ _ (a4 x z)) (Nat.le_add_right _ _), ua x (a4 x z)⟩
      · exact ⟨Nat.le_trans (post_size _ _ (c4 x z)) (Nat.le_add_left _ _), ub x (c4 x z)⟩
    rw [List.append_assoc] at b4
    rcases b4 with ⟨m, rfl⟩ | rfl
    · refine ⟨gs3, e ++ f, b1, b2, b3, fun x z => (sz x z).2, fun z => ?_⟩
      rcases List.mem_append.mp m with m | m
      · exact absurd m z
      · exact absurd (sz _ m).1 (by show ¬ a.size + b.size + 1 ≤ a.size + b.size; omega)
    · refine ⟨gs3, e ++ f ++ [.fold u a b], b1, by rw [← List.append_assoc]; exact b2, by rw [← List.append_assoc]; exact b3, fun x z => ?_, fun _ => ⟨e ++ f, rfl⟩⟩
      rcases List.mem_append.mp z with z | z
      · exact (sz x z).2
      · rw [List.mem_singleton.mp z]; exact post_self _
/-- a tree's rows, and the parts that they stand for: the last one is the tree -/
theorem rows_tab (t : Tr) : ∃ gs ts, t.rows = gs.map Gr.rw ∧ Tab gs (ts ++ [t]) ∧ (∀ x ∈ ts ++ [t], x ∈ t.post) ∧ gs.length ≤ t.size := by
  obtain ⟨gs, e, a1, a2, a3, a4, a5⟩ := putR_sub t (gs := []) (ts := []) .nil
  obtain ⟨e', rfl⟩ := a5 (fun z => nomatch z)
  have hl := putR_len t []
  rw [show (t.putR []).1 = gs.map Gr.rw from a1, List.length_map] at hl
  exact ⟨gs, e', a1, by simpa using a2, a4, by simpa using hl⟩
end Mine


set_option Elab.async false
set_option linter.all false
set_option maxRecDepth 100000
set_option maxHeartbeats 4000000
namespace L2
open PySem PySem.Spec PyProof.Rows
variable {X : Cx}
/-! ### is True, is not True, of a truth -/
/-! ### methods of built-in things within a comprehension -/
theorem pe_bm0K {K : PySem.W.Frag} {T id : String} {name : Str} {r : V → List V → Hp → VK → Prop} {o : Expr} {to : TE} {apos cpos : Pos} (eK : X.K = K) (pa : PlainAttrs T) (slot : Slot T name id) (hty : typeOf (.builtin id) = pure (.type "method_descriptor")) (hm : MtR X id r) (ho : PE X o to)
    (hbase : attributeBase o name X.env (eval o X.env) = eval o X.env := by rfl) (hline : (apos.endLine == cpos.line) = true := by rfl) : PE X (.Call (.Attribute o name apos) [] [] cpos) (tBM0 K T r to) := eK ▸ pe_bm0 pa slot hty hm ho hbase hline
end L2


set_option Elab.async false
set_option linter.all false
set_option maxRecDepth 100000
set_option maxHeartbeats 4000000
namespace L2
open PySem PySem.Spec PyProof.Rows
/-! ### what is never come to -/
def tDead : TS := fun _ _ _ => False
theorem ps_dead {X : Cx} {s : Stmt} : PS X s tDead := fun _ _ _ _ _ _ h => h.elim
/-! ### sum of a list of ints -/
/-! ### TABLE.get(x) of a dict at a file's top -/
end L2


set_option Elab.async false
set_option linter.all false
set_option maxRecDepth 100000
set_option maxHeartbeats 4000000
namespace L2
open PySem PySem.Spec PyProof.Rows
/-! ### a list comprehension with a tuple as its target: its block has the names xs of its own -/
def cNamesT (X : Cx) (xs : List Str) (js : List Nat) : List Str := xs ++ js.map fun j => X.N.getD j ""
section
variable {X : Cx} {pins : List (Addr × Obj)} {σ : St} {H : Hp} {s : Shared} {scope : Scope} {cl : List (Str × Addr)} {xs : List Str} {js : List Nat} {fp : List Addr} {N : List Str}
theorem comp_okT (I : Inv X pins σ H s) (hk : scope.kind = .function) (hcell : ∀ y ∈ scope.names, y.2 ≠ .cell)
    (hcl1 : ∀ y c, cl.lookup y = some c → X.env.cells.lookup y = some c) (hcl2 : ∀ y, (y, NameKind.free) ∈ scope.names → ∃ c, cl.lookup y = some c)
    (hf : ∀ b ∈ fp, FpOk X pins H b) (hlt : ∀ b ∈ fp, b < s.heap.objs.size) : (cxComp X scope cl N s H fp).Ok where
  mod := I.ok.mod
  kind := hk
  glob := I.ok.glob
  blt := I.ok.blt
  above := Nat.le_refl _
  inj := fun y z c h1 h2 => I.ok.inj y z c (hcl1 y c h1) (hcl1 z c h2)
  has := fun y hy => by
    have hy' : (relabel scope X.env).names.lookup y = some .cell ∨ (relabel scope X.env).names.lookup y = some .free := hy
    rcases hy' with h | h
    · obtain ⟨k', m, q⟩ := lookup_relabel h
      rcases q with q | ⟨_, q⟩
      · exact absurd q (hcell _ m)
      · subst q; exact hcl2 y m
    · obtain ⟨k', m, q⟩ := lookup_relabel h
      rcases q with q | ⟨q, _⟩
      · subst q; exact hcl2 y m
      · cases q
  cab := fun y c h _ => by cases h
  hd := I.ok.hd
  frames := I.ok.frames
  stk := .inl rfl
  exf := fun b hb => ⟨Nat.ne_of_lt (hlt b hb), fun y c h => (hf b hb).2.2.2.2.1 y c (hcl1 y c h)⟩
  bs := I.bs
  bsz := Nat.le_trans I.ok.bsz I.sz
  noex := fun b o e hb => by
    rcases (hf b hb).2.2.2.1 with z | z
    · exact I.ok.noex b o e z
    · exact absurd (Nat.lt_of_lt_of_le (Heap.lt_size e) (Nat.le_trans I.ok.bsz z)) (Nat.lt_irrefl _)
  exfs := fun b hb hz => (List.mem_cons.mp (I.stkSub b hz)).elim (hf b hb).2.1 (hf b hb).2.2.1
  funs := I.stack
  frf := I.stkFree

theorem comp_startT {h₁ : Heap} {tk : Nat} (I : Inv X pins σ H s) (hk : scope.kind = .function) (hcell : ∀ y ∈ scope.names, y.2 ≠ .cell)
    (hcl1 : ∀ y c, cl.lookup y = some c → X.env.cells.lookup y = some c) (hcl2 : ∀ y, (y, NameKind.free) ∈ scope.names → ∃ c, cl.lookup y = some c) (hjs : FreeAt X scope js)
    (hf : ∀ b ∈ fp, FpOk X pins H b) (hlt : ∀ b ∈ fp, b < s.heap.objs.size) {m : Str → Option Value} (hn : h₁.Ns s.heap.objs.size m) (hkeep : ∀ b o, s.heap.get? b = some o → h₁.get? b = some o) :
    Inv (cxComp X scope cl (cNamesT X xs js) s H fp) [] (List.replicate xs.length none ++ cVals js σ) H { s with heap := h₁, toks := tk } where
  ok := comp_okT I hk hcell hcl1 hcl2 hf hlt
  os := rfl
  bare := I.bare
  base := Un.kept hkeep
  loc := by
    refine ⟨m, hn, fun i y v h1 h2 h3 => ?_⟩
    by_cases hik : i < xs.length
    · rw [List.getElem?_append_left (by simpa using hik), List.getElem?_replicate_of_lt hik] at h2
      cases h2
    · generalize hkk : i - xs.length = k
      have h1' : (js.map fun j => X.N.getD j "")[k]? = some y := by
        have q : (xs ++ js.map fun j => X.N.getD j "")[i]? = some y := h1
        rw [List.getElem?_append_right (by omega), hkk] at q
        exact q
      have h2' : (js.map fun j => (σ[j]?).getD none)[k]? = some (some v) := by
        rw [List.getElem?_append_right (by simp; omega), List.length_replicate, hkk] at h2
        exact h2
      rw [List.getElem?_map] at h1' h2'
      cases hj : js[k]? with
      | none => rw [hj] at h1'; cases h1'
      | some j =>
        rw [hj] at h1' h2'
        have e1 : X.N.getD j "" = y := Option.some.inj h1'
        have e2 : (σ[j]?).getD none = some v := Option.some.inj h2'
        obtain ⟨y', n1, n2, n3, n4⟩ := hjs.all j (List.mem_of_getElem? hj)
        have e3 : y' = y := by rw [← e1, List.getD_eq_getElem?_getD, n1]; rfl
        subst e3
        have e4 : σ[j]? = some (some v) := by
          cases q : σ[j]? with
          | none => rw [q] at e2; cases e2
          | some a => rw [q] at e2; exact congrArg some e2
        obtain ⟨m0, _, hl⟩ := I.loc
        obtain ⟨u, r, l⟩ := hl j y' v n1 e4 (n2.elim (fun z => Or.inr (Or.inl z)) fun z => Or.inr (Or.inr z))
        refine ⟨u, r, .inr ⟨n4, ?_⟩⟩
        rcases l with ⟨l, _⟩ | ⟨_, c, hc, hi⟩
        · exfalso
          rcases n2 with z | z <;> (rw [z] at l; cases l)
        · obtain ⟨c', hc'⟩ := hcl2 y' n3
          have e5 := hcl1 y' c' hc'
          rw [hc] at e5
          have e6 := Option.some.inj e5
          subst e6
          obtain ⟨o, ho, hd⟩ := hi
          exact ⟨c, hc', o, hkeep c o ho, hd⟩
  cell := fun y c h => by
    obtain ⟨v, o, ho, hd⟩ := I.cell y c (hcl1 y c h)
    exact ⟨v, o, hkeep c o ho, hd⟩
  free := I.hok.fresh (Nat.le_refl _)
  freeC := fun y c h => I.freeC y c (hcl1 y c h)
  pin := fun p hp => absurd (show p ∈ ([] : List (Addr × Obj)) from hp) (by simp)
  hok := I.hok.kept hkeep
  len := by
    show (List.replicate xs.length none ++ cVals js σ).length = (cNamesT X xs js).length
    simp [cVals, cNamesT]
end

/-- [elt for a, b, .. in iter]: n names of the block's own -/
def tCompT (n : Nat) (wi : TI) (g : TG) (te : TE) (js : List Nat) : TE := fun σ H Q => wi σ H fun J H1 => ∀ D, H1 D = none →
  ∃ W : Nat → Nat → Hp → Prop, (∃ m, W 0 m (upd H1 D (.lst []))) ∧ ∀ i m H2, W i m H2 → (J.stop i H2 ∧ Q (.ref D) H2) ∨
    (J.go i H2 ∧ ∀ o : St, o.length = n → ∀ v H3, J.yld i H2 v H3 → g v (o ++ cVals js σ) H3 fun σ4 H4 => ∃ o', o'.length = n ∧ σ4 = o' ++ cVals js σ ∧ te (o' ++ cVals js σ) H4 fun y H5 =>
      ∃ ys, H5 D = some (.lst ys) ∧ ys.length < sizeLine ∧ ∃ m', m' < m ∧ W (i + 1) m' (upd H5 D (.lst (ys ++ [y]))))
section
variable {X : Cx} {elt iter : Expr} {xs : List Str} {elts : List Expr} {kk : Nat} {tp pos : Pos} {scope : Scope} {cl : List (Str × Addr)} {wi : TI} {g : TG} {te : TE} {js : List Nat}
theorem comp_coreT {use : Option (Value → Sem Unit)} {Qv : Value → Shared → Prop} {pins : List (Addr × Obj)} {s : Shared} {σ : St} {H : Hp} {Q : VK}
    (hc : X.calm = true) (hi : PI X (.Tuple elts kk tp) iter wi) (hk : scope.kind = .function) (hcell : ∀ y ∈ scope.names, y.2 ≠ .cell)
    (hcl1 : ∀ y c, cl.lookup y = some c → X.env.cells.lookup y = some c) (hcl2 : ∀ y, (y, NameKind.free) ∈ scope.names → ∃ c, cl.lookup y = some c) (hjs : FreeAt X scope js) (hnd : (cNamesT X xs js).Nodup)
    (hg : ∀ s' H' fp, PG (cxComp X scope cl (cNamesT X xs js) s' H' fp) (.Tuple elts kk tp) g) (he : ∀ s' H' fp, PE (cxComp X scope cl (cNamesT X xs js) s' H' fp) elt te)
    (I : Inv X pins σ H s) (h : tCompT xs.length wi g te js σ H Q)
    (fin : ∀ (D C : Addr) (H' : Hp) (s' : Shared), Inv X pins σ H' s' → FpOk X pins H' C → (∃ m, s'.heap.Ns C m) → Q (.ref D) H' → compPost (model X.prog X.w) X.A X.xe use Qv (.ref D) C (.ok .next) s') :
    wpAny (model X.prog X.w) X.A (eval iter X.env) (fun xv s₁ => wpAny (model X.prog X.w) X.A (pyIter xv) (fun it s₂ => wpAny (model X.prog X.w) X.A (newList []) (fun acc s₃ =>
      wpAny (model X.prog X.w) X.A (newFunctionEnv scope X.env.globals cl [] X.env.qual none .none (some X.env)) (fun cenv s₄ =>
        codeAny (model X.prog X.w) X.A (.compStart (.ListComp elt [⟨.Tuple elts kk tp, iter, [], 0⟩] scope pos) 0 it acc { cenv with scope := relabel scope X.env })
          (compPost (model X.prog X.w) X.A X.xe use Qv acc cenv.locals) s₄) X.xe s₃) X.xe s₂) X.xe s₁) X.xe s := by
  refine thn (hi pins s σ H _ I h) fun v s1 h1 => thn h1 fun itv s2 h2 => ?_
  obtain ⟨it, fp, tn, J, H2, e, I2, T, st2, f2, hW⟩ := h2
  subst e
  obtain ⟨W, ⟨m0, w0⟩, turn⟩ := hW s2.heap.objs.size (I2.hok.fresh (Nat.le_refl _))
  have hlt2 : ∀ b ∈ fp, b < s2.heap.objs.size := fun b hb => let ⟨_, e, _⟩ := T.obj _ _ st2 b hb; Heap.lt_size e
  have I3 : Inv X pins σ (upd H2 s2.heap.objs.size (.lst [])) { s2 with heap := s2.heap.push { cls := .type "list", data := .seq ([] : List Value).toArray } } :=
    I2.lnew (t' := s2.toks) (its := []) .nil (Nat.zero_le _)
  refine wpAny_newObj_type ?_
  have k23 : ∀ b o, s2.heap.get? b = some o → (s2.heap.push { cls := .type "list", data := .seq ([] : List Value).toArray }).get? b = some o := fun b o e => Heap.get?_push_of_some _ e
  have sz3 : (s2.heap.push { cls := .type "list", data := .seq ([] : List Value).toArray }).objs.size = s2.heap.objs.size + 1 := Heap.size_push ..
  generalize hs3 : ({ s2 with heap := s2.heap.push { cls := .type "list", data := .seq ([] : List Value).toArray } } : Shared) = s3 at I3
  have hs3' : s3.heap = s2.heap.push { cls := .type "list", data := .seq ([] : List Value).toArray } := by rw [← hs3]
  have hlt3 : ∀ b ∈ fp, b < s3.heap.objs.size := fun b hb => by rw [hs3', sz3]; exact Nat.lt_succ_of_lt (hlt2 b hb)
  have f3 : ∀ b ∈ fp, FpOk X pins (upd H2 s2.heap.objs.size (.lst [])) b := fun b hb => ⟨by rw [upd_ne (Nat.ne_of_lt (hlt2 b hb))]; exact (f2 b hb).1, (f2 b hb).2⟩
  refine wpAny_newFunctionEnv hcell (by intro y hy; simp at hy) (fun h₁ hns hsb => ?_) hk
  have k34 : ∀ b o, s3.heap.get? b = some o → h₁.get? b = some o := fun b o e => hsb.extBut b o (Nat.ne_of_lt (Heap.lt_size e)) (Heap.get?_push_of_some _ e)
  have I4 := comp_startT (xs := xs) (js := js) (tk := s3.toks + ([] : List (Str × Value)).length) I3 hk hcell hcl1 hcl2 hjs f3 hlt3 hns k34
  have st4 : tn 0 h₁ := T.keep 0 _ _ st2 fun b hb o e => k34 b o (by rw [hs3']; exact k23 b o e)
  -- the iterator's records stay what they are
  have stat : ∀ {H' : Hp}, (∀ b ∈ fp, H' b = none) → ∀ b ∈ fp, FpOk (cxComp X scope cl (cNamesT X xs js) s3 (upd H2 s2.heap.objs.size (.lst [])) fp) [] H' b := fun hn b hb =>
    ⟨hn b hb, Nat.ne_of_lt (hlt3 b hb), fun hz => (List.mem_cons.mp (I3.stkSub b hz)).elim (f2 b hb).2.1 (f2 b hb).2.2.1, .inl hb, fun y c q => (f2 b hb).2.2.2.2.1 y c (hcl1 y c q), fun p hp => absurd (show p ∈ ([] : List (Addr × Obj)) from hp) (by simp)⟩
  have back : ∀ {σ' : St} {H' : Hp} {s' : Shared}, Inv (cxComp X scope cl (cNamesT X xs js) s3 (upd H2 s2.heap.objs.size (.lst [])) fp) [] σ' H' s' → Inv X pins σ H' s' := fun {σ' H' s'} J' =>
    I3.call' (ch := fp) J'.os J'.base J'.hok J'.bare fun b hb => ⟨(f2 b hb).2.2.2.1, (f2 b hb).2.1, (f2 b hb).2.2.2.2.1, (f2 b hb).2.2.2.2.2⟩
  have loop : codeAny (model X.prog X.w) X.A (.compLoop (.ListComp elt [⟨.Tuple elts kk tp, iter, [], 0⟩] scope pos) 0 (.ref it) (.ref s2.heap.objs.size) (compEnvC scope cl s3.heap.objs.size X.env))
      (compPost (model X.prog X.w) X.A X.xe use Qv (.ref s2.heap.objs.size) s3.heap.objs.size) { s3 with heap := h₁, toks := s3.toks + ([] : List (Str × Value)).length } := by
    refine PyProof.Rows.LCp.codeAny_compLoop_pair (fun n s' => ∃ (i : Nat) (o : St) (H' : Hp), o.length = xs.length ∧ Inv (cxComp X scope cl (cNamesT X xs js) s3 (upd H2 s2.heap.objs.size (.lst [])) fp) [] (o ++ cVals js σ) H' s' ∧ tn i s'.heap ∧ (∀ b ∈ fp, H' b = none) ∧ W i n H') ?_ m0
      ⟨0, _, _, List.length_replicate, I4, st4, fun b hb => (f3 b hb).1, w0⟩
    rintro n s5 ⟨i, o, H5, ho, I5, st5, fr5, w5⟩
    rcases turn i n H5 w5 with ⟨stop, q⟩ | ⟨go, step⟩
    · refine thn (T.done (cxComp X scope cl (cNamesT X xs js) s3 (upd H2 s2.heap.objs.size (.lst [])) fp) rfl rfl rfl hc i [] s5 _ H5 _ I5 (stat fr5) st5 stop) fun r s6 ⟨hr, I6⟩ => ?_
      subst hr
      exact fin _ _ H5 s6 (back I6) (I3.fpOk (Nat.le_refl _) I6.free) (let ⟨m, hm, _⟩ := I6.loc; ⟨m, hm⟩) q
    · refine thn (T.item (cxComp X scope cl (cNamesT X xs js) s3 (upd H2 s2.heap.objs.size (.lst [])) fp) rfl rfl rfl hc i [] s5 _ H5 _ I5 (stat fr5) st5 go) fun r s6 ⟨u, hr, h6⟩ => ?_
      subst hr
      refine wpAny_mono h6 (fun _ s6' q6 => ?_) (fun _ _ f => f)
      obtain ⟨v, H6, I6, r6, y6, st6, fr6⟩ := q6
      have I6' := I6.pinned (stat fr6) (T.obj _ _ st6)
      refine wpAny_mono (hg s3 _ fp _ s6' _ H6 v u _ I6' r6 (step o ho v H6 y6)) (fun _ s7 q7 => ?_) (fun _ _ f => False.elim f)
      obtain ⟨σ7, H7, I7, o7, ho7, e7, q7⟩ := q7
      subst e7
      refine wpAny_mono (he s3 _ fp _ s7 _ H7 _ I7 q7) (fun y s9 q9 => ?_) (fun _ _ f => False.elim f)
      obtain ⟨yv, H9, I9, r9, ys, hD, hl, m', hm, w9⟩ := q9
      refine wpAny_mono (mt_append (X := cxComp X scope cl (cNamesT X xs js) s3 (upd H2 s2.heap.objs.size (.lst [])) fp) _ s9 _ H9 (.ref s2.heap.objs.size) [yv] (.ref s2.heap.objs.size) [y] (fun _ H' => H' = upd H9 s2.heap.objs.size (.lst (ys ++ [yv]))) I9 rfl (.cons r9 .nil) ⟨_, ys, yv, rfl, rfl, hD, hl, rfl⟩) (fun _ s10 q10 => ?_) (fun _ _ f => False.elim f)
      obtain ⟨_, H10, I10, _, e10⟩ := q10
      subst e10
      refine ⟨m', hm, i + 1, o7, _, ho7, I10.unpinned, T.keep _ _ _ st6 fun b hb o e => (I10.pin (b, o) (List.mem_append_right _ (List.mem_append_right _ (mem_pinsAt hb e)))).1, fun b hb => ?_, w9⟩
      obtain ⟨o, e, d⟩ := T.obj _ _ st6 b hb
      exact (I10.pin (b, o) (List.mem_append_right _ (List.mem_append_right _ (mem_pinsAt hb e)))).2.1
  exact codeAny_compStart_list loop (T.self _ 0 _ _ _ st4 loop)

/-- the comprehension as an expression -/
theorem pe_compT (hc : X.calm = true) (hi : PI X (.Tuple elts kk tp) iter wi) (hk : scope.kind = .function) (hcell : ∀ y ∈ scope.names, y.2 ≠ .cell) (hnames : ∀ y ∈ scope.names, y.2 = .local → scope.names.lookup y.1 = some .local)
    (hclos : closureFor scope X.env = pure cl) (hcl1 : ∀ y c, cl.lookup y = some c → X.env.cells.lookup y = some c) (hcl2 : ∀ y, (y, NameKind.free) ∈ scope.names → ∃ c, cl.lookup y = some c) (hjs : FreeAt X scope js) (hnd : (cNamesT X xs js).Nodup)
    (hg : ∀ s' H' fp, PG (cxComp X scope cl (cNamesT X xs js) s' H' fp) (.Tuple elts kk tp) g) (he : ∀ s' H' fp, PE (cxComp X scope cl (cNamesT X xs js) s' H' fp) elt te)
    (hs : ∀ x, foldedSetIterable iter X.env x = pure x := by intro _; rfl) : PE X (.ListComp elt [⟨.Tuple elts kk tp, iter, [], 0⟩] scope pos) (tCompT xs.length wi g te js) := by
  intro pins s σ H Q I h
  rw [eval_ListComp]
  refine wpAny_comprehension_free (use := none) rfl hs hclos hk hnames (comp_coreT hc hi hk hcell hcl1 hcl2 hjs hnd hg he I h fun D C H' s' I' fC hC q => ?_)
  obtain ⟨m, hm⟩ := hC
  refine ⟨m, hm, fun h' sb => ?_⟩
  obtain ⟨f0, f1, f2, f3, f4, f5⟩ := fC
  exact ⟨.ref D, H', I'.turned (t' := s'.toks) (fun b o hb e => (sb.2 b hb).trans e) f0 f1 f3 f4 f5, rfl, q⟩

/-- the closure found from the scope -/
theorem pe_compTF (hc : X.calm = true) (hi : PI X (.Tuple elts kk tp) iter wi) (hk : scope.kind = .function) (hcell : ∀ y ∈ scope.names, y.2 ≠ .cell) (hnames : ∀ y ∈ scope.names, y.2 = .local → scope.names.lookup y.1 = some .local)
    (hf : ∀ p ∈ scope.names, p.2 = .free → X.env.kindOf p.1 = some .cell ∨ X.env.kindOf p.1 = some .free) (hjs : FreeAt X scope js) (hnd : (cNamesT X xs js).Nodup)
    (hg : ∀ cl s' H' fp, PG (cxComp X scope cl (cNamesT X xs js) s' H' fp) (.Tuple elts kk tp) g) (he : ∀ cl s' H' fp, PE (cxComp X scope cl (cNamesT X xs js) s' H' fp) elt te)
    (hs : ∀ x, foldedSetIterable iter X.env x = pure x := by intro _; rfl) : PE X (.ListComp elt [⟨.Tuple elts kk tp, iter, [], 0⟩] scope pos) (tCompT xs.length wi g te js) := by
  intro pins s σ H Q I h
  obtain ⟨cl, e, p1, p2⟩ := clo_of (free_of (js := js) I fun y hy => hf (y, .free) hy rfl)
  exact pe_compT hc hi hk hcell hnames e p1 p2 hjs hnd (hg cl) (he cl) hs pins s σ H Q I h
end
end L2


set_option Elab.async false
set_option linter.all false
namespace Mine
namespace Ln
/-- the end ahead of the i-th stretch -/
def bef (M : List St4) : Nat → Int × Int
  | 0 => (0, 1)
  | i + 1 => match M[i]? with
    | some s => (s.p, s.q)
    | none => (0, 1)
theorem bef_succ {M : List St4} {i : Nat} {s : St4} (h : M[i]? = some s) : bef M (i + 1) = (s.p, s.q) := by
  show (match M[i]? with | some s => (s.p, s.q) | none => (0, 1)) = _
  rw [h]
/-! ### neighbours of one rule become one -/
def jnStep (A : List St4) (s : St4) : List St4 := match A.getLast? with
  | some t => if t.m = s.m ∧ t.h = s.h then A.dropLast ++ [s] else A ++ [s]
  | none => A ++ [s]
def jn (M : List St4) : List St4 := M.foldl jnStep []
theorem jn_snoc (M : List St4) (t : St4) : jn (M ++ [t]) = jnStep (jn M) t := by
  unfold jn
  rw [List.foldl_append]
  rfl
theorem jnStep_new {A : List St4} {s : St4} (h : ∀ t, A.getLast? = some t → t.m ≠ s.m) : jnStep A s = A ++ [s] := by
  unfold jnStep
  cases e : A.getLast? with
  | none => rfl
  | some t => simp [h t e]
theorem jnStep_same {A : List St4} {t s : St4} (h1 : t.m = s.m) (h2 : t.h = s.h) : jnStep (A ++ [t]) s = A ++ [s] := by
  unfold jnStep
  rw [List.getLast?_append, List.getLast?_singleton, Option.some_or]
  simp [h1, h2]
theorem prod_small {x y : Int} {m n : Nat} (hx : x.natAbs < 2 ^ m) (hy : y.natAbs < 2 ^ n) : (x * y).natAbs < 2 ^ (m + n) := by
  rw [Int.natAbs_mul, Nat.pow_add]
  exact Nat.mul_lt_mul'' hx hy
end Ln
end Mine


set_option Elab.async false
set_option linter.all false
namespace Mine
namespace Ln
/-! ### lines and ways within a bound -/
def OkB (n : Nat) (s : St4) : Prop := 0 < s.p ∧ s.p ≤ s.q ∧ Lo.gc s.p s.q = 1 ∧ s.q.natAbs < 2 ^ n ∧ s.m.natAbs < 2 ^ n ∧ s.h.natAbs < 2 ^ n
theorem OkB.mono {n k : Nat} {s : St4} (h : OkB n s) (e : n ≤ k) : OkB k s := by
  have := Nat.pow_le_pow_right (show 0 < 2 by decide) e
  obtain ⟨h1, h2, h3, h4, h5, h6⟩ := h
  exact ⟨h1, h2, h3, by omega, by omega, by omega⟩
def AdjW (s t : St4) : Prop := s.p * t.q < t.p * s.q ∧ (t.m - s.m) * s.p + (t.h - s.h) * s.q = 0
def ChW : List St4 → Prop
  | [] => True
  | [_] => True
  | s :: t :: r => AdjW s t ∧ ChW (t :: r)
def End1 (L : List St4) : Prop := ∃ s, L.getLast? = some s ∧ s.p = 1 ∧ s.q = 1
structure Way (n : Nat) (L : List St4) : Prop where
  ok : ∀ s ∈ L, OkB n s
  ch : ChW L
  last : End1 L
structure LineB (n : Nat) (L : List St4) : Prop where
  ok : ∀ s ∈ L, OkB n s
  ch : Ch L
  last : End1 L
theorem Ch.way : ∀ {L : List St4}, Ch L → ChW L
  | [], _ => trivial
  | [_], _ => trivial
  | _ :: _ :: _, h => ⟨⟨h.1.1, h.1.2.1⟩, Ch.way h.2⟩
theorem LineB.way {n : Nat} {L : List St4} (l : LineB n L) : Way n L := ⟨l.ok, l.ch.way, l.last⟩
theorem End1.tail {s t : St4} {r : List St4} (h : End1 (s :: t :: r)) : End1 (t :: r) := by
  obtain ⟨u, h1, h2⟩ := h
  rw [List.getLast?_cons_cons] at h1
  exact ⟨u, h1, h2⟩
theorem Way.tail {n : Nat} {s t : St4} {r : List St4} (w : Way n (s :: t :: r)) : Way n (t :: r) := ⟨fun u hu => w.ok u (List.mem_cons_of_mem _ hu), w.ch.2, w.last.tail⟩
theorem Way.one {n : Nat} {s : St4} (w : Way n [s]) : s.p = 1 ∧ s.q = 1 := by
  obtain ⟨u, h1, h2⟩ := w.last
  cases h1
  exact h2
theorem Way.hd {n : Nat} {s : St4} {r : List St4} (w : Way n (s :: r)) : OkB n s := w.ok s List.mem_cons_self
theorem Way.ne {n : Nat} (w : Way n []) : False := by
  obtain ⟨u, h1, _⟩ := w.last
  cases h1
/-- a stretch whose end lies ahead of some x up to 1 is not the last -/
theorem Way.more {n : Nat} {s : St4} {r : List St4} (w : Way n (s :: r)) {p q : Int} (hpq : p ≤ q) (c : s.p * q < p * s.q) : ∃ t r', r = t :: r' := by
  cases r with
  | nil =>
    obtain ⟨e1, e2⟩ := w.one
    rw [e1, e2] at c
    omega
  | cons t r' => exact ⟨t, r', rfl⟩
theorem pk_cons_lt {s : St4} {r : List St4} {p q : Int} (h : s.p * q < p * s.q) : pk (s :: r) p q = pk r p q := by
  unfold pk
  rw [List.find?_cons]
  simp only [decide_eq_true h, Bool.not_true]
theorem pk_cons_ge {s : St4} {r : List St4} {p q : Int} (h : ¬ s.p * q < p * s.q) : pk (s :: r) p q = some s := by
  unfold pk
  rw [List.find?_cons]
  simp only [decide_eq_false h, Bool.not_false]
theorem nlt_trans {a b c d e f : Int} (hb : 0 < b) (hd : 0 < d) (hf : 0 < f) (h1 : a * d < c * b) (h2 : ¬ a * f < e * b) : ¬ c * f < e * d := by
  intro h
  exact h2 (lt_trans' hb hd hf h1 h)
theorem OkB.q0 {n : Nat} {s : St4} (h : OkB n s) : 0 < s.q := by have := h.1; have := h.2.1; omega
/-- equal fractions in lowest terms are the same -/
theorem frac_eq {p q a b : Int} (hq : 0 < q) (hb : 0 < b) (g1 : Lo.gc p q = 1) (g2 : Lo.gc a b = 1) (e : p * b = a * q) : p = a ∧ q = b := by
  obtain ⟨z1, z2⟩ := Lo.low_own hq g1
  obtain ⟨z3, z4⟩ := Lo.low_own hb g2
  have t1 := Lo.lowT_mul (f := b) (by omega) p (b := q) (by omega)
  have t2 := Lo.lowB_mul (f := b) (by omega) p (b := q) (by omega)
  have t3 := Lo.lowT_mul (f := q) (by omega) a (b := b) (by omega)
  have t4 := Lo.lowB_mul (f := q) (by omega) a (b := b) (by omega)
  have e1 : b * p = q * a := by rw [Int.mul_comm, e, Int.mul_comm]
  rw [e1, Int.mul_comm b q] at t1 t2
  exact ⟨by rw [← z1, ← t1, t3, z3], by rw [← z2, ← t2, t4, z4]⟩
/-! ### joining, from the front -/
def jnR : List St4 → List St4
  | [] => []
  | [s] => [s]
  | s :: t :: r => if s.m = t.m ∧ s.h = t.h then jnR (t :: r) else s :: jnR (t :: r)
theorem jn_fold : ∀ (r : List St4) (A : List St4) (s : St4), r.foldl jnStep (A ++ [s]) = A ++ jnR (s :: r)
  | [], _, _ => rfl
  | t :: r, A, s => by
    rw [List.foldl_cons]
    by_cases c : s.m = t.m ∧ s.h = t.h
    · rw [jnStep_same c.1 c.2, jn_fold r A t]
      show _ = A ++ (if s.m = t.m ∧ s.h = t.h then jnR (t :: r) else s :: jnR (t :: r))
      rw [if_pos c]
    · have e : jnStep (A ++ [s]) t = (A ++ [s]) ++ [t] := by
        unfold jnStep
        rw [List.getLast?_append, List.getLast?_singleton, Option.some_or]
        simp only [c, if_false]
      rw [e, jn_fold r (A ++ [s]) t]
      show _ = A ++ (if s.m = t.m ∧ s.h = t.h then jnR (t :: r) else s :: jnR (t :: r))
      rw [if_neg c, List.append_assoc]
      rfl
theorem jn_eq : ∀ (M : List St4), jn M = jnR M
  | [] => rfl
  | s :: r => by
    have := jn_fold r [] s
    rw [List.nil_append, List.nil_append] at this
    rw [← this]
    rfl
/-- the first one behind joining: the rule of the first, an end at least as far -/
theorem jnR_head {n : Nat} : ∀ {s : St4} {r : List St4}, Way n (s :: r) → ∃ u v, jnR (s :: r) = u :: v ∧ u.m = s.m ∧ u.h = s.h ∧ (u = s ∨ s.p * u.q < u.p * s.q) ∧ OkB n u
  | s, [], w => ⟨s, [], rfl, rfl, rfl, .inl rfl, w.hd⟩
  | s, t :: r, w => by
    by_cases c : s.m = t.m ∧ s.h = t.h
    · obtain ⟨u, v, e, e1, e2, e3, o⟩ := jnR_head w.tail
      refine ⟨u, v, ?_, e1.trans c.1.symm, e2.trans c.2.symm, .inr ?_, o⟩
      · show (if s.m = t.m ∧ s.h = t.h then jnR (t :: r) else s :: jnR (t :: r)) = _
        rw [if_pos c, e]
      · have a := w.ch.1.1
        rcases e3 with rfl | e3
        · exact a
        · exact lt_trans' w.hd.q0 w.tail.hd.q0 o.q0 a e3
    · refine ⟨s, jnR (t :: r), ?_, rfl, rfl, .inl rfl, w.hd⟩
      show (if s.m = t.m ∧ s.h = t.h then jnR (t :: r) else s :: jnR (t :: r)) = _
      rw [if_neg c]
theorem jnR_line {n : Nat} : ∀ {M : List St4}, Way n M → LineB n (jnR M)
  | [], w => w.ne.elim
  | [s], w => ⟨w.ok, trivial, w.last⟩
  | s :: t :: r, w => by
    have L := jnR_line w.tail
    by_cases c : s.m = t.m ∧ s.h = t.h
    · have e : jnR (s :: t :: r) = jnR (t :: r) := by
        show (if s.m = t.m ∧ s.h = t.h then jnR (t :: r) else s :: jnR (t :: r)) = _
        rw [if_pos c]
      rw [e]; exact L
    · have e : jnR (s :: t :: r) = s :: jnR (t :: r) := by
        show (if s.m = t.m ∧ s.h = t.h then jnR (t :: r) else s :: jnR (t :: r)) = _
        rw [if_neg c]
      obtain ⟨u, v, e0, e1, e2, e3, o⟩ := jnR_head w.tail
      rw [e]
      rw [e0] at L ⊢
      have a := w.ch.1
      refine ⟨fun x hx => ?_, ⟨⟨?_, ?_, ?_⟩, L.ch⟩, ?_⟩
      · rcases List.mem_cons.mp hx with z | z
        · rw [z]; exact w.hd
        · exact L.ok x z
      · rcases e3 with rfl | e3
        · exact a.1
        · exact lt_trans' w.hd.q0 w.tail.hd.q0 o.q0 a.1 e3
      · rw [e1, e2]; exact a.2
      · intro q
        rw [e1] at q
        apply c
        refine ⟨q.symm, ?_⟩
        have a2 := a.2
        rw [q, Int.sub_self, Int.zero_mul, Int.zero_add] at a2
        rcases Int.mul_eq_zero.mp a2 with z | z
        · omega
        · have := w.hd.q0; omega
      · obtain ⟨x, h1, h2⟩ := L.last
        exact ⟨x, by rw [List.getLast?_cons_cons]; exact h1, h2⟩
/-- joining leaves the rule at each place as it is -/
theorem jnR_pk {n : Nat} {p q : Int} (hq : 0 < q) (hpq : p ≤ q) : ∀ {M : List St4}, Way n M → ∃ s u, pk M p q = some s ∧ pk (jnR M) p q = some u ∧ u.m = s.m ∧ u.h = s.h
  | [], w => w.ne.elim
  | [s], w => by
    obtain ⟨e1, e2⟩ := w.one
    have : pk [s] p q = some s := pk_cons_ge (by rw [e1, e2]; omega)
    exact ⟨s, s, this, this, rfl, rfl⟩
  | s :: t :: r, w => by
    by_cases c : s.m = t.m ∧ s.h = t.h
    · have e : jnR (s :: t :: r) = jnR (t :: r) := by
        show (if s.m = t.m ∧ s.h = t.h then jnR (t :: r) else s :: jnR (t :: r)) = _
        rw [if_pos c]
      rw [e]
      by_cases l : s.p * q < p * s.q
      · rw [pk_cons_lt l]
        exact jnR_pk hq hpq w.tail
      · obtain ⟨u, v, e0, e1, e2, e3, o⟩ := jnR_head w.tail
        refine ⟨s, u, pk_cons_ge l, ?_, e1.trans c.1.symm, e2.trans c.2.symm⟩
        rw [e0]
        refine pk_cons_ge ?_
        have lt : s.p * u.q < u.p * s.q := by
          rcases e3 with rfl | e3
          · exact w.ch.1.1
          · exact lt_trans' w.hd.q0 w.tail.hd.q0 o.q0 w.ch.1.1 e3
        exact nlt_trans w.hd.q0 o.q0 hq lt l
    · have e : jnR (s :: t :: r) = s :: jnR (t :: r) := by
        show (if s.m = t.m ∧ s.h = t.h then jnR (t :: r) else s :: jnR (t :: r)) = _
        rw [if_neg c]
      rw [e]
      by_cases l : s.p * q < p * s.q
      · rw [pk_cons_lt l, pk_cons_lt l]
        exact jnR_pk hq hpq w.tail
      · exact ⟨s, s, pk_cons_ge l, pk_cons_ge l, rfl, rfl⟩
end Ln
end Mine


set_option Elab.async false
set_option linter.all false
namespace Mine
namespace Ln
/-! ### two lines side by side -/
structure Pc where
  p : Int
  q : Int
  a : St4
  b : St4
def sbs : List St4 → List St4 → List Pc
  | [], _ => []
  | _ :: _, [] => []
  | a :: A, b :: B =>
    if a.p * b.q < b.p * a.q then ⟨a.p, a.q, a, b⟩ :: sbs A (b :: B)
    else if a.p = b.p ∧ a.q = b.q then ⟨b.p, b.q, a, b⟩ :: sbs A B
    else ⟨b.p, b.q, a, b⟩ :: sbs (a :: A) B
termination_by A B => A.length + B.length
theorem sbs_nil (B : List St4) : sbs [] B = [] := by rw [sbs]
theorem sbs_nil' : ∀ (A : List St4), sbs A [] = []
  | [] => by rw [sbs]
  | _ :: _ => by rw [sbs]
theorem sbs_lt {a b : St4} {A B : List St4} (h : a.p * b.q < b.p * a.q) : sbs (a :: A) (b :: B) = ⟨a.p, a.q, a, b⟩ :: sbs A (b :: B) := by
  rw [sbs, if_pos h]
theorem sbs_eq {a b : St4} {A B : List St4} (e : a.p = b.p ∧ a.q = b.q) : sbs (a :: A) (b :: B) = ⟨b.p, b.q, a, b⟩ :: sbs A B := by
  rw [sbs, if_neg (by rw [e.1, e.2]; omega), if_pos e]
theorem sbs_gt {a b : St4} {A B : List St4} (h : ¬ a.p * b.q < b.p * a.q) (e : ¬ (a.p = b.p ∧ a.q = b.q)) : sbs (a :: A) (b :: B) = ⟨b.p, b.q, a, b⟩ :: sbs (a :: A) B := by
  rw [sbs, if_neg h, if_neg e]
/-- the three ways in which two ends lie -/
theorem ends_cases {n : Nat} {a b : St4} (ha : OkB n a) (hb : OkB n b) : a.p * b.q < b.p * a.q ∨ (a.p = b.p ∧ a.q = b.q) ∨ (b.p * a.q < a.p * b.q ∧ ¬ a.p * b.q < b.p * a.q ∧ ¬ (a.p = b.p ∧ a.q = b.q)) := by
  rcases Int.lt_trichotomy (a.p * b.q) (b.p * a.q) with h | h | h
  · exact .inl h
  · exact .inr (.inl (frac_eq ha.q0 hb.q0 ha.2.2.1 hb.2.2.1 h))
  · refine .inr (.inr ⟨h, by omega, fun e => ?_⟩)
    rw [e.1, e.2] at h
    omega
theorem sbs_len : ∀ (A B : List St4), (sbs A B).length ≤ A.length + B.length
  | [], B => by rw [sbs_nil]; exact Nat.zero_le _
  | _ :: _, [] => by rw [sbs_nil']; exact Nat.zero_le _
  | a :: A, b :: B => by
    by_cases h : a.p * b.q < b.p * a.q
    · rw [sbs_lt h]
      have := sbs_len A (b :: B)
      simp only [List.length_cons] at *
      omega
    · by_cases e : a.p = b.p ∧ a.q = b.q
      · rw [sbs_eq e]
        have := sbs_len A B
        simp only [List.length_cons] at *
        omega
      · rw [sbs_gt h e]
        have := sbs_len (a :: A) B
        simp only [List.length_cons] at *
        omega
termination_by A B => A.length + B.length
/-- the piece in which x lies -/
def pkP (P : List Pc) (p q : Int) : Option Pc := P.find? fun c => !decide (c.p * q < p * c.q)
theorem pkP_lt {c : Pc} {r : List Pc} {p q : Int} (h : c.p * q < p * c.q) : pkP (c :: r) p q = pkP r p q := by
  unfold pkP
  rw [List.find?_cons]
  simp only [decide_eq_true h, Bool.not_true]
theorem pkP_ge {c : Pc} {r : List Pc} {p q : Int} (h : ¬ c.p * q < p * c.q) : pkP (c :: r) p q = some c := by
  unfold pkP
  rw [List.find?_cons]
  simp only [decide_eq_false h, Bool.not_false]
theorem sbs_pk {n : Nat} {p q : Int} (hq : 0 < q) (hpq : p ≤ q) : ∀ (A B : List St4), Way n A → Way n B → ∃ c, pkP (sbs A B) p q = some c ∧ pk A p q = some c.a ∧ pk B p q = some c.b
  | [], _, w, _ => w.ne.elim
  | _ :: _, [], _, w => w.ne.elim
  | a :: A, b :: B, wa, wb => by
    rcases ends_cases wa.hd wb.hd with h | h | ⟨h, h1, h2⟩
    · rw [sbs_lt h]
      by_cases l : a.p * q < p * a.q
      · obtain ⟨t, A', rfl⟩ := wa.more hpq l
        rw [pkP_lt (c := ⟨a.p, a.q, a, b⟩) l, pk_cons_lt (s := a) l]
        exact sbs_pk hq hpq (t :: A') (b :: B) wa.tail wb
      · exact ⟨⟨a.p, a.q, a, b⟩, pkP_ge (c := ⟨a.p, a.q, a, b⟩) l, pk_cons_ge l, pk_cons_ge (nlt_trans wa.hd.q0 wb.hd.q0 hq h l)⟩
    · rw [sbs_eq h]
      by_cases l : b.p * q < p * b.q
      · have la : a.p * q < p * a.q := by rw [h.1, h.2]; exact l
        obtain ⟨t, A', rfl⟩ := wa.more hpq la
        obtain ⟨u, B', rfl⟩ := wb.more hpq l
        rw [pkP_lt (c := ⟨b.p, b.q, a, b⟩) l, pk_cons_lt (s := a) la, pk_cons_lt (s := b) l]
        exact sbs_pk hq hpq (t :: A') (u :: B') wa.tail wb.tail
      · have la : ¬ a.p * q < p * a.q := by rw [h.1, h.2]; exact l
        exact ⟨⟨b.p, b.q, a, b⟩, pkP_ge (c := ⟨b.p, b.q, a, b⟩) l, pk_cons_ge la, pk_cons_ge l⟩
    · rw [sbs_gt h1 h2]
      by_cases l : b.p * q < p * b.q
      · obtain ⟨u, B', rfl⟩ := wb.more hpq l
        rw [pkP_lt (c := ⟨b.p, b.q, a, b⟩) l, pk_cons_lt (s := b) l]
        exact sbs_pk hq hpq (a :: A) (u :: B') wa wb.tail
      · exact ⟨⟨b.p, b.q, a, b⟩, pkP_ge (c := ⟨b.p, b.q, a, b⟩) l, pk_cons_ge (nlt_trans wb.hd.q0 wa.hd.q0 hq h l), pk_cons_ge l⟩
termination_by A B => A.length + B.length
/-! ### the pieces as a way -/
def AdjP (c d : Pc) : Prop := c.p * d.q < d.p * c.q ∧ (d.a.m - c.a.m) * c.p + (d.a.h - c.a.h) * c.q = 0 ∧ (d.b.m - c.b.m) * c.p + (d.b.h - c.b.h) * c.q = 0
def ChP : List Pc → Prop
  | [] => True
  | [_] => True
  | c :: d :: r => AdjP c d ∧ ChP (d :: r)
theorem ChP.cons {c : Pc} {r : List Pc} (h : ChP r) (k : ∀ d r', r = d :: r' → AdjP c d) : ChP (c :: r) := by
  cases r with
  | nil => trivial
  | cons d r' => exact ⟨k d r' rfl, h⟩
structure PcOk (n : Nat) (c : Pc) : Prop where
  a : OkB n c.a
  b : OkB n c.b
  e : 0 < c.p ∧ c.p ≤ c.q ∧ Lo.gc c.p c.q = 1 ∧ c.q.natAbs < 2 ^ n
/-- the first piece -/
theorem sbs_head {n : Nat} {a b : St4} {A B : List St4} (ha : OkB n a) (hb : OkB n b) : ∃ c r, sbs (a :: A) (b :: B) = c :: r ∧ c.a = a ∧ c.b = b ∧ ((c.p = a.p ∧ c.q = a.q) ∨ (c.p = b.p ∧ c.q = b.q)) := by
  rcases ends_cases ha hb with h | h | ⟨h, h1, h2⟩
  · exact ⟨_, _, sbs_lt h, rfl, rfl, .inl ⟨rfl, rfl⟩⟩
  · exact ⟨_, _, sbs_eq h, rfl, rfl, .inr ⟨rfl, rfl⟩⟩
  · exact ⟨_, _, sbs_gt h1 h2, rfl, rfl, .inr ⟨rfl, rfl⟩⟩
theorem self0 (s : St4) (p q : Int) : (s.m - s.m) * p + (s.h - s.h) * q = 0 := by
  rw [Int.sub_self, Int.sub_self, Int.zero_mul, Int.zero_mul]; rfl
theorem Way.only {n : Nat} {s : St4} {r : List St4} (w : Way n (s :: r)) (e : s.p = s.q) : r = [] := by
  cases r with
  | nil => rfl
  | cons t r' =>
    exfalso
    have h := w.ch.1.1
    have o := w.tail.hd
    have q0 := w.hd.q0
    rw [e] at h
    have h2 : s.q * t.q < s.q * t.p := by rw [Int.mul_comm s.q t.p]; exact h
    have := Int.lt_of_mul_lt_mul_left h2 (by omega)
    have := o.2.1
    omega
theorem sbs_way {n : Nat} : ∀ (A B : List St4), Way n A → Way n B → (∀ c ∈ sbs A B, PcOk n c) ∧ ChP (sbs A B) ∧ ∃ c, (sbs A B).getLast? = some c ∧ c.p = 1 ∧ c.q = 1
  | [], _, w, _ => w.ne.elim
  | _ :: _, [], _, w => w.ne.elim
  | a :: A, b :: B, wa, wb => by
    have oa := wa.hd
    have ob := wb.hd
    have okA : ∀ {p q : Int}, p = a.p → q = a.q → PcOk n ⟨p, q, a, b⟩ := fun e1 e2 => by subst e1 e2; exact ⟨oa, ob, oa.1, oa.2.1, oa.2.2.1, oa.2.2.2.1⟩
    have okB : ∀ {p q : Int}, p = b.p → q = b.q → PcOk n ⟨p, q, a, b⟩ := fun e1 e2 => by subst e1 e2; exact ⟨oa, ob, ob.1, ob.2.1, ob.2.2.1, ob.2.2.2.1⟩
    have lastc : ∀ {c : Pc} {r : List Pc}, (∃ d, r.getLast? = some d ∧ d.p = 1 ∧ d.q = 1) → ∃ d, (c :: r).getLast? = some d ∧ d.p = 1 ∧ d.q = 1 := fun {c r} ⟨d, h1, h2⟩ => by
      cases r with
      | nil => cases h1
      | cons x r' => exact ⟨d, by rw [List.getLast?_cons_cons]; exact h1, h2⟩
    have allc : ∀ {c : Pc} {r : List Pc}, PcOk n c → (∀ d ∈ r, PcOk n d) → ∀ d ∈ c :: r, PcOk n d := fun h1 h2 d hd => by
      rcases List.mem_cons.mp hd with e | e
      · rw [e]; exact h1
      · exact h2 d e
    rcases ends_cases oa ob with h | h | ⟨h, h1, h2⟩
    · obtain ⟨t, A', rfl⟩ := wa.more ob.2.1 h
      obtain ⟨i1, i2, i3⟩ := sbs_way (t :: A') (b :: B) wa.tail wb
      rw [sbs_lt h]
      refine ⟨allc (okA rfl rfl) i1, i2.cons fun d r' e => ?_, lastc i3⟩
      obtain ⟨c, r, e0, e1, e2, e3⟩ := sbs_head (A := A') (B := B) wa.tail.hd ob
      rw [e0] at e
      cases e
      refine ⟨?_, ?_, ?_⟩
      · show a.p * d.q < d.p * a.q
        rcases e3 with ⟨z1, z2⟩ | ⟨z1, z2⟩
        · rw [z1, z2]; exact wa.ch.1.1
        · rw [z1, z2]; exact h
      · show (d.a.m - a.m) * a.p + (d.a.h - a.h) * a.q = 0
        rw [e1]; exact wa.ch.1.2
      · show (d.b.m - b.m) * a.p + (d.b.h - b.h) * a.q = 0
        rw [e2]; exact self0 b _ _
    · rw [sbs_eq h]
      cases A with
      | nil =>
        obtain ⟨z1, z2⟩ := wa.one
        have eb : B = [] := wb.only (by rw [← h.1, ← h.2, z1, z2])
        subst eb
        rw [sbs_nil]
        exact ⟨allc (okB rfl rfl) (fun _ h => nomatch h), trivial, ⟨⟨b.p, b.q, a, b⟩, rfl, by show b.p = 1; rw [← h.1]; exact z1, by show b.q = 1; rw [← h.2]; exact z2⟩⟩
      | cons t A' =>
        have lb : b.p * t.q < t.p * b.q := by have := wa.ch.1.1; rw [h.1, h.2] at this; exact this
        obtain ⟨u, B', rfl⟩ := wb.more wa.tail.hd.2.1 lb
        obtain ⟨i1, i2, i3⟩ := sbs_way (t :: A') (u :: B') wa.tail wb.tail
        refine ⟨allc (okB rfl rfl) i1, i2.cons fun d r' e => ?_, lastc i3⟩
        obtain ⟨c, r, e0, e1, e2, e3⟩ := sbs_head (A := A') (B := B') wa.tail.hd wb.tail.hd
        rw [e0] at e
        cases e
        refine ⟨?_, ?_, ?_⟩
        · show b.p * d.q < d.p * b.q
          rcases e3 with ⟨z1, z2⟩ | ⟨z1, z2⟩
          · rw [z1, z2]; exact lb
          · rw [z1, z2]; exact wb.ch.1.1
        · show (d.a.m - a.m) * b.p + (d.a.h - a.h) * b.q = 0
          rw [e1, ← h.1, ← h.2]; exact wa.ch.1.2
        · show (d.b.m - b.m) * b.p + (d.b.h - b.h) * b.q = 0
          rw [e2]; exact wb.ch.1.2
    · obtain ⟨u, B', rfl⟩ := wb.more oa.2.1 h
      obtain ⟨i1, i2, i3⟩ := sbs_way (a :: A) (u :: B') wa wb.tail
      rw [sbs_gt h1 h2]
      refine ⟨allc (okB rfl rfl) i1, i2.cons fun d r' e => ?_, lastc i3⟩
      obtain ⟨c, r, e0, e1, e2, e3⟩ := sbs_head (A := A) (B := B') oa wb.tail.hd
      rw [e0] at e
      cases e
      refine ⟨?_, ?_, ?_⟩
      · show b.p * d.q < d.p * b.q
        rcases e3 with ⟨z1, z2⟩ | ⟨z1, z2⟩
        · rw [z1, z2]; exact h
        · rw [z1, z2]; exact wb.ch.1.1
      · show (d.a.m - a.m) * b.p + (d.a.h - a.h) * b.q = 0
        rw [e1]; exact self0 a _ _
      · show (d.b.m - b.m) * b.p + (d.b.h - b.h) * b.q = 0
        rw [e2]; exact wb.ch.1.2
termination_by A B => A.length + B.length
end Ln
end Mine


set_option Elab.async false
set_option linter.all false
namespace Mine
/-- what u's rule tells of a place, taken with the bottom -/
def St4.at (u : St4) (p q : Int) : Int := u.m * p + u.h * q
namespace Ln
/-! ### added -/
def ad (P : List Pc) : List St4 := P.map fun c => ⟨c.p, c.q, c.a.m + c.b.m, c.a.h + c.b.h⟩
theorem ad_ch : ∀ {P : List Pc}, ChP P → ChW (ad P)
  | [], _ => trivial
  | [_], _ => trivial
  | c :: d :: r, h => by
    refine ⟨⟨h.1.1, ?_⟩, ad_ch (P := d :: r) h.2⟩
    have h1 := h.1.2.1
    have h2 := h.1.2.2
    show (d.a.m + d.b.m - (c.a.m + c.b.m)) * c.p + (d.a.h + d.b.h - (c.a.h + c.b.h)) * c.q = 0
    grind
theorem ad_pk {p q : Int} : ∀ {P : List Pc} {c : Pc}, pkP P p q = some c → pk (ad P) p q = some ⟨c.p, c.q, c.a.m + c.b.m, c.a.h + c.b.h⟩
  | [], _, h => by cases h
  | d :: r, c, h => by
    by_cases l : d.p * q < p * d.q
    · rw [pkP_lt l] at h
      show pk (⟨d.p, d.q, d.a.m + d.b.m, d.a.h + d.b.h⟩ :: ad r) p q = _
      rw [pk_cons_lt (s := ⟨d.p, d.q, d.a.m + d.b.m, d.a.h + d.b.h⟩) l]
      exact ad_pk h
    · rw [pkP_ge l] at h
      cases h
      exact pk_cons_ge (s := ⟨d.p, d.q, d.a.m + d.b.m, d.a.h + d.b.h⟩) l
theorem ad_way {n : Nat} {A B : List St4} (wa : Way n A) (wb : Way n B) : Way (n + 1) (ad (sbs A B)) := by
  obtain ⟨h1, h2, c, h3, h4⟩ := sbs_way A B wa wb
  refine ⟨fun s hs => ?_, ad_ch h2, ⟨_, by unfold ad; rw [List.getLast?_map, h3]; rfl, h4⟩⟩
  obtain ⟨c, hc, rfl⟩ := List.mem_map.mp hs
  obtain ⟨⟨_, _, _, _, a5, a6⟩, ⟨_, _, _, _, b5, b6⟩, e1, e2, e3, e4⟩ := h1 c hc
  have : 2 ^ (n + 1) = 2 ^ n + 2 ^ n := by rw [Nat.pow_succ]; omega
  exact ⟨e1, e2, e3, by show c.q.natAbs < 2 ^ (n + 1); omega, by show (c.a.m + c.b.m).natAbs < 2 ^ (n + 1); omega, by show (c.a.h + c.b.h).natAbs < 2 ^ (n + 1); omega⟩
theorem added_line {n : Nat} {A B : List St4} (wa : Way n A) (wb : Way n B) : LineB (n + 1) (jn (ad (sbs A B))) := by rw [jn_eq]; exact jnR_line (ad_way wa wb)
theorem added_at {n : Nat} {A B : List St4} (wa : Way n A) (wb : Way n B) {p q : Int} (hq : 0 < q) (hpq : p ≤ q) :
    ∃ s t u, pk A p q = some s ∧ pk B p q = some t ∧ pk (jn (ad (sbs A B))) p q = some u ∧ u.at p q = s.at p q + t.at p q := by
  obtain ⟨c, h1, h2, h3⟩ := sbs_pk hq hpq A B wa wb
  obtain ⟨v, u, h4, h5, h6, h7⟩ := jnR_pk hq hpq (ad_way wa wb)
  rw [ad_pk h1] at h4
  cases h4
  refine ⟨c.a, c.b, u, h2, h3, by rw [jn_eq]; exact h5, ?_⟩
  unfold St4.at
  rw [h6, h7]
  show (c.a.m + c.b.m) * p + (c.a.h + c.b.h) * q = _
  rw [Int.add_mul, Int.add_mul]
  omega
/-! ### turned, raised: the rule of each stretch by a map that keeps ends -/
theorem map_pk {f : St4 → St4} (h : ∀ s, (f s).p = s.p ∧ (f s).q = s.q) {p q : Int} : ∀ (L : List St4), pk (L.map f) p q = (pk L p q).map f
  | [] => rfl
  | s :: r => by
    rw [List.map_cons]
    by_cases l : s.p * q < p * s.q
    · rw [pk_cons_lt l, pk_cons_lt (by rw [(h s).1, (h s).2]; exact l)]
      exact map_pk h r
    · rw [pk_cons_ge l, pk_cons_ge (by rw [(h s).1, (h s).2]; exact l)]
      rfl
theorem map_ch {f : St4 → St4} (h : ∀ s t, Adj s t → Adj (f s) (f t)) : ∀ {L : List St4}, Ch L → Ch (L.map f)
  | [], _ => trivial
  | [_], _ => trivial
  | _ :: b :: r, c => ⟨h _ _ c.1, map_ch h (L := b :: r) c.2⟩
theorem map_line {f : St4 → St4} {n k : Nat} {L : List St4} (h : ∀ s, (f s).p = s.p ∧ (f s).q = s.q) (ha : ∀ s t, Adj s t → Adj (f s) (f t)) (hb : ∀ s, OkB n s → OkB k (f s)) (l : LineB n L) : LineB k (L.map f) := by
  refine ⟨fun s hs => ?_, map_ch ha l.ch, ?_⟩
  · obtain ⟨t, ht, rfl⟩ := List.mem_map.mp hs
    exact hb t (l.ok t ht)
  · obtain ⟨s, h1, h2, h3⟩ := l.last
    exact ⟨f s, by rw [List.getLast?_map, h1]; rfl, by rw [(h s).1]; exact h2, by rw [(h s).2]; exact h3⟩
def tnS (s : St4) : St4 := ⟨s.p, s.q, -s.m, -s.h⟩
def rsS (k : Int) (s : St4) : St4 := ⟨s.p, s.q, s.m, s.h + k⟩
theorem turned_line {n : Nat} {L : List St4} (l : LineB n L) : LineB n (L.map tnS) := by
  refine map_line (fun s => ⟨rfl, rfl⟩) (fun s t a => ⟨a.1, ?_, ?_⟩) (fun s o => ⟨o.1, o.2.1, o.2.2.1, o.2.2.2.1, ?_, ?_⟩) l
  · have := a.2.1
    show (-t.m - -s.m) * s.p + (-t.h - -s.h) * s.q = 0
    grind
  · have := a.2.2
    show -t.m ≠ -s.m
    omega
  · have := o.2.2.2.2.1
    show (-s.m).natAbs < _
    omega
  · have := o.2.2.2.2.2
    show (-s.h).natAbs < _
    omega
theorem raised_line {n : Nat} {k : Int} {L : List St4} (hk : k.natAbs < 2 ^ n) (l : LineB n L) : LineB (n + 1) (L.map (rsS k)) := by
  have e : 2 ^ (n + 1) = 2 ^ n + 2 ^ n := by rw [Nat.pow_succ]; omega
  refine map_line (fun s => ⟨rfl, rfl⟩) (fun s t a => ⟨a.1, ?_, a.2.2⟩) (fun s o => ⟨o.1, o.2.1, o.2.2.1, ?_, ?_, ?_⟩) l
  · have := a.2.1
    show (t.m - s.m) * s.p + (t.h + k - (s.h + k)) * s.q = 0
    rw [show t.h + k - (s.h + k) = t.h - s.h by omega]
    exact this
  · have := o.2.2.2.1
    show s.q.natAbs < _
    omega
  · have := o.2.2.2.2.1
    show s.m.natAbs < _
    omega
  · have := o.2.2.2.2.2
    show (s.h + k).natAbs < _
    omega
theorem turned_at {L : List St4} {p q : Int} {s : St4} (h : pk L p q = some s) : pk (L.map tnS) p q = some (tnS s) ∧ (tnS s).at p q = -(s.at p q) := by
  refine ⟨by rw [map_pk (f := tnS) (fun s => ⟨rfl, rfl⟩), h]; rfl, ?_⟩
  show -s.m * p + -s.h * q = -(s.m * p + s.h * q)
  rw [Int.neg_mul, Int.neg_mul]
  omega
theorem raised_at {L : List St4} {k p q : Int} {s : St4} (h : pk L p q = some s) : pk (L.map (rsS k)) p q = some (rsS k s) ∧ (rsS k s).at p q = s.at p q + k * q := by
  refine ⟨by rw [map_pk (f := rsS k) (fun s => ⟨rfl, rfl⟩), h]; rfl, ?_⟩
  show s.m * p + (s.h + k) * q = s.m * p + s.h * q + k * q
  rw [Int.add_mul]
  omega
theorem LineB.mono {n k : Nat} {L : List St4} (l : LineB n L) (e : n ≤ k) : LineB k L := ⟨fun s h => (l.ok s h).mono e, l.ch, l.last⟩
end Ln
end Mine


set_option Elab.async false
set_option linter.all false
namespace Mine
namespace Ln
/-! ### the greater one of two lines -/
theorem interp (p q p1 q1 p2 q2 s h : Int) : (p2 * q1 - p1 * q2) * (s * p + h * q) = (p2 * q - p * q2) * (s * p1 + h * q1) + (p * q1 - p1 * q) * (s * p2 + h * q2) := by grind
/-- what is not below nought at both sides is not so between -/
theorem between {p q p1 q1 p2 q2 s h : Int} (l : p1 * q2 < p2 * q1) (l1 : p1 * q ≤ p * q1) (l2 : p * q2 ≤ p2 * q) (d1 : 0 ≤ s * p1 + h * q1) (d2 : 0 ≤ s * p2 + h * q2) : 0 ≤ s * p + h * q := by
  have e := interp p q p1 q1 p2 q2 s h
  have z1 : 0 ≤ (p2 * q - p * q2) * (s * p1 + h * q1) := Int.mul_nonneg (by omega) d1
  have z2 : 0 ≤ (p * q1 - p1 * q) * (s * p2 + h * q2) := Int.mul_nonneg (by omega) d2
  rcases int_or (s * p + h * q) 0 with z | z
  · exfalso
    have := Int.mul_neg_of_pos_of_neg (show 0 < p2 * q1 - p1 * q2 by omega) z
    omega
  · exact z
theorem between' {p q p1 q1 p2 q2 s h : Int} (l : p1 * q2 < p2 * q1) (l1 : p1 * q ≤ p * q1) (l2 : p * q2 ≤ p2 * q) (d1 : s * p1 + h * q1 ≤ 0) (d2 : s * p2 + h * q2 ≤ 0) : s * p + h * q ≤ 0 := by
  have n : ∀ x y : Int, -s * x + -h * y = -(s * x + h * y) := fun x y => by rw [Int.neg_mul, Int.neg_mul]; omega
  have := between (s := -s) (h := -h) l l1 l2 (by rw [n]; omega) (by rw [n]; omega)
  rw [n] at this
  omega
/-- where a rule changes its sign -/
theorem meet_in {p1 q1 p2 q2 x y s h : Int} (hq1 : 0 < q1) (hq2 : 0 < q2) (hy : 0 < y) (l : p1 * q2 < p2 * q1) (e : s * x + h * y = 0) (d1 : 0 < s * p1 + h * q1) (d2 : s * p2 + h * q2 < 0) : p1 * y < x * q1 ∧ x * q2 < p2 * y := by
  refine ⟨?_, ?_⟩
  · rcases int_or (p1 * y) (x * q1) with z | z
    · exact z
    · exfalso
      have l3 : x * q2 < p2 * y := by
        rcases int_or (x * q1) (p1 * y) with z' | z'
        · exact lt_trans' hy hq1 hq2 z' l
        · have e1 : x * q1 = p1 * y := by omega
          have z1 : y * (p1 * q2) < y * (p2 * q1) := Int.mul_lt_mul_of_pos_left l hy
          have z2 : y * (p1 * q2) = q1 * (x * q2) := by
            rw [← Int.mul_assoc, Int.mul_comm y p1, ← e1, Int.mul_comm x q1, Int.mul_assoc]
          have z3 : y * (p2 * q1) = q1 * (p2 * y) := by rw [Int.mul_comm y, Int.mul_comm p2 q1, Int.mul_assoc]
          rw [z2, z3] at z1
          exact Int.lt_of_mul_lt_mul_left z1 (by omega)
      have := between' (p := p1) (q := q1) (p1 := x) (q1 := y) (p2 := p2) (q2 := q2) (s := s) (h := h) l3 z (by omega) (by omega) (by omega)
      omega
  · rcases int_or (x * q2) (p2 * y) with z | z
    · exact z
    · exfalso
      have l3 : p1 * y < x * q1 := by
        rcases int_or (p2 * y) (x * q2) with z' | z'
        · exact lt_trans' hq1 hq2 hy l z'
        · have e1 : x * q2 = p2 * y := by omega
          have z1 : y * (p1 * q2) < y * (p2 * q1) := Int.mul_lt_mul_of_pos_left l hy
          have z2 : y * (p1 * q2) = q2 * (p1 * y) := by rw [Int.mul_comm y, Int.mul_comm p1 q2, Int.mul_assoc]
          have z3 : y * (p2 * q1) = q2 * (x * q1) := by
            rw [← Int.mul_assoc, Int.mul_comm y p2, ← e1, Int.mul_comm x q2, Int.mul_assoc]
          rw [z2, z3] at z1
          exact Int.lt_of_mul_lt_mul_left z1 (by omega)
      have := between (p := p2) (q := q2) (p1 := p1) (q1 := q1) (p2 := x) (q2 := y) (s := s) (h := h) l3 (by omega) z (by omega) (by omega)
      omega
theorem meet_in' {p1 q1 p2 q2 x y s h : Int} (hq1 : 0 < q1) (hq2 : 0 < q2) (hy : 0 < y) (l : p1 * q2 < p2 * q1) (e : s * x + h * y = 0) (d : (s * p1 + h * q1) * (s * p2 + h * q2) < 0) : p1 * y < x * q1 ∧ x * q2 < p2 * y := by
  have n : ∀ x y : Int, -s * x + -h * y = -(s * x + h * y) := fun x y => by rw [Int.neg_mul, Int.neg_mul]; omega
  rcases Int.lt_trichotomy (s * p1 + h * q1) 0 with z | z | z
  · have z2 : 0 < s * p2 + h * q2 := by
      rcases int_or 0 (s * p2 + h * q2) with w | w
      · exact w
      · have := Int.mul_nonneg_of_nonpos_of_nonpos (a := s * p1 + h * q1) (b := s * p2 + h * q2) (by omega) w
        omega
    exact meet_in (s := -s) (h := -h) hq1 hq2 hy l (by rw [n]; omega) (by rw [n]; omega) (by rw [n]; omega)
  · rw [z, Int.zero_mul] at d
    omega
  · have z2 : s * p2 + h * q2 < 0 := by
      rcases int_or (s * p2 + h * q2) 0 with w | w
      · exact w
      · have := Int.mul_nonneg (a := s * p1 + h * q1) (b := s * p2 + h * q2) (by omega) w
        omega
    exact meet_in hq1 hq2 hy l e z z2
/-- a piece's stretches -/
def gs (sp sq : Int) (c : Pc) : List St4 :=
  if ((c.a.m - c.b.m) * sp + (c.a.h - c.b.h) * sq) * ((c.a.m - c.b.m) * c.p + (c.a.h - c.b.h) * c.q) < 0 then
    [⟨Lo.lowT (-(c.a.h - c.b.h)) (c.a.m - c.b.m), Lo.lowB (-(c.a.h - c.b.h)) (c.a.m - c.b.m), (if 0 < (c.a.m - c.b.m) * sp + (c.a.h - c.b.h) * sq then c.a else c.b).m, (if 0 < (c.a.m - c.b.m) * sp + (c.a.h - c.b.h) * sq then c.a else c.b).h⟩,
     ⟨c.p, c.q, (if 0 < (c.a.m - c.b.m) * c.p + (c.a.h - c.b.h) * c.q then c.a else c.b).m, (if 0 < (c.a.m - c.b.m) * c.p + (c.a.h - c.b.h) * c.q then c.a else c.b).h⟩]
  else if (c.a.m - c.b.m) * sp + (c.a.h - c.b.h) * sq = 0 then
    [⟨c.p, c.q, (if 0 < (c.a.m - c.b.m) * c.p + (c.a.h - c.b.h) * c.q then c.a else c.b).m, (if 0 < (c.a.m - c.b.m) * c.p + (c.a.h - c.b.h) * c.q then c.a else c.b).h⟩]
  else [⟨c.p, c.q, (if 0 < (c.a.m - c.b.m) * sp + (c.a.h - c.b.h) * sq then c.a else c.b).m, (if 0 < (c.a.m - c.b.m) * sp + (c.a.h - c.b.h) * sq then c.a else c.b).h⟩]
def mx (c : Pc) (p q : Int) : Int := max (c.a.at p q) (c.b.at p q)
theorem dif_at (c : Pc) (p q : Int) : (c.a.m - c.b.m) * p + (c.a.h - c.b.h) * q = c.a.at p q - c.b.at p q := by
  unfold St4.at
  rw [Int.sub_mul, Int.sub_mul]
  omega
theorem at_mk (p' q' : Int) (u : St4) (p q : Int) : (St4.mk p' q' u.m u.h).at p q = u.at p q := rfl
/-- of one piece: one stretch, or two that meet between -/
theorem gs_spec {n : Nat} {sp sq : Int} {c : Pc} (hc : PcOk n c) (h0 : 0 ≤ sp) (hs : 0 < sq) (l : sp * c.q < c.p * sq) :
    (∃ u, gs sp sq c = [u] ∧ OkB (n + 1) u ∧ u.p = c.p ∧ u.q = c.q ∧ ∀ p q, sp * q ≤ p * sq → p * c.q ≤ c.p * q → u.at p q = mx c p q) ∨
    (∃ v u, gs sp sq c = [v, u] ∧ OkB (n + 1) v ∧ OkB (n + 1) u ∧ u.p = c.p ∧ u.q = c.q ∧ sp * v.q < v.p * sq ∧ AdjW v u ∧ (∀ p q, sp * q ≤ p * sq → p * v.q ≤ v.p * q → v.at p q = mx c p q) ∧ ∀ p q, v.p * q ≤ p * v.q → p * c.q ≤ c.p * q → u.at p q = mx c p q) := by
  obtain ⟨⟨_, _, _, _, a5, a6⟩, ⟨_, _, _, _, b5, b6⟩, e1, e2, e3, e4⟩ := hc
  have cq : 0 < c.q := by omega
  have pw : 2 ^ (n + 1) = 2 ^ n + 2 ^ n := by rw [Nat.pow_succ]; omega
  have okE : ∀ g : St4, g = c.a ∨ g = c.b → OkB (n + 1) ⟨c.p, c.q, g.m, g.h⟩ := fun g hg => by
    refine ⟨e1, e2, e3, by show c.q.natAbs < _; omega, ?_, ?_⟩
    · show g.m.natAbs < _
      rcases hg with rfl | rfl <;> omega
    · show g.h.natAbs < _
      rcases hg with rfl | rfl <;> omega
  have pick : ∀ (b : Prop) [Decidable b], (if b then c.a else c.b) = c.a ∨ (if b then c.a else c.b) = c.b := fun b _ => by split; exact .inl rfl; exact .inr rfl
  unfold gs
  generalize hd1 : (c.a.m - c.b.m) * sp + (c.a.h - c.b.h) * sq = d1
  generalize hd2 : (c.a.m - c.b.m) * c.p + (c.a.h - c.b.h) * c.q = d2
  by_cases k : d1 * d2 < 0
  · rw [if_pos k]
    right
    have sl : c.a.m - c.b.m ≠ 0 := by
      intro z
      rw [z, Int.zero_mul, Int.zero_add] at hd1 hd2
      subst hd1 hd2
      have : 0 ≤ ((c.a.h - c.b.h) * (c.a.h - c.b.h)) * (sq * c.q) := Int.mul_nonneg (by
        rcases int_or (c.a.h - c.b.h) 0 with w | w
        · exact Int.mul_nonneg_of_nonpos_of_nonpos (by omega) (by omega)
        · exact Int.mul_nonneg w w) (Int.mul_nonneg (by omega) (by omega))
      have e : (c.a.h - c.b.h) * sq * ((c.a.h - c.b.h) * c.q) = ((c.a.h - c.b.h) * (c.a.h - c.b.h)) * (sq * c.q) := by
        generalize c.a.h - c.b.h = z
        grind
      omega
    have mq := Lo.lowB_pos (t := -(c.a.h - c.b.h)) sl
    have ml := Lo.lowB_le (t := -(c.a.h - c.b.h)) sl
    have mg := Lo.low_gc (t := -(c.a.h - c.b.h)) sl
    have mr := rule_at (m := -(c.a.h - c.b.h)) sl
    generalize Lo.lowT (-(c.a.h - c.b.h)) (c.a.m - c.b.m) = x at *
    generalize Lo.lowB (-(c.a.h - c.b.h)) (c.a.m - c.b.m) = y at *
    have me : (c.a.m - c.b.m) * x + (c.a.h - c.b.h) * y = 0 := by rw [mr, Int.neg_mul]; omega
    obtain ⟨m1, m2⟩ := meet_in' hs cq mq l me (by rw [hd1, hd2]; exact k)
    have xp : 0 < x := by
      rcases int_or 0 x with z | z
      · exact z
      · exfalso
        have z1 : 0 ≤ sp * y := Int.mul_nonneg h0 (by omega)
        have z2 : x * sq ≤ 0 := Int.mul_nonpos_of_nonpos_of_nonneg z (by omega)
        omega
    have xy : x < y := by
      have z1 : c.p * y ≤ c.q * y := Int.mul_le_mul_of_nonneg_right e2 (by omega)
      have z2 : c.q * x < c.q * y := by rw [Int.mul_comm c.q x]; omega
      exact Int.lt_of_mul_lt_mul_left z2 (by omega)
    have sg1 : (0 < d1 ∧ d2 < 0) ∨ (d1 < 0 ∧ 0 < d2) := by
      rcases Int.lt_trichotomy d1 0 with z | z | z
      · right
        refine ⟨z, ?_⟩
        rcases int_or 0 d2 with w | w
        · exact w
        · have := Int.mul_nonneg_of_nonpos_of_nonpos (a := d1) (b := d2) (by omega) w
          omega
      · rw [z, Int.zero_mul] at k; omega
      · left
        refine ⟨z, ?_⟩
        rcases int_or d2 0 with w | w
        · exact w
        · have := Int.mul_nonneg (a := d1) (b := d2) (by omega) w
          omega
    refine ⟨_, _, rfl, ⟨xp, by show x ≤ y; omega, mg, by show y.natAbs < _; omega, ?_, ?_⟩, okE _ (pick _), rfl, rfl, m1, ⟨m2, ?_⟩, ?_, ?_⟩
    · show (if 0 < d1 then c.a else c.b).m.natAbs < _
      rcases pick (0 < d1) with e | e <;> rw [e] <;> omega
    · show (if 0 < d1 then c.a else c.b).h.natAbs < _
      rcases pick (0 < d1) with e | e <;> rw [e] <;> omega
    · show ((if 0 < d2 then c.a else c.b).m - (if 0 < d1 then c.a else c.b).m) * x + ((if 0 < d2 then c.a else c.b).h - (if 0 < d1 then c.a else c.b).h) * y = 0
      rcases sg1 with ⟨z1, z2⟩ | ⟨z1, z2⟩
      · rw [if_neg (by omega), if_pos z1]
        have : (c.b.m - c.a.m) * x + (c.b.h - c.a.h) * y = -((c.a.m - c.b.m) * x + (c.a.h - c.b.h) * y) := by
          rw [show c.b.m - c.a.m = -(c.a.m - c.b.m) by omega, show c.b.h - c.a.h = -(c.a.h - c.b.h) by omega, Int.neg_mul, Int.neg_mul]
          omega
        rw [this, me]; rfl
      · rw [if_pos z2, if_neg (by omega)]
        exact me
    · intro p q hp1 hp2
      rw [at_mk]
      unfold mx
      rcases sg1 with ⟨z1, z2⟩ | ⟨z1, z2⟩
      · rw [if_pos z1]
        have := between (p := p) (q := q) (s := c.a.m - c.b.m) (h := c.a.h - c.b.h) m1 hp1 hp2 (by omega) (by omega)
        rw [dif_at] at this
        omega
      · rw [if_neg (by omega)]
        have := between' (p := p) (q := q) (s := c.a.m - c.b.m) (h := c.a.h - c.b.h) m1 hp1 hp2 (by omega) (by omega)
        rw [dif_at] at this
        omega
    · intro p q hp1 hp2
      rw [at_mk]
      unfold mx
      rcases sg1 with ⟨z1, z2⟩ | ⟨z1, z2⟩
      · rw [if_neg (by omega)]
        have := between' (p := p) (q := q) (s := c.a.m - c.b.m) (h := c.a.h - c.b.h) m2 hp1 hp2 (by omega) (by omega)
        rw [dif_at] at this
        omega
      · rw [if_pos z2]
        have := between (p := p) (q := q) (s := c.a.m - c.b.m) (h := c.a.h - c.b.h) m2 hp1 hp2 (by omega) (by omega)
        rw [dif_at] at this
        omega
  · rw [if_neg k]
    left
    by_cases z0 : d1 = 0
    · rw [if_pos z0]
      refine ⟨_, rfl, okE _ (pick _), rfl, rfl, fun p q hp1 hp2 => ?_⟩
      rw [at_mk]
      unfold mx
      by_cases z : 0 < d2
      · rw [if_pos z]
        have := between (p := p) (q := q) (s := c.a.m - c.b.m) (h := c.a.h - c.b.h) l hp1 hp2 (by omega) (by omega)
        rw [dif_at] at this
        omega
      · rw [if_neg z]
        have := between' (p := p) (q := q) (s := c.a.m - c.b.m) (h := c.a.h - c.b.h) l hp1 hp2 (by omega) (by omega)
        rw [dif_at] at this
        omega
    · rw [if_neg z0]
      refine ⟨_, rfl, okE _ (pick _), rfl, rfl, fun p q hp1 hp2 => ?_⟩
      rw [at_mk]
      unfold mx
      by_cases z : 0 < d1
      · rw [if_pos z]
        have w : 0 ≤ d2 := by
          rcases int_or d2 0 with w | w
          · have := Int.mul_neg_of_pos_of_neg z w
            omega
          · exact w
        have := between (p := p) (q := q) (s := c.a.m - c.b.m) (h := c.a.h - c.b.h) l hp1 hp2 (by omega) (by omega)
        rw [dif_at] at this
        omega
      · rw [if_neg z]
        have w : d2 ≤ 0 := by
          rcases int_or 0 d2 with w | w
          · have := Int.mul_neg_of_neg_of_pos (show d1 < 0 by omega) w
            omega
          · exact w
        have := between' (p := p) (q := q) (s := c.a.m - c.b.m) (h := c.a.h - c.b.h) l hp1 hp2 (by omega) (by omega)
        rw [dif_at] at this
        omega
end Ln
end Mine


set_option Elab.async false
set_option linter.all false
namespace Mine
namespace Ln
def gr : Int → Int → List Pc → List St4
  | _, _, [] => []
  | sp, sq, c :: r => gs sp sq c ++ gr c.p c.q r
theorem adj_at {s t : St4} : (t.m - s.m) * s.p + (t.h - s.h) * s.q = t.at s.p s.q - s.at s.p s.q := by
  unfold St4.at
  rw [Int.sub_mul, Int.sub_mul]
  omega
theorem AdjP.mx {c d : Pc} (h : AdjP c d) : mx d c.p c.q = mx c c.p c.q := by
  have h1 := h.2.1
  have h2 := h.2.2
  have z1 : d.a.at c.p c.q = c.a.at c.p c.q := by
    have : (d.a.m - c.a.m) * c.p + (d.a.h - c.a.h) * c.q = d.a.at c.p c.q - c.a.at c.p c.q := by
      unfold St4.at
      rw [Int.sub_mul, Int.sub_mul]
      omega
    omega
  have z2 : d.b.at c.p c.q = c.b.at c.p c.q := by
    have : (d.b.m - c.b.m) * c.p + (d.b.h - c.b.h) * c.q = d.b.at c.p c.q - c.b.at c.p c.q := by
      unfold St4.at
      rw [Int.sub_mul, Int.sub_mul]
      omega
    omega
  unfold Ln.mx
  rw [z1, z2]
/-- all that is told of the pieces from some start on -/
theorem gr_spec {n : Nat} : ∀ (P : List Pc) (c : Pc) (sp sq : Int), 0 ≤ sp → 0 < sq → sp * c.q < c.p * sq → (∀ d ∈ c :: P, PcOk n d) → ChP (c :: P) → (∃ d, (c :: P).getLast? = some d ∧ d.p = 1 ∧ d.q = 1) →
    (∀ s ∈ gr sp sq (c :: P), OkB (n + 1) s) ∧ ChW (gr sp sq (c :: P)) ∧ End1 (gr sp sq (c :: P)) ∧
    (∃ u r, gr sp sq (c :: P) = u :: r ∧ sp * u.q < u.p * sq ∧ u.at sp sq = mx c sp sq) ∧
    ∀ p q, 0 < q → p ≤ q → sp * q ≤ p * sq → ∃ d u, pkP (c :: P) p q = some d ∧ pk (gr sp sq (c :: P)) p q = some u ∧ u.at p q = mx d p q
  | P, c, sp, sq, h0, hs, l, ok, ch, last => by
    have oc := ok c List.mem_cons_self
    have cq : 0 < c.q := by have := oc.e.1; have := oc.e.2.1; omega
    -- what stands behind this piece
    have rest : (P = [] ∧ c.p = 1 ∧ c.q = 1) ∨ ∃ d r, P = d :: r ∧ AdjP c d ∧
        (∀ s ∈ gr c.p c.q P, OkB (n + 1) s) ∧ ChW (gr c.p c.q P) ∧ End1 (gr c.p c.q P) ∧
        (∃ u r, gr c.p c.q P = u :: r ∧ c.p * u.q < u.p * c.q ∧ u.at c.p c.q = mx c c.p c.q) ∧
        ∀ p q, 0 < q → p ≤ q → c.p * q ≤ p * c.q → ∃ d u, pkP P p q = some d ∧ pk (gr c.p c.q P) p q = some u ∧ u.at p q = mx d p q := by
      cases P with
      | nil =>
        obtain ⟨d, h1, h2⟩ := last
        cases h1
        exact .inl ⟨rfl, h2⟩
      | cons d r =>
        right
        have i := gr_spec r d c.p c.q (by have := oc.e.1; omega) cq ch.1.1 (fun x hx => ok x (List.mem_cons_of_mem _ hx)) ch.2 (by
          obtain ⟨x, h1, h2⟩ := last
          rw [List.getLast?_cons_cons] at h1
          exact ⟨x, h1, h2⟩)
        obtain ⟨i1, i2, i3, ⟨u, r', i4, i5, i6⟩, i7⟩ := i
        exact ⟨d, r, rfl, ch.1, i1, i2, i3, ⟨u, r', i4, i5, by rw [i6]; exact ch.1.mx⟩, i7⟩
    -- the last stretch of this piece, u, and what follows
    have joinE : ∀ u : St4, OkB (n + 1) u → u.p = c.p → u.q = c.q → u.at c.p c.q = mx c c.p c.q →
        (∀ s ∈ u :: gr c.p c.q P, OkB (n + 1) s) ∧ ChW (u :: gr c.p c.q P) ∧ End1 (u :: gr c.p c.q P) := fun u ou e1 e2 e3 => by
      rcases rest with ⟨rfl, z1, z2⟩ | ⟨d, r, _, _, i1, i2, i3, ⟨v, r', i4, i5, i6⟩, _⟩
      · refine ⟨fun s hs => ?_, trivial, ⟨u, rfl, e1.trans z1, e2.trans z2⟩⟩
        rw [List.mem_singleton.mp hs]
        exact ou
      · rw [i4] at i1 i2 i3 ⊢
        refine ⟨fun s hs => ?_, ⟨⟨by rw [e1, e2]; exact i5, ?_⟩, i2⟩, ?_⟩
        · rcases List.mem_cons.mp hs with z | z
          · rw [z]; exact ou
          · exact i1 s z
        · rw [adj_at, e1, e2, i6, e3]
          omega
        · obtain ⟨x, h1, h2⟩ := i3
          exact ⟨x, by rw [List.getLast?_cons_cons]; exact h1, h2⟩
    have nle : ∀ {a b : Int}, ¬ a < b → b ≤ a := fun h => by omega
    have pkR : ∀ (u : St4), u.p = c.p → u.q = c.q → ∀ p q, 0 < q → p ≤ q → (p * c.q ≤ c.p * q → u.at p q = mx c p q) →
        ∃ d w, pkP (c :: P) p q = some d ∧ pk (u :: gr c.p c.q P) p q = some w ∧ w.at p q = mx d p q := fun u e1 e2 p q hq hpq hm => by
      by_cases k : c.p * q < p * c.q
      · rcases rest with ⟨rfl, z1, z2⟩ | ⟨d, r, _, _, _, _, _, _, i7⟩
        · rw [z1, z2] at k
          omega
        · rw [pkP_lt k, pk_cons_lt (s := u) (by rw [e1, e2]; exact k)]
          exact i7 p q hq hpq (by omega)
      · exact ⟨c, u, pkP_ge k, pk_cons_ge (by rw [e1, e2]; exact k), hm (nle k)⟩
    rcases gs_spec oc h0 hs l with ⟨u, g, ou, e1, e2, hm⟩ | ⟨v, u, g, ov, ou, e1, e2, lv, av, hv, hm⟩
    · have e : gr sp sq (c :: P) = u :: gr c.p c.q P := by
        show gs sp sq c ++ gr c.p c.q P = _
        rw [g]; rfl
      rw [e]
      obtain ⟨j1, j2, j3⟩ := joinE u ou e1 e2 (hm _ _ (by omega) (by omega))
      exact ⟨j1, j2, j3, ⟨u, _, rfl, by rw [e1, e2]; exact l, hm _ _ (by omega) (by omega)⟩, fun p q hq hpq hsp => pkR u e1 e2 p q hq hpq fun z => hm p q hsp z⟩
    · have e : gr sp sq (c :: P) = v :: u :: gr c.p c.q P := by
        show gs sp sq c ++ gr c.p c.q P = _
        rw [g]; rfl
      rw [e]
      have vu : v.p * c.q < c.p * v.q := by have := av.1; rw [e1, e2] at this; exact this
      obtain ⟨j1, j2, j3⟩ := joinE u ou e1 e2 (hm _ _ (by omega) (by omega))
      refine ⟨fun s hs => ?_, ⟨av, j2⟩, ?_, ⟨v, _, rfl, lv, hv _ _ (by omega) (by omega)⟩, fun p q hq hpq hsp => ?_⟩
      · rcases List.mem_cons.mp hs with z | z
        · rw [z]; exact ov
        · exact j1 s z
      · obtain ⟨x, h1, h2⟩ := j3
        exact ⟨x, by rw [List.getLast?_cons_cons]; exact h1, h2⟩
      · by_cases k : v.p * q < p * v.q
        · rw [pk_cons_lt k]
          exact pkR u e1 e2 p q hq hpq fun z => hm p q (by omega) z
        · refine ⟨c, v, pkP_ge (nlt_trans ov.q0 cq hq vu k), pk_cons_ge k, hv p q hsp (nle k)⟩
/-- the greater line -/
theorem greater_way {n : Nat} {A B : List St4} (wa : Way n A) (wb : Way n B) : Way (n + 1) (gr 0 1 (sbs A B)) ∧ ∀ p q, 0 < q → 0 ≤ p → p ≤ q →
    ∃ s t u, pk A p q = some s ∧ pk B p q = some t ∧ pk (gr 0 1 (sbs A B)) p q = some u ∧ u.at p q = max (s.at p q) (t.at p q) := by
  obtain ⟨h1, h2, h3⟩ := sbs_way A B wa wb
  cases e : sbs A B with
  | nil =>
    rw [e] at h3
    obtain ⟨_, z, _⟩ := h3
    cases z
  | cons c P =>
    rw [e] at h1 h2 h3
    have oc := h1 c List.mem_cons_self
    obtain ⟨i1, i2, i3, _, i5⟩ := gr_spec P c 0 1 (by omega) (by omega) (by have := oc.e.1; omega) h1 h2 h3
    refine ⟨⟨i1, i2, i3⟩, fun p q hq h0 hpq => ?_⟩
    obtain ⟨d, u, k1, k2, k3⟩ := i5 p q hq hpq (by omega)
    obtain ⟨d', k4, k5, k6⟩ := sbs_pk hq hpq A B wa wb
    rw [e, k1] at k4
    cases k4
    exact ⟨d.a, d.b, u, k5, k6, k2, k3⟩
theorem greater_line {n : Nat} {A B : List St4} (wa : Way n A) (wb : Way n B) : LineB (n + 1) (jn (gr 0 1 (sbs A B))) := by rw [jn_eq]; exact jnR_line (greater_way wa wb).1
theorem greater_at {n : Nat} {A B : List St4} (wa : Way n A) (wb : Way n B) {p q : Int} (hq : 0 < q) (h0 : 0 ≤ p) (hpq : p ≤ q) :
    ∃ s t u, pk A p q = some s ∧ pk B p q = some t ∧ pk (jn (gr 0 1 (sbs A B))) p q = some u ∧ u.at p q = max (s.at p q) (t.at p q) := by
  obtain ⟨w, h⟩ := greater_way wa wb
  obtain ⟨s, t, v, h1, h2, h3, h4⟩ := h p q hq h0 hpq
  obtain ⟨v', u, h5, h6, h7, h8⟩ := jnR_pk hq hpq w
  rw [h3] at h5
  cases h5
  refine ⟨s, t, u, h1, h2, by rw [jn_eq]; exact h6, ?_⟩
  rw [← h4]
  unfold St4.at
  rw [h7, h8]
theorem gs_len (sp sq : Int) (c : Pc) : (gs sp sq c).length ≤ 2 := by
  unfold gs
  split
  · exact Nat.le_refl _
  · split <;> exact Nat.le_succ _
end Ln
end Mine


set_option Elab.async false
set_option linter.all false
namespace Mine
namespace Ln
/-- a line within wider bounds -/
structure LineK (L : List St4) : Prop where
  b : LineB 45 L
  few : L.length ≤ 1000
theorem LineK.ok {L : List St4} (l : LineK L) : ∀ s ∈ L, OkB 45 s := l.b.ok
theorem LineK.ch {L : List St4} (l : LineK L) : Ch L := l.b.ch
theorem LineK.last {L : List St4} (l : LineK L) : ∃ s, L.getLast? = some s ∧ s.p = 1 ∧ s.q = 1 := l.b.last
theorem LineK.way {L : List St4} (l : LineK L) : Way 45 L := l.b.way
theorem LineK.pos {L : List St4} (l : LineK L) : 0 < L.length := let ⟨_, h, _⟩ := l.last; (last_at h).1
theorem LineK.at {L : List St4} (l : LineK L) {i : Nat} {s : St4} (h : L[i]? = some s) : OkB 45 s := l.ok s (List.mem_of_getElem? h)
theorem LineK.next {L : List St4} (l : LineK L) {p q : Int} (hpq : p ≤ q) {k : Nat} {s : St4} (h : L[k]? = some s) (c : s.p * q < p * s.q) : k + 1 < L.length := by
  obtain ⟨t, ht, t1, t2⟩ := l.last
  obtain ⟨l0, l1⟩ := last_at ht
  have hk : k < L.length := (List.getElem?_eq_some_iff.mp h).1
  rcases Nat.lt_or_ge (k + 1) L.length with z | z
  · exact z
  · exfalso
    have : k = L.length - 1 := by omega
    rw [this, l1] at h
    cases h
    rw [t1, t2] at c
    omega
theorem LineK.bef_rise {L : List St4} (l : LineK L) {i : Nat} {s : St4} (h : L[i]? = some s) : (bef L i).1 * s.q < s.p * (bef L i).2 ∧ 0 < (bef L i).2 ∧ 0 ≤ (bef L i).1 ∧ (bef L i).2 < 2 ^ 45 ∧ (bef L i).1 ≤ (bef L i).2 := by
  cases i with
  | zero =>
    have := (l.at h).1
    exact ⟨by show 0 * s.q < s.p * 1; omega, (show (0 : Int) < 1 by decide), (show (0 : Int) ≤ 0 by decide), (show (1 : Int) < 2 ^ 45 by decide), (show (0 : Int) ≤ 1 by decide)⟩
  | succ k =>
    have hk : k < L.length := by have := (List.getElem?_eq_some_iff.mp h).1; omega
    have e : L[k]? = some L[k] := List.getElem?_eq_getElem hk
    rw [bef_succ e]
    have o := l.at e
    exact ⟨(l.ch.get e h).1, by have := o.1; have := o.2.1; show 0 < L[k].q; omega, by have := o.1; show 0 ≤ L[k].p; omega, by have := o.2.2.2.1; show L[k].q < 2 ^ 45; omega, o.2.1⟩
theorem sbs_step {A B : List St4} {i j : Nat} {a b : St4} (ha : A[i]? = some a) (hb : B[j]? = some b) :
    sbs (A.drop i) (B.drop j) = if a.p * b.q < b.p * a.q then ⟨a.p, a.q, a, b⟩ :: sbs (A.drop (i + 1)) (B.drop j) else if a.p = b.p ∧ a.q = b.q then ⟨b.p, b.q, a, b⟩ :: sbs (A.drop (i + 1)) (B.drop (j + 1)) else ⟨b.p, b.q, a, b⟩ :: sbs (A.drop i) (B.drop (j + 1)) := by
  obtain ⟨h1, e1⟩ := List.getElem?_eq_some_iff.mp ha
  obtain ⟨h2, e2⟩ := List.getElem?_eq_some_iff.mp hb
  have d1 : A.drop i = a :: A.drop (i + 1) := by rw [List.drop_eq_getElem_cons h1, e1]
  have d2 : B.drop j = b :: B.drop (j + 1) := by rw [List.drop_eq_getElem_cons h2, e2]
  by_cases c : a.p * b.q < b.p * a.q
  · rw [if_pos c, d1]
    rw [show sbs (a :: A.drop (i + 1)) (B.drop j) = sbs (a :: A.drop (i + 1)) (b :: B.drop (j + 1)) by rw [d2], sbs_lt c, d2]
  · rw [if_neg c]
    by_cases e : a.p = b.p ∧ a.q = b.q
    · rw [if_pos e, d1, d2, sbs_eq e]
    · rw [if_neg e, d2, d1, sbs_gt c e]
theorem sbs_stop {A B : List St4} {i j : Nat} (h : A.length ≤ i ∨ B.length ≤ j) : sbs (A.drop i) (B.drop j) = [] := by
  rcases h with h | h
  · rw [List.drop_eq_nil_of_le h, sbs_nil]
  · rw [List.drop_eq_nil_of_le h, sbs_nil']
end Ln
end Mine


set_option Elab.async false
set_option linter.all false
namespace Mine
namespace Ln
/-! ### two lines of one height everywhere are one -/
end Ln
end Mine


set_option Elab.async false
set_option linter.all false
namespace Mine
/-- the height of L at p / q, taken with the bottom -/
def hAt (L : List St4) (p q : Int) : Int := match Ln.pk L p q with
  | some s => s.at p q
  | none => 0
theorem hAt_of {L : List St4} {p q : Int} {s : St4} (h : Ln.pk L p q = some s) : hAt L p q = s.at p q := by unfold hAt; rw [h]
theorem hAt_some {n : Nat} {L : List St4} (w : Ln.Way n L) {p q : Int} (hq : 0 < q) (hpq : p ≤ q) : ∃ s, Ln.pk L p q = some s := by
  obtain ⟨s, u, h, _⟩ := Ln.jnR_pk hq hpq w
  exact ⟨s, h⟩
def up (A B : List St4) : List St4 := Ln.jn (Ln.gr 0 1 (Ln.sbs A B))
def le (A B : List St4) : List St4 := (up (A.map Ln.tnS) (B.map Ln.tnS)).map Ln.tnS
theorem up_line {n : Nat} {A B : List St4} (a : Ln.LineB n A) (b : Ln.LineB n B) : Ln.LineB (n + 1) (up A B) := Ln.greater_line a.way b.way
theorem up_at {n : Nat} {A B : List St4} (a : Ln.LineB n A) (b : Ln.LineB n B) {p q : Int} (hq : 0 < q) (h0 : 0 ≤ p) (hpq : p ≤ q) : hAt (up A B) p q = max (hAt A p q) (hAt B p q) := by
  obtain ⟨s, t, u, h1, h2, h3, h4⟩ := Ln.greater_at a.way b.way hq h0 hpq
  unfold up
  rw [hAt_of h1, hAt_of h2, hAt_of h3]
  exact h4
theorem tn_at {n : Nat} {A : List St4} (a : Ln.LineB n A) {p q : Int} (hq : 0 < q) (hpq : p ≤ q) : hAt (A.map Ln.tnS) p q = - hAt A p q := by
  obtain ⟨s, h1⟩ := hAt_some a.way hq hpq
  obtain ⟨h2, h3⟩ := Ln.turned_at h1
  rw [hAt_of h1, hAt_of h2]
  omega
theorem le_line {n : Nat} {A B : List St4} (a : Ln.LineB n A) (b : Ln.LineB n B) : Ln.LineB (n + 1) (le A B) := Ln.turned_line (up_line (Ln.turned_line a) (Ln.turned_line b))
theorem le_at {n : Nat} {A B : List St4} (a : Ln.LineB n A) (b : Ln.LineB n B) {p q : Int} (hq : 0 < q) (h0 : 0 ≤ p) (hpq : p ≤ q) : hAt (le A B) p q = min (hAt A p q) (hAt B p q) := by
  have e := tn_at (up_line (Ln.turned_line a) (Ln.turned_line b)) hq hpq
  have e2 := up_at (Ln.turned_line a) (Ln.turned_line b) hq h0 hpq
  rw [tn_at a hq hpq, tn_at b hq hpq] at e2
  show hAt ((up (A.map Ln.tnS) (B.map Ln.tnS)).map Ln.tnS) p q = _
  rw [e, e2]
  omega
/-! ### cutting off -/
def St1 (h : Int) : List St4 := [⟨1, 1, 0, h⟩]
theorem st1_line {h : Int} (hh : h.natAbs < 2 ^ 40) : Ln.LineB 40 (St1 h) :=
  ⟨fun s hs => by rw [List.mem_singleton.mp hs]; exact ⟨show (0 : Int) < 1 by decide, show (1 : Int) ≤ 1 by decide, show Lo.gc 1 1 = 1 by decide, show (1 : Int).natAbs < 2 ^ 40 by decide, show (0 : Int).natAbs < 2 ^ 40 by decide, hh⟩, trivial, ⟨_, rfl, rfl, rfl⟩⟩
theorem st1_at {h p q : Int} (hpq : p ≤ q) : hAt (St1 h) p q = h * q := by
  have : Ln.pk (St1 h) p q = some ⟨1, 1, 0, h⟩ := Ln.pk_cons_ge (by show ¬ 1 * q < p * 1; omega)
  rw [hAt_of this]
  show 0 * p + h * q = _
  omega
def cut (A : List St4) : List St4 := le (up A (St1 0)) (St1 1)
theorem s0_line {n : Nat} (h : 40 ≤ n) : Ln.LineB n (St1 0) := (st1_line (by decide)).mono h
theorem s1_line {n : Nat} (h : 40 ≤ n) : Ln.LineB n (St1 1) := (st1_line (by decide)).mono h
theorem up0_line {n : Nat} {A : List St4} (h : 40 ≤ n) (a : Ln.LineB n A) : Ln.LineB (n + 1) (up A (St1 0)) := up_line a (s0_line h)
theorem cut_line {n : Nat} {A : List St4} (h : 40 ≤ n) (a : Ln.LineB n A) : Ln.LineB (n + 2) (cut A) := le_line (up0_line h a) (s1_line (by omega))
theorem up0_at {n : Nat} {A : List St4} (h : 40 ≤ n) (a : Ln.LineB n A) {p q : Int} (hq : 0 < q) (h0 : 0 ≤ p) (hpq : p ≤ q) : hAt (up A (St1 0)) p q = max (hAt A p q) 0 := by
  rw [up_at a (s0_line h) hq h0 hpq, st1_at hpq, Int.zero_mul]
theorem cut_at {n : Nat} {A : List St4} (h : 40 ≤ n) (a : Ln.LineB n A) {p q : Int} (hq : 0 < q) (h0 : 0 ≤ p) (hpq : p ≤ q) : hAt (cut A) p q = min (max (hAt A p q) 0) q := by
  unfold cut
  rw [le_at (up0_line h a) (s1_line (by omega)) hq h0 hpq, up0_at h a hq h0 hpq, st1_at hpq, Int.one_mul]
/-- nowhere beyond -/
def Inn (A : List St4) : Prop := ∀ p q, 0 < q → 0 ≤ p → p ≤ q → 0 ≤ hAt A p q ∧ hAt A p q ≤ q
theorem cut_inn {n : Nat} {A : List St4} (h : 40 ≤ n) (a : Ln.LineB n A) : Inn (cut A) := fun p q hq h0 hpq => by
  rw [cut_at h a hq h0 hpq]
  omega
/-! ### by its bends -/
namespace Ln
theorem LineB.rise {n : Nat} {L : List St4} (l : LineB n L) : ∀ {k i : Nat} {s t : St4}, L[i]? = some s → L[i + k + 1]? = some t → s.p * t.q < t.p * s.q
  | 0, _, _, _, h, g => (l.ch.get h g).1
  | k + 1, i, s, t, h, g => by
    have hl : i + k + 1 < L.length := by have := (List.getElem?_eq_some_iff.mp g).1; omega
    have hu : L[i + k + 1]? = some (L[i + k + 1]) := List.getElem?_eq_getElem hl
    have r1 := l.rise (k := k) h hu
    have r2 := (l.ch.get (i := i + k + 1) hu g).1
    have o1 := l.ok _ (List.mem_of_getElem? h)
    have o2 := l.ok _ (List.mem_of_getElem? hu)
    have o3 := l.ok _ (List.mem_of_getElem? g)
    exact lt_trans' o1.q0 o2.q0 o3.q0 r1 r2
theorem LineB.own {n : Nat} {L : List St4} (l : LineB n L) {s : St4} (h : s ∈ L) : pk L s.p s.q = some s := by
  obtain ⟨i, hi, e⟩ := List.mem_iff_getElem.mp h
  have h : L[i]? = some s := by rw [List.getElem?_eq_getElem hi, e]
  refine pk_at (k := i) (fun j hj t ht => ?_) h (by omega)
  have e : i = j + (i - j - 1) + 1 := by omega
  rw [e] at h
  exact l.rise ht h
end Ln
end Mine


set_option Elab.async false
set_option linter.all false
set_option maxHeartbeats 1000000
namespace Mine
namespace Ln
/-! ### slopes -/
theorem jnStep_mem {A : List St4} {s t : St4} (h : t ∈ jnStep A s) : t ∈ A ∨ t = s := by
  unfold jnStep at h
  split at h
  · split at h
    · rcases List.mem_append.mp h with h | h
      · exact .inl ((List.dropLast_sublist A).subset h)
      · exact .inr (List.mem_singleton.mp h)
    · rcases List.mem_append.mp h with h | h
      · exact .inl h
      · exact .inr (List.mem_singleton.mp h)
  · rcases List.mem_append.mp h with h | h
    · exact .inl h
    · exact .inr (List.mem_singleton.mp h)
theorem jn_mem_aux : ∀ (M A : List St4) (t : St4), t ∈ M.foldl jnStep A → t ∈ A ∨ t ∈ M
  | [], A, t, h => .inl h
  | s :: M, A, t, h => by
    rcases jn_mem_aux M (jnStep A s) t h with h | h
    · rcases jnStep_mem h with h | h
      · exact .inl h
      · exact .inr (by rw [h]; simp)
    · exact .inr (List.mem_cons_of_mem _ h)
theorem jn_mem {M : List St4} {t : St4} (h : t ∈ jn M) : t ∈ M := by
  rcases jn_mem_aux M [] t h with h | h
  · cases h
  · exact h
theorem sbs_mem : ∀ (n : Nat) (A B : List St4), A.length + B.length ≤ n → ∀ c ∈ sbs A B, c.a ∈ A ∧ c.b ∈ B
  | 0, A, B, h, c, hc => by
    have : A = [] := List.length_eq_zero_iff.mp (by omega)
    subst this
    rw [sbs_nil] at hc
    cases hc
  | n + 1, [], B, h, c, hc => by rw [sbs_nil] at hc; cases hc
  | n + 1, a :: A, [], h, c, hc => by rw [sbs_nil'] at hc; cases hc
  | n + 1, a :: A, b :: B, h, c, hc => by
    have h' : A.length + 1 + (B.length + 1) ≤ n + 1 := h
    rw [sbs] at hc
    split at hc
    · rcases List.mem_cons.mp hc with rfl | hc
      · exact ⟨by simp, by simp⟩
      · obtain ⟨x, y⟩ := sbs_mem n A (b :: B) (by simp; omega) c hc
        exact ⟨List.mem_cons_of_mem _ x, y⟩
    · split at hc
      · rcases List.mem_cons.mp hc with rfl | hc
        · exact ⟨by simp, by simp⟩
        · obtain ⟨x, y⟩ := sbs_mem n A B (by omega) c hc
          exact ⟨List.mem_cons_of_mem _ x, List.mem_cons_of_mem _ y⟩
      · rcases List.mem_cons.mp hc with rfl | hc
        · exact ⟨by simp, by simp⟩
        · obtain ⟨x, y⟩ := sbs_mem n (a :: A) B (by simp; omega) c hc
          exact ⟨x, List.mem_cons_of_mem _ y⟩
theorem gs_m {sp sq : Int} {c : Pc} {s : St4} (h : s ∈ gs sp sq c) : s.m = c.a.m ∨ s.m = c.b.m := by
  have ite : ∀ (P : Prop) [Decidable P], (if P then c.a else c.b).m = c.a.m ∨ (if P then c.a else c.b).m = c.b.m := fun P _ => by
    by_cases z : P
    · rw [if_pos z]; exact .inl rfl
    · rw [if_neg z]; exact .inr rfl
  unfold gs at h
  split at h
  · rcases List.mem_cons.mp h with rfl | h
    · exact ite _
    · rw [List.mem_singleton.mp h]; exact ite _
  · split at h
    · rw [List.mem_singleton.mp h]; exact ite _
    · rw [List.mem_singleton.mp h]; exact ite _
theorem gr_m : ∀ (P : List Pc) (sp sq : Int) (s : St4), s ∈ gr sp sq P → ∃ c ∈ P, s.m = c.a.m ∨ s.m = c.b.m
  | [], _, _, s, h => by cases h
  | c :: P, sp, sq, s, h => by
    rcases List.mem_append.mp h with h | h
    · exact ⟨c, by simp, gs_m h⟩
    · obtain ⟨d, hd, e⟩ := gr_m P c.p c.q s h
      exact ⟨d, List.mem_cons_of_mem _ hd, e⟩
/-- all slopes within n -/
def Slp (n : Nat) (L : List St4) : Prop := ∀ s ∈ L, s.m.natAbs ≤ n
theorem Slp.mono {n k : Nat} {L : List St4} (h : Slp n L) (e : n ≤ k) : Slp k L := fun s hs => Nat.le_trans (h s hs) e
theorem slp_up {n k : Nat} {A B : List St4} (a : Slp n A) (b : Slp k B) : Slp (max n k) (up A B) := fun s hs => by
  obtain ⟨c, hc, e⟩ := gr_m _ _ _ _ (jn_mem hs)
  obtain ⟨h1, h2⟩ := sbs_mem _ A B (Nat.le_refl _) c hc
  have := a _ h1
  have := b _ h2
  rcases e with e | e <;> rw [e] <;> omega
theorem slp_tn {n : Nat} {A : List St4} (a : Slp n A) : Slp n (A.map tnS) := fun s hs => by
  obtain ⟨t, ht, rfl⟩ := List.mem_map.mp hs
  have := a t ht
  show (-t.m).natAbs ≤ n
  omega
theorem slp_rs {n : Nat} {k : Int} {A : List St4} (a : Slp n A) : Slp n (A.map (rsS k)) := fun s hs => by
  obtain ⟨t, ht, rfl⟩ := List.mem_map.mp hs
  exact a t ht
theorem slp_le {n k : Nat} {A B : List St4} (a : Slp n A) (b : Slp k B) : Slp (max n k) (le A B) := slp_tn (slp_up (slp_tn a) (slp_tn b))
theorem slp_ad {n k : Nat} {A B : List St4} (a : Slp n A) (b : Slp k B) : Slp (n + k) (jn (ad (sbs A B))) := fun s hs => by
  obtain ⟨c, hc, rfl⟩ := List.mem_map.mp (jn_mem hs)
  obtain ⟨h1, h2⟩ := sbs_mem _ A B (Nat.le_refl _) c hc
  have := a _ h1
  have := b _ h2
  show (c.a.m + c.b.m).natAbs ≤ n + k
  omega
theorem slp_st (h : Int) : Slp 0 (St1 h) := fun s hs => by rw [List.mem_singleton.mp hs]; exact Nat.le_refl _
theorem slp_cut {n : Nat} {A : List St4} (a : Slp n A) : Slp n (cut A) := (slp_le (slp_up a (slp_st 0)) (slp_st 1)).mono (by omega)
/-! ### few stretches -/
theorem nodup_len {α : Type} [DecidableEq α] : ∀ (l m : List α), l.Nodup → (∀ x ∈ l, x ∈ m) → l.length ≤ m.length
  | [], _, _, _ => Nat.zero_le _
  | x :: l, m, h, hs => by
    have hx := hs x (by simp)
    have hn := List.nodup_cons.mp h
    have ih := nodup_len l (m.erase x) hn.2 fun y hy => by
      have hne : y ≠ x := fun z => hn.1 (z ▸ hy)
      exact (List.mem_erase_of_ne hne).mpr (hs y (List.mem_cons_of_mem _ hy))
    have e := List.length_erase_of_mem hx
    have : 0 < m.length := List.length_pos_of_mem hx
    simp only [List.length_cons]
    omega
def far (n : Nat) : List (Int × Int) := (List.range n).flatMap fun (q : Nat) => ((List.range (q + 1)).filter fun (p : Nat) => decide (Lo.gc ((p : Int) + 1) ((q : Int) + 1) = 1)).map fun (p : Nat) => (((p : Int) + 1), ((q : Int) + 1))
theorem far_mem {n : Nat} {p q : Int} (h1 : 0 < p) (h2 : p ≤ q) (h3 : q ≤ n) (g : Lo.gc p q = 1) : (p, q) ∈ far n := by
  refine List.mem_flatMap.mpr ⟨(q - 1).toNat, List.mem_range.mpr (by omega), List.mem_map.mpr ⟨(p - 1).toNat, List.mem_filter.mpr ⟨List.mem_range.mpr (by omega), ?_⟩, ?_⟩⟩
  · have e1 : (((p - 1).toNat : Nat) : Int) + 1 = p := by omega
    have e2 : (((q - 1).toNat : Nat) : Int) + 1 = q := by omega
    rw [e1, e2]
    exact decide_eq_true g
  · have e1 : (((p - 1).toNat : Nat) : Int) + 1 = p := by omega
    have e2 : (((q - 1).toNat : Nat) : Int) + 1 = q := by omega
    rw [e1, e2]
theorem far_len : (far 50).length ≤ 800 := by decide +kernel
/-- an end where the rule changes is of a bottom within the slopes' difference -/
theorem adj_q {n k : Nat} {s t : St4} (os : OkB k s) (a : Adj s t) (hs : s.m.natAbs ≤ n) (ht : t.m.natAbs ≤ n) : s.q ≤ 2 * n := by
  obtain ⟨_, e, ne⟩ := a
  have q0 := os.q0
  have g : Int.gcd s.p s.q = 1 := by have := os.2.2.1; unfold Lo.gc at this; exact_mod_cast this
  have d : s.q ∣ (t.m - s.m) * s.p := ⟨-(t.h - s.h), by grind⟩
  have d2 : s.q.natAbs ∣ (t.m - s.m).natAbs := by
    have d' := Int.natAbs_dvd_natAbs.mpr d
    rw [Int.natAbs_mul] at d'
    have c : Nat.Coprime s.q.natAbs s.p.natAbs := by
      show Nat.gcd s.q.natAbs s.p.natAbs = 1
      rw [Nat.gcd_comm]
      exact g
    exact c.dvd_of_dvd_mul_right d'
  have := Nat.le_of_dvd (by omega) d2
  omega
theorem ends_q {n k : Nat} (hn : 1 ≤ n) : ∀ {L : List St4}, LineB k L → Slp n L → ∀ s ∈ L, s.q ≤ 2 * n
  | [], _, _, s, h => by cases h
  | [u], l, _, s, h => by
    rw [List.mem_singleton.mp h]
    obtain ⟨v, e1, e2, e3⟩ := l.last
    have e : some u = some v := e1
    cases e
    rw [e3]; omega
  | u :: v :: r, l, sl, s, h => by
    rcases List.mem_cons.mp h with rfl | h
    · exact adj_q (l.ok _ (by simp)) l.ch.1 (sl _ (by simp)) (sl _ (by simp))
    · exact ends_q hn ⟨fun x hx => l.ok x (List.mem_cons_of_mem _ hx), l.ch.2, l.last.tail⟩ (fun x hx => sl x (List.mem_cons_of_mem _ hx)) s h
theorem ends_nodup {k : Nat} {L : List St4} (l : LineB k L) : (L.map fun s => (s.p, s.q)).Nodup := by
  rw [List.nodup_iff_pairwise_ne, List.pairwise_iff_getElem]
  intro i j hi hj hij e
  rw [List.length_map] at hi hj
  rw [List.getElem_map, List.getElem_map] at e
  obtain ⟨d, rfl⟩ : ∃ d, j = i + d + 1 := ⟨j - i - 1, by omega⟩
  have := l.rise (List.getElem?_eq_getElem hi) (List.getElem?_eq_getElem hj)
  have e1 := congrArg Prod.fst e
  have e2 := congrArg Prod.snd e
  simp only at e1 e2
  rw [e1, e2] at this
  omega
theorem few {k : Nat} {L : List St4} (l : LineB k L) (sl : Slp 25 L) : L.length ≤ 800 := by
  have h := nodup_len (L.map fun s => (s.p, s.q)) (far 50) (ends_nodup l) fun x hx => by
    obtain ⟨s, hs, rfl⟩ := List.mem_map.mp hx
    have o := l.ok s hs
    exact far_mem o.1 o.2.1 (ends_q (by decide) l sl s hs) o.2.2.1
  rw [List.length_map] at h
  exact Nat.le_trans h far_len
/-- heights within b -/
def Hgt (b : Nat) (L : List St4) : Prop := ∀ p q, 0 < q → 0 ≤ p → p ≤ q → (hAt L p q).natAbs ≤ b * q.natAbs
/-- a line of small slopes and heights has small numbers -/
theorem tight {k b : Nat} {L : List St4} (l : LineB k L) (sl : Slp 25 L) (ht : Hgt b L) (hb : b ≤ 25) : LineB 10 L := by
  refine ⟨fun s hs => ?_, l.ch, l.last⟩
  have o := l.ok s hs
  have q1 := ends_q (by decide) l sl s hs
  have m1 := sl s hs
  have q0 := o.q0
  refine ⟨o.1, o.2.1, o.2.2.1, by omega, by omega, ?_⟩
  have h1 := ht s.p s.q q0 (by have := o.1; omega) o.2.1
  rw [hAt_of (l.own hs)] at h1
  have e : s.at s.p s.q = s.m * s.p + s.h * s.q := rfl
  rw [e] at h1
  have h2 : (s.h * s.q).natAbs ≤ b * s.q.natAbs + 25 * s.q.natAbs := by
    have a1 : (s.m * s.p).natAbs ≤ 25 * s.q.natAbs := by
      rw [Int.natAbs_mul]
      exact Nat.mul_le_mul m1 (by have := o.1; have := o.2.1; omega)
    omega
  rw [Int.natAbs_mul, ← Nat.add_mul] at h2
  have h3 : s.h.natAbs ≤ b + 25 := Nat.le_of_mul_le_mul_right h2 (by omega)
  omega
end Ln
end Mine


set_option Elab.async false
set_option linter.all false
set_option maxHeartbeats 1000000
namespace Mine
open Ln
/-! ### the lines of sayings -/
structure Gd (n : Nat) (L : List St4) : Prop where
  b : LineB 10 L
  s : Slp n L
  i : Inn L
theorem k_of {k b : Nat} {L : List St4} (l : LineB k L) (sl : Slp 25 L) (ht : Hgt b L) (hb : b ≤ 25) : LineK L := ⟨(tight l sl ht hb).mono (by decide), Nat.le_trans (few l sl) (by decide)⟩
theorem Gd.k {n : Nat} {L : List St4} (g : Gd n L) (h : n ≤ 25) : LineK L := ⟨g.b.mono (by decide), Nat.le_trans (few g.b (g.s.mono h)) (by decide)⟩
theorem Gd.len {n : Nat} {L : List St4} (g : Gd n L) (h : n ≤ 25) : L.length ≤ 800 := few g.b (g.s.mono h)
theorem inn_hgt {L : List St4} (i : Inn L) : Hgt 1 L := fun p q hq h0 hpq => by
  obtain ⟨a, b⟩ := i p q hq h0 hpq
  omega
def addL (A B : List St4) : List St4 := jn (ad (sbs A B))
theorem add_at {n : Nat} {A B : List St4} (a : LineB n A) (b : LineB n B) {p q : Int} (hq : 0 < q) (hpq : p ≤ q) : hAt (addL A B) p q = hAt A p q + hAt B p q := by
  obtain ⟨s, t, u, h1, h2, h3, h4⟩ := added_at a.way b.way hq hpq
  rw [hAt_of h1, hAt_of h2]
  unfold addL
  rw [hAt_of h3, h4]
theorem rs_at {n : Nat} {A : List St4} (a : LineB n A) (k : Int) {p q : Int} (hq : 0 < q) (hpq : p ≤ q) : hAt (A.map (rsS k)) p q = hAt A p q + k * q := by
  obtain ⟨s, h⟩ := hAt_some a.way hq hpq
  obtain ⟨h1, h2⟩ := raised_at (k := k) h
  rw [hAt_of h, hAt_of h1, h2]
/-- the line is one that can be cut off -/
structure CutOk (X : List St4) : Prop where
  k : LineK X
  u : LineK (up X (St1 0))
  c : (cut X).length ≤ 1000
theorem cut_facts {k n b : Nat} {X : List St4} (l : LineB k X) (s : Slp n X) (hn : n ≤ 25) (h : Hgt b X) (hb : b ≤ 25) : CutOk X ∧ Gd n (cut X) ∧ ∀ p q, 0 < q → 0 ≤ p → p ≤ q → hAt (cut X) p q = min (max (hAt X p q) 0) q := by
  have t := tight l (s.mono hn) h hb
  have t40 : LineB 40 X := t.mono (by decide)
  have ul := up0_line (by decide) t40
  have us : Slp 25 (up X (St1 0)) := (slp_up s (slp_st 0)).mono (by omega)
  have uh : Hgt b (up X (St1 0)) := fun p q hq h0 hpq => by
    rw [up0_at (by decide) t40 hq h0 hpq]
    have := h p q hq h0 hpq
    omega
  have cl := cut_line (by decide) t40
  have cs : Slp n (cut X) := slp_cut s
  have ci : Inn (cut X) := cut_inn (by decide) t40
  have ct := tight cl (cs.mono hn) (inn_hgt ci) (by decide)
  exact ⟨⟨k_of l (s.mono hn) h hb, k_of ul us uh hb, Nat.le_trans (few cl (cs.mono hn)) (by decide)⟩, ⟨ct, cs, ci⟩, fun p q hq h0 hpq => cut_at (by decide) t40 hq h0 hpq⟩
theorem Gd.at {n : Nat} {L : List St4} (g : Gd n L) {p q : Int} (hq : 0 < q) (h0 : 0 ≤ p) (hpq : p ≤ q) : 0 ≤ hAt L p q ∧ hAt L p q ≤ q := g.i p q hq h0 hpq
/-- both steepnesses by the fold -/
def W5.steep : W5 → Nat → Nat → Nat
  | .greater, n, k => max n k
  | .lesser, n, k => max n k
  | _, n, k => n + k
def lineF : W5 → List St4 → List St4 → List St4
  | .more, A, B => cut (addL A B)
  | .less, A, B => cut ((addL A B).map (rsS (-1)))
  | .greater, A, B => up A B
  | .lesser, A, B => le A B
  | .leads, A, B => cut ((addL (A.map tnS) B).map (rsS 1))
def FoldOk : W5 → List St4 → List St4 → Prop
  | .more, A, B => LineK A ∧ LineK B ∧ CutOk (addL A B)
  | .less, A, B => LineK A ∧ LineK B ∧ (addL A B).length ≤ 1000 ∧ CutOk ((addL A B).map (rsS (-1)))
  | .greater, A, B => LineK A ∧ LineK B
  | .lesser, A, B => LineK A ∧ LineK B ∧ (le A B).length ≤ 1000
  | .leads, A, B => A.length ≤ 1000 ∧ LineK (A.map tnS) ∧ LineK B ∧ (addL (A.map tnS) B).length ≤ 1000 ∧ CutOk ((addL (A.map tnS) B).map (rsS 1))
theorem fold_facts {n k : Nat} {A B : List St4} (u : W5) (a : Gd n A) (b : Gd k B) (h : u.steep n k ≤ 25) :
    FoldOk u A B ∧ Gd (u.steep n k) (lineF u A B) ∧ ∀ p q, 0 < q → 0 ≤ p → p ≤ q → hAt (lineF u A B) p q = u.worth q (hAt A p q) (hAt B p q) := by
  have hn : n ≤ 25 := by cases u <;> simp only [W5.steep] at h <;> omega
  have hk : k ≤ 25 := by cases u <;> simp only [W5.steep] at h <;> omega
  have ka := a.k hn
  have kb := b.k hk
  cases u with
  | more =>
    have h' : n + k ≤ 25 := h
    have hg : Hgt 2 (addL A B) := fun p q hq h0 hpq => by
      rw [add_at a.b b.b hq hpq]
      have := a.at hq h0 hpq
      have := b.at hq h0 hpq
      omega
    obtain ⟨c1, c2, c3⟩ := cut_facts (added_line a.b.way b.b.way) (slp_ad a.s b.s) h' hg (by decide)
    refine ⟨⟨ka, kb, c1⟩, c2, fun p q hq h0 hpq => ?_⟩
    have x := a.at hq h0 hpq
    have y := b.at hq h0 hpq
    show hAt (cut (addL A B)) p q = min (hAt A p q + hAt B p q) q
    have e := c3 p q hq h0 hpq
    unfold addL at *
    rw [e, show hAt (jn (ad (sbs A B))) p q = hAt A p q + hAt B p q from add_at a.b b.b hq hpq]
    omega
  | less =>
    have h' : n + k ≤ 25 := h
    have al := added_line a.b.way b.b.way
    have as := slp_ad a.s b.s
    have hg : Hgt 3 ((addL A B).map (rsS (-1))) := fun p q hq h0 hpq => by
      rw [rs_at (show LineB 11 (addL A B) from al) _ hq hpq, add_at a.b b.b hq hpq]
      have := a.at hq h0 hpq
      have := b.at hq h0 hpq
      omega
    obtain ⟨c1, c2, c3⟩ := cut_facts (raised_line (k := -1) (by decide) (show LineB 11 (addL A B) from al)) (slp_rs (show Slp (n + k) (addL A B) from as)) h' hg (by decide)
    refine ⟨⟨ka, kb, Nat.le_trans (few al (as.mono h')) (by decide), c1⟩, c2, fun p q hq h0 hpq => ?_⟩
    have x := a.at hq h0 hpq
    have y := b.at hq h0 hpq
    show hAt (cut ((addL A B).map (rsS (-1)))) p q = max (hAt A p q + hAt B p q - q) 0
    rw [c3 p q hq h0 hpq, rs_at (show LineB 11 (addL A B) from al) _ hq hpq, add_at a.b b.b hq hpq]
    omega
  | greater =>
    have h' : max n k ≤ 25 := h
    have at_ : ∀ p q, 0 < q → 0 ≤ p → p ≤ q → hAt (up A B) p q = max (hAt A p q) (hAt B p q) := fun p q hq h0 hpq => up_at a.b b.b hq h0 hpq
    have inn : Inn (up A B) := fun p q hq h0 hpq => by
      rw [at_ p q hq h0 hpq]
      have := a.at hq h0 hpq
      have := b.at hq h0 hpq
      omega
    have sl := slp_up a.s b.s
    exact ⟨⟨ka, kb⟩, ⟨tight (up_line a.b b.b) (sl.mono h') (inn_hgt inn) (by decide), sl, inn⟩, at_⟩
  | lesser =>
    have h' : max n k ≤ 25 := h
    have at_ : ∀ p q, 0 < q → 0 ≤ p → p ≤ q → hAt (le A B) p q = min (hAt A p q) (hAt B p q) := fun p q hq h0 hpq => le_at a.b b.b hq h0 hpq
    have inn : Inn (le A B) := fun p q hq h0 hpq => by
      rw [at_ p q hq h0 hpq]
      have := a.at hq h0 hpq
      have := b.at hq h0 hpq
      omega
    have sl := slp_le a.s b.s
    have ll := le_line a.b b.b
    exact ⟨⟨ka, kb, Nat.le_trans (few ll (sl.mono h')) (by decide)⟩, ⟨tight ll (sl.mono h') (inn_hgt inn) (by decide), sl, inn⟩, at_⟩
  | leads =>
    have h' : n + k ≤ 25 := h
    have tl := turned_line a.b
    have ts := slp_tn a.s
    have th : ∀ p q, 0 < q → p ≤ q → hAt (A.map tnS) p q = - hAt A p q := fun p q hq hpq => tn_at a.b hq hpq
    have al := added_line tl.way b.b.way
    have as := slp_ad ts b.s
    have ah : ∀ p q, 0 < q → p ≤ q → hAt (addL (A.map tnS) B) p q = - hAt A p q + hAt B p q := fun p q hq hpq => by rw [add_at tl b.b hq hpq, th p q hq hpq]
    have hg : Hgt 2 ((addL (A.map tnS) B).map (rsS 1)) := fun p q hq h0 hpq => by
      rw [rs_at (show LineB 11 (addL (A.map tnS) B) from al) _ hq hpq, ah p q hq hpq]
      have := a.at hq h0 hpq
      have := b.at hq h0 hpq
      omega
    have hgt : Hgt 1 (A.map tnS) := fun p q hq h0 hpq => by
      rw [th p q hq hpq]
      have := a.at hq h0 hpq
      omega
    obtain ⟨c1, c2, c3⟩ := cut_facts (raised_line (k := 1) (by decide) (show LineB 11 (addL (A.map tnS) B) from al)) (slp_rs (show Slp (n + k) (addL (A.map tnS) B) from as)) h' hg (by decide)
    refine ⟨⟨Nat.le_trans (a.len hn) (by decide), k_of tl (ts.mono hn) hgt (by decide), kb, Nat.le_trans (few al (as.mono h')) (by decide), c1⟩, c2, fun p q hq h0 hpq => ?_⟩
    have x := a.at hq h0 hpq
    have y := b.at hq h0 hpq
    show hAt (cut ((addL (A.map tnS) B).map (rsS 1))) p q = min (q - hAt A p q + hAt B p q) q
    rw [c3 p q hq h0 hpq, rs_at (show LineB 11 (addL (A.map tnS) B) from al) _ hq hpq, ah p q hq hpq]
    omega
def lineNo (A : List St4) : List St4 := (A.map tnS).map (rsS 1)
theorem no_facts {n : Nat} {A : List St4} (a : Gd n A) (hn : n ≤ 25) : A.length ≤ 1000 ∧ Gd n (lineNo A) ∧ ∀ p q, 0 < q → 0 ≤ p → p ≤ q → hAt (lineNo A) p q = q - hAt A p q := by
  have tl := turned_line a.b
  have at_ : ∀ p q, 0 < q → 0 ≤ p → p ≤ q → hAt (lineNo A) p q = q - hAt A p q := fun p q hq h0 hpq => by
    unfold lineNo
    rw [rs_at tl _ hq hpq, tn_at a.b hq hpq]
    omega
  have inn : Inn (lineNo A) := fun p q hq h0 hpq => by
    rw [at_ p q hq h0 hpq]
    have := a.at hq h0 hpq
    omega
  have sl : Slp n (lineNo A) := slp_rs (slp_tn a.s)
  exact ⟨Nat.le_trans (a.len hn) (by decide), ⟨tight (raised_line (k := 1) (by decide) tl) (sl.mono hn) (inn_hgt inn) (by decide), sl, inn⟩, at_⟩
def lineP : List St4 := [⟨1, 1, 1, 0⟩]
theorem p_line : LineB 10 lineP := ⟨fun s hs => by rw [List.mem_singleton.mp hs]; exact ⟨by decide, by decide, by decide, by decide, by decide, by decide⟩, trivial, ⟨_, rfl, rfl, rfl⟩⟩
theorem p_at {p q : Int} (hpq : p ≤ q) : hAt lineP p q = p := by
  have e : pk lineP p q = some ⟨1, 1, 1, 0⟩ := pk_cons_ge (s := ⟨1, 1, 1, 0⟩) (by show ¬ 1 * q < p * 1; omega)
  rw [hAt_of e]
  show 1 * p + 0 * q = p
  omega
theorem p_gd : Gd 1 lineP := ⟨p_line, fun s hs => by rw [List.mem_singleton.mp hs]; exact Nat.le_refl _, fun p q hq h0 hpq => by rw [p_at hpq]; omega⟩
theorem st_gd {h : Int} (hh : h = 0 ∨ h = 1) : Gd 0 (St1 h) := by
  refine ⟨?_, slp_st h, fun p q hq h0 hpq => ?_⟩
  · exact ⟨fun s hs => by rw [List.mem_singleton.mp hs]; rcases hh with rfl | rfl <;> exact ⟨by decide, by decide, by decide, by decide, by decide, by decide⟩, trivial, ⟨_, rfl, rfl, rfl⟩⟩
  · rw [st1_at hpq]
    rcases hh with rfl | rfl <;> omega
def Tr.steep : Tr → Nat
  | .never => 0 | .always => 0 | .lp => 1 | .lq => 1
  | .no t => t.steep
  | .fold u a b => u.steep a.steep b.steep
def lineT : Tr → List St4
  | .never => St1 0 | .always => St1 1 | .lp => lineP | .lq => lineP
  | .no t => lineNo (lineT t)
  | .fold u a b => lineF u (lineT a) (lineT b)
def Tr.noq : Tr → Bool
  | .lq => false
  | .no t => t.noq
  | .fold _ a b => a.noq && b.noq
  | _ => true
theorem steep_sub (u : W5) (n k : Nat) : n ≤ u.steep n k ∧ k ≤ u.steep n k := by cases u <;> simp only [W5.steep] <;> omega
theorem lineT_ok : ∀ t : Tr, t.steep ≤ 25 → Gd t.steep (lineT t)
  | .never, _ => st_gd (.inl rfl)
  | .always, _ => st_gd (.inr rfl)
  | .lp, _ => p_gd
  | .lq, _ => p_gd
  | .no t, h => (no_facts (lineT_ok t h) h).2.1
  | .fold u a b, h => by
    have s := steep_sub u a.steep b.steep
    have h' : u.steep a.steep b.steep ≤ 25 := h
    exact (fold_facts u (lineT_ok a (by omega)) (lineT_ok b (by omega)) h).2.1
end Mine


set_option Elab.async false
set_option linter.all false
set_option maxRecDepth 100000
set_option maxHeartbeats 4000000
namespace L2
open PySem
theorem small9000 {n : Nat} (h : n ≤ 9000) : n < sizeLine := Nat.lt_of_le_of_lt h (by decide)
theorem small90000 {n : Nat} (h : n ≤ 90000) : n < sizeLine := Nat.lt_of_le_of_lt h (by decide)
end L2

namespace Mine
open PySem L2
def top (i : Nat) : Stmt := PySem.Challenge.pw_leansay_k24_whole_lines_by_parts.main.body.getD i (.Pass ⟨0, 0, 0, 0⟩)
abbrev s_Saying_made_of : Stmt := inClass (top 24) 0
abbrev s_Saying_pieces : Stmt := inClass (top 24) 1
abbrev s_Saying_laid_out : Stmt := inClass (top 24) 2
abbrev s_Saying_told : Stmt := inClass (top 24) 3
abbrev s_Never_making_word : Stmt := inClass (top 25) 0
abbrev s_Always_making_word : Stmt := inClass (top 26) 0
abbrev s_Letter_init : Stmt := inClass (top 27) 0
abbrev s_Letter_making_word : Stmt := inClass (top 27) 1
abbrev s_Not_init : Stmt := inClass (top 28) 0
abbrev s_Not_made_of : Stmt := inClass (top 28) 1
abbrev s_Not_making_word : Stmt := inClass (top 28) 2
abbrev s_Not_pieces : Stmt := inClass (top 28) 3
abbrev s_Fold_init : Stmt := inClass (top 29) 0
abbrev s_Fold_made_of : Stmt := inClass (top 29) 1
abbrev s_Fold_pieces : Stmt := inClass (top 29) 2
abbrev s_More_making_word : Stmt := inClass (top 30) 0
abbrev s_Less_making_word : Stmt := inClass (top 31) 0
abbrev s_Greater_making_word : Stmt := inClass (top 32) 0
abbrev s_Lesser_making_word : Stmt := inClass (top 33) 0
abbrev s_Leads_making_word : Stmt := inClass (top 34) 0
abbrev sLaid : Stmt := s_Saying_laid_out
abbrev s_common_factor : Stmt := top 6
abbrev s_fraction : Stmt := top 7
abbrev s_less : Stmt := top 8
abbrev s_joined : Stmt := top 12
abbrev s_straight : Stmt := top 14
abbrev s_side_by_side : Stmt := top 15
abbrev s_added : Stmt := top 16
abbrev s_turned : Stmt := top 17
abbrev s_raised : Stmt := top 18
abbrev s_greater_stretches : Stmt := top 19
abbrev s_greater_line : Stmt := top 20
abbrev s_lesser_line : Stmt := top 21
abbrev s_cut_off : Stmt := top 22
abbrev s_rows_of : Stmt := top 36
abbrev s_leaf_line : Stmt := top 38
abbrev s_fold_line : Stmt := top 39
abbrev s_row_line : Stmt := top 40
abbrev s_last_line : Stmt := top 41
abbrev s_must_be_without_q : Stmt := top 42
abbrev s_line_of : Stmt := top 43
abbrev s_l_cell_at : Stmt := top 45
abbrev s_l_divisor : Stmt := top 46
abbrev s_l_lowest : Stmt := top 47
abbrev s_l_whole : Stmt := top 48
abbrev s_l_is_stretch : Stmt := top 49
abbrev s_l_is_line : Stmt := top 50
abbrev s_l_height : Stmt := top 51
abbrev s_l_spots : Stmt := top 52
abbrev s_l_rising : Stmt := top 53
abbrev s_l_tree : Stmt := top 54
abbrev s_l_fold : Stmt := top 55
abbrev s_l_made : Stmt := top 56
abbrev s_l_folded : Stmt := top 57
abbrev s_l_as : Stmt := top 58
abbrev s_law : Stmt := top 59
abbrev sLaw : Stmt := top 59
end Mine

namespace Mine
open PySem L2
section
variable {P : Program} {w : World} {K : PySem.W.Frag} {mg : Str → Option Value} {base : Heap}
theorem sc_iLetter : FnScope ["self", "name"] ["self", "name"] (defScope s_Letter_init) := ⟨rfl, rfl, rfl, by decide +kernel, rfl, by decide +kernel, by decide +kernel⟩
theorem ok_iLetter {x : Str} {C : Addr} (T : MkF K mg x C "Letter.__init__" s_Letter_init) (n : NoAttr K C "name") : MkOk P w K mg base x C 1 ["self", "name"] (spInit1 C fName) := by
  refine mk_of T sc_iLetter (fun _ _ _ _ _ _ us hl => match us, hl with | [_, _], _ => rfl) (fun vs H Q E h => ?_) (fun f cdv A outer s H vs Q E hr h => ?_)
  · obtain ⟨a, dx, y, rfl, e, q⟩ := h
    rfl
  obtain ⟨a, dx, y, rfl, e, q⟩ := h
  have nd := sc_iLetter.nd
  refine ⟨_, (pss_one (ps_fld (pv 0) (pv 1) rfl)), ?_⟩
  exact ⟨_, rfl, _, rfl, a, C, dx, [], rfl, e, T.cl, n, (by show 0 < 1000; decide), q⟩
theorem sc_iNot : FnScope ["self", "part"] ["self", "part"] (defScope s_Not_init) := ⟨rfl, rfl, rfl, by decide +kernel, rfl, by decide +kernel, by decide +kernel⟩
theorem ok_iNot {x : Str} {C : Addr} (T : MkF K mg x C "Not.__init__" s_Not_init) (n : NoAttr K C "part") : MkOk P w K mg base x C 1 ["self", "part"] (spInit1 C fPart) := by
  refine mk_of T sc_iNot (fun _ _ _ _ _ _ us hl => match us, hl with | [_, _], _ => rfl) (fun vs H Q E h => ?_) (fun f cdv A outer s H vs Q E hr h => ?_)
  · obtain ⟨a, dx, y, rfl, e, q⟩ := h
    rfl
  obtain ⟨a, dx, y, rfl, e, q⟩ := h
  have nd := sc_iNot.nd
  refine ⟨_, (pss_one (ps_fld (pv 0) (pv 1) rfl)), ?_⟩
  exact ⟨_, rfl, _, rfl, a, C, dx, [], rfl, e, T.cl, n, (by show 0 < 1000; decide), q⟩
theorem sc_iFold : FnScope ["self", "one", "other"] ["self", "one", "other"] (defScope s_Fold_init) := ⟨rfl, rfl, rfl, by decide +kernel, rfl, by decide +kernel, by decide +kernel⟩
theorem ok_iFold {x : Str} {C : Addr} (T : MkF K mg x C "Fold.__init__" s_Fold_init) (n : NoAttr K C "one") (n' : NoAttr K C "other") : MkOk P w K mg base x C 1 ["self", "one", "other"] (spInit2 C) := by
  refine mk_of T sc_iFold (fun _ _ _ _ _ _ us hl => match us, hl with | [_, _, _], _ => rfl) (fun vs H Q E h => ?_) (fun f cdv A outer s H vs Q E hr h => ?_)
  · obtain ⟨a, dx, y, z, rfl, e, q⟩ := h
    rfl
  obtain ⟨a, dx, y, z, rfl, e, q⟩ := h
  have nd := sc_iFold.nd
  refine ⟨_, (pss_cons (ps_fld (pv 0) (pv 1) rfl)
    (pss_one (ps_fld (pv 0) (pv 2) rfl))), ?_⟩
  refine ⟨_, rfl, _, rfl, a, C, dx, [], rfl, e, T.cl, n, (by show 0 < 1000; decide), ?_⟩
  refine ⟨_, rfl, _, rfl, a, C, dx, _, rfl, upd_same, T.cl, n', (by show 1 < 1000; decide), ?_⟩
  rw [putF_two, upd_upd]
  exact q
theorem sc_mS : FnScope ["self"] ["self"] (defScope s_Saying_made_of) := ⟨rfl, rfl, rfl, by decide +kernel, rfl, by decide +kernel, by decide +kernel⟩
theorem ok_mS {c : CCs} {C : Addr} {t : Tr} (T : MethF K C "made_of" "Saying.made_of" s_Saying_made_of) (ht : t.kids = []) : MethOk P w K mg base C "made_of" 1 ["self"] (spMade c t) := by
  refine meth_of T sc_mS (fun _ _ _ _ _ _ us hl => match us, hl with | [_], _ => rfl) (fun vs H Q E h => ?_) (fun f cdv A outer s H vs Q E hr h => ?_)
  · obtain ⟨a, rfl, o, q⟩ := h
    rfl
  obtain ⟨a, rfl, o, q⟩ := h
  have nd := sc_mS.nd
  refine ⟨_, (pss_one (ps_ret (pe_lst pa_nil))), ?_⟩
  refine ⟨(by show 0 ≤ sizeLine; decide), fun l hl => q l [] hl ?_⟩
  rw [ht]
  exact .nil
theorem sc_mNot : FnScope ["self"] ["self"] (defScope s_Not_made_of) := ⟨rfl, rfl, rfl, by decide +kernel, rfl, by decide +kernel, by decide +kernel⟩
theorem ok_mNot {c : CCs} {t : Tr} (T : MethF K c.no "made_of" "Not.made_of" s_Not_made_of) (F : Fx K c) : MethOk P w K mg base c.no "made_of" 1 ["self"] (spMade c (.no t)) := by
  refine meth_of T sc_mNot (fun _ _ _ _ _ _ us hl => match us, hl with | [_], _ => rfl) (fun vs H Q E h => ?_) (fun f cdv A outer s H vs Q E hr h => ?_)
  · obtain ⟨a, rfl, o, q⟩ := h
    rfl
  obtain ⟨a, rfl, o, q⟩ := h
  have nd := sc_mNot.nd
  refine ⟨_, (pss_one (ps_ret (pe_lst (pa_cons (pe_fld (pv 0) rfl) pa_nil)))), ?_⟩
  cases o with
  | no e o =>
    refine ⟨_, rfl, a, c.no, _, _, _, rfl, e, T.cl, F.nPart, look_part _, (by show 1 ≤ sizeLine; decide), fun l hl => q l _ hl ?_⟩
    exact .cons ⟨_, rfl, o⟩ .nil
theorem sc_mFold : FnScope ["self"] ["self"] (defScope s_Fold_made_of) := ⟨rfl, rfl, rfl, by decide +kernel, rfl, by decide +kernel, by decide +kernel⟩
theorem ok_mFold {c : CCs} {u : W5} {t t' : Tr} (T : MethF K (c.fold u) "made_of" "Fold.made_of" s_Fold_made_of) (F : Fx K c) : MethOk P w K mg base (c.fold u) "made_of" 1 ["self"] (spMade c (.fold u t t')) := by
  refine meth_of T sc_mFold (fun _ _ _ _ _ _ us hl => match us, hl with | [_], _ => rfl) (fun vs H Q E h => ?_) (fun f cdv A outer s H vs Q E hr h => ?_)
  · obtain ⟨a, rfl, o, q⟩ := h
    rfl
  obtain ⟨a, rfl, o, q⟩ := h
  have nd := sc_mFold.nd
  refine ⟨_, (pss_one (ps_ret (pe_lst (pa_cons (pe_fld (pv 0) rfl) (pa_cons (pe_fld (pv 0) rfl) pa_nil))))), ?_⟩
  cases o with
  | fold e o o' =>
    refine ⟨_, rfl, a, _, _, _, _, rfl, e, T.cl, F.nOne u, look_one _ _, _, rfl, a, _, _, _, _, rfl, e, T.cl, F.nOther u, look_other _ _, (by show 2 ≤ sizeLine; decide), fun l hl => q l _ hl ?_⟩
    exact .cons ⟨_, rfl, o⟩ (.cons ⟨_, rfl, o'⟩ .nil)
theorem sc_wNever : FnScope ["self"] ["self"] (defScope s_Never_making_word) := ⟨rfl, rfl, rfl, by decide +kernel, rfl, by decide +kernel, by decide +kernel⟩
theorem ok_wNever {c : CCs} {C : Addr} (T : MethF K C "making_word" "Never.making_word" s_Never_making_word) : MethOk P w K mg base C "making_word" 1 ["self"] (spWord c .never) := by
  refine meth_of T sc_wNever (fun _ _ _ _ _ _ us hl => match us, hl with | [_], _ => rfl) (fun vs H Q E h => ?_) (fun f cdv A outer s H vs Q E hr h => ?_)
  · obtain ⟨a, rfl, o, q⟩ := h
    rfl
  obtain ⟨a, rfl, o, q⟩ := h
  have nd := sc_wNever.nd
  refine ⟨_, (pss_one (ps_ret pe_str)), ?_⟩
  exact q
theorem sc_wAlways : FnScope ["self"] ["self"] (defScope s_Always_making_word) := ⟨rfl, rfl, rfl, by decide +kernel, rfl, by decide +kernel, by decide +kernel⟩
theorem ok_wAlways {c : CCs} {C : Addr} (T : MethF K C "making_word" "Always.making_word" s_Always_making_word) : MethOk P w K mg base C "making_word" 1 ["self"] (spWord c .always) := by
  refine meth_of T sc_wAlways (fun _ _ _ _ _ _ us hl => match us, hl with | [_], _ => rfl) (fun vs H Q E h => ?_) (fun f cdv A outer s H vs Q E hr h => ?_)
  · obtain ⟨a, rfl, o, q⟩ := h
    rfl
  obtain ⟨a, rfl, o, q⟩ := h
  have nd := sc_wAlways.nd
  refine ⟨_, (pss_one (ps_ret pe_str)), ?_⟩
  exact q
theorem sc_wLp : FnScope ["self"] ["self"] (defScope s_Letter_making_word) := ⟨rfl, rfl, rfl, by decide +kernel, rfl, by decide +kernel, by decide +kernel⟩
theorem ok_wLp {c : CCs} (T : MethF K c.le "making_word" "Letter.making_word" s_Letter_making_word) (F : Fx K c) : MethOk P w K mg base c.le "making_word" 1 ["self"] (spWord c .lp) := by
  refine meth_of T sc_wLp (fun _ _ _ _ _ _ us hl => match us, hl with | [_], _ => rfl) (fun vs H Q E h => ?_) (fun f cdv A outer s H vs Q E hr h => ?_)
  · obtain ⟨a, rfl, o, q⟩ := h
    rfl
  obtain ⟨a, rfl, o, q⟩ := h
  have nd := sc_wLp.nd
  refine ⟨_, (pss_one (ps_ret (pe_fld (pv 0) rfl))), ?_⟩
  cases o with
  | lp e => exact ⟨_, rfl, a, _, _, _, _, rfl, e, T.cl, F.nName, look_name _, q⟩
theorem sc_wLq : FnScope ["self"] ["self"] (defScope s_Letter_making_word) := ⟨rfl, rfl, rfl, by decide +kernel, rfl, by decide +kernel, by decide +kernel⟩
theorem ok_wLq {c : CCs} (T : MethF K c.le "making_word" "Letter.making_word" s_Letter_making_word) (F : Fx K c) : MethOk P w K mg base c.le "making_word" 1 ["self"] (spWord c .lq) := by
  refine meth_of T sc_wLq (fun _ _ _ _ _ _ us hl => match us, hl with | [_], _ => rfl) (fun vs H Q E h => ?_) (fun f cdv A outer s H vs Q E hr h => ?_)
  · obtain ⟨a, rfl, o, q⟩ := h
    rfl
  obtain ⟨a, rfl, o, q⟩ := h
  have nd := sc_wLq.nd
  refine ⟨_, (pss_one (ps_ret (pe_fld (pv 0) rfl))), ?_⟩
  cases o with
  | lq e => exact ⟨_, rfl, a, _, _, _, _, rfl, e, T.cl, F.nName, look_name _, q⟩
theorem sc_wNot : FnScope ["self"] ["self"] (defScope s_Not_making_word) := ⟨rfl, rfl, rfl, by decide +kernel, rfl, by decide +kernel, by decide +kernel⟩
theorem ok_wNot {c : CCs} {C : Addr} {t : Tr} (T : MethF K C "making_word" "Not.making_word" s_Not_making_word) : MethOk P w K mg base C "making_word" 1 ["self"] (spWord c (.no t)) := by
  refine meth_of T sc_wNot (fun _ _ _ _ _ _ us hl => match us, hl with | [_], _ => rfl) (fun vs H Q E h => ?_) (fun f cdv A outer s H vs Q E hr h => ?_)
  · obtain ⟨a, rfl, o, q⟩ := h
    rfl
  obtain ⟨a, rfl, o, q⟩ := h
  have nd := sc_wNot.nd
  refine ⟨_, (pss_one (ps_ret pe_str)), ?_⟩
  exact q
theorem sc_wMore : FnScope ["self"] ["self"] (defScope s_More_making_word) := ⟨rfl, rfl, rfl, by decide +kernel, rfl, by decide +kernel, by decide +kernel⟩
theorem ok_wMore {c : CCs} {C : Addr} {t t' : Tr} (T : MethF K C "making_word" "More.making_word" s_More_making_word) : MethOk P w K mg base C "making_word" 1 ["self"] (spWord c (.fold .more t t')) := by
  refine meth_of T sc_wMore (fun _ _ _ _ _ _ us hl => match us, hl with | [_], _ => rfl) (fun vs H Q E h => ?_) (fun f cdv A outer s H vs Q E hr h => ?_)
  · obtain ⟨a, rfl, o, q⟩ := h
    rfl
  obtain ⟨a, rfl, o, q⟩ := h
  have nd := sc_wMore.nd
  refine ⟨_, (pss_one (ps_ret pe_str)), ?_⟩
  exact q
theorem sc_wLess : FnScope ["self"] ["self"] (defScope s_Less_making_word) := ⟨rfl, rfl, rfl, by decide +kernel, rfl, by decide +kernel, by decide +kernel⟩
theorem ok_wLess {c : CCs} {C : Addr} {t t' : Tr} (T : MethF K C "making_word" "Less.making_word" s_Less_making_word) : MethOk P w K mg base C "making_word" 1 ["self"] (spWord c (.fold .less t t')) := by
  refine meth_of T sc_wLess (fun _ _ _ _ _ _ us hl => match us, hl with | [_], _ => rfl) (fun vs H Q E h => ?_) (fun f cdv A outer s H vs Q E hr h => ?_)
  · obtain ⟨a, rfl, o, q⟩ := h
    rfl
  obtain ⟨a, rfl, o, q⟩ := h
  have nd := sc_wLess.nd
  refine ⟨_, (pss_one (ps_ret pe_str)), ?_⟩
  exact q
theorem sc_wGreater : FnScope ["self"] ["self"] (defScope s_Greater_making_word) := ⟨rfl, rfl, rfl, by decide +kernel, rfl, by decide +kernel, by decide +kernel⟩
theorem ok_wGreater {c : CCs} {C : Addr} {t t' : Tr} (T : MethF K C "making_word" "Greater.making_word" s_Greater_making_word) : MethOk P w K mg base C "making_word" 1 ["self"] (spWord c (.fold .greater t t')) := by
  refine meth_of T sc_wGreater (fun _ _ _ _ _ _ us hl => match us, hl with | [_], _ => rfl) (fun vs H Q E h => ?_) (fun f cdv A outer s H vs Q E hr h => ?_)
  · obtain ⟨a, rfl, o, q⟩ := h
    rfl
  obtain ⟨a, rfl, o, q⟩ := h
  have nd := sc_wGreater.nd
  refine ⟨_, (pss_one (ps_ret pe_str)), ?_⟩
  exact q
theorem sc_wLesser : FnScope ["self"] ["self"] (defScope s_Lesser_making_word) := ⟨rfl, rfl, rfl, by decide +kernel, rfl, by decide +kernel, by decide +kernel⟩
theorem ok_wLesser {c : CCs} {C : Addr} {t t' : Tr} (T : MethF K C "making_word" "Lesser.making_word" s_Lesser_making_word) : MethOk P w K mg base C "making_word" 1 ["self"] (spWord c (.fold .lesser t t')) := by
  refine meth_of T sc_wLesser (fun _ _ _ _ _ _ us hl => match us, hl with | [_], _ => rfl) (fun vs H Q E h => ?_) (fun f cdv A outer s H vs Q E hr h => ?_)
  · obtain ⟨a, rfl, o, q⟩ := h
    rfl
  obtain ⟨a, rfl, o, q⟩ := h
  have nd := sc_wLesser.nd
  refine ⟨_, (pss_one (ps_ret pe_str)), ?_⟩
  exact q
theorem sc_wLeads : FnScope ["self"] ["self"] (defScope s_Leads_making_word) := ⟨rfl, rfl, rfl, by decide +kernel, rfl, by decide +kernel, by decide +kernel⟩
theorem ok_wLeads {c : CCs} {C : Addr} {t t' : Tr} (T : MethF K C "making_word" "Leads.making_word" s_Leads_making_word) : MethOk P w K mg base C "making_word" 1 ["self"] (spWord c (.fold .leads t t')) := by
  refine meth_of T sc_wLeads (fun _ _ _ _ _ _ us hl => match us, hl with | [_], _ => rfl) (fun vs H Q E h => ?_) (fun f cdv A outer s H vs Q E hr h => ?_)
  · obtain ⟨a, rfl, o, q⟩ := h
    rfl
  obtain ⟨a, rfl, o, q⟩ := h
  have nd := sc_wLeads.nd
  refine ⟨_, (pss_one (ps_ret pe_str)), ?_⟩
  exact q
theorem sc_pSay : FnScope ["self"] ["self"] (defScope s_Saying_pieces) := ⟨rfl, rfl, rfl, by decide +kernel, rfl, by decide +kernel, by decide +kernel⟩
theorem ok_pSay {c : CCs} {t : Tr} (T : MethF K (c.of t) "pieces" "Saying.pieces" s_Saying_pieces) (ht : t.pieces = [.w t.word]) (G : MethOk P w K mg base (c.of t) "making_word" 1 ["self"] (spWord c t)) : MethOk P w K mg base (c.of t) "pieces" 2 ["self"] (spPieces c t) := by
  refine meth_of T sc_pSay (fun _ _ _ _ _ _ us hl => match us, hl with | [_], _ => rfl) (fun vs H Q E h => ?_) (fun f cdv A outer s H vs Q E hr h => ?_)
  · obtain ⟨a, rfl, o, q⟩ := h
    rfl
  obtain ⟨a, rfl, o, q⟩ := h
  have nd := sc_pSay.nd
  refine ⟨_, (pss_one (ps_ret (pe_lst (pa_cons (pe_methD0 (k := 1) (pv 0) (hr.mono (by decide))) pa_nil)))), ?_⟩
  obtain ⟨dx, fs, ea, nf⟩ := o.cls
  refine ⟨_, rfl, a, _, _, _, _, _, rfl, ea, nf _ (by decide +kernel), G, a, rfl, o, (by show 1 ≤ sizeLine; decide), fun l hl => q l _ hl ?_⟩
  rw [ht]
  exact .cons (.w _) .nil
theorem sc_pNot : FnScope ["self"] ["self"] (defScope s_Not_pieces) := ⟨rfl, rfl, rfl, by decide +kernel, rfl, by decide +kernel, by decide +kernel⟩
theorem ok_pNot {c : CCs} {t : Tr} (T : MethF K c.no "pieces" "Not.pieces" s_Not_pieces) (F : Fx K c) : MethOk P w K mg base c.no "pieces" 2 ["self"] (spPieces c (.no t)) := by
  refine meth_of T sc_pNot (fun _ _ _ _ _ _ us hl => match us, hl with | [_], _ => rfl) (fun vs H Q E h => ?_) (fun f cdv A outer s H vs Q E hr h => ?_)
  · obtain ⟨a, rfl, o, q⟩ := h
    rfl
  obtain ⟨a, rfl, o, q⟩ := h
  have nd := sc_pNot.nd
  refine ⟨_, (pss_one (ps_ret (pe_lst (pa_cons pe_str (pa_cons (pe_fld (pv 0) rfl) pa_nil))))), ?_⟩
  cases o with
  | no e o => exact ⟨_, rfl, a, _, _, _, _, rfl, e, T.cl, F.nPart, look_part _, (by show 2 ≤ sizeLine; decide), fun l hl => q l _ hl (.cons (.w _) (.cons (.t o) .nil))⟩
theorem sc_pFold : FnScope ["self"] ["self"] (defScope s_Fold_pieces) := ⟨rfl, rfl, rfl, by decide +kernel, rfl, by decide +kernel, by decide +kernel⟩
theorem ok_pFold {c : CCs} {u : W5} {t t' : Tr} (T : MethF K (c.fold u) "pieces" "Fold.pieces" s_Fold_pieces) (F : Fx K c) (G : MethOk P w K mg base (c.fold u) "making_word" 1 ["self"] (spWord c (.fold u t t'))) : MethOk P w K mg base (c.fold u) "pieces" 2 ["self"] (spPieces c (.fold u t t')) := by
  refine meth_of T sc_pFold (fun _ _ _ _ _ _ us hl => match us, hl with | [_], _ => rfl) (fun vs H Q E h => ?_) (fun f cdv A outer s H vs Q E hr h => ?_)
  · obtain ⟨a, rfl, o, q⟩ := h
    rfl
  obtain ⟨a, rfl, o, q⟩ := h
  have nd := sc_pFold.nd
  refine ⟨_, (pss_one (ps_ret (pe_lst (pa_cons pe_str (pa_cons (pe_fld (pv 0) rfl) (pa_cons (pe_methD0 (k := 1) (pv 0) (hr.mono (by decide))) (pa_cons (pe_fld (pv 0) rfl) (pa_cons pe_str pa_nil)))))))), ?_⟩
  cases o with
  | fold e o o' =>
    refine ⟨_, rfl, a, _, _, _, _, rfl, e, T.cl, F.nOne u, look_one _ _, _, rfl, a, _, _, _, _, _, rfl, e, look_none (by decide +kernel) (look_none (by decide +kernel) rfl), G, a, rfl, .fold e o o', ?_⟩
    exact ⟨_, rfl, a, _, _, _, _, rfl, e, T.cl, F.nOther u, look_other _ _, (by show 5 ≤ sizeLine; decide), fun l hl => q l _ hl (.cons (.w _) (.cons (.t o) (.cons (.w _) (.cons (.t o') (.cons (.w _) .nil)))))⟩
end
end Mine

namespace Mine
open PySem L2
abbrev n_common_factor : List Str := ["one", "other", "greater", "lesser", "rest"]
theorem sc_common_factor : FnScope n_common_factor ["one", "other"] (defScope s_common_factor) := ⟨rfl, rfl, rfl, by decide +kernel, rfl, by decide +kernel, by decide +kernel⟩
abbrev n_fraction : List Str := ["top", "bottom", "factor"]
theorem sc_fraction : FnScope n_fraction ["top", "bottom"] (defScope s_fraction) := ⟨rfl, rfl, rfl, by decide +kernel, rfl, by decide +kernel, by decide +kernel⟩
abbrev n_less : List Str := ["one", "other"]
theorem sc_less : FnScope n_less ["one", "other"] (defScope s_less) := ⟨rfl, rfl, rfl, by decide +kernel, rfl, by decide +kernel, by decide +kernel⟩
abbrev n_joined : List Str := ["stretches", "line", "stretch"]
theorem sc_joined : FnScope n_joined ["stretches"] (defScope s_joined) := ⟨rfl, rfl, rfl, by decide +kernel, rfl, by decide +kernel, by decide +kernel⟩
abbrev n_straight : List Str := ["slope", "height"]
theorem sc_straight : FnScope n_straight ["slope", "height"] (defScope s_straight) := ⟨rfl, rfl, rfl, by decide +kernel, rfl, by decide +kernel, by decide +kernel⟩
abbrev n_side_by_side : List Str := ["one", "other", "pieces", "i", "j", "end"]
theorem sc_side_by_side : FnScope n_side_by_side ["one", "other"] (defScope s_side_by_side) := ⟨rfl, rfl, rfl, by decide +kernel, rfl, by decide +kernel, by decide +kernel⟩
abbrev n_added : List Str := ["one", "other", "pieces"]
theorem sc_added : FnScope n_added ["one", "other"] (defScope s_added) := ⟨rfl, rfl, rfl, by decide +kernel, rfl, by decide +kernel, by decide +kernel⟩
abbrev n_turned : List Str := ["line"]
theorem sc_turned : FnScope n_turned ["line"] (defScope s_turned) := ⟨rfl, rfl, rfl, by decide +kernel, rfl, by decide +kernel, by decide +kernel⟩
abbrev n_raised : List Str := ["line", "by"]
theorem sc_raised : FnScope n_raised ["line", "by"] (defScope s_raised) := ⟨rfl, rfl, rfl, by decide +kernel, rfl, by decide +kernel, by decide +kernel⟩
abbrev n_greater_stretches : List Str := ["start", "end", "first", "second", "slope", "height", "at_start", "at_end", "greater_at_start", "greater_at_end", "meeting"]
theorem sc_greater_stretches : FnScope n_greater_stretches ["start", "end", "first", "second"] (defScope s_greater_stretches) := ⟨rfl, rfl, rfl, by decide +kernel, rfl, by decide +kernel, by decide +kernel⟩
abbrev n_greater_line : List Str := ["one", "other", "stretches", "start", "end", "first", "second"]
theorem sc_greater_line : FnScope n_greater_line ["one", "other"] (defScope s_greater_line) := ⟨rfl, rfl, rfl, by decide +kernel, rfl, by decide +kernel, by decide +kernel⟩
abbrev n_lesser_line : List Str := ["one", "other"]
theorem sc_lesser_line : FnScope n_lesser_line ["one", "other"] (defScope s_lesser_line) := ⟨rfl, rfl, rfl, by decide +kernel, rfl, by decide +kernel, by decide +kernel⟩
abbrev n_cut_off : List Str := ["line"]
theorem sc_cut_off : FnScope n_cut_off ["line"] (defScope s_cut_off) := ⟨rfl, rfl, rfl, by decide +kernel, rfl, by decide +kernel, by decide +kernel⟩
abbrev n_leaf_line : List Str := ["word"]
theorem sc_leaf_line : FnScope n_leaf_line ["word"] (defScope s_leaf_line) := ⟨rfl, rfl, rfl, by decide +kernel, rfl, by decide +kernel, by decide +kernel⟩
abbrev n_fold_line : List Str := ["word", "one", "other"]
theorem sc_fold_line : FnScope n_fold_line ["word", "one", "other"] (defScope s_fold_line) := ⟨rfl, rfl, rfl, by decide +kernel, rfl, by decide +kernel, by decide +kernel⟩
abbrev n_row_line : List Str := ["row", "lines"]
theorem sc_row_line : FnScope n_row_line ["row", "lines"] (defScope s_row_line) := ⟨rfl, rfl, rfl, by decide +kernel, rfl, by decide +kernel, by decide +kernel⟩
abbrev n_last_line : List Str := ["rows", "lines", "row"]
theorem sc_last_line : FnScope n_last_line ["rows"] (defScope s_last_line) := ⟨rfl, rfl, rfl, by decide +kernel, rfl, by decide +kernel, by decide +kernel⟩
abbrev n_must_be_without_q : List Str := ["rows"]
theorem sc_must_be_without_q : FnScope n_must_be_without_q ["rows"] (defScope s_must_be_without_q) := ⟨rfl, rfl, rfl, by decide +kernel, rfl, by decide +kernel, by decide +kernel⟩
abbrev n_line_of : List Str := ["saying", "rows"]
theorem sc_line_of : FnScope n_line_of ["saying"] (defScope s_line_of) := ⟨rfl, rfl, rfl, by decide +kernel, rfl, by decide +kernel, by decide +kernel⟩
abbrev n_l_cell_at : List Str := ["_law_script", "_law_k", "_law_cell"]
theorem sc_l_cell_at : FnScope n_l_cell_at ["_law_script", "_law_k"] (defScope s_l_cell_at) := ⟨rfl, rfl, rfl, by decide +kernel, rfl, by decide +kernel, by decide +kernel⟩
abbrev n_l_divisor : List Str := ["_law_a", "_law_b", "_law_rest"]
theorem sc_l_divisor : FnScope n_l_divisor ["_law_a", "_law_b"] (defScope s_l_divisor) := ⟨rfl, rfl, rfl, by decide +kernel, rfl, by decide +kernel, by decide +kernel⟩
abbrev n_l_lowest : List Str := ["_law_top", "_law_bottom", "_law_by"]
theorem sc_l_lowest : FnScope n_l_lowest ["_law_top", "_law_bottom"] (defScope s_l_lowest) := ⟨rfl, rfl, rfl, by decide +kernel, rfl, by decide +kernel, by decide +kernel⟩
abbrev n_l_whole : List Str := ["_law_found"]
theorem sc_l_whole : FnScope n_l_whole ["_law_found"] (defScope s_l_whole) := ⟨rfl, rfl, rfl, by decide +kernel, rfl, by decide +kernel, by decide +kernel⟩
abbrev n_l_is_stretch : List Str := ["_law_one", "_law_end"]
theorem sc_l_is_stretch : FnScope n_l_is_stretch ["_law_one"] (defScope s_l_is_stretch) := ⟨rfl, rfl, rfl, by decide +kernel, rfl, by decide +kernel, by decide +kernel⟩
abbrev n_l_is_line : List Str := ["_law_line", "_law_start", "_law_k", "_law_one", "_law_end", "_law_ahead", "_law_gap"]
theorem sc_l_is_line : FnScope n_l_is_line ["_law_line"] (defScope s_l_is_line) := ⟨rfl, rfl, rfl, by decide +kernel, rfl, by decide +kernel, by decide +kernel⟩
abbrev n_l_height : List Str := ["_law_line", "_law_x", "_law_k"]
theorem sc_l_height : FnScope n_l_height ["_law_line", "_law_x"] (defScope s_l_height) := ⟨rfl, rfl, rfl, by decide +kernel, rfl, by decide +kernel, by decide +kernel⟩
abbrev n_l_spots : List Str := ["_law_lines", "_law_ends", "_law_line", "_law_spots_here", "_law_one", "_law_two", "_law_part", "_law_top"]
theorem sc_l_spots : FnScope n_l_spots ["_law_lines"] (defScope s_l_spots) := ⟨rfl, rfl, rfl, by decide +kernel, rfl, by decide +kernel, by decide +kernel⟩
abbrev n_l_rising : List Str := ["_law_ends", "_law_found", "_law_end", "_law_at"]
theorem sc_l_rising : FnScope n_l_rising ["_law_ends"] (defScope s_l_rising) := ⟨rfl, rfl, rfl, by decide +kernel, rfl, by decide +kernel, by decide +kernel⟩
abbrev n_l_tree : List Str := ["_law_script", "_law_first", "_law_last", "_law_most", "_law_stack", "_law_k", "_law_cell", "_law_kind", "_law_one", "_law_other", "_law_word"]
theorem sc_l_tree : FnScope n_l_tree ["_law_script", "_law_first", "_law_last", "_law_most"] (defScope s_l_tree) := ⟨rfl, rfl, rfl, by decide +kernel, rfl, by decide +kernel, by decide +kernel⟩
abbrev n_l_made : List Str := ["_law_tree_here"]
theorem sc_l_made : FnScope n_l_made ["_law_tree_here"] (defScope s_l_made) := ⟨rfl, rfl, rfl, by decide +kernel, rfl, by decide +kernel, by decide +kernel⟩
abbrev n_l_folded : List Str := ["_law_word", "_law_n", "_law_a", "_law_b"]
theorem sc_l_folded : FnScope n_l_folded ["_law_word", "_law_n", "_law_a", "_law_b"] (defScope s_l_folded) := ⟨rfl, rfl, rfl, by decide +kernel, rfl, by decide +kernel, by decide +kernel⟩
abbrev n_l_as : List Str := ["_law_found", "_law_one", "_law_other", "_law_word", "_law_x", "_law_due"]
theorem sc_l_as : FnScope n_l_as ["_law_found", "_law_one", "_law_other", "_law_word"] (defScope s_l_as) := ⟨rfl, rfl, rfl, by decide +kernel, rfl, by decide +kernel, by decide +kernel⟩
end Mine




set_option Elab.async false
set_option linter.all false
set_option maxRecDepth 100000
set_option maxHeartbeats 4000000
namespace Mine
open PySem L2
local macro_rules | `(tactic| walk_at "mul") => `(tactic| first | exact mulS (by assumption) (by assumption) | exact mulS (by first | assumption | exact sm_of (by omega) | exact sm_of (by decide) | exact sm_mod (by decide) (by decide)) (by first | assumption | exact sm_of (by omega) | exact sm_of (by decide) | exact sm_mod (by decide) (by decide)))
local macro_rules | `(tactic| walk_at "rd1") => `(tactic| first
  | refine ⟨_, rfl, ?_⟩
  | refine ⟨_, _, rfl, rfl, ?_⟩
  | (refine' ⟨_, _, _, _, rfl, rfl, ?sq, ?ia, ?k⟩; (case' sq => first | assumption | exact Scr.l (by assumption)); (case' ia => rfl))
  | refine ⟨rfl, ?_⟩
  | (refine ⟨?m, ?_⟩; (case' m => walk_at "mul"))
  | (refine ⟨?m, ?_⟩; (case' m => show (0 : Int) < _; decide))
  | (refine ⟨?m, ?_⟩; (case' m => exact ⟨by decide, by decide⟩))
  | (refine ⟨?m, ?_⟩; (case' m => exact ⟨by decide, by decide, by decide⟩)))
local macro_rules | `(tactic| walk_at "rd") => `(tactic| repeat walk_at "rd1")
/-! ### what the defs promise -/
def spFactor : Sp := fun vs H Q _ => ∃ a b : Int, vs = [.int a, .int b] ∧ Q (.int (Lo.gc a b)) H
def spLow : Sp := fun vs H Q _ => ∃ t b : Int, vs = [.int t, .int b] ∧ b ≠ 0 ∧ Sm b ∧ ∀ a H', Same H H' → H' a = some (.tup [.int (Lo.lowT t b), .int (Lo.lowB t b)]) → Q (.ref a) H'
def spLess (K : PySem.W.Frag) : Sp := fun vs H Q _ => ∃ (x y : V) (p q r s : Int), vs = [x, y] ∧ Dat K H (frD p q) x ∧ Dat K H (frD r s) y ∧ Sm p ∧ Sm q ∧ Sm r ∧ Sm s ∧ Q (.bl (decide (p * s < r * q))) H
def spCell (K : PySem.W.Frag) : Sp := fun vs H Q _ => ∃ (a : Addr) (ns : List Int) (k : Int), vs = [.ref a, .int k] ∧ Scr K H a ns ∧ 0 ≤ k ∧ k ≤ 100 ∧ ∀ v : Int, 0 ≤ v → v < 10 ^ 18 → Q (.int v) H
section
variable {P : Program} {w : World} {K : PySem.W.Frag} {mg : Str → Option Value} {base : Heap}
theorem ok_factor (T : TopDef K mg "common_factor" s_common_factor) (Z_abs : mg "abs" = none) : Def P w K mg base 1 "common_factor" ["one", "other"] spFactor := by
  refine def_of T sc_common_factor (fun _ _ _ _ _ _ us hl => match us, hl with | [_, _], _ => rfl) (fun vs H Q E h => ?_) (fun f cdv A outer s H vs Q E hr h => ?_)
  · obtain ⟨a, b, rfl, _⟩ := h
    rfl
  obtain ⟨a, b, rfl, q⟩ := h
  have nd := sc_common_factor.nd
  refine ⟨_, (pss_cons (ps_set (i := 2) nd rfl (Or.inl rfl) (pe_callB call_abs rfl Z_abs (by decide +kernel) (pa_cons (pv 0) pa_nil)))
    (pss_cons (ps_set (i := 3) nd rfl (Or.inl rfl) (pe_callB call_abs rfl Z_abs (by decide +kernel) (pa_cons (pv 1) pa_nil)))
    (pss_cons (ps_while PassesOwn.never (pt_cmpR op_ne (pv 3) pe_int (nomark _)) (pss_cons (ps_set (i := 4) nd rfl (Or.inl rfl) (pe_op op_modN (pv 2) (pv 3)))
    (pss_cons (ps_set (i := 2) nd rfl (Or.inl rfl) (pv 3))
    (pss_one (ps_set (i := 3) nd rfl (Or.inl rfl) (pv 4))))))
    (pss_one (ps_ret (pv 2)))))), ?_⟩
  refine ⟨_, rfl, _, rfl, _, rfl, _, rfl, ?_⟩
  rw [abs_is, abs_is]
  refine ⟨fun m σ H' => H' = H ∧ ∃ (g l : Int) (o : Option V), σ = [some (.int a), some (.int b), some (.int g), some (.int l), o] ∧ 0 ≤ g ∧ 0 ≤ l ∧ l.toNat = m ∧ Lo.gc g l = Lo.gc a b, ⟨_, rfl, _, _, _, rfl, by omega, by omega, rfl, Lo.gc_natAbs a b⟩, ?_⟩
  rintro m σ H' ⟨rfl, g, l, o, rfl, hg, hl, rfl, e⟩
  refine ⟨_, rfl, rfl, _, rfl, ?_⟩
  refine ite2 (fun c => ?_) (fun c => ?_)
  · have c' : l ≠ 0 := fun z => by
      rw [z, decide_eq_true (rfl : V.int 0 = V.int 0)] at c
      cases c
    have c2 : 0 < l := by omega
    refine ⟨fun σ' H'' => H'' = H' ∧ σ' = [some (.int a), some (.int b), some (.int l), some (.int (g.fmod l)), some (.int (g.fmod l))], ?_, ?_⟩
    · rintro σ' H'' ⟨rfl, rfl⟩
      have z0 := Int.fmod_nonneg_of_pos g c2
      have z1 := Int.fmod_lt_of_pos g c2
      exact ⟨_, (show (g.fmod l).toNat < l.toNat by omega), rfl, l, g.fmod l, _, rfl, by omega, z0, rfl, by rw [Lo.gc_turn]; exact e⟩
    · exact ⟨_, rfl, _, rfl, _, _, rfl, rfl, c', _, rfl, _, rfl, rfl, rfl⟩
  · have l0 : l = 0 := by
      by_cases z : l = 0
      · exact z
      · exfalso
        refine c ?_
        have n : ¬ (V.int l = V.int 0) := fun q => z (V.int.inj q)
        rw [decide_eq_false n]
        rfl
    subst l0
    rw [Lo.gc_zero hg] at e
    subst e
    exact ⟨_, rfl, q⟩
theorem ok_fraction (T : TopDef K mg "fraction" s_fraction) (D_common_factor : Def P w K mg base 1 "common_factor" ["one", "other"] spFactor) : Def P w K mg base 2 "fraction" ["top", "bottom"] spLow := by
  refine def_of T sc_fraction (fun _ _ _ _ _ _ us hl => match us, hl with | [_, _], _ => rfl) (fun vs H Q E h => ?_) (fun f cdv A outer s H vs Q E hr h => ?_)
  · obtain ⟨t, b, rfl, _⟩ := h
    rfl
  obtain ⟨t, b, rfl, hb, hs, q⟩ := h
  have nd := sc_fraction.nd
  refine ⟨_, (pss_cons (ps_if (pt_cmpR op_eq (pv 1) pe_int (nomark _)) (pss_one ps_never) pss_nil)
    (pss_cons (ps_set (i := 2) nd rfl (Or.inl rfl) (pe_def D_common_factor (hr.mono (by decide)) rfl (pa_cons (pv 0) (pa_cons (pv 1) pa_nil))))
    (pss_cons (ps_if (pt_cmpR op_lt (pv 1) pe_int (nomark _)) (pss_one (ps_set (i := 2) nd rfl (Or.inl rfl) (pe_un un_neg (pv 2)))) pss_nil)
    (pss_one (ps_ret (pe_tup (pa_cons (pe_op op_fdivK (pv 0) (pv 2)) (pa_cons (pe_op op_fdivK (pv 1) (pv 2)) pa_nil)))))))), ?_⟩
  refine ⟨_, rfl, rfl, _, rfl, ?_⟩
  refine ite2 (fun c => absurd (V.int.inj (of_decide_eq_true c)) hb) (fun c => ?_)
  have hg2 : Sm (Lo.sg t b) := Nat.lt_of_le_of_lt (Lo.sg_le hb) hs
  refine ⟨_, rfl, _, rfl, t, b, rfl, ?_⟩
  refine ⟨_, rfl, _, _, rfl, rfl, _, rfl, ?_⟩
  refine ite2 (fun c => ?_) (fun c => ?_)
  · have c2 : b < 0 := of_decide_eq_true c
    have es : -(Lo.gc t b) = Lo.sg t b := by unfold Lo.sg; rw [if_pos c2]
    refine ⟨_, rfl, _, rfl, _, rfl, _, rfl, _, _, rfl, rfl, (by rw [es]; exact div_ok (Lo.sg_ne hb) hg2), _, rfl, _, rfl, _, _, rfl, rfl, (by rw [es]; exact div_ok (Lo.sg_ne hb) hg2), (by show 2 ≤ sizeLine; decide), fun p hp => ?_⟩
    rw [es]
    exact q p _ (same_new hp _) upd_same
  · have c2 : ¬ b < 0 := fun z => c (decide_eq_true z)
    have es : Lo.gc t b = Lo.sg t b := by unfold Lo.sg; rw [if_neg c2]
    refine ⟨_, rfl, _, rfl, _, _, rfl, rfl, (by rw [es]; exact div_ok (Lo.sg_ne hb) hg2), _, rfl, _, rfl, _, _, rfl, rfl, (by rw [es]; exact div_ok (Lo.sg_ne hb) hg2), (by show 2 ≤ sizeLine; decide), fun p hp => ?_⟩
    rw [es]
    exact q p _ (same_new hp _) upd_same
theorem ok_less (T : TopDef K mg "less" s_less) : Def P w K mg base 1 "less" ["one", "other"] (spLess K) := by
  refine def_of T sc_less (fun _ _ _ _ _ _ us hl => match us, hl with | [_, _], _ => rfl) (fun vs H Q E h => ?_) (fun f cdv A outer s H vs Q E hr h => ?_)
  · obtain ⟨x, y, p, q, r, s, rfl, _⟩ := h
    rfl
  obtain ⟨x, y, p, q, r, s, rfl, hx, hy, b1, b2, b3, b4, k⟩ := h
  obtain ⟨a, rfl, sa⟩ := fr_el hx
  obtain ⟨c, rfl, sc⟩ := fr_el hy
  have nd := sc_less.nd
  refine ⟨_, (pss_one (ps_ret (pe_cmpR op_lt (pe_op op_mulK (pe_ix ix_tup (pv 0) pe_int (fun _ _ => rfl)) (pe_ix ix_tup (pv 1) pe_int (fun _ _ => rfl))) (pe_op op_mulK (pe_ix ix_tup (pv 1) pe_int (fun _ _ => rfl)) (pe_ix ix_tup (pv 0) pe_int (fun _ _ => rfl))) (nomark _)))), ?_⟩
  walk_at "rd"
  exact k
theorem ok_cell_at (T : TopDef K mg "_law_cell_at" s_l_cell_at) (Z_len : mg "len" = none) : Def P w K mg base 1 "_law_cell_at" ["_law_script", "_law_k"] (spCell K) := by
  refine def_of T sc_l_cell_at (fun _ _ _ _ _ _ us hl => match us, hl with | [_, _], _ => rfl) (fun vs H Q E h => ?_) (fun f cdv A outer s H vs Q E hr h => ?_)
  · obtain ⟨a, ns, k, rfl, _⟩ := h
    rfl
  obtain ⟨a, ns, k, rfl, S, h0, h1, q⟩ := h
  have nd := sc_l_cell_at.nd
  have hl : (ns.map V.int).length = ns.length := List.length_map _
  have tail : ∃ t, PSs (cxOf CX0 P w K mg base n_l_cell_at "_law_cell_at" (defScope s_l_cell_at) f cdv A outer s H E).nox ((defBody s_l_cell_at).drop 2) t ∧
      ∀ v : Int, 0 ≤ v → v < 10 ^ 18 → t { nx := fun _ H' => Q .non H', rt := Q } [some (.ref a), some (.int k), some (.int v)] H := by
    refine ⟨_, (pss_cons (ps_if (PW.pt (pw_and (pt_cmpR op_gt (pe_callB call_len rfl Z_len (by decide +kernel) (pa_cons (pv 0) pa_nil)) pe_int (nomark _)) (pw_and1 (pt_cmpR op_eq (pe_op op_mod (pe_ix ix_list (pv 0) pe_int (fun _ _ => rfl)) pe_int) pe_int (nomark _))))) (pss_one (ps_ret (pv 2))) pss_nil)
    (pss_one (ps_ret (pe_op op_mod (pe_op op_mulK (pe_op op_mod (pe_op op_add (pe_op op_mulK (pv 2) pe_int) (pe_op op_mulK pe_int (pv 1))) pe_int) pe_int) pe_int)))), fun v v0 v1 => ?_⟩
    have fin : ∀ x : Int, Q (.int (x % 2147483629)) H := fun x => q _ (Int.emod_nonneg _ (by decide)) (Int.lt_trans (Int.emod_lt_of_pos x (by decide)) (by decide))
    have sv : Sm v := sm_of (by omega)
    have sk : Sm k := sm_of (by omega)
    refine ⟨_, rfl, _, _, rfl, .inl ⟨_, S.l, rfl⟩, ?_⟩
    walk_at "rd"
    refine ite2 (fun c => ?_) (fun c => iteF ?_)
    · have c' : (0 : Int) < ((ns.map V.int).length : Nat) := of_decide_eq_true c
      rw [hl] at c'
      obtain ⟨u, hu, mu⟩ := at_script (ns := ns) (Int.le_refl 0) c'
      refine ⟨_, rfl, _, _, _, _, rfl, rfl, S.l, hu, _, _, rfl, rfl, (show (0 : Int) < _ by decide), rfl, _, rfl, ?_⟩
      refine ite2 (fun c2 => ⟨_, rfl, q v v0 v1⟩) (fun c2 => ?_)
      walk_at "rd"
      exact fin _
    · walk_at "rd"
      exact fin _
  obtain ⟨t2, ht2, hq2⟩ := tail
  refine ⟨_, pss_cons (ps_set (i := 2) nd rfl (Or.inl rfl) pe_int) (pss_cons (ps_if (pt_cmpR op_lt (pv 1) (pe_callB call_len rfl Z_len (by decide +kernel) (pa_cons (pv 0) pa_nil)) (nomark _)) (pss_one (ps_set (i := 2) nd rfl (Or.inl rfl) (pe_op op_mod (pe_ix ix_list (pv 0) (pv 1) (fun _ _ => rfl)) (pe_op op_pow pe_int pe_int)))) pss_nil) ht2), ?_⟩
  refine ⟨_, rfl, _, rfl, _, _, rfl, .inl ⟨_, S.l, rfl⟩, _, _, rfl, rfl, _, rfl, ?_⟩
  refine ite2 (fun c => ?_) (fun c => ?_)
  · have c' : k < (((ns.map V.int).length : Nat) : Int) := of_decide_eq_true c
    rw [hl] at c'
    obtain ⟨u, hu, mu⟩ := at_script (ns := ns) h0 c'
    refine ⟨_, rfl, _, rfl, _, _, _, _, rfl, rfl, S.l, hu, _, _, rfl, rfl, ⟨by decide, by decide, by decide⟩, _, _, rfl, rfl, (show (0 : Int) < _ by decide), ?_⟩
    exact hq2 _ (Int.emod_nonneg _ (by decide)) (Int.emod_lt_of_pos _ (by decide))
  · exact hq2 0 (by decide) (by decide)
theorem ok_divisor (T : TopDef K mg "_law_divisor" s_l_divisor) (Z_abs : mg "abs" = none) : Def P w K mg base 1 "_law_divisor" ["_law_a", "_law_b"] spFactor := by
  refine def_of T sc_l_divisor (fun _ _ _ _ _ _ us hl => match us, hl with | [_, _], _ => rfl) (fun vs H Q E h => ?_) (fun f cdv A outer s H vs Q E hr h => ?_)
  · obtain ⟨a, b, rfl, _⟩ := h
    rfl
  obtain ⟨a, b, rfl, q⟩ := h
  have nd := sc_l_divisor.nd
  refine ⟨_, (pss_cons (ps_set (i := 0) nd rfl (Or.inl rfl) (pe_callB call_abs rfl Z_abs (by decide +kernel) (pa_cons (pv 0) pa_nil)))
    (pss_cons (ps_set (i := 1) nd rfl (Or.inl rfl) (pe_callB call_abs rfl Z_abs (by decide +kernel) (pa_cons (pv 1) pa_nil)))
    (pss_cons (ps_while PassesOwn.never (pt_cmpR op_gt (pv 1) pe_int (nomark _)) (pss_cons (ps_set (i := 2) nd rfl (Or.inl rfl) (pe_op op_modN (pv 0) (pv 1)))
    (pss_cons (ps_set (i := 0) nd rfl (Or.inl rfl) (pv 1))
    (pss_one (ps_set (i := 1) nd rfl (Or.inl rfl) (pv 2))))))
    (pss_one (ps_ret (pv 0)))))), ?_⟩
  refine ⟨_, rfl, _, rfl, _, rfl, _, rfl, ?_⟩
  rw [abs_is, abs_is]
  refine ⟨fun m σ H' => H' = H ∧ ∃ (g l : Int) (o : Option V), σ = [some (.int g), some (.int l), o] ∧ 0 ≤ g ∧ 0 ≤ l ∧ l.toNat = m ∧ Lo.gc g l = Lo.gc a b, ⟨_, rfl, _, _, _, rfl, by omega, by omega, rfl, Lo.gc_natAbs a b⟩, ?_⟩
  rintro m σ H' ⟨rfl, g, l, o, rfl, hg, hl, rfl, e⟩
  refine ⟨_, rfl, _, _, rfl, rfl, _, rfl, ?_⟩
  refine ite2 (fun c => ?_) (fun c => ?_)
  · have c2 : 0 < l := of_decide_eq_true c
    refine ⟨fun σ' H'' => H'' = H' ∧ σ' = [some (.int l), some (.int (g.fmod l)), some (.int (g.fmod l))], ?_, ?_⟩
    · rintro σ' H'' ⟨rfl, rfl⟩
      have z0 := Int.fmod_nonneg_of_pos g c2
      have z1 := Int.fmod_lt_of_pos g c2
      exact ⟨_, (show (g.fmod l).toNat < l.toNat by omega), rfl, l, g.fmod l, _, rfl, by omega, z0, rfl, by rw [Lo.gc_turn]; exact e⟩
    · exact ⟨_, rfl, _, rfl, _, _, rfl, rfl, (by omega), _, rfl, _, rfl, rfl, rfl⟩
  · have c2 : ¬ 0 < l := fun z => c (decide_eq_true z)
    have l0 : l = 0 := by omega
    subst l0
    rw [Lo.gc_zero hg] at e
    subst e
    exact ⟨_, rfl, q⟩
end
end Mine




set_option Elab.async false
set_option linter.all false
set_option maxRecDepth 100000
set_option maxHeartbeats 4000000
namespace Mine
open PySem L2
local macro_rules | `(tactic| walk_at "mul") => `(tactic| first | exact mulS (by assumption) (by assumption) | exact mulS (by first | assumption | exact sm_of (by omega) | exact sm_of (by decide) | exact sm_mod (by decide) (by decide)) (by first | assumption | exact sm_of (by omega) | exact sm_of (by decide) | exact sm_mod (by decide) (by decide)))
local macro_rules | `(tactic| walk_at "rd1") => `(tactic| first
  | refine ⟨_, rfl, ?_⟩
  | refine ⟨_, _, rfl, rfl, ?_⟩
  | (refine' ⟨_, _, _, _, rfl, rfl, ?sq, ?ia, ?k⟩; (case' sq => first | assumption | exact Scr.l (by assumption)); (case' ia => first | rfl | assumption))
  | refine ⟨rfl, ?_⟩
  | (refine ⟨?m, ?_⟩; (case' m => walk_at "mul"))
  | (refine ⟨?m, ?_⟩; (case' m => exact div_ok (by first | assumption | omega) (by assumption)))
  | (refine ⟨?m, ?_⟩; (case' m => show (0 : Int) < _; decide))
  | (refine ⟨?m, ?_⟩; (case' m => exact ⟨by decide, by decide⟩))
  | (refine ⟨?m, ?_⟩; (case' m => exact ⟨by decide, by decide, by decide⟩)))
local macro_rules | `(tactic| walk_at "rd") => `(tactic| repeat walk_at "rd1")

theorem stb_sm {s : St4} (h : Ln.OkB 45 s) : Sm s.p ∧ Sm s.q ∧ Sm s.m ∧ Sm s.h ∧ 0 < s.q := by
  obtain ⟨h1, h2, h3, h4, h5, h6⟩ := h
  exact ⟨sm_of (by omega), sm_of (by omega), sm_of (by omega), sm_of (by omega), by omega⟩
/-- a list of stretches -/
def LnL (K : PySem.W.Frag) (H : Hp) (M : List St4) (v : V) : Prop := ∃ l us, v = .ref l ∧ SqL K H l us ∧ DatAll K H (M.map stD) us
def spJoined (K : PySem.W.Frag) : Sp := fun vs H Q _ => ∃ (x : V) (M : List St4), vs = [x] ∧ LnL K H M x ∧ M.length ≤ 9000 ∧ ∀ v H', Same H H' → Dat K H' (lnD (Ln.jn M)) v → Q v H'
theorem at_last {xs : List V} {x : V} (h : xs.getLast? = some x) : atI xs (-1) = some x := by
  rw [List.getLast?_eq_getElem?] at h
  have hl := (List.getElem?_eq_some_iff.mp h).1
  have e : ixN xs.length (-1) = some (xs.length - 1) := by
    unfold ixN
    rw [if_neg (by decide), if_pos (by omega)]
    congr 1
    omega
  show (ixN xs.length (-1)).bind (fun j => xs[j]?) = some x
  rw [e]
  exact h
theorem cut1_ne (e m h : V) : ¬ (HT.sIx ([e, m, h] : List V).length 0 (some 1) = 0 ∧ HT.sIx ([e, m, h] : List V).length ([e, m, h] : List V).length none = ([e, m, h] : List V).length) := by
  rintro ⟨z, _⟩
  exact absurd (show (1 : Nat) = 0 from z) (by decide)
theorem jn_len : ∀ (M : List St4) (A : List St4), (M.foldl Ln.jnStep A).length ≤ A.length + M.length
  | [], A => by simp
  | s :: r, A => by
    have h := jn_len r (Ln.jnStep A s)
    have h2 : (Ln.jnStep A s).length ≤ A.length + 1 := by
      unfold Ln.jnStep
      split
      · split
        · simp <;> omega
        · simp
      · simp
    simp only [List.foldl_cons, List.length_cons]
    omega
theorem DatAll.take {K : PySem.W.Frag} {H : Hp} : ∀ {ds : List PyData} {xs : List V} (n : Nat), DatAll K H ds xs → DatAll K H (ds.take n) (xs.take n)
  | _, _, 0, _ => rfl
  | [], _, _ + 1, h => by cases (show _ = ([] : List V) from h); rfl
  | _ :: _, _, n + 1, ⟨x, r, h1, h2, h3⟩ => by subst h1; exact ⟨x, _, rfl, h2, DatAll.take n h3⟩
section
variable {P : Program} {w : World} {K : PySem.W.Frag} {mg : Str → Option Value} {base : Heap}
theorem ok_joined (T : TopDef K mg "joined" s_joined) (Z_tuple : mg "tuple" = none) : Def P w K mg base 1 "joined" ["stretches"] (spJoined K) := by
  refine def_of T sc_joined (fun _ _ _ _ _ _ us hl => match us, hl with | [_], _ => rfl) (fun vs H Q E h => ?_) (fun f cdv A outer s H vs Q E hr h => ?_)
  · obtain ⟨x, M, rfl, _⟩ := h
    rfl
  obtain ⟨x, M, rfl, ⟨l, us, rfl, sl, da⟩, few, k⟩ := h
  have nd := sc_joined.nd
  have hu := hr.units
  have lus := ln_len da
  refine ⟨_, (pss_cons (ps_set (i := 1) nd rfl (Or.inl rfl) (pe_lst pa_nil))
    (pss_cons (ps_for PassesOwn.never rfl (pi_list (pv 0)) (pg_name (i := 2) nd rfl (Or.inl rfl)) (pss_cons (ps_if (PW.pt (pw_and (pt_cmpR (op_neD hu) (pv 1) (pe_lst pa_nil) (nomark _)) (pw_and1 (pt_cmpR (op_eqD hu) (pe_slice sl_tup (pe_ix ix_list (pv 1) (pe_un un_neg pe_int) (fun _ _ => rfl)) (po_some pe_int) po_none) (pe_slice sl_tup (pv 2) (po_some pe_int) po_none) (nomark _))))) (pss_one (ps_expr (pe_bm0 PySem.F.plainAttrs_list PySem.F.slot_list_pop PySem.F.type_list_pop mt_pop (pv 1)))) pss_nil)
    (pss_one (ps_expr (pe_bm PySem.F.plainAttrs_list PySem.F.slot_list_append PySem.F.type_list_append mt_append (pv 1) (pa_cons (pv 2) pa_nil))))))
    (pss_one (ps_ret (pe_callTy call_tuple_of rfl Z_tuple (by decide +kernel) (pa_cons (pv 1) pa_nil)))))), ?_⟩
  refine ⟨(by show 0 ≤ sizeLine; decide), fun b hb => ?_⟩
  have u0 := same_new hb (.lst [])
  refine ⟨_, rfl, l, rfl, ⟨us, u0.seq sl⟩, ?_⟩
  refine for_list (xs := us) (fun i σ H' => Same H H' ∧ ∃ xs o2, σ = [some (.ref l), some (.ref b), o2] ∧ H' b = some (.lst xs) ∧ DatAll K H' ((Ln.jn (M.take i)).map stD) xs) ⟨u0, [], _, rfl, upd_same, rfl⟩ (fun i σ H' _ h => h.1.seq sl) (fun i x σ H' hx h => ?_) (fun σ H' h => ?_)
  · obtain ⟨sm, xs, o2, rfl, hbx, dx⟩ := h
    obtain ⟨st, hst, dst⟩ := ln_at' (da.ts sm.ts) hx
    have hi := (List.getElem?_eq_some_iff.mp hst).1
    have tk : Ln.jn (M.take (i + 1)) = Ln.jnStep (Ln.jn (M.take i)) st := by
      rw [List.take_add_one, hst]
      exact Ln.jn_snoc _ _
    have lx : xs.length ≤ 9000 := by
      rw [ln_len dx]
      have := jn_len (M.take i) []
      rw [List.length_take] at this
      show (Ln.jn (M.take i)).length ≤ 9000
      unfold Ln.jn
      simp at this
      omega
    rw [tk]
    refine ⟨_, rfl, (by show 0 ≤ sizeLine; decide), fun e he => ?_⟩
    have u1 := same_new he (.lst [])
    refine ⟨_, _, .inr ⟨(Ln.jn (M.take i)).map stD, b, xs, rfl, rfl, SqL.of (u1 _ _ hbx), dx.ts u1.ts⟩, .inr ⟨[], e, [], rfl, rfl, SqL.of upd_same, rfl⟩, lnl_shaped _, by decide, _, rfl, ?_⟩
    have eqn : PyData.eqv (.list ((Ln.jn (M.take i)).map stD)) (.list []) = decide (Ln.jn (M.take i) = []) := by
      simp only [PyData.eqv]
      exact eqv_map st_eqv _ []
    rw [eqn]
    -- the append behind both ways
    have app : ∀ (ys : List V) (B : List St4) (H2 : Hp), Same H H2 → Tst H' H2 → H2 b = some (.lst ys) → ys.length ≤ 9000 → DatAll K H2 (B.map stD) ys → B ++ [st] = Ln.jnStep (Ln.jn (M.take i)) st →
        (Same H (upd H2 b (.lst (ys ++ [x]))) ∧ ∃ xs o2, [some (V.ref l), some (V.ref b), some x] = [some (.ref l), some (.ref b), o2] ∧ upd H2 b (.lst (ys ++ [x])) b = some (.lst xs) ∧ DatAll K (upd H2 b (.lst (ys ++ [x]))) ((Ln.jnStep (Ln.jn (M.take i)) st).map stD) xs) := by
      intro ys B H2 s2 tH hy hl2 dy eB
      refine ⟨same_mut s2 hb _, ys ++ [x], _, rfl, upd_same, ?_⟩
      rw [← eB, List.map_append]
      have t2 : Tst H2 (upd H2 b (.lst (ys ++ [x]))) := ts_mut hy
      exact (dy.ts t2).snoc (dst.ts (tH.trans t2))
    by_cases hA : Ln.jn (M.take i) = []
    · rw [decide_eq_true hA]
      refine iteF (iteF ?_)
      have hb1 := u1 _ _ hbx
      refine ⟨_, rfl, .inl ⟨rfl, _, SqL.of hb1⟩, _, rfl, b, xs, _, rfl, rfl, hb1, small9000 lx, ?_⟩
      refine app xs (Ln.jn (M.take i)) _ (sm.trans u1) u1.ts hb1 lx (dx.ts u1.ts) ?_
      rw [Ln.jnStep_new (fun t ht => by rw [hA] at ht; cases ht)]
    · rw [decide_eq_false hA]
      refine iteT ?_
      have hb1 := u1 _ _ hbx
      have hlast : ∃ t, (Ln.jn (M.take i)).getLast? = some t := by
        cases z : (Ln.jn (M.take i)).getLast? with
        | none => exact absurd (List.getLast?_eq_none_iff.mp z) hA
        | some t => exact ⟨t, rfl⟩
      obtain ⟨t, ht⟩ := hlast
      obtain ⟨lp, ht'⟩ := Ln.last_at ht
      obtain ⟨y, hy, dy⟩ := ln_at dx ht'
      have hy2 : xs.getLast? = some y := by rw [List.getLast?_eq_getElem?, ln_len dx]; exact hy
      obtain ⟨c1, f1, rfl, q1, _⟩ := st_el (dy.ts u1.ts)
      obtain ⟨c2, f2, rfl, q2, _⟩ := st_el (dst.ts u1.ts)
      refine ⟨_, rfl, _, rfl, _, _, _, _, rfl, rfl, SqL.of hb1, at_last hy2, _, rfl, c1, _, rfl, q1, cut1_ne _ _ _, fun p3 h3 => ?_⟩
      have u3 := same_new h3 (.tup (cutV [f1, .int t.m, .int t.h] (some 1) none))
      refine ⟨_, rfl, _, rfl, c2, _, rfl, q2.ts u3.ts, cut1_ne _ _ _, fun p4 h4 => ?_⟩
      have u4 := same_new h4 (.tup (cutV [f2, .int st.m, .int st.h] (some 1) none))
      refine ⟨_, _, .inl (fr_mk (p := t.m) (q := t.h) (SqT.of (u4 _ _ upd_same))), .inl (fr_mk (p := st.m) (q := st.h) (SqT.of upd_same)), fr_shaped _ _, fr_shaped _ _, _, rfl, ?_⟩
      rw [fr_eqv]
      have ua := u1.trans (u3.trans u4)
      have hb4 := ua _ _ hbx
      have stepE : Ln.jnStep (Ln.jn (M.take i)) st = if t.m = st.m ∧ t.h = st.h then (Ln.jn (M.take i)).dropLast ++ [st] else Ln.jn (M.take i) ++ [st] := by
        show (match (Ln.jn (M.take i)).getLast? with | some t => if t.m = st.m ∧ t.h = st.h then (Ln.jn (M.take i)).dropLast ++ [st] else Ln.jn (M.take i) ++ [st] | none => _) = _
        rw [ht]
      by_cases same : t.m = st.m ∧ t.h = st.h
      · rw [decide_eq_true same]
        refine iteT ?_
        have lpx : 0 < xs.length := by rw [ln_len dx]; exact lp
        refine ⟨_, rfl, .inl ⟨rfl, _, SqL.of hb4⟩, b, xs, _, rfl, rfl, hb4, List.getElem?_eq_getElem (by omega), ?_⟩
        have t5 : Tst (upd (upd (upd H' e (.lst [])) p3 (.tup (cutV [f1, .int t.m, .int t.h] (some 1) none))) p4 (.tup (cutV [f2, .int st.m, .int st.h] (some 1) none))) (upd (upd (upd (upd H' e (.lst [])) p3 (.tup (cutV [f1, .int t.m, .int t.h] (some 1) none))) p4 (.tup (cutV [f2, .int st.m, .int st.h] (some 1) none))) b (.lst xs.dropLast)) := ts_mut hb4
        refine ⟨_, rfl, .inl ⟨rfl, _, SqL.of upd_same⟩, _, rfl, b, xs.dropLast, _, rfl, rfl, upd_same, small9000 (by rw [List.length_dropLast]; omega), ?_⟩
        refine app xs.dropLast (Ln.jn (M.take i)).dropLast _ (same_mut (sm.trans ua) hb _) (ua.ts.trans t5) upd_same (by rw [List.length_dropLast]; omega) ?_ (by rw [stepE, if_pos same])
        have dd := Mine.DatAll.take (xs.length - 1) ((dx.ts ua.ts).ts t5)
        have e1 : ((Ln.jn (M.take i)).map stD).take (xs.length - 1) = ((Ln.jn (M.take i)).dropLast).map stD := by rw [List.dropLast_eq_take, List.map_take, ln_len dx]
        rw [e1, ← List.dropLast_eq_take] at dd
        exact dd
      · rw [decide_eq_false same]
        refine iteF ?_
        refine ⟨_, rfl, .inl ⟨rfl, _, SqL.of hb4⟩, _, rfl, b, xs, _, rfl, rfl, hb4, small9000 lx, ?_⟩
        exact app xs (Ln.jn (M.take i)) _ (sm.trans ua) ua.ts hb4 lx (dx.ts ua.ts) (by rw [stepE, if_neg same])
  · obtain ⟨sm, xs, o2, rfl, hbx, dx⟩ := h
    refine ⟨_, rfl, b, xs, rfl, .inl ⟨SqL.of hbx, fun t ht => ?_⟩⟩
    have u1 := same_new ht (.tup xs)
    rw [lus, List.take_length] at dx
    exact k _ _ (sm.trans u1) ⟨t, xs, rfl, SqT.of upd_same, dx.ts u1.ts⟩
end
def spHt (K : PySem.W.Frag) : Sp := fun vs H Q _ => ∃ (x y : V) (L : List St4) (p q : Int), vs = [x, y] ∧ Dat K H (lnD L) x ∧ Ln.LineK L ∧ Dat K H (frD p q) y ∧ 0 < q ∧ p ≤ q ∧ Sm p ∧ Sm q ∧ ∀ s, Ln.pk L p q = some s → ∀ v H', Same H H' → Dat K H' (frD (s.m * p + s.h * q) q) v → Q v H'
def spWhole : Sp := fun vs H Q _ => ∃ i : Int, vs = [.int i] ∧ Q (.bl true) H
def spIsStretch (K : PySem.W.Frag) : Sp := fun vs H Q _ => ∃ (x : V) (s : St4), vs = [x] ∧ Dat K H (stD s) x ∧ Ln.OkB 45 s ∧ Q (.bl true) H
def spIsLine (K : PySem.W.Frag) : Sp := fun vs H Q _ => ∃ (x : V) (L : List St4), vs = [x] ∧ Dat K H (lnD L) x ∧ Ln.LineK L ∧ ∀ H', Same H H' → Q (.bl true) H'
section
variable {P : Program} {w : World} {K : PySem.W.Frag} {mg : Str → Option Value} {base : Heap}
theorem ok_whole (T : TopDef K mg "_law_whole" s_l_whole) (Z_isinstance : mg "isinstance" = none) (Z_int : mg "int" = none) (Z_bool : mg "bool" = none) (kb : PySem.W.kitOne K (.type "int") (.type "bool") = some false) : Def P w K mg base 1 "_law_whole" ["_law_found"] spWhole := by
  refine def_of T sc_l_whole (fun _ _ _ _ _ _ us hl => match us, hl with | [_], _ => rfl) (fun vs H Q E h => ?_) (fun f cdv A outer s H vs Q E hr h => ?_)
  · obtain ⟨i, rfl, _⟩ := h
    rfl
  obtain ⟨i, rfl, q⟩ := h
  have nd := sc_l_whole.nd
  refine ⟨_, (pss_one (ps_ret (pe_and (pe_callB call_isi rfl Z_isinstance (by decide +kernel) (pa_cons (pv 0) (pa_cons (pe_bltn (v := V.ty "int") rfl Z_int (by decide +kernel) rfl) pa_nil))) (pe_one (pe_not (pe_callB call_isi rfl Z_isinstance (by decide +kernel) (pa_cons (pv 0) (pa_cons (pe_bltn (v := V.ty "bool") rfl Z_bool (by decide +kernel) rfl) pa_nil)))))))), ?_⟩
  exact ⟨_, rfl, _, _, _, _, true, rfl, (fun _ h => h), TyOf.int _, kit_same, _, rfl, iteT ⟨_, rfl, _, _, _, _, false, rfl, (fun _ h => h), TyOf.int _, kb, _, rfl, q⟩⟩
theorem ok_is_stretch (T : TopDef K mg "_law_is_stretch" s_l_is_stretch) (Z_isinstance : mg "isinstance" = none) (Z_tuple : mg "tuple" = none) (Z_len : mg "len" = none) (D__law_whole : Def P w K mg base 1 "_law_whole" ["_law_found"] spWhole) (D__law_divisor : Def P w K mg base 1 "_law_divisor" ["_law_a", "_law_b"] spFactor) :
    Def P w K mg base 2 "_law_is_stretch" ["_law_one"] (spIsStretch K) := by
  refine def_of T sc_l_is_stretch (fun _ _ _ _ _ _ us hl => match us, hl with | [_], _ => rfl) (fun vs H Q E h => ?_) (fun f cdv A outer s H vs Q E hr h => ?_)
  · obtain ⟨x, s, rfl, _⟩ := h
    rfl
  obtain ⟨x, s, rfl, hx, ok, k⟩ := h
  obtain ⟨a, e, rfl, sa, de⟩ := st_el hx
  obtain ⟨b, rfl, sb⟩ := fr_el de
  have nd := sc_l_is_stretch.nd
  refine ⟨_, (pss_cons (ps_if (PW.pt (pw_or (pt_not (pt_val (pe_callB call_isiT rfl Z_isinstance (by decide +kernel) (pa_cons (pv 0) (pa_cons (pe_bltn (v := V.ty "tuple") rfl Z_tuple (by decide +kernel) rfl) pa_nil))))) (pw_or (pt_cmpR op_ne (pe_callB call_len rfl Z_len (by decide +kernel) (pa_cons (pv 0) pa_nil)) pe_int (nomark _)) (pw_or (pt_not (pt_val (pe_def D__law_whole (hr.mono (by decide)) rfl (pa_cons (pe_ix ix_tup (pv 0) pe_int (fun _ _ => rfl)) pa_nil)))) (pw_or1 (pt_not (pt_val (pe_def D__law_whole (hr.mono (by decide)) rfl (pa_cons (pe_ix ix_tup (pv 0) pe_int (fun _ _ => rfl)) pa_nil))))))))) (pss_one (ps_ret pe_bl)) pss_nil)
    (pss_cons (ps_set (i := 1) nd rfl (Or.inl rfl) (pe_ix ix_tup (pv 0) pe_int (fun _ _ => rfl)))
    (pss_cons (ps_if (PW.pt (pw_or (pt_not (pt_val (pe_callB call_isiT rfl Z_isinstance (by decide +kernel) (pa_cons (pv 1) (pa_cons (pe_bltn (v := V.ty "tuple") rfl Z_tuple (by decide +kernel) rfl) pa_nil))))) (pw_or (pt_cmpR op_ne (pe_callB call_len rfl Z_len (by decide +kernel) (pa_cons (pv 1) pa_nil)) pe_int (nomark _)) (pw_or (pt_not (pt_val (pe_def D__law_whole (hr.mono (by decide)) rfl (pa_cons (pe_ix ix_tup (pv 1) pe_int (fun _ _ => rfl)) pa_nil)))) (pw_or1 (pt_not (pt_val (pe_def D__law_whole (hr.mono (by decide)) rfl (pa_cons (pe_ix ix_tup (pv 1) pe_int (fun _ _ => rfl)) pa_nil))))))))) (pss_one (ps_ret pe_bl)) pss_nil)
    (pss_one (ps_ret (pe_and (pe_cmpR op_gt (pe_ix ix_tup (pv 1) pe_int (fun _ _ => rfl)) pe_int (nomark _)) (pe_one (pe_cmpR op_eq (pe_def D__law_divisor (hr.mono (by decide)) rfl (pa_cons (pe_ix ix_tup (pv 1) pe_int (fun _ _ => rfl)) (pa_cons (pe_ix ix_tup (pv 1) pe_int (fun _ _ => rfl)) pa_nil))) pe_int (nomark _))))))))), ?_⟩
  refine ⟨_, rfl, a, _, _, _, true, rfl, (fun _ h => h), sa, kit_same, _, rfl, iteF ?_⟩
  refine ⟨_, rfl, _, _, rfl, .inr ⟨_, sa, rfl⟩, rfl, _, rfl, iteNS rfl ?_⟩
  refine ⟨_, rfl, _, _, _, _, rfl, rfl, sa, rfl, s.m, rfl, _, rfl, iteF ?_⟩
  refine ⟨_, rfl, _, _, _, _, rfl, rfl, sa, rfl, s.h, rfl, _, rfl, iteF ?_⟩
  refine ⟨_, rfl, _, _, _, _, rfl, rfl, sa, rfl, ?_⟩
  refine ⟨_, rfl, b, _, _, _, true, rfl, (fun _ h => h), sb, kit_same, _, rfl, iteF ?_⟩
  refine ⟨_, rfl, _, _, rfl, .inr ⟨_, sb, rfl⟩, rfl, _, rfl, iteNS rfl ?_⟩
  refine ⟨_, rfl, _, _, _, _, rfl, rfl, sb, rfl, s.p, rfl, _, rfl, iteF ?_⟩
  refine ⟨_, rfl, _, _, _, _, rfl, rfl, sb, rfl, s.q, rfl, _, rfl, iteF ?_⟩
  refine ⟨_, rfl, _, _, _, _, rfl, rfl, sb, rfl, _, _, rfl, rfl, _, rfl, ?_⟩
  rw [decide_eq_true (show (0 : Int) < s.q by have := ok.1; have := ok.2.1; omega)]
  refine iteT ?_
  refine ⟨_, rfl, _, _, _, _, rfl, rfl, sb, rfl, _, rfl, _, _, _, _, rfl, rfl, sb, rfl, s.p, s.q, rfl, rfl, ?_⟩
  rw [ok.2.2.1]
  exact k
theorem ok_is_line (T : TopDef K mg "_law_is_line" s_l_is_line) (Z_isinstance : mg "isinstance" = none) (Z_tuple : mg "tuple" = none) (Z_len : mg "len" = none) (Z_all : mg "all" = none) (Z_enumerate : mg "enumerate" = none) (D__law_is_stretch : Def P w K mg base 2 "_law_is_stretch" ["_law_one"] (spIsStretch K)) :
    Def P w K mg base 3 "_law_is_line" ["_law_line"] (spIsLine K) := by
  refine def_of T sc_l_is_line (fun _ _ _ _ _ _ us hl => match us, hl with | [_], _ => rfl) (fun vs H Q E h => ?_) (fun f cdv A outer s H vs Q E hr h => ?_)
  · obtain ⟨x, L, rfl, _⟩ := h
    rfl
  obtain ⟨x, L, rfl, hx, ln, k⟩ := h
  obtain ⟨a, xs, rfl, sa, da⟩ := ln_el hx
  have nd := sc_l_is_line.nd
  have hu := hr.units
  have lx := ln_len da
  have lp := ln.pos
  have few := ln.few
  refine ⟨_, (pss_cons (ps_if (PW.pt (pw_or (pt_not (pt_val (pe_callB call_isiT rfl Z_isinstance (by decide +kernel) (pa_cons (pv 0) (pa_cons (pe_bltn (v := V.ty "tuple") rfl Z_tuple (by decide +kernel) rfl) pa_nil))))) (pw_or (pt_cmpR op_eq (pe_callB call_len rfl Z_len (by decide +kernel) (pa_cons (pv 0) pa_nil)) pe_int (nomark _)) (pw_or1 (pt_not (pt_val (pe_callB (call_all rfl) rfl Z_all (by decide +kernel) (pa_cons (pe_compF rfl (pi_tup (pv 0)) rfl (by decide +kernel) (by decide +kernel) rfl (show ∀ p ∈ Scope.names _, p.2 = NameKind.free → List.lookup p.1 (defScope s_l_is_line).names = some .cell ∨ List.lookup p.1 (defScope s_l_is_line).names = some .free by decide +kernel) fa_nil (show (["_law_one"] : List Str).Nodup by decide +kernel) (fun _ _ _ _ => pif_nil) (fun _ _ _ _ => (pe_def D__law_is_stretch (hr.mono (by decide)) rfl (pa_cons (pv 0) pa_nil)))) pa_nil)))))))) (pss_one (ps_ret pe_bl)) pss_nil)
    (pss_cons (ps_set (i := 1) nd rfl (Or.inl rfl) (pe_tup (pa_cons pe_int (pa_cons pe_int pa_nil))))
    (pss_cons (ps_for PassesOwn.never rfl (pi_enumT rfl Z_enumerate (pv 0)) (pg_tup rfl (pgs_cons (pg_name (i := 2) nd rfl (Or.inl rfl)) (pgs_cons (pg_name (i := 3) nd rfl (Or.inl rfl)) pgs_nil))) (pss_cons (ps_set (i := 4) nd rfl (Or.inl rfl) (pe_ix ix_tup (pv 3) pe_int (fun _ _ => rfl)))
    (pss_cons (ps_if (pt_cmpR op_ge (pe_op op_mulK (pe_ix ix_tup (pv 1) pe_int (fun _ _ => rfl)) (pe_ix ix_tup (pv 4) pe_int (fun _ _ => rfl))) (pe_op op_mulK (pe_ix ix_tup (pv 4) pe_int (fun _ _ => rfl)) (pe_ix ix_tup (pv 1) pe_int (fun _ _ => rfl))) (nomark _)) (pss_one (ps_ret pe_bl)) pss_nil)
    (pss_cons (ps_if (pt_cmpR op_gt (pv 2) pe_int (nomark _)) (pss_cons (ps_set (i := 5) nd rfl (Or.inl rfl) (pe_ix ix_tup (pv 0) (pe_op op_sub (pv 2) pe_int) (fun _ _ => rfl)))
    (pss_cons (ps_set (i := 6) nd rfl (Or.inl rfl) (pe_op op_add (pe_op op_mulK (pe_op op_sub (pe_ix ix_tup (pv 3) pe_int (fun _ _ => rfl)) (pe_ix ix_tup (pv 5) pe_int (fun _ _ => rfl))) (pe_ix ix_tup (pv 1) pe_int (fun _ _ => rfl))) (pe_op op_mulK (pe_op op_sub (pe_ix ix_tup (pv 3) pe_int (fun _ _ => rfl)) (pe_ix ix_tup (pv 5) pe_int (fun _ _ => rfl))) (pe_ix ix_tup (pv 1) pe_int (fun _ _ => rfl)))))
    (pss_one (ps_if (PW.pt (pw_or (pt_cmpR op_ne (pv 6) pe_int (nomark _)) (pw_or1 (pt_cmpR (op_eqD hu) (pe_slice sl_tup (pv 3) (po_some pe_int) po_none) (pe_slice sl_tup (pv 5) (po_some pe_int) po_none) (nomark _))))) (pss_one (ps_ret pe_bl)) pss_nil)))) pss_nil)
    (pss_one (ps_set (i := 1) nd rfl (Or.inl rfl) (pv 4)))))))
    (pss_one (ps_ret (pe_cmpR (op_eqD hu) (pv 1) (pe_tup (pa_cons pe_int (pa_cons pe_int pa_nil))) (nomark _))))))), ?_⟩
  refine ⟨_, rfl, a, _, _, _, true, rfl, (fun _ h => h), sa, kit_same, _, rfl, iteF ?_⟩
  refine ⟨_, rfl, _, _, rfl, .inr ⟨_, sa, rfl⟩, rfl, _, rfl, ?_⟩
  rw [decide_eq_false (show ¬ (V.int ((xs.length : Nat) : Int) = V.int 0) from fun z => by have := V.int.inj z; omega)]
  refine iteF ?_
  refine ⟨_, rfl, a, rfl, ⟨xs, sa⟩, fun D hD => ?_⟩
  refine ⟨fun i m H2 => m = xs.length - i ∧ i ≤ xs.length ∧ Same H H2 ∧ H2 D = some (.lst ((List.replicate i true).map V.bl)), ⟨_, rfl, Nat.zero_le _, same_new hD _, upd_same⟩, ?_⟩
  rintro i m H2 ⟨rfl, hi, sm, hlD⟩
  have sa2 := sa.ts sm.ts
  by_cases hlt : i < xs.length
  · refine .inr ⟨⟨xs, _, sa2, List.getElem?_eq_getElem hlt⟩, fun v H3 y => ?_⟩
    obtain ⟨rfl, y⟩ := y
    obtain ⟨st, hst, dst⟩ := ln_at' (da.ts sm.ts) (y xs sa2)
    refine tNoIf_go ?_
    refine ⟨_, rfl, v, st, rfl, dst, ln.at hst, ?_⟩
    refine ⟨_, hlD, small9000 (by simp; omega), xs.length - (i + 1), by omega, rfl, hlt, same_mut sm hD _, ?_⟩
    rw [upd_same, List.replicate_succ', List.map_append]
    rfl
  have ei : i = xs.length := by omega
  subst ei
  refine .inl ⟨⟨xs, sa2, Nat.le_refl _⟩, ?_⟩
  refine ⟨D, List.replicate xs.length true, rfl, SqL.of hlD, _, rfl, ?_⟩
  have e1 : (List.replicate xs.length true).all id = true := by simp
  rw [e1]
  refine iteF ?_
  refine ⟨(by show 2 ≤ sizeLine; decide), fun t0 h0 => ?_⟩
  have u0 := same_new h0 (.tup [.int 0, .int 1])
  have s0 := sm.trans u0
  refine ⟨_, rfl, a, rfl, ⟨xs, sa.ts s0.ts⟩, ?_⟩
  refine for_enumT (xs := xs) (fun i σ H' => Same H H' ∧ ∃ t o2 o3 o4 o5 o6, σ = [some (.ref a), some (.ref t), o2, o3, o4, o5, o6] ∧ Dat K H' (frD (Ln.bef L i).1 (Ln.bef L i).2) (.ref t)) ⟨s0, t0, _, _, _, _, _, rfl, fr_mk (SqT.of upd_same)⟩ (fun i σ H' _ h => sa.ts h.1.ts) (fun i x T' σ H' hx h hT => ?_) (fun σ H' h => ?_)
  · obtain ⟨sm', t, o2, o3, o4, o5, o6, rfl, dt⟩ := h
    obtain ⟨st, hst, dst⟩ := ln_at' (da.ts sm'.ts) hx
    have u1 := same_new hT (.tup [.int i, x])
    obtain ⟨c, e, rfl, q1, d1⟩ := st_el (dst.ts u1.ts)
    obtain ⟨b, rfl, qb⟩ := fr_el d1
    obtain ⟨t', et, qt⟩ := fr_el (dt.ts u1.ts)
    cases et
    obtain ⟨m1, m2, m3, m4, m5⟩ := stb_sm (ln.at hst)
    obtain ⟨r1, r2, r3, r4, r5⟩ := ln.bef_rise hst
    have sb1 : Sm (Ln.bef L i).1 := sm_of (by omega)
    have sb2 : Sm (Ln.bef L i).2 := sm_of (by omega)
    refine ⟨T', _, rfl, SqT.of upd_same, rfl, _, _, rfl, _, _, rfl, rfl, ?_⟩
    walk_at "rd"
    rw [decide_eq_false (show ¬ (st.p * (Ln.bef L i).2 ≤ (Ln.bef L i).1 * st.q) by omega)]
    refine iteF ?_
    walk_at "rd"
    have fin : Same H (upd H' T' (.tup [.int i, .ref c])) ∧ Dat K (upd H' T' (.tup [.int i, .ref c])) (frD (Ln.bef L (i + 1)).1 (Ln.bef L (i + 1)).2) (.ref b) := ⟨sm'.trans u1, by rw [Ln.bef_succ hst]; exact d1⟩
    by_cases hi0 : i = 0
    · subst hi0
      refine iteF ?_
      refine ⟨_, rfl, ?_⟩
      exact ⟨fin.1, b, _, _, _, _, _, rfl, fin.2⟩
    · rw [decide_eq_true (show (0 : Int) < (i : Int) by omega)]
      refine iteT ?_
      have hj : i - 1 < L.length := by have := (List.getElem?_eq_some_iff.mp hst).1; omega
      have ej : L[i - 1]? = some L[i - 1] := List.getElem?_eq_getElem hj
      have adj := ln.ch.get (i := i - 1) ej (by rw [show i - 1 + 1 = i by omega]; exact hst)
      obtain ⟨y, hy, dy⟩ := ln_at ((da.ts sm'.ts).ts u1.ts) ej
      obtain ⟨c2, e2, rfl, q2, _⟩ := st_el dy
      obtain ⟨n1, n2, n3, n4, n5⟩ := stb_sm (ln.at ej)
      have eb : Ln.bef L i = (L[i - 1].p, L[i - 1].q) := by
        have z := Ln.bef_succ ej
        rw [show i - 1 + 1 = i by omega] at z
        exact z
      have aty : atI xs ((i : Int) - 1) = some (.ref c2) := at_of (by omega) (by rw [show ((i : Int) - 1).toNat = i - 1 by omega]; exact hy)
      have sd1 : Sm (st.m - L[i - 1].m) := by
        have z1 := (ln.at hst).2.2.2.2.1
        have z2 := (ln.at ej).2.2.2.2.1
        exact sm_of (by omega)
      have sd2 : Sm (st.h - L[i - 1].h) := by
        have z1 := (ln.at hst).2.2.2.2.2
        have z2 := (ln.at ej).2.2.2.2.2
        exact sm_of (by omega)
      refine ⟨_, rfl, _, rfl, _, _, rfl, rfl, _, _, _, _, rfl, rfl, (sa.ts sm'.ts).ts u1.ts, aty, ?_⟩
      walk_at "rd"
      have gap : (st.m - L[i - 1].m) * (Ln.bef L i).1 + (st.h - L[i - 1].h) * (Ln.bef L i).2 = 0 := by
        rw [eb]; exact adj.2.1
      refine iteNS (congrArg V.int gap) ?_
      refine ⟨_, rfl, _, rfl, c, _, rfl, q1, cut1_ne _ _ _, fun p3 h3 => ?_⟩
      have u3 := same_new h3 (.tup (cutV [.ref b, .int st.m, .int st.h] (some 1) none))
      refine ⟨_, rfl, _, rfl, c2, _, rfl, q2.ts u3.ts, cut1_ne _ _ _, fun p4 h4 => ?_⟩
      have u4 := same_new h4 (.tup (cutV [e2, .int L[i - 1].m, .int L[i - 1].h] (some 1) none))
      refine ⟨_, _, .inl (fr_mk (p := st.m) (q := st.h) (SqT.of (u4 _ _ upd_same))), .inl (fr_mk (p := L[i - 1].m) (q := L[i - 1].h) (SqT.of upd_same)), fr_shaped _ _, fr_shaped _ _, _, rfl, ?_⟩
      rw [fr_eqv, decide_eq_false (fun z => adj.2.2 z.1)]
      refine iteF ?_
      refine ⟨_, rfl, ?_⟩
      exact ⟨fin.1.trans (u3.trans u4), b, _, _, _, _, _, rfl, fin.2.ts (u3.trans u4).ts⟩
  · obtain ⟨sm', t, o2, o3, o4, o5, o6, rfl, dt⟩ := h
    obtain ⟨st, hst, e1, e2⟩ := ln.last
    obtain ⟨l0, l1⟩ := Ln.last_at hst
    have eb : Ln.bef L xs.length = (1, 1) := by
      rw [lx, show L.length = (L.length - 1) + 1 by omega, Ln.bef_succ l1, e1, e2]
    rw [eb] at dt
    refine ⟨_, rfl, (by show 2 ≤ sizeLine; decide), fun p hp => ?_⟩
    have u1 := same_new hp (.tup [.int 1, .int 1])
    refine ⟨_, _, .inl (dt.ts u1.ts), .inl (fr_mk (p := 1) (q := 1) (SqT.of upd_same)), fr_shaped _ _, fr_shaped _ _, ?_⟩
    rw [eqv_shaped (fr_shaped 1 1)]
    exact k _ (sm'.trans u1)
theorem ok_height (T : TopDef K mg "_law_height" s_l_height) : Def P w K mg base 1 "_law_height" ["_law_line", "_law_x"] (spHt K) := by
  refine def_of T sc_l_height (fun _ _ _ _ _ _ us hl => match us, hl with | [_, _], _ => rfl) (fun vs H Q E h => ?_) (fun f cdv A outer s H vs Q E hr h => ?_)
  · obtain ⟨x, y, L, p, q, rfl, _⟩ := h
    rfl
  obtain ⟨x, y, L, p, q, rfl, hx, ln, hy, q0, pq, b1, b2, k⟩ := h
  obtain ⟨a, xs, rfl, sa, da⟩ := ln_el hx
  obtain ⟨c, rfl, sc⟩ := fr_el hy
  have nd := sc_l_height.nd
  refine ⟨_, (pss_cons (ps_set (i := 2) nd rfl (Or.inl rfl) pe_int)
    (pss_cons (ps_while PassesOwn.never (pt_cmpR op_lt (pe_op op_mulK (pe_ix ix_tup (pe_ix ix_tup (pe_ix ix_tup (pv 0) (pv 2) (fun _ _ => rfl)) pe_int (fun _ _ => rfl)) pe_int (fun _ _ => rfl)) (pe_ix ix_tup (pv 1) pe_int (fun _ _ => rfl))) (pe_op op_mulK (pe_ix ix_tup (pv 1) pe_int (fun _ _ => rfl)) (pe_ix ix_tup (pe_ix ix_tup (pe_ix ix_tup (pv 0) (pv 2) (fun _ _ => rfl)) pe_int (fun _ _ => rfl)) pe_int (fun _ _ => rfl))) (nomark _)) (pss_one (ps_set (i := 2) nd rfl (Or.inl rfl) (pe_op op_add (pv 2) pe_int))))
    (pss_one (ps_ret (pe_tup (pa_cons (pe_op op_add (pe_op op_mulK (pe_ix ix_tup (pe_ix ix_tup (pv 0) (pv 2) (fun _ _ => rfl)) pe_int (fun _ _ => rfl)) (pe_ix ix_tup (pv 1) pe_int (fun _ _ => rfl))) (pe_op op_mulK (pe_ix ix_tup (pe_ix ix_tup (pv 0) (pv 2) (fun _ _ => rfl)) pe_int (fun _ _ => rfl)) (pe_ix ix_tup (pv 1) pe_int (fun _ _ => rfl)))) (pa_cons (pe_ix ix_tup (pv 1) pe_int (fun _ _ => rfl)) pa_nil))))))), ?_⟩
  refine ⟨fun m σ H' => H' = H ∧ ∃ i : Nat, i < L.length ∧ m = L.length - i ∧ σ = [some (.ref a), some (.ref c), some (.int i)] ∧ ∀ j, j < i → ∀ t, L[j]? = some t → t.p * q < p * t.q, ⟨_, rfl, 0, ln.pos, rfl, rfl, fun j hj => absurd hj (by omega)⟩, ?_⟩
  rintro m σ H' ⟨rfl, i, hi, rfl, rfl, ahead⟩
  have hs : L[i]? = some L[i] := List.getElem?_eq_getElem hi
  obtain ⟨v, hv, dv⟩ := ln_at da hs
  obtain ⟨c1, e1, rfl, q1, d1⟩ := st_el dv
  obtain ⟨f1, rfl, r1⟩ := fr_el d1
  obtain ⟨m1, m2, m3, m4, m5⟩ := stb_sm (ln.at hs)
  have at1 : atI xs (i : Int) = some (.ref c1) := atI_nat hv
  walk_at "rd"
  refine ite2 (fun c2 => ?_) (fun c2 => ?_)
  · have c3 := of_decide_eq_true c2
    have nx := ln.next pq hs c3
    refine ⟨fun σ' H'' => H'' = H' ∧ σ' = [some (.ref a), some (.ref c), some (.int (i + 1 : Int))], ?_, ⟨_, rfl, _, _, rfl, rfl, rfl, rfl⟩⟩
    rintro σ' H'' ⟨rfl, rfl⟩
    refine ⟨L.length - (i + 1), by omega, rfl, i + 1, nx, rfl, rfl, fun j hj t ht => ?_⟩
    rcases Nat.lt_or_ge j i with z | z
    · exact ahead j z t ht
    · have : j = i := by omega
      subst this
      rw [hs] at ht
      cases ht
      exact c3
  · have c3 : ¬ L[i].p * q < p * L[i].q := fun z => c2 (decide_eq_true z)
    walk_at "rd"
    refine ⟨(by show 2 ≤ sizeLine; decide), fun t h => ?_⟩
    exact k _ (Ln.pk_at ahead hs c3) _ _ (same_new h _) (fr_mk (SqT.of upd_same))
end
end Mine




set_option Elab.async false
set_option linter.all false
set_option maxRecDepth 100000
set_option maxHeartbeats 4000000
namespace Mine
open PySem L2
local macro_rules | `(tactic| walk_at "mul") => `(tactic| first | exact mulS (by assumption) (by assumption) | exact mulS (by first | assumption | exact sm_of (by omega) | exact sm_of (by decide) | exact sm_mod (by decide) (by decide)) (by first | assumption | exact sm_of (by omega) | exact sm_of (by decide) | exact sm_mod (by decide) (by decide)))
local macro_rules | `(tactic| walk_at "rd1") => `(tactic| first
  | refine ⟨_, rfl, ?_⟩
  | refine ⟨_, _, rfl, rfl, ?_⟩
  | (refine' ⟨_, _, _, _, rfl, rfl, ?sq, ?ia, ?k⟩; (case' sq => first | assumption | exact Scr.l (by assumption)); (case' ia => first | rfl | assumption))
  | refine ⟨rfl, ?_⟩
  | (refine ⟨?m, ?_⟩; (case' m => walk_at "mul"))
  | (refine ⟨?m, ?_⟩; (case' m => exact div_ok (by first | assumption | omega) (by assumption)))
  | (refine ⟨?m, ?_⟩; (case' m => show (0 : Int) < _; decide))
  | (refine ⟨?m, ?_⟩; (case' m => exact ⟨by decide, by decide⟩))
  | (refine ⟨?m, ?_⟩; (case' m => exact ⟨by decide, by decide, by decide⟩)))
local macro_rules | `(tactic| walk_at "rd") => `(tactic| repeat walk_at "rd1")

def frX (x : Int × Int) : PyData := frD x.1 x.2
def XOk (x : Int × Int) : Prop := 0 ≤ x.1 ∧ x.1 ≤ x.2 ∧ 0 < x.2 ∧ x.2 < 2 ^ 45
theorem XOk.sm {x : Int × Int} (h : XOk x) : Sm x.1 ∧ Sm x.2 := by
  obtain ⟨h1, h2, h3, h4⟩ := h
  exact ⟨sm_of (by omega), sm_of (by omega)⟩
theorem DatAll.drop {K : PySem.W.Frag} {H : Hp} : ∀ {ds : List PyData} {xs : List V} (n : Nat), DatAll K H ds xs → DatAll K H (ds.drop n) (xs.drop n)
  | _, _, 0, h => h
  | [], _, _ + 1, h => by cases (show _ = ([] : List V) from h); rfl
  | _ :: _, _, n + 1, ⟨x, r, h1, h2, h3⟩ => by subst h1; exact DatAll.drop n h3
theorem fx_at' {K : PySem.W.Frag} {H : Hp} {xs : List V} {ps : List (Int × Int)} (g : DatAll K H (ps.map frX) xs) {i : Nat} {x : V} (h : xs[i]? = some x) : ∃ c, ps[i]? = some c ∧ Dat K H (frD c.1 c.2) x := by
  obtain ⟨d, e1, e2⟩ := g.get' h
  rw [List.getElem?_map] at e1
  cases z : ps[i]? with
  | none => rw [z] at e1; cases e1
  | some s => rw [z] at e1; cases e1; exact ⟨s, rfl, e2⟩
theorem fx_len {K : PySem.W.Frag} {H : Hp} {xs : List V} {ps : List (Int × Int)} (g : DatAll K H (ps.map frX) xs) : xs.length = ps.length := by rw [g.len, List.length_map]
def spRising (K : PySem.W.Frag) : Sp := fun vs H Q _ => ∃ (l : Addr) (us : List V) (ps : List (Int × Int)), vs = [.ref l] ∧ SqL K H l us ∧ DatAll K H (ps.map frX) us ∧ (∀ x ∈ ps, XOk x) ∧ ps.length ≤ 3000 ∧
  ∀ (l' : Addr) (us' : List V) (qs : List (Int × Int)) (H' : Hp), Same H H' → H l' = none → H' l' = some (.lst us') → DatAll K H' (qs.map frX) us' → (∀ x ∈ qs, XOk x) → qs.length = ps.length → Q (.ref l') H'
section
variable {P : Program} {w : World} {K : PySem.W.Frag} {mg : Str → Option Value} {base : Heap}
theorem ok_rising (T : TopDef K mg "_law_rising" s_l_rising) (Z_len : mg "len" = none) : Def P w K mg base 1 "_law_rising" ["_law_ends"] (spRising K) := by
  refine def_of T sc_l_rising (fun _ _ _ _ _ _ us hl => match us, hl with | [_], _ => rfl) (fun vs H Q E h => ?_) (fun f cdv A outer s H vs Q E hr h => ?_)
  · obtain ⟨l, us, ps, rfl, _⟩ := h
    rfl
  obtain ⟨l, us, ps, rfl, sl, da, okp, few, k⟩ := h
  have nd := sc_l_rising.nd
  have lu := fx_len da
  refine ⟨_, (pss_cons (ps_set (i := 1) nd rfl (Or.inl rfl) (pe_lst pa_nil))
    (pss_cons (ps_for PassesOwn.never rfl (pi_list (pv 0)) (pg_name (i := 2) nd rfl (Or.inl rfl)) (pss_cons (ps_set (i := 3) nd rfl (Or.inl rfl) pe_int)
    (pss_cons (ps_while PassesOwn.never (PW.pt (pw_and (pt_cmpR op_lt (pv 3) (pe_callB call_len rfl Z_len (by decide +kernel) (pa_cons (pv 1) pa_nil)) (nomark _)) (pw_and1 (pt_cmpR op_lt (pe_op op_mulK (pe_ix ix_tup (pe_ix ix_list (pv 1) (pv 3) (fun _ _ => rfl)) pe_int (fun _ _ => rfl)) (pe_ix ix_tup (pv 2) pe_int (fun _ _ => rfl))) (pe_op op_mulK (pe_ix ix_tup (pv 2) pe_int (fun _ _ => rfl)) (pe_ix ix_tup (pe_ix ix_list (pv 1) (pv 3) (fun _ _ => rfl)) pe_int (fun _ _ => rfl))) (nomark _))))) (pss_one (ps_set (i := 3) nd rfl (Or.inl rfl) (pe_op op_add (pv 3) pe_int))))
    (pss_one (ps_expr (pe_bm PySem.F.plainAttrs_list PySem.F.slot_list_insert PySem.F.type_list_insert mt_insert (pv 1) (pa_cons (pv 3) (pa_cons (pv 2) pa_nil))))))))
    (pss_one (ps_ret (pv 1))))), ?_⟩
  refine ⟨(by show 0 ≤ sizeLine; decide), fun b hb => ?_⟩
  have u0 := same_new hb (.lst [])
  refine ⟨_, rfl, l, rfl, ⟨us, u0.seq sl⟩, ?_⟩
  refine for_list (xs := us) (fun i σ H' => Same H H' ∧ ∃ (zs : List V) (qs : List (Int × Int)) (o2 o3 : Option V), σ = [some (.ref l), some (.ref b), o2, o3] ∧ H' b = some (.lst zs) ∧ DatAll K H' (qs.map frX) zs ∧ (∀ x ∈ qs, XOk x) ∧ qs.length = i) ⟨u0, [], [], _, _, rfl, upd_same, rfl, (fun _ h => nomatch h), rfl⟩ (fun i σ H' _ h => h.1.seq sl) (fun i x σ H' hx h => ?_) (fun σ H' h => ?_)
  · obtain ⟨sm, zs, qs, o2, o3, rfl, hbz, dz, okq, lq⟩ := h
    obtain ⟨c, hc, dc⟩ := fx_at' (da.ts sm.ts) hx
    obtain ⟨ca, rfl, qc⟩ := fr_el dc
    have xok := okp c (List.mem_of_getElem? hc)
    obtain ⟨m1, m2⟩ := xok.sm
    have lz := fx_len dz
    have hi : i < ps.length := (List.getElem?_eq_some_iff.mp hc).1
    refine ⟨fun m σ H'' => H'' = H' ∧ ∃ n : Nat, n ≤ zs.length ∧ m = zs.length - n ∧ σ = [some (.ref l), some (.ref b), some (.ref ca), some (.int n)], ⟨_, rfl, 0, Nat.zero_le _, rfl, rfl⟩, ?_⟩
    rintro m σ H'' ⟨rfl, n, hn, rfl, rfl⟩
    -- behind the loop
    have fin : ∀ {σ' : St}, σ' = [some (.ref l), some (.ref b), some (.ref ca), some (.int n)] → (Same H (upd H'' b (.lst (zs.take n ++ .ref ca :: zs.drop n))) ∧ ∃ (zs' : List V) (qs' : List (Int × Int)) (o2 o3 : Option V), σ' = [some (.ref l), some (.ref b), o2, o3] ∧ upd H'' b (.lst (zs.take n ++ .ref ca :: zs.drop n)) b = some (.lst zs') ∧ DatAll K (upd H'' b (.lst (zs.take n ++ .ref ca :: zs.drop n))) (qs'.map frX) zs' ∧ (∀ x ∈ qs', XOk x) ∧ qs'.length = i + 1) := by
      intro σ' e
      have t2 : Tst H'' (upd H'' b (.lst (zs.take n ++ .ref ca :: zs.drop n))) := ts_mut hbz
      refine ⟨same_mut sm hb _, _, qs.take n ++ c :: qs.drop n, _, _, e, upd_same, ?_, fun x hx => ?_, ?_⟩
      · rw [List.map_append, List.map_cons, List.map_take, List.map_drop]
        exact (Mine.DatAll.take n (dz.ts t2)).append ⟨_, _, rfl, dc.ts t2, Mine.DatAll.drop n (dz.ts t2)⟩
      · rcases List.mem_append.mp hx with z | z
        · exact okq x (List.mem_of_mem_take z)
        · rcases List.mem_cons.mp z with z | z
          · rw [z]; exact xok
          · exact okq x (List.mem_of_mem_drop z)
      · rw [List.length_append, List.length_cons, List.length_take, List.length_drop]
        omega
    refine ⟨_, rfl, _, rfl, _, _, rfl, .inl ⟨_, SqL.of hbz, rfl⟩, _, _, rfl, rfl, _, rfl, ?_⟩
    by_cases cn : n < zs.length
    case neg =>
      rw [decide_eq_false (show ¬ ((n : Int) < ((zs.length : Nat) : Int)) by omega)]
      refine iteF (iteF ?_)
      refine ⟨_, rfl, .inl ⟨rfl, _, SqL.of hbz⟩, _, rfl, _, rfl, b, zs, n, _, rfl, rfl, hbz, by omega, by omega, small90000 (by omega), ?_⟩
      rw [Int.toNat_natCast]
      exact fin rfl
    rw [decide_eq_true (show ((n : Int) < ((zs.length : Nat) : Int)) by omega)]
    refine iteT ?_
    have hz : zs[n]? = some zs[n] := List.getElem?_eq_getElem cn
    obtain ⟨d, hd, dd⟩ := fx_at' dz hz
    obtain ⟨db, edb, qd⟩ := fr_el dd
    rw [edb] at hz
    have yok := okq d (List.mem_of_getElem? hd)
    obtain ⟨n1, n2⟩ := yok.sm
    have atn : atI zs (n : Int) = some (.ref db) := atI_nat hz
    have sbz : SqL K H'' b zs := SqL.of hbz
    walk_at "rd"
    refine ite2 (fun c2 => ?_) (fun c2 => ?_)
    · refine ⟨fun σ' H3 => H3 = H'' ∧ σ' = [some (.ref l), some (.ref b), some (.ref ca), some (.int (n + 1 : Int))], ?_, ⟨_, rfl, _, _, rfl, rfl, rfl, rfl⟩⟩
      rintro σ' H3 ⟨rfl, rfl⟩
      exact ⟨zs.length - (n + 1), by omega, rfl, n + 1, cn, rfl, rfl⟩
    · refine ⟨_, rfl, .inl ⟨rfl, _, SqL.of hbz⟩, _, rfl, _, rfl, b, zs, n, _, rfl, rfl, hbz, by omega, by omega, small90000 (by omega), ?_⟩
      rw [Int.toNat_natCast]
      exact fin rfl
  · obtain ⟨sm, zs, qs, o2, o3, rfl, hbz, dz, okq, lq⟩ := h
    exact ⟨_, rfl, k b zs qs H' sm hb hbz dz okq (by omega)⟩
end
end Mine




set_option Elab.async false
set_option linter.all false
set_option maxRecDepth 100000
set_option maxHeartbeats 4000000
namespace Mine
open PySem L2
local macro_rules | `(tactic| walk_at "mul") => `(tactic| first | exact mulS (by assumption) (by assumption) | exact mulS (by first | assumption | exact sm_of (by omega) | exact sm_of (by decide) | exact sm_mod (by decide) (by decide)) (by first | assumption | exact sm_of (by omega) | exact sm_of (by decide) | exact sm_mod (by decide) (by decide)))
local macro_rules | `(tactic| walk_at "rd1") => `(tactic| first
  | refine ⟨_, rfl, ?_⟩
  | refine ⟨_, _, rfl, rfl, ?_⟩
  | (refine' ⟨_, _, _, _, rfl, rfl, ?sq, ?ia, ?k⟩; (case' sq => first | assumption | exact Scr.l (by assumption)); (case' ia => first | rfl | assumption))
  | refine ⟨rfl, ?_⟩
  | (refine ⟨?m, ?_⟩; (case' m => walk_at "mul"))
  | (refine ⟨?m, ?_⟩; (case' m => exact div_ok (by first | assumption | omega) (by assumption)))
  | (refine ⟨?m, ?_⟩; (case' m => show (0 : Int) < _; decide))
  | (refine ⟨?m, ?_⟩; (case' m => exact ⟨by decide, by decide⟩))
  | (refine ⟨?m, ?_⟩; (case' m => exact ⟨by decide, by decide, by decide⟩)))
local macro_rules | `(tactic| walk_at "rd") => `(tactic| repeat walk_at "rd1")

theorem op_notinDK {X : Cx} {K : PySem.W.Frag} (e : X.K = K) (hu : X.A.units + 64 < cLine) : OpR X (compareOp .NotIn) (rInD K true) := e ▸ op_notinD hu
def XOk2 (x : Int × Int) : Prop := 0 ≤ x.1 ∧ x.1 ≤ x.2 ∧ 0 < x.2 ∧ x.2 < 2 ^ 100
theorem XOk.two {x : Int × Int} (h : XOk x) : XOk2 x := by
  obtain ⟨h1, h2, h3, h4⟩ := h
  exact ⟨h1, h2, h3, by omega⟩
theorem low_ok {t b : Int} (hb : 0 < b) (h0 : 0 ≤ t) (h1 : t ≤ b) (h2 : b < 2 ^ 100) : XOk2 (Lo.lowT t b, Lo.lowB t b) := by
  have e1 := Lo.lowT_eq t b
  have e2 := Lo.lowB_eq t b
  have s := Lo.sg_pos (t := t) hb
  have p := Lo.lowB_pos (t := t) (show b ≠ 0 by omega)
  have l := Lo.lowB_le (t := t) (show b ≠ 0 by omega)
  refine ⟨?_, ?_, p, ?_⟩
  · show 0 ≤ Lo.lowT t b
    rcases int_or (Lo.lowT t b) 0 with z | z
    · exfalso
      have := Int.mul_neg_of_pos_of_neg s z
      omega
    · exact z
  · show Lo.lowT t b ≤ Lo.lowB t b
    have : Lo.sg t b * Lo.lowT t b ≤ Lo.sg t b * Lo.lowB t b := by omega
    exact Int.le_of_mul_le_mul_left this s
  · show Lo.lowB t b < 2 ^ 100
    omega
theorem top_ok {a b : Int × Int} (ha : XOk a) (hb : XOk b) : 0 ≤ a.1 * b.2 ∧ a.1 * b.2 ≤ a.2 * b.2 ∧ 0 ≤ b.1 * a.2 ∧ b.1 * a.2 ≤ a.2 * b.2 ∧ 0 < a.2 * b.2 ∧ a.2 * b.2 < 2 ^ 90 := by
  obtain ⟨a1, a2, a3, a4⟩ := ha
  obtain ⟨b1, b2, b3, b4⟩ := hb
  refine ⟨Int.mul_nonneg a1 (by omega), Int.mul_le_mul_of_nonneg_right a2 (by omega), Int.mul_nonneg b1 (by omega), ?_, Int.mul_pos a3 b3, ?_⟩
  · rw [Int.mul_comm a.2 b.2]
    exact Int.mul_le_mul_of_nonneg_right b2 (by omega)
  · have z := Ln.prod_small (x := a.2) (y := b.2) (m := 45) (n := 45) (by omega) (by omega)
    omega
def spSpots (K : PySem.W.Frag) : Sp := fun vs H Q _ => ∃ (l : Addr) (us : List V) (Ls : List (List St4)), vs = [.ref l] ∧ SqL K H l us ∧ DatAll K H (Ls.map lnD) us ∧ (∀ L ∈ Ls, Ln.LineK L ∧ L.length ≤ 800) ∧ Ls.length ≤ 3 ∧
  ∀ (l' : Addr) (us' : List V) (qs : List (Int × Int)) (H' : Hp), Same H H' → H' l' = some (.lst us') → DatAll K H' (qs.map frX) us' → (∀ x ∈ qs, XOk2 x) → Q (.ref l') H'
theorem lns_at' {K : PySem.W.Frag} {H : Hp} {xs : List V} {Ls : List (List St4)} (g : DatAll K H (Ls.map lnD) xs) {i : Nat} {x : V} (h : xs[i]? = some x) : ∃ c, Ls[i]? = some c ∧ Dat K H (lnD c) x := by
  obtain ⟨d, e1, e2⟩ := g.get' h
  rw [List.getElem?_map] at e1
  cases z : Ls[i]? with
  | none => rw [z] at e1; cases e1
  | some s => rw [z] at e1; cases e1; exact ⟨s, rfl, e2⟩
theorem okb_x {s : St4} (h : Ln.OkB 45 s) : XOk (s.p, s.q) := by
  obtain ⟨h1, h2, h3, h4, _⟩ := h
  exact ⟨by show 0 ≤ s.p; omega, h2, by show 0 < s.q; omega, by show s.q < 2 ^ 45; omega⟩
theorem same_none {H H' : Hp} {l : Addr} (e : Same H H') (h : H' l = none) : H l = none := by
  cases hh : H l with
  | none => rfl
  | some o => rw [e _ _ hh] at h; cases h
section
variable {P : Program} {w : World} {K : PySem.W.Frag} {mg : Str → Option Value} {base : Heap}
theorem ok_spots (T : TopDef K mg "_law_spots" s_l_spots) (Z_list : mg "list" = none) (Z_zip : mg "zip" = none) (D__law_rising : Def P w K mg base 1 "_law_rising" ["_law_ends"] (spRising K)) (D__law_lowest : Def P w K mg base 2 "_law_lowest" ["_law_top", "_law_bottom"] spLow) : Def P w K mg base 3 "_law_spots" ["_law_lines"] (spSpots K) := by
  refine def_of T sc_l_spots (fun _ _ _ _ _ _ us hl => match us, hl with | [_], _ => rfl) (fun vs H Q E h => ?_) (fun f cdv A outer s H vs Q E hr h => ?_)
  · obtain ⟨l, us, Ls, rfl, _⟩ := h
    rfl
  obtain ⟨l, us, Ls, rfl, sl, da, okl, few, k⟩ := h
  have nd := sc_l_spots.nd
  have hu := hr.units
  have lu : us.length = Ls.length := by rw [da.len, List.length_map]
  refine ⟨_, (pss_cons (ps_set (i := 1) nd rfl (Or.inr rfl) (pe_lst (pa_cons (pe_tup (pa_cons pe_int (pa_cons pe_int pa_nil))) pa_nil)))
    (pss_cons (ps_for PassesOwn.never rfl (pi_list (pv 0)) (pg_name (i := 2) nd rfl (Or.inl rfl)) (pss_one (ps_expr (pe_bm PySem.F.plainAttrs_list PySem.F.slot_list_extend PySem.F.type_list_extend mt_extend (pv 1) (pa_cons (pe_compF rfl (pi_tup (pv 2)) rfl (by decide +kernel) (by decide +kernel) rfl (show ∀ p ∈ Scope.names _, p.2 = NameKind.free → List.lookup p.1 (defScope s_l_spots).names = some .cell ∨ List.lookup p.1 (defScope s_l_spots).names = some .free by decide +kernel) (fa_cons (j := 1) rfl (Or.inl rfl) (by decide +kernel) (Or.inl rfl) fa_nil) (show (["_law_one", "_law_ends"] : List Str).Nodup by decide +kernel) (fun _ _ _ _ => (pif_one (pt_cmpR (op_notinDK (K := K) rfl hu) (pe_ix (ix_tupK (K := K) rfl) (pv 0) pe_int (fun _ _ => rfl)) (pv 1) rfl))) (fun _ _ _ _ => (pe_ix (ix_tupK (K := K) rfl) (pv 0) pe_int (fun _ _ => rfl)))) pa_nil)))))
    (pss_cons (ps_set (i := 1) nd rfl (Or.inr rfl) (pe_def D__law_rising (hr.mono (by decide)) rfl (pa_cons (pv 1) pa_nil)))
    (pss_cons (ps_set (i := 3) nd rfl (Or.inl rfl) (pe_callTy call_list_of rfl Z_list (by decide +kernel) (pa_cons (pv 1) pa_nil)))
    (pss_cons (ps_for PassesOwn.never rfl (pi_zip rfl Z_zip (pv 1) (pe_slice sl_list (pv 1) (po_some pe_int) po_none)) (pg_tup rfl (pgs_cons (pg_name (i := 4) nd rfl (Or.inl rfl)) (pgs_cons (pg_name (i := 5) nd rfl (Or.inl rfl)) pgs_nil))) (pss_one (ps_for PassesOwn.never rfl (pi_tup (pe_tup (pa_cons pe_int (pa_cons pe_int (pa_cons pe_int pa_nil))))) (pg_name (i := 6) nd rfl (Or.inl rfl)) (pss_cons (ps_set (i := 7) nd rfl (Or.inl rfl) (pe_op op_add (pe_op op_mulK (pe_op op_mulK (pe_ix ix_tup (pv 4) pe_int (fun _ _ => rfl)) (pe_ix ix_tup (pv 5) pe_int (fun _ _ => rfl))) (pe_op op_sub pe_int (pv 6))) (pe_op op_mulK (pe_op op_mulK (pe_ix ix_tup (pv 5) pe_int (fun _ _ => rfl)) (pe_ix ix_tup (pv 4) pe_int (fun _ _ => rfl))) (pv 6))))
    (pss_one (ps_expr (pe_bm PySem.F.plainAttrs_list PySem.F.slot_list_append PySem.F.type_list_append mt_append (pv 3) (pa_cons (pe_def D__law_lowest (hr.mono (by decide)) rfl (pa_cons (pv 7) (pa_cons (pe_op op_mulK (pe_op op_mulK pe_int (pe_ix ix_tup (pv 4) pe_int (fun _ _ => rfl))) (pe_ix ix_tup (pv 5) pe_int (fun _ _ => rfl))) pa_nil))) pa_nil))))))))
    (pss_one (ps_ret (pv 3)))))))), ?_⟩
  refine ⟨(by show 2 ≤ sizeLine; decide), fun t0 h0 => ⟨(by show 1 ≤ sizeLine; decide), fun e0 he => ?_⟩⟩
  have u0 := same_new h0 (.tup [.int 0, .int 1])
  have u1 := u0.trans (same_new he (.lst [.ref t0]))
  have he0 : H e0 = none := same_none u0 he
  refine ⟨_, rfl, l, rfl, ⟨us, u1.seq sl⟩, ?_⟩
  refine for_list (xs := us) (fun i σ H' => Same H H' ∧ ∃ (zs : List V) (ps : List (Int × Int)) (o2 o3 o4 o5 o6 o7 : Option V), σ = [some (.ref l), some (.ref e0), o2, o3, o4, o5, o6, o7] ∧ H' e0 = some (.lst zs) ∧ DatAll K H' (ps.map frX) zs ∧ (∀ x ∈ ps, XOk x) ∧ ps.length ≤ 1 + 800 * i) ⟨u1, [.ref t0], [(0, 1)], _, _, _, _, _, _, rfl, upd_same, ⟨_, _, rfl, fr_mk (p := 0) (q := 1) (SqT.of (same_new he _ _ _ upd_same)), rfl⟩, (fun x hx => by rw [List.mem_singleton.mp hx]; exact ⟨by decide, by decide, by decide, by decide⟩), by simp⟩ (fun i σ H' _ h => h.1.seq sl) (fun i x σ H' hx h => ?_) (fun σ H' h => ?_)
  · obtain ⟨sm, zs, ps, o2, o3, o4, o5, o6, o7, rfl, hz, dz, okp, lp⟩ := h
    obtain ⟨L, hL, dL⟩ := lns_at' (da.ts sm.ts) hx
    obtain ⟨ln, l40⟩ := okl L (List.mem_of_getElem? hL)
    have hi : i < Ls.length := (List.getElem?_eq_some_iff.mp hL).1
    obtain ⟨a, xs, rfl, sa, dxs⟩ := ln_el dL
    have lx := ln_len dxs
    have lz := fx_len dz
    refine ⟨_, rfl, .inl ⟨rfl, _, SqL.of hz⟩, _, rfl, a, rfl, ⟨xs, sa⟩, fun D hD => ?_⟩
    refine ⟨fun j m H2 => m = xs.length - j ∧ j ≤ xs.length ∧ Same H' H2 ∧ ∃ (ys : List V) (qs : List (Int × Int)), H2 D = some (.lst ys) ∧ DatAll K H2 (qs.map frX) ys ∧ (∀ x ∈ qs, XOk x) ∧ qs.length ≤ j, ⟨_, rfl, Nat.zero_le _, same_new hD _, [], [], upd_same, rfl, (fun _ h => nomatch h), Nat.le_refl _⟩, ?_⟩
    rintro j m H2 ⟨rfl, hj, s2, ys, qs, hlD, dy, okq, lq⟩
    have sa2 := sa.ts s2.ts
    have ly := fx_len dy
    by_cases hlt : j < xs.length
    · refine .inr ⟨⟨xs, _, sa2, List.getElem?_eq_getElem hlt⟩, fun v H3 y => ?_⟩
      obtain ⟨rfl, y⟩ := y
      obtain ⟨st, hst, dst⟩ := ln_at' (dxs.ts s2.ts) (y xs sa2)
      obtain ⟨c, e, rfl, q1, d1⟩ := st_el dst
      refine ⟨_, rfl, _, _, _, _, rfl, rfl, q1, rfl, _, rfl, frD st.p st.q, ps.map frX, e0, zs, .inl d1, rfl, SqL.of (s2 _ _ hz), dz.ts s2.ts, lay_map (f := frX) (fun x => fr_lay _ _) ps, fr_lay _ _, Nat.le_trans (depth_map (f := frX) (n := 1) (fun x => by unfold frX; rw [fr_depth]; exact Nat.le_refl _) ps) (by decide), _, rfl, ?_⟩
      refine ite2 (fun c2 => ?_) (fun c2 => ?_)
      · refine ⟨_, rfl, _, _, _, _, rfl, rfl, q1, rfl, ys, hlD, small90000 (by omega), xs.length - (j + 1), by omega, rfl, hlt, same_mut s2 hD _, ys ++ [e], qs ++ [(st.p, st.q)], upd_same, ?_, fun x hx => ?_, by simp; omega⟩
        · have t2 : Tst H3 (upd H3 D (.lst (ys ++ [e]))) := ts_mut hlD
          rw [List.map_append]
          exact (dy.ts t2).snoc (d1.ts t2)
        · rcases List.mem_append.mp hx with z | z
          · exact okq x z
          · rw [List.mem_singleton.mp z]; exact okb_x (ln.at hst)
      · exact ⟨xs.length - (j + 1), by omega, rfl, hlt, s2, ys, qs, hlD, dy, okq, by omega⟩
    have ej : j = xs.length := by omega
    subst ej
    refine .inl ⟨⟨xs, sa2, Nat.le_refl _⟩, ?_⟩
    have hz2 := s2 _ _ hz
    refine ⟨e0, D, zs, ys, rfl, rfl, hz2, hlD, Nat.le_of_lt (small90000 (by omega)), ?_⟩
    have t2 : Tst H2 (upd H2 e0 (.lst (zs ++ ys))) := ts_mut hz2
    refine ⟨same_mut (sm.trans s2) he0 _, zs ++ ys, ps ++ qs, _, _, _, _, _, _, rfl, upd_same, ?_, fun x hx => ?_, ?_⟩
    · rw [List.map_append]
      exact ((dz.ts s2.ts).ts t2).append (dy.ts t2)
    · rcases List.mem_append.mp hx with z | z
      · exact okp x z
      · exact okq x z
    · rw [List.length_append]
      omega
  · obtain ⟨sm, zs, ps, o2, o3, o4, o5, o6, o7, rfl, hz, dz, okp, lp⟩ := h
    refine ⟨_, rfl, e0, zs, ps, rfl, SqL.of hz, dz, okp, by omega, fun e1 us1 qs H1 s1 hn1 he1 d1 okq lq => ?_⟩
    have lu1 := fx_len d1
    have m1 := sm.trans s1
    refine ⟨_, rfl, e1, us1, rfl, .inl (SqL.of he1), fun sp hsp => ?_⟩
    have u2 := same_new hsp (.lst us1)
    have m2 := m1.trans u2
    have hn2 : H sp = none := same_none m1 hsp
    refine ⟨_, rfl, _, rfl, _, rfl, e1, us1, rfl, SqL.of (u2 _ _ he1), fun cu hcu => ?_⟩
    have u3 := same_new hcu (.lst (cutV us1 (some 1) none))
    have m3 := m2.trans u3
    have he3 : upd (upd H1 sp (.lst us1)) cu (.lst (cutV us1 (some 1) none)) e1 = some (.lst us1) := u3 _ _ (u2 _ _ he1)
    have lc : (cutV us1 (some 1) none).length ≤ us1.length := cutV_length _ _ _
    -- the data of the cut
    have dcut : ∀ {H' : Hp}, DatAll K H' (qs.map frX) us1 → ∃ rs : List (Int × Int), DatAll K H' (rs.map frX) (cutV us1 (some 1) none) ∧ ∀ x ∈ rs, XOk x := fun {H'} d => by
      refine ⟨(qs.drop (HT.sIx us1.length 0 (some 1))).take (HT.sIx us1.length us1.length none - HT.sIx us1.length 0 (some 1)), ?_, fun x hx => okq x (List.mem_of_mem_drop (List.mem_of_mem_take hx))⟩
      rw [List.map_take, List.map_drop]
      exact Mine.DatAll.take _ (Mine.DatAll.drop _ d)
    refine ⟨e1, cu, rfl, rfl, ⟨us1, SqL.of he3⟩, ⟨_, SqL.of upd_same⟩, ?_⟩
    have t13 : Tst H1 (upd (upd H1 sp (.lst us1)) cu (.lst (cutV us1 (some 1) none))) := (u2.trans u3).ts
    have hsp3 : upd (upd H1 sp (.lst us1)) cu (.lst (cutV us1 (some 1) none)) sp = some (.lst us1) := u3 _ _ upd_same
    have hb1 : H1 sp = none := hsp
    have hcu1 : H1 cu = none := same_none u2 hcu
    refine for_zip (xs := us1) (ys := cutV us1 (some 1) none) (fun i σ H' => Same H H' ∧ Tst H1 H' ∧ H' e1 = some (.lst us1) ∧ H' cu = some (.lst (cutV us1 (some 1) none)) ∧ ∃ (zs : List V) (rs : List (Int × Int)) (o2 o4 o5 o6 o7 : Option V), σ = [some (.ref l), some (.ref e1), o2, some (.ref sp), o4, o5, o6, o7] ∧ H' sp = some (.lst zs) ∧ DatAll K H' (rs.map frX) zs ∧ (∀ x ∈ rs, XOk2 x) ∧ rs.length ≤ 3000 + 3 * i) (min us1.length (cutV us1 (some 1) none).length) rfl
      ⟨m3, t13, he3, upd_same, us1, qs, _, _, _, _, _, rfl, hsp3, d1.ts t13, fun x hx => (okq x hx).two, by omega⟩ (fun i σ H' _ h => ⟨SqL.of h.2.2.1, SqL.of h.2.2.2.1⟩) (fun i x y T' σ H' hx hy h hT => ?_) (fun σ H' h => ?_)
    · obtain ⟨sm', t', he', hc', zs, rs, o2, o4, o5, o6, o7, rfl, hs', dz', okr, lr⟩ := h
      have u4 := same_new hT (.tup [x, y])
      have li : i < us1.length := (List.getElem?_eq_some_iff.mp hx).1
      obtain ⟨c, hc, dc⟩ := fx_at' (d1.ts t') hx
      obtain ⟨rs2, dr2, okr2⟩ := dcut (d1.ts t')
      obtain ⟨d, hd, dd⟩ := fx_at' dr2 hy
      obtain ⟨ca, rfl, qc⟩ := fr_el (dc.ts u4.ts)
      obtain ⟨db, rfl, qd⟩ := fr_el (dd.ts u4.ts)
      have xok := okq c (List.mem_of_getElem? hc)
      have yok := okr2 d (List.mem_of_getElem? hd)
      obtain ⟨p1, p2, p3, p4, p5, p6⟩ := top_ok xok yok
      obtain ⟨m1', m2'⟩ := xok.sm
      obtain ⟨n1, n2⟩ := yok.sm
      refine ⟨T', _, rfl, SqT.of upd_same, rfl, _, _, rfl, _, _, rfl, rfl, ?_⟩
      refine ⟨(by show 3 ≤ sizeLine; decide), fun t3 h3 => ?_⟩
      have u5 := same_new h3 (.tup [.int 1, .int 2, .int 3])
      have n1e : ∀ {o : HO} {b : Addr} {u : HO}, H' b = some u → upd H' T' o b = some u := fun h => same_new hT _ _ _ h
      refine ⟨t3, rfl, ⟨_, SqT.of upd_same⟩, ?_⟩
      refine for_tup (xs := [.int 1, .int 2, .int 3]) (fun j σ H2 => Same H H2 ∧ Tst (upd (upd H' T' (.tup [.ref ca, .ref db])) t3 (.tup [.int 1, .int 2, .int 3])) H2 ∧ H2 e1 = some (.lst us1) ∧ H2 cu = some (.lst (cutV us1 (some 1) none)) ∧ ∃ (zs : List V) (rs : List (Int × Int)) (o2 o6 o7 : Option V), σ = [some (.ref l), some (.ref e1), o2, some (.ref sp), some (.ref ca), some (.ref db), o6, o7] ∧ H2 sp = some (.lst zs) ∧ DatAll K H2 (rs.map frX) zs ∧ (∀ x ∈ rs, XOk2 x) ∧ rs.length ≤ 3000 + 3 * i + j)
        ⟨sm'.trans (u4.trans u5), Tst.refl _, u5 _ _ (u4 _ _ he'), u5 _ _ (u4 _ _ hc'), zs, rs, _, _, _, rfl, u5 _ _ (u4 _ _ hs'), (dz'.ts u4.ts).ts u5.ts, okr, by omega⟩ (fun j σ H2 _ h => (SqT.of (K := K) (xs := [.int 1, .int 2, .int 3]) upd_same).ts h.2.1) (fun j x σ H2 hx h => ?_) (fun σ H2 h => ?_)
      · obtain ⟨sm2, t2', he2, hc2, zs2, rs2', o2', o6', o7', rfl, hs2, dz2, okr3, lr3⟩ := h
        have qc2 : SqT K H2 ca [.int c.1, .int c.2] := (qc.ts u5.ts).ts t2'
        have qd2 : SqT K H2 db [.int d.1, .int d.2] := (qd.ts u5.ts).ts t2'
        have hkk : ∃ kk : Int, x = .int kk ∧ (kk = 1 ∨ kk = 2 ∨ kk = 3) := by
          match j, hx with
          | 0, h => cases h; exact ⟨1, rfl, .inl rfl⟩
          | 1, h => cases h; exact ⟨2, rfl, .inr (.inl rfl)⟩
          | 2, h => cases h; exact ⟨3, rfl, .inr (.inr rfl)⟩
        obtain ⟨kk, rfl, hk⟩ := hkk
        have s4 : Sm (4 - kk) := sm_of (by omega)
        have s5 : Sm kk := sm_of (by omega)
        have s6 : Sm (c.1 * d.2) := sm_of (by omega)
        have s7 : Sm (d.1 * c.2) := sm_of (by omega)
        have s8 : Sm 4 := sm_of (by decide)
        have s9 : Sm (4 * c.2) := by have := xok.2.2.2; have := xok.2.2.1; exact sm_of (by omega)
        have e4 : 4 * c.2 * d.2 = 4 * (c.2 * d.2) := Int.mul_assoc _ _ _
        have lj : j < 3 := (List.getElem?_eq_some_iff.mp hx).1
        have lz2 := fx_len dz2
        walk_at "rd"
        refine ⟨.inl ⟨rfl, _, SqL.of hs2⟩, ?_⟩
        walk_at "rd"
        refine ⟨c.1 * d.2 * (4 - kk) + d.1 * c.2 * kk, 4 * c.2 * d.2, rfl, by omega, sm_of (by omega), fun ra H3 s3 hra => ?_⟩
        have hs3 := s3 _ _ hs2
        have hok : XOk2 (Lo.lowT (c.1 * d.2 * (4 - kk) + d.1 * c.2 * kk) (4 * c.2 * d.2), Lo.lowB (c.1 * d.2 * (4 - kk) + d.1 * c.2 * kk) (4 * c.2 * d.2)) := by
          rcases hk with rfl | rfl | rfl <;> exact low_ok (by omega) (by omega) (by omega) (by omega)
        have t5 : Tst H3 (upd H3 sp (.lst (zs2 ++ [.ref ra]))) := ts_mut hs3
        have nra : ra ≠ sp := fun e => by rw [e, hs3] at hra; cases hra
        have nes : e1 ≠ sp := fun e => by rw [e, hsp] at he1; cases he1
        have ncs : cu ≠ sp := fun e => by rw [e, upd_same] at hcu; cases hcu
        refine ⟨sp, zs2, _, rfl, rfl, hs3, small90000 (by omega), ?_⟩
        refine ⟨same_mut (sm2.trans s3) hn2 _, (t2'.trans s3.ts).trans t5, by rw [upd_ne nes]; exact s3 _ _ he2, by rw [upd_ne ncs]; exact s3 _ _ hc2, zs2 ++ [.ref ra], rs2' ++ [(Lo.lowT (c.1 * d.2 * (4 - kk) + d.1 * c.2 * kk) (4 * c.2 * d.2), Lo.lowB (c.1 * d.2 * (4 - kk) + d.1 * c.2 * kk) (4 * c.2 * d.2))], _, _, _, rfl, upd_same, ?_, fun x hx => ?_, by rw [List.length_append, List.length_singleton]; omega⟩
        · rw [List.map_append]
          exact ((dz2.ts s3.ts).ts t5).snoc (fr_mk (SqT.of (by rw [upd_ne nra]; exact hra)))
        · rcases List.mem_append.mp hx with z | z
          · exact okr3 x z
          · rw [List.mem_singleton.mp z]; exact hok
      · obtain ⟨sm2, t2', he2, hc2, zs2, rs2', o2', o6', o7', rfl, hs2, dz2, okr3, lr3⟩ := h
        refine ⟨sm2, t'.trans ((u4.trans u5).ts.trans t2'), he2, hc2, zs2, rs2', _, _, _, _, _, rfl, hs2, dz2, okr3, by simp at lr3; omega⟩
    · obtain ⟨sm', t', he', hc', zs, rs, o2, o4, o5, o6, o7, rfl, hs', dz', okr, lr⟩ := h
      exact ⟨_, rfl, k sp zs rs H' sm' hs' dz' okr⟩
end
end Mine




set_option Elab.async false
set_option linter.all false
set_option maxRecDepth 100000
set_option maxHeartbeats 4000000
namespace Mine
open PySem L2
structure Ms (P : Program) (w : World) (K : PySem.W.Frag) (mg : Str → Option Value) (base : Heap) (c : CCs) : Prop where
  made : ∀ t, MethOk P w K mg base (c.of t) "made_of" 1 ["self"] (spMade c t)
  word : ∀ t, MethOk P w K mg base (c.of t) "making_word" 1 ["self"] (spWord c t)
  pieces : ∀ t, MethOk P w K mg base (c.of t) "pieces" 2 ["self"] (spPieces c t)
end Mine

namespace Mine
open PySem L2
section
variable {P : Program} {w : World} {K : PySem.W.Frag} {mg : Str → Option Value} {base : Heap} {c : CCs}
theorem sc_laid : FnScope ["self", "laid", "waiting", "part"] ["self"] (defScope sLaid) := ⟨rfl, rfl, rfl, by decide +kernel, rfl, by decide +kernel, by decide +kernel⟩
theorem ok_laid {C : Addr} {t : Tr} (T : MethF K C "laid_out" "Saying.laid_out" sLaid) (M : Ms P w K mg base c) : MethOk P w K mg base C "laid_out" 2 ["self"] (spLaid c t) := by
  refine meth_of T sc_laid (fun _ _ _ _ _ _ us hl => match us, hl with | [_], _ => rfl) (fun vs H Q E h => ?_) (fun f cdv A outer s H vs Q E hr h => ?_)
  · obtain ⟨a, rfl, _⟩ := h
    rfl
  obtain ⟨a, rfl, oa, ht, q⟩ := h
  have nd := sc_laid.nd
  refine ⟨_, (pss_cons (ps_set (i := 1) nd rfl (Or.inl rfl) (pe_lst pa_nil))
    (pss_cons (ps_set (i := 2) nd rfl (Or.inl rfl) (pe_lst (pa_cons (pv 0) pa_nil)))
    (pss_cons (ps_while PassesOwn.never (pt_truth (pv 2) (fun _ => rfl)) (pss_cons (ps_set (i := 3) nd rfl (Or.inl rfl) (pe_bm0 PySem.F.plainAttrs_list PySem.F.slot_list_pop PySem.F.type_list_pop mt_pop (pv 2)))
    (pss_cons (ps_expr (pe_bm PySem.F.plainAttrs_list PySem.F.slot_list_append PySem.F.type_list_append mt_append (pv 1) (pa_cons (pv 3) pa_nil)))
    (pss_one (ps_expr (pe_bm PySem.F.plainAttrs_list PySem.F.slot_list_extend PySem.F.type_list_extend mt_extend (pv 2) (pa_cons (pe_methD0 (k := 1) (pv 3) (hr.mono (by decide))) pa_nil)))))))
    (pss_cons (ps_expr (pe_bm0 PySem.F.plainAttrs_list PySem.F.slot_list_reverse PySem.F.type_list_reverse mt_reverse (pv 1)))
    (pss_one (ps_ret (pv 1))))))), ?_⟩
  refine ⟨(by show 0 ≤ sizeLine; decide), fun l1 h1 => ?_⟩
  refine ⟨_, rfl, (by show 1 ≤ sizeLine; decide), fun l2 h2' => ?_⟩
  have h2 : H l2 = none := upd_none h2'
  have n12 : l1 ≠ l2 := fun e => by subst e; rw [upd_same] at h2'; cases h2'
  have smI : Same H (upd (upd H l1 (.lst [])) l2 (.lst [.ref a])) := fun b o e => by rw [upd_ne (ne_of_none e h2), upd_ne (ne_of_none e h1)]; exact e
  refine ⟨fun m σ H' => ∃ (L W : List V) (Lt Wt : List Tr) (o : Option V), σ = [some (.ref a), some (.ref l1), some (.ref l2), o] ∧ Same H H' ∧ H' l1 = some (.lst L) ∧ H' l2 = some (.lst W) ∧ All2 (ObV c H') L Lt ∧ All2 (ObV c H') W Wt ∧
      Lt ++ (Wt.reverse.flatMap fun x => x.post.reverse) = t.post.reverse ∧ m = sizes Wt,
    ⟨_, [], [.ref a], [], [t], _, rfl, smI, by rw [upd_ne n12, upd_same], upd_same, .nil, .cons ⟨a, rfl, oa.to (Kp.of smI)⟩ .nil, by simp, rfl⟩, ?_⟩
  rintro m σ H' ⟨L, W, Lt, Wt, o, rfl, sm, e1, e2, oL, oW, hp, rfl⟩
  have hlen : Lt.length + sizes Wt = t.size := by
    have z := congrArg List.length hp
    rw [List.length_append, flat_len, sizes_rev, List.length_reverse, post_len] at z
    exact z
  have hLl := oL.len
  by_cases hw : W = []
  · subst hw
    cases oW
    refine ⟨_, rfl, false, .inl ⟨[], SqL.of e2, rfl⟩, iteF ?_⟩
    refine ⟨_, rfl, .inl ⟨rfl, _, SqL.of e1⟩, l1, _, rfl, rfl, e1, ?_⟩
    have eL : Lt = t.post.reverse := by simpa using hp
    have kp := kp_mut (u := .lst L.reverse) e1 rfl
    refine ⟨_, rfl, q l1 L.reverse _ (fun b o z => ?_) h1 upd_same ?_⟩
    · rw [upd_ne (ne_of_none z h1)]; exact sm b o z
    · have := (oL.imp (ObV.to kp)).rev
      rw [eL, List.reverse_reverse] at this
      exact this
  · obtain ⟨W', v, Wt', x, rfl, rfl, ⟨b, rfl, ob⟩, oW'⟩ := oW.last hw
    refine ⟨_, rfl, true, .inl ⟨_, SqL.of e2, by cases W' <;> rfl⟩, iteT ?_⟩
    have sz : sizes (Wt' ++ [x]) = sizes Wt' + x.size := by rw [sizes_app]; simp [sizes]
    refine ⟨fun σ' H'' => ∃ m', m' < sizes (Wt' ++ [x]) ∧ ∃ (L W : List V) (Lt Wt : List Tr) (o : Option V), σ' = [some (.ref a), some (.ref l1), some (.ref l2), o] ∧ Same H H'' ∧ H'' l1 = some (.lst L) ∧ H'' l2 = some (.lst W) ∧ All2 (ObV c H'') L Lt ∧ All2 (ObV c H'') W Wt ∧
      Lt ++ (Wt.reverse.flatMap fun x => x.post.reverse) = t.post.reverse ∧ m' = sizes Wt, fun _ _ z => z, ?_⟩
    refine ⟨_, rfl, .inl ⟨rfl, _, SqL.of e2⟩, l2, _, _, rfl, rfl, e2, snoc_last _ _, ?_⟩
    rw [List.dropLast_concat]
    have e1' : upd H' l2 (.lst W') l1 = some (.lst L) := by rw [upd_ne n12]; exact e1
    refine ⟨_, rfl, .inl ⟨rfl, _, SqL.of e1'⟩, _, rfl, l1, _, _, rfl, rfl, e1', by rw [hLl]; exact Nat.lt_of_le_of_lt (show Lt.length ≤ 1000 by omega) (by decide), ?_⟩
    have k1 : Kp H' (upd (upd H' l2 (.lst W')) l1 (.lst (L ++ [.ref b]))) := (kp_mut e2 rfl).trans (kp_mut e1' rfl)
    have e2' : upd (upd H' l2 (.lst W')) l1 (.lst (L ++ [.ref b])) l2 = some (.lst W') := by rw [upd_ne n12.symm, upd_same]
    have ob1 := ob.to k1
    obtain ⟨dx, fs, eb, nf⟩ := ob1.cls
    refine ⟨_, rfl, .inl ⟨rfl, _, SqL.of e2'⟩, _, rfl, b, _, _, _, _, _, rfl, eb, nf _ (by decide +kernel), M.made x, b, rfl, ob1, fun l us hl ou => ?_⟩
    have nl2 : l2 ≠ l := ne_of_none e2' hl
    have nl1 : l1 ≠ l := ne_of_none (upd_same (H := upd H' l2 (.lst W'))) hl
    have e2'' : upd (upd (upd H' l2 (.lst W')) l1 (.lst (L ++ [.ref b]))) l (.lst us) l2 = some (.lst W') := by rw [upd_ne nl2]; exact e2'
    have hWl := oW'.len
    have hul := ou.len
    have hkl := kids_len x
    have hWs := len_sizes Wt'
    refine ⟨l2, l, _, _, rfl, rfl, e2'', upd_same, by rw [hWl, hul]; exact Nat.le_trans (show _ ≤ 1002 by omega) (by decide), ?_⟩
    have k2 : Kp (upd (upd H' l2 (.lst W')) l1 (.lst (L ++ [.ref b]))) (upd (upd (upd (upd H' l2 (.lst W')) l1 (.lst (L ++ [.ref b]))) l (.lst us)) l2 (.lst (W' ++ us))) := (kp_new hl _).trans (kp_mut e2'' rfl)
    have k3 := k1.trans k2
    have ks := kids_size x
    refine ⟨sizes (Wt' ++ x.kids), by rw [sz, sizes_app]; omega, L ++ [.ref b], W' ++ us, Lt ++ [x], Wt' ++ x.kids, _, rfl, fun d o z => ?_, by rw [upd_ne n12, upd_ne nl1, upd_same], upd_same, (oL.imp (ObV.to k3)).app (.cons ⟨b, rfl, ob.to k3⟩ .nil), (oW'.imp (ObV.to k3)).app (ou.imp (ObV.to k2)), ?_, rfl⟩
    · have z1 : upd (upd H' l2 (.lst W')) l1 (.lst (L ++ [.ref b])) d = some o := by rw [upd_ne (ne_of_none z h1), upd_ne (ne_of_none z h2)]; exact sm d o z
      rw [upd_ne (ne_of_none z h2), upd_ne (ne_of_none z1 hl)]
      exact z1
    · rw [← hp]
      simp only [List.reverse_append, List.flatMap_append, List.reverse_cons, List.reverse_nil, List.nil_append, List.append_assoc, List.flatMap_cons, List.flatMap_nil, List.append_nil, List.singleton_append, post_rev x, List.cons_append]
end
end Mine

namespace Mine
open PySem L2
abbrev roN : List Str := ["saying", "rows", "place_of", "waiting", "part", "taken", "row"]
abbrev roAt (i j : Nat) : Stmt := match (defBody s_rows_of).getD i (.Pass ⟨0, 0, 0, 0⟩) with
  | .For _ _ b _ _ => b.getD j (.Pass ⟨0, 0, 0, 0⟩)
  | _ => .Pass ⟨0, 0, 0, 0⟩
theorem take_pop {α : Type} : ∀ {R : List α} {k : Nat}, k < R.length → ∃ x R1, R.drop k = x :: R1 ∧ R.take (k + 1) = R.take k ++ [x] ∧ R.drop (k + 1) = R1 := by
  intro R k h
  refine ⟨R[k], R.drop (k + 1), List.drop_eq_getElem_cons h, ?_, rfl⟩
  rw [List.take_add_one, List.getElem?_eq_getElem h]
  rfl
section
variable {P : Program} {w : World} {K : PySem.W.Frag} {mg : Str → Option Value} {base : Heap} {c : CCs}
theorem sc_rowsOf : FnScope roN ["saying"] (defScope s_rows_of) := ⟨rfl, rfl, rfl, by decide +kernel, rfl, by decide +kernel, by decide +kernel⟩
theorem ok_rowsOf (T : TopDef K mg "rows_of" s_rows_of) (Z_len : mg "len" = none) (Z_tuple : mg "tuple" = none) (M : Ms P w K mg base c) (G : ∀ t, MethOk P w K mg base (c.of t) "laid_out" 2 ["self"] (spLaid c t)) : Def P w K mg base 3 "rows_of" ["saying"] (spRowsOf c) := by
  refine def_of T sc_rowsOf (fun _ _ _ _ _ _ us hl => match us, hl with | [_], _ => rfl) (fun vs H Q E h => ?_) (fun f cdv A outer s H vs Q E hr h => ?_)
  · obtain ⟨a, t, rfl, _⟩ := h
    rfl
  obtain ⟨a, t, rfl, oa, ht, q⟩ := h
  have nd := sc_rowsOf.nd
  have hu := hu_of hr
  -- what is taken
  have stT : ∃ ts, PS (cxOf CX0 P w K mg base roN "rows_of" (defScope s_rows_of) f cdv A outer s H E).nox (roAt 3 0) ts ∧ ∀ (D : Ends) (o5 o6 : Option V) (l1 d1 l3 b : Addr) (x : Tr) (R : List Nat) (H1 : Hp), Ob c H1 b x → H1 l3 = some (.lst (R.reverse.map fun i : Nat => V.int (i : Int))) → x.kids.length ≤ R.length →
      (∀ l4 H2, l4 ≠ l3 → H1 l4 = none → (∀ d o, H1 d = some o → d ≠ l3 → H2 d = some o) → H2 l3 = some (.lst ((R.drop x.kids.length).reverse.map fun i : Nat => V.int (i : Int))) → H2 l4 = some (.lst ((R.take x.kids.length).map fun i : Nat => V.int (i : Int))) →
        D.nx [some (.ref a), some (.ref l1), some (.ref d1), some (.ref l3), some (.ref b), some (.ref l4), o6] H2) →
      ts D [some (.ref a), some (.ref l1), some (.ref d1), some (.ref l3), some (.ref b), o5, o6] H1 := by
    refine ⟨_, (ps_setF (i := 5) nd rfl (Or.inl rfl) (Or.inl rfl) rfl rfl (pi_list (pe_methD0 (k := 1) (pv 4) (hr.mono (by decide)))) rfl (by decide +kernel) (by decide +kernel) rfl (show ∀ p ∈ Scope.names _, p.2 = NameKind.free → List.lookup p.1 (defScope s_rows_of).names = some .cell ∨ List.lookup p.1 (defScope s_rows_of).names = some .free by decide +kernel) (fa_cons (j := 3) rfl (Or.inl rfl) (by decide +kernel) (Or.inl rfl) fa_nil) (show (["piece", "waiting"] : List Str).Nodup by decide +kernel) (fun _ _ _ _ => pif_nil) (fun _ _ _ _ => (pe_bm0K (K := K) rfl PySem.F.plainAttrs_list PySem.F.slot_list_pop PySem.F.type_list_pop mt_pop (pv 1)))), ?_⟩
    intro D o5 o6 l1 d1 l3 b x R H1 ob e3 hk fin
    obtain ⟨dx, fs, eb, nf⟩ := ob.cls
    unfold tAsgC
    refine comp_from ?_
    refine ⟨_, rfl, b, _, _, _, _, _, rfl, eb, nf _ (by decide +kernel), M.made x, b, rfl, ob, fun l us hl ou => ⟨l, rfl, ⟨_, SqL.of upd_same⟩, ?_⟩⟩
    have hul := ou.len
    have nl : l ≠ l3 := (ne_of_none e3 hl).symm
    refine comp_list (K := K) (xs := us) (fun l' H' => l' = l ∧ H' = upd H1 l (.lst us)) (fun R' h => h l _ ⟨rfl, rfl⟩) (fun l' H' h => by obtain ⟨rfl, rfl⟩ := h; exact upd_same) (by rw [hul]; have := kids_len x; omega)
      (fun l' D' i ys H' => l' = l ∧ H1 D' = none ∧ D' ≠ l3 ∧ ys = ((R.take i).map fun i : Nat => V.int (i : Int)) ∧ H' l3 = some (.lst ((R.drop i).reverse.map fun i : Nat => V.int (i : Int))) ∧ ∀ d o, H1 d = some o → d ≠ l3 → H' d = some o)
      (fun l' H' D' h hD => ?_) (fun l' D' i v ys H' hv nl' el eD h N hN => ?_) (fun l' D' ys H' el eD h => ?_)
    · obtain ⟨rfl, rfl⟩ := h
      have hD' := upd_none hD
      refine ⟨rfl, hD', (ne_of_none e3 hD').symm, rfl, ?_, fun d o z _ => ?_⟩
      · rw [upd_ne (ne_of_none e3 hD'), upd_ne nl.symm]; exact e3
      · rw [upd_ne (ne_of_none z hD'), upd_ne (ne_of_none z hl)]; exact z
    · obtain ⟨rfl, hD', nD, rfl, e3', sm⟩ := h
      have hi : i < R.length := by
        have := (List.getElem?_eq_some_iff.mp hv).1
        omega
      obtain ⟨y, R1, d1', d2', d3'⟩ := take_pop hi
      rw [d1', List.reverse_cons, List.map_append] at e3'
      refine ⟨_, rfl, .inl ⟨rfl, _, SqL.of e3'⟩, l3, _, _, rfl, rfl, e3', snoc_last _ _, ?_⟩
      refine hN _ _ (by rw [upd_ne nl]; exact el) (by rw [upd_ne nD]; exact eD) ⟨rfl, hD', nD, ?_, ?_, fun d o z n => ?_⟩
      · rw [d2', List.map_append]; rfl
      · rw [upd_ne nD.symm, upd_same, d3']
        exact congrArg some (congrArg HO.lst List.dropLast_concat)
      · rw [upd_ne (ne_of_none z hD'), upd_ne n]; exact sm d o z n
    · obtain ⟨rfl, hD', nD, rfl, e3', sm⟩ := h
      rw [hul] at e3' eD
      exact fin D' H' nD hD' sm e3' eD
  obtain ⟨tsT, htT, hqT⟩ := stT
  refine ⟨_, pss_cons (ps_set (i := 1) nd rfl (Or.inl rfl) (pe_lst pa_nil)) (pss_cons (ps_set (i := 2) nd rfl (Or.inl rfl) pe_dnewT) (pss_cons (ps_set (i := 3) nd rfl (Or.inr rfl) (pe_lst pa_nil)) (pss_cons (ps_for PassesOwn.never rfl (pi_list (pe_methD0 (k := 2) (pv 0) (hr.mono (by omega)))) (pg_name (i := 4) nd rfl (Or.inl rfl)) (pss_cons htT (pss_cons (ps_expr (pe_bm0 PySem.F.plainAttrs_list PySem.F.slot_list_reverse PySem.F.type_list_reverse mt_reverse (pv 5)))
    (pss_cons (ps_set (i := 6) nd rfl (Or.inl rfl) (pe_op op_catT (pe_tup (pa_cons (pe_methD0 (k := 1) (pv 4) (hr.mono (by decide))) pa_nil)) (pe_callTy call_tuple_of rfl Z_tuple (by decide +kernel) (pa_cons (pv 5) pa_nil))))
    (pss_cons (ps_if (pt_cmp (pc_dnotin hu (pv 6) (pv 2))) (pss_cons (ps_dput hu (pv 2) (pv 6) (pe_callB call_len rfl Z_len (by decide +kernel) (pa_cons (pv 1) pa_nil)) rfl)
    (pss_one (ps_expr (pe_bm PySem.F.plainAttrs_list PySem.F.slot_list_append PySem.F.type_list_append mt_append (pv 1) (pa_cons (pv 6) pa_nil))))) pss_nil)
    (pss_one (ps_expr (pe_bm PySem.F.plainAttrs_list PySem.F.slot_list_append PySem.F.type_list_append mt_append (pv 3) (pa_cons (pe_dget hu (pv 2) (pv 6) (fun _ _ => rfl)) pa_nil))))))))) (pss_one (ps_ret (pv 1)))))), ?_⟩
  refine ⟨(by show 0 ≤ sizeLine; decide), fun l1 h1 => ?_⟩
  intro d1 h2'
  refine ⟨(by show 0 ≤ sizeLine; decide), fun l3 h3' => ?_⟩
  have h2 : H d1 = none := upd_none h2'
  have n12 : l1 ≠ d1 := fun e => by subst e; rw [upd_same] at h2'; cases h2'
  have h3a : upd H l1 (.lst []) l3 = none := upd_none h3'
  have h3 : H l3 = none := upd_none h3a
  have n13 : l1 ≠ l3 := fun e => by subst e; rw [upd_same] at h3a; cases h3a
  have n23 : d1 ≠ l3 := fun e => by subst e; rw [upd_same] at h3'; cases h3'
  have sm0 : Same H (upd (upd (upd H l1 (.lst [])) d1 (.dT [])) l3 (.lst [])) := fun b o e => by rw [upd_ne (ne_of_none e h3), upd_ne (ne_of_none e h2), upd_ne (ne_of_none e h1)]; exact e
  have oa0 := oa.to (Kp.of sm0)
  obtain ⟨dx, fs, ea, nf⟩ := oa0.cls
  refine ⟨_, rfl, a, _, _, _, _, _, rfl, ea, nf _ (by decide +kernel), G t, a, rfl, oa0, ht, fun l us H' sm hl el ou => ⟨l, rfl, ⟨_, SqL.of el⟩, ?_⟩⟩
  have ul := ou.len
  rw [post_len] at ul
  have g1 : H' l1 = some (.lst []) := sm _ _ (by rw [upd_ne n13, upd_ne n12, upd_same])
  have g2 : H' d1 = some (.dT []) := sm _ _ (by rw [upd_ne n23, upd_same])
  have g3 : H' l3 = some (.lst []) := sm _ _ upd_same
  have hl0 : H l = none := by
    cases z : H l with
    | none => rfl
    | some o => rw [sm0 _ _ z] at hl; cases hl
  have nl1 : l ≠ l1 := fun e => by subst e; rw [upd_ne n13, upd_ne n12, upd_same] at hl; cases hl
  have nl3 : l ≠ l3 := fun e => by subst e; rw [upd_same] at hl; cases hl
  have nld : l ≠ d1 := fun e => by subst e; rw [upd_ne n23, upd_same] at hl; cases hl
  refine for_list (xs := us) (fun i σ H2 => ∃ (o4 o5 o6 : Option V) (rs : List Rw) (R : List Nat) (kvs : List (Rw × V)) (vs : List V), σ = [some (.ref a), some (.ref l1), some (.ref d1), some (.ref l3), o4, o5, o6] ∧ (∀ d o, H' d = some o → d ≠ l1 → d ≠ d1 → d ≠ l3 → H2 d = some o) ∧
      H2 l1 = some (.lst vs) ∧ All2 (RwV H2) vs rs ∧ H2 d1 = some (.dT kvs) ∧ PlO kvs rs ∧ H2 l3 = some (.lst (R.reverse.map fun i : Nat => V.int (i : Int))) ∧ R.length ≤ i ∧ rs.length ≤ i ∧ rrun (rs, R) (t.post.drop i) = some (t.rows, [(t.putR []).2]))
    ⟨_, _, _, [], [], [], [], rfl, fun d o z _ _ _ => z, g1, .nil, g2, PlO.nil, g3, Nat.le_refl _, Nat.le_refl _, rrun_all t⟩ (fun i σ H2 _ h => ?_) (fun i v σ H2 hi h => ?_) (fun σ H2 h => ?_)
  · obtain ⟨o4, o5, o6, rs, R, kvs, vs, _, sb, _⟩ := h
    exact SqL.of (sb _ _ el nl1 nld nl3)
  · obtain ⟨o4, o5, o6, rs, R, kvs, vs, rfl, sb, e1, rv, e2, pl, e3, hR, hrs, hrun⟩ := h
    obtain ⟨x, hx, b, rfl, ob⟩ := ou.get i v hi
    rw [drop_at hx] at hrun
    obtain ⟨s', hs', hrun'⟩ := rrun_cons hrun
    obtain ⟨hk, rfl⟩ := rstep_is hs'
    have hil : i < us.length := (List.getElem?_eq_some_iff.mp hi).1
    have kp : Kp H' H2 := fun d o z f => sb d o z (fun e => by subst e; rw [g1] at z; cases z; cases f) (fun e => by subst e; rw [g2] at z; cases z; cases f) (fun e => by subst e; rw [g3] at z; cases z; cases f)
    have ob2 := ob.to kp
    refine hqT _ _ _ l1 d1 l3 b x R H2 ob2 e3 hk fun l4 H3 n43 h4 sm3 e33 e34 => ?_
    have nl41 : l4 ≠ l1 := (ne_of_none e1 h4).symm
    have nl4d : l4 ≠ d1 := (ne_of_none e2 h4).symm
    have e31 : H3 l1 = some (.lst vs) := sm3 _ _ e1 n13
    have e3d : H3 d1 = some (.dT kvs) := sm3 _ _ e2 n23
    have kp3 : Kp H2 H3 := fun d o z f => sm3 d o z (fun e => by subst e; rw [e3] at z; cases z; cases f)
    -- taken.reverse()
    refine ⟨_, rfl, .inl ⟨rfl, _, SqL.of e34⟩, l4, _, rfl, rfl, e34, ?_⟩
    have kp4 : Kp H3 (upd H3 l4 (.lst ((R.take x.kids.length).map fun i : Nat => V.int (i : Int)).reverse)) := kp_mut e34 rfl
    rw [← List.map_reverse] at kp4 ⊢
    have ob4 := (ob2.to kp3).to kp4
    obtain ⟨dx', fs', eb, nf'⟩ := ob4.cls
    refine ⟨_, rfl, b, _, _, _, _, _, rfl, eb, nf' _ (by decide +kernel), M.word x, b, rfl, ob4, (by show 1 ≤ sizeLine; decide), fun p1 hp1 => ?_⟩
    have kx := kids_len x
    have e44 : upd H3 l4 (.lst ((R.take x.kids.length).reverse.map fun i : Nat => V.int (i : Int))) l4 = _ := upd_same
    have np1 : l4 ≠ p1 := ne_of_none e44 hp1
    refine ⟨_, rfl, l4, _, rfl, .inl ⟨SqL.of (by rw [upd_ne np1]; exact e44), fun p2 hp2 => ?_⟩⟩
    have np12 : p1 ≠ p2 := ne_of_none (upd_same (H := upd H3 l4 (.lst ((R.take x.kids.length).reverse.map fun i : Nat => V.int (i : Int))))) hp2
    refine catT_any (K := K) (by rw [upd_ne np12, upd_same]) upd_same (by simp) (by simp only [List.length_cons, List.length_nil, List.length_map, List.length_reverse, List.length_take]; exact Nat.le_trans (show _ ≤ 3 by omega) (by decide)) fun rw' H6 s6 e6 => ?_
    have s46 : Same (upd H3 l4 (.lst ((R.take x.kids.length).reverse.map fun i : Nat => V.int (i : Int)))) H6 := ((same_new hp1 _).trans (same_new hp2 _)).trans s6
    have e6' : H6 rw' = some (.tup ((rowK x.word (R.take x.kids.length).reverse).map kV)) := by rw [rowK_kV]; exact e6
    generalize hr0 : rowK x.word (R.take x.kids.length).reverse = r at e6' hrun'
    have g1' : H6 l1 = some (.lst vs) := s46 _ _ (by rw [upd_ne nl41.symm]; exact e31)
    have gd' : H6 d1 = some (.dT kvs) := s46 _ _ (by rw [upd_ne nl4d.symm]; exact e3d)
    have g3' : H6 l3 = some (.lst ((R.drop x.kids.length).reverse.map fun i : Nat => V.int (i : Int))) := s46 _ _ (by rw [upd_ne n43.symm]; exact e33)
    have kp6 : Kp H2 H6 := (kp3.trans kp4).trans (Kp.of s46)
    have sb6 : ∀ d o, H' d = some o → d ≠ l1 → d ≠ d1 → d ≠ l3 → H6 d = some o := fun d o z z1 z2 z3 => by
      have y2 := sb d o z z1 z2 z3
      exact s46 _ _ (by rw [upd_ne (ne_of_none y2 h4)]; exact sm3 d o y2 z3)
    have rv6 := rv.imp (RwV.to kp6)
    have vl := rv.len
    refine ⟨_, rfl, _, rfl, d1, _, rfl, DGet.t gd' e6', _, rfl, ?_⟩
    have hv := pl.2 r
    have big : kvs.length < sizeLine := by rw [pl.1]; exact Nat.lt_of_le_of_lt (show rs.length ≤ 1000 by omega) (by decide)
    cases hx0 : idx rs r with
    | some j =>
      rw [hx0] at hv
      rw [hv]
      refine iteF ?_
      have hp : pushRow rs r = (rs, j) := by unfold pushRow; rw [hx0]
      rw [hp] at hrun'
      refine ⟨_, rfl, .inl ⟨rfl, _, SqL.of g3'⟩, _, rfl, _, rfl, d1, _, rfl, (by have z := DGet.t gd' e6'; rw [hv] at z; exact z), l3, _, _, rfl, rfl, g3', ?_, ?_⟩
      · rw [List.length_map, List.length_reverse]; exact Nat.lt_of_le_of_lt (show _ ≤ 1000 by rw [List.length_drop]; omega) (by decide)
      · have km : Kp H6 (upd H6 l3 (.lst (((R.drop x.kids.length).reverse.map fun i : Nat => V.int (i : Int)) ++ [V.int (j : Int)]))) := kp_mut g3' rfl
        refine ⟨_, _, _, rs, j :: R.drop x.kids.length, kvs, vs, rfl, fun d o z z1 z2 z3 => by rw [upd_ne z3]; exact sb6 d o z z1 z2 z3, by rw [upd_ne n13]; exact g1', rv6.imp (RwV.to km), by rw [upd_ne n23]; exact gd', pl, by rw [upd_same, List.reverse_cons, List.map_append]; rfl, ?_, by omega, hrun'⟩
        rw [List.length_cons, List.length_drop]; omega
    | none =>
      rw [hx0] at hv
      rw [hv]
      refine iteT ?_
      have hp : pushRow rs r = (rs ++ [r], rs.length) := by unfold pushRow; rw [hx0]
      rw [hp] at hrun'
      refine ⟨_, rfl, _, vs.length, rfl, .inl ⟨_, SqL.of g1', rfl⟩, _, rfl, _, rfl, d1, _, rfl, DPut.t gd' e6' big, ?_⟩
      rw [vl]
      have gA : upd H6 d1 (.dT (putK kvs r (.int (rs.length : Int)))) l1 = some (.lst vs) := by rw [upd_ne n12]; exact g1'
      refine ⟨_, rfl, .inl ⟨rfl, _, SqL.of gA⟩, _, rfl, l1, _, _, rfl, rfl, gA, by rw [vl]; exact Nat.lt_of_le_of_lt (show rs.length ≤ 1000 by omega) (by decide), ?_⟩
      have k7 : Kp H6 (upd (upd H6 d1 (.dT (putK kvs r (.int (rs.length : Int))))) l1 (.lst (vs ++ [.ref rw']))) := (kp_mut gd' rfl).trans (kp_mut gA rfl)
      have gB : upd (upd H6 d1 (.dT (putK kvs r (.int (rs.length : Int))))) l1 (.lst (vs ++ [.ref rw'])) d1 = some (.dT (putK kvs r (.int (rs.length : Int)))) := by rw [upd_ne n12.symm, upd_same]
      have gC : upd (upd H6 d1 (.dT (putK kvs r (.int (rs.length : Int))))) l1 (.lst (vs ++ [.ref rw'])) l3 = some (.lst ((R.drop x.kids.length).reverse.map fun i : Nat => V.int (i : Int))) := by rw [upd_ne n13.symm, upd_ne n23.symm]; exact g3'
      have e7 := k7 _ _ e6' rfl
      have pl' := pl.put hx0
      have hv' : valV (putK kvs r (.int (rs.length : Int))) r = some (.int (rs.length : Int)) := by rw [valV_put, if_pos rfl]
      refine ⟨_, rfl, .inl ⟨rfl, _, SqL.of gC⟩, _, rfl, _, rfl, d1, _, rfl, (by have z := DGet.t gB e7; rw [hv'] at z; exact z), l3, _, _, rfl, rfl, gC, ?_, ?_⟩
      · rw [List.length_map, List.length_reverse]; exact Nat.lt_of_le_of_lt (show _ ≤ 1000 by rw [List.length_drop]; omega) (by decide)
      · have km := kp_mut (u := .lst (((R.drop x.kids.length).reverse.map fun i : Nat => V.int (i : Int)) ++ [V.int (rs.length : Int)])) gC rfl
        refine ⟨_, _, _, rs ++ [r], rs.length :: R.drop x.kids.length, _, vs ++ [.ref rw'], rfl, fun d o z z1 z2 z3 => by rw [upd_ne z3, upd_ne z1, upd_ne z2]; exact sb6 d o z z1 z2 z3, by rw [upd_ne n13, upd_same], ?_, by rw [upd_ne n23]; exact gB, pl', by rw [upd_same, List.reverse_cons, List.map_append]; rfl, ?_, by rw [List.length_append]; simp; omega, hrun'⟩
        · exact ((rv6.imp (RwV.to k7)).imp (RwV.to km)).app (.cons ⟨rw', rfl, km _ _ e7 rfl⟩ .nil)
        · rw [List.length_cons, List.length_drop]; omega
  · obtain ⟨o4, o5, o6, rs, R, kvs, vs, rfl, sb, e1, rv, e2, pl, e3, hR, hrs, hrun⟩ := h
    rw [ul, ← post_len, List.drop_length] at hrun
    cases hrun
    refine ⟨_, rfl, q l1 vs H2 (fun d o z => ?_) h1 e1 rv⟩
    exact sb d o (sm _ _ (sm0 _ _ z)) (ne_of_none z h1) (ne_of_none z h2) (ne_of_none z h3)
end
end Mine




set_option Elab.async false
set_option linter.all false
set_option maxRecDepth 100000
set_option maxHeartbeats 4000000
namespace Mine
open PySem L2
def Tr.lets : Tr → Nat
  | .never => 0 | .always => 0 | .lp => 1 | .lq => 1
  | .no t => t.lets
  | .fold _ a b => a.lets + b.lets
theorem steep_lets : ∀ t : Tr, t.steep ≤ t.lets
  | .never => Nat.le_refl _ | .always => Nat.le_refl _ | .lp => Nat.le_refl _ | .lq => Nat.le_refl _
  | .no t => steep_lets t
  | .fold u a b => by
    have := steep_lets a
    have := steep_lets b
    show u.steep a.steep b.steep ≤ a.lets + b.lets
    cases u <;> simp only [W5.steep] <;> omega
/-- what lies on the stack: a tree, its letters, its parts -/
def StV (H : Hp) (m : Int) (v : V) (t : Tr) : Prop := ∃ a b, v = .ref a ∧ H a = some (.tup [.ref b, .int (t.lets : Int), .int (t.size : Int)]) ∧ Tu H b t ∧ t.noq = true ∧ (t.lets : Int) ≤ m ∧ t.size ≤ 24
theorem StV.to {H H' : Hp} {m : Int} (e : Kp H H') (v : V) (t : Tr) (h : StV H m v t) : StV H' m v t := by
  obtain ⟨a, b, r, e1, tu, n, l, z⟩ := h
  exact ⟨a, b, r, e _ _ e1 rfl, tu.to e, n, l, z⟩
def spTree (K : PySem.W.Frag) : Sp := fun vs H Q _ => ∃ (a : Addr) (ns : List Int) (f l m : Int), vs = [.ref a, .int f, .int l, .int m] ∧ Scr K H a ns ∧ 0 ≤ f ∧ f ≤ 63 ∧ 0 ≤ l ∧ l ≤ 63 ∧ 1 ≤ m ∧ ∀ b t H', Same H H' → Tu H' b t → t.noq = true → (t.lets : Int) ≤ m → t.size ≤ 24 → Q (.ref b) H'
theorem atZ {x : V} {us : List V} : atI (x :: us) 0 = some x := atI_nat (j := 0) rfl
theorem last1 (ys : List V) (y : V) : atI (ys ++ [y]) (-1) = some y := by
  unfold atI ixN
  rw [if_neg (by decide), if_pos (by rw [List.length_append]; simp; omega)]
  show (ys ++ [y])[((-1 : Int) + ((ys ++ [y]).length : Nat)).toNat]? = some y
  rw [show ((-1 : Int) + ((ys ++ [y]).length : Nat)).toNat = ys.length by rw [List.length_append]; simp; omega]
  simp
theorem last2 (ys : List V) (x y : V) : atI (ys ++ [x] ++ [y]) (-2) = some x := by
  unfold atI ixN
  rw [if_neg (by decide), if_pos (by simp; omega)]
  show (ys ++ [x] ++ [y])[((-2 : Int) + ((ys ++ [x] ++ [y]).length : Nat)).toNat]? = some x
  rw [show ((-2 : Int) + ((ys ++ [x] ++ [y]).length : Nat)).toNat = ys.length by simp; omega]
  simp
theorem cut2 (ys : List V) (x y : V) : cutV (ys ++ [x] ++ [y]) none (some (-2)) = ys := by
  unfold cutV
  rw [_root_.HT.sIx_none]
  have e : _root_.HT.sIx (ys ++ [x] ++ [y]).length (ys ++ [x] ++ [y]).length (some (-2)) = ys.length := by
    show (if (-2 : Int) < 0 then ((-2 : Int) + (((ys ++ [x] ++ [y]).length : Nat) : Int)).toNat else min (-2 : Int).toNat (ys ++ [x] ++ [y]).length) = _
    rw [if_pos (by decide)]
    simp
    omega
  rw [e]
  simp
theorem ixl (ys : List V) (y : V) : ixN (ys ++ [y]).length (-1) = some ys.length := by
  unfold ixN
  rw [if_neg (by decide), if_pos (by rw [List.length_append]; simp; omega)]
  exact congrArg some (by rw [List.length_append]; simp; omega)
abbrev trN : List Str := ["_law_script", "_law_first", "_law_last", "_law_most", "_law_stack", "_law_k", "_law_cell", "_law_kind", "_law_one", "_law_other", "_law_word"]
def trIf : Stmt := match (defBody s_l_tree).getD 1 (.Pass ⟨0, 0, 0, 0⟩) with
  | .For _ _ b _ _ => b.getD 3 (.Pass ⟨0, 0, 0, 0⟩)
  | _ => .Pass ⟨0, 0, 0, 0⟩
/-- the stack behind a turn -/
def StkI (H : Hp) (m : Int) (i : Nat) (l : Addr) (H' : Hp) : Prop := ∃ (vs : List V) (ts : List Tr), Same H H' ∧ H l = none ∧ H' l = some (.lst vs) ∧ All2 (StV H' m) vs ts ∧ vs ≠ [] ∧ vs.length ≤ i + 1
section
variable {P : Program} {w : World} {K : PySem.W.Frag} {mg : Str → Option Value} {base : Heap} {c : CCs}
theorem tr_if {f : Addr} {cdv : Value} {A : Around} {outer : List Env} {s : Shared} {H : Hp} {E : XK} (Z_len : mg "len" = none) {k0 : Nat} (hr : Room k0 (A.deeper (PyProof.Rows.envOfC "_law_tree" (defScope s_l_tree) s.heap.objs.size f cdv))) :
    ∃ tt, PS (cxOf CX0 P w K mg base trN "_law_tree" (defScope s_l_tree) f cdv A outer s H E).nox trIf tt ∧ ∀ (D : Ends) (o0 o1 o2 : Option V) (o5 o9 o10 : Option V) (l : Addr) (m cell : Int) (i : Nat) (vs' : List V) (ts' : List Tr) (v : V) (t : Tr) (H1 : Hp), 1 ≤ m → i ≤ 100 → Same H H1 → H l = none → H1 l = some (.lst (vs' ++ [v])) → All2 (StV H1 m) vs' ts' → StV H1 m v t → vs'.length ≤ i →
      (∀ (l' : Addr) (o9 o10 : Option V) (H2 : Hp), StkI H m (i + 1) l' H2 → D.nx [o0, o1, o2, some (.int m), some (.ref l'), o5, some (.int cell), some (.int (cell % 10)), some v, o9, o10] H2) →
      tt D [o0, o1, o2, some (.int m), some (.ref l), o5, some (.int cell), some (.int (cell % 10)), some v, o9, o10] H1 := by
  have nd : trN.Nodup := sc_l_tree.nd
  refine ⟨_, (ps_if (PW.pt (pw_and (pt_cmpR op_eq (pv 7) pe_int (nomark _)) (pw_and1 (pt_cmpR op_lt (pe_ix ix_tup (pv 8) pe_int (fun _ _ => rfl)) pe_int (nomark _))))) (pss_one (ps_asg (pe_tup (pa_cons (pe_tup (pa_cons pe_str (pa_cons (pe_ix ix_tup (pv 8) pe_int (fun _ _ => rfl)) pa_nil))) (pa_cons (pe_ix ix_tup (pv 8) pe_int (fun _ _ => rfl)) (pa_cons (pe_op op_add (pe_ix ix_tup (pv 8) pe_int (fun _ _ => rfl)) pe_int) pa_nil)))) (pg_sub (pv 4) (pe_un un_neg pe_int) set_list))) (pss_one (ps_if (PW.pt (pw_and (pt_cmpR op_gt (pv 7) pe_int (nomark _)) (pw_and1 (pt_cmpR op_gt (pe_callB call_len rfl Z_len (by decide +kernel) (pa_cons (pv 4) pa_nil)) pe_int (nomark _))))) (pss_cons (ps_set (i := 9) nd rfl (Or.inl rfl) (pe_ix ix_list (pv 4) (pe_un un_neg pe_int) (fun _ _ => rfl)))
    (pss_one (ps_if (PW.pt (pw_and (pt_cmpR op_le (pe_op op_add (pe_ix ix_tup (pv 8) pe_int (fun _ _ => rfl)) (pe_ix ix_tup (pv 9) pe_int (fun _ _ => rfl))) (pv 3) (nomark _)) (pw_and1 (pt_cmpR op_lt (pe_op op_add (pe_ix ix_tup (pv 8) pe_int (fun _ _ => rfl)) (pe_ix ix_tup (pv 9) pe_int (fun _ _ => rfl))) pe_int (nomark _))))) (pss_cons (ps_set (i := 10) nd rfl (Or.inl rfl) (pe_ix ix_tup (pe_tup (pa_cons pe_str (pa_cons pe_str (pa_cons pe_str (pa_cons pe_str (pa_cons pe_str pa_nil)))))) (pe_op op_mod (pe_op op_fdiv (pv 6) pe_int) pe_int) (fun _ _ => rfl)))
    (pss_one (ps_set (i := 4) nd rfl (Or.inl rfl) (pe_op op_cat (pe_slice sl_list (pv 4) po_none (po_some (pe_un un_neg pe_int))) (pe_lst (pa_cons (pe_tup (pa_cons (pe_tup (pa_cons (pv 10) (pa_cons (pe_ix ix_tup (pv 9) pe_int (fun _ _ => rfl)) (pa_cons (pe_ix ix_tup (pv 8) pe_int (fun _ _ => rfl)) pa_nil)))) (pa_cons (pe_op op_add (pe_ix ix_tup (pv 8) pe_int (fun _ _ => rfl)) (pe_ix ix_tup (pv 9) pe_int (fun _ _ => rfl))) (pa_cons (pe_op op_add (pe_op op_add (pe_ix ix_tup (pv 8) pe_int (fun _ _ => rfl)) (pe_ix ix_tup (pv 9) pe_int (fun _ _ => rfl))) pe_int) pa_nil)))) pa_nil)))))) pss_nil))) (pss_one (ps_if (pt_cmpR op_eq (pv 7) pe_int (nomark _)) (pss_one (ps_expr (pe_bm PySem.F.plainAttrs_list PySem.F.slot_list_append PySem.F.type_list_append mt_append (pv 4) (pa_cons (pe_tup (pa_cons (pe_tup (pa_cons (pe_ix ix_tup (pe_tup (pa_cons pe_str (pa_cons pe_str pa_nil))) (pe_op op_mod (pe_op op_fdiv (pv 6) pe_int) pe_int) (fun _ _ => rfl)) pa_nil)) (pa_cons pe_int (pa_cons pe_int pa_nil)))) pa_nil)))) (pss_one (ps_expr (pe_bm PySem.F.plainAttrs_list PySem.F.slot_list_append PySem.F.type_list_append mt_append (pv 4) (pa_cons (pe_tup (pa_cons (pe_tup (pa_cons pe_str pa_nil)) (pa_cons pe_int (pa_cons pe_int pa_nil)))) pa_nil))))))))), ?_⟩
  intro D o0 o1 o2 o5 o9 o10 l m cell i vs' ts' v t H1 hm hi sm hl el al sv hz fin
  obtain ⟨a, b, rfl, ea, tb, nq, lm, sz⟩ := sv
  have sv : StV H1 m (.ref a) t := ⟨a, b, rfl, ea, tb, nq, lm, sz⟩
  have al2 := al.len
  have big : ∀ n : Nat, n ≤ 1000 → n < sizeLine := fun n h => Nat.lt_of_le_of_lt h (by decide)
  -- what is put on
  have push : ∀ (H2 : Hp) (y : V) (x : Tr), Same H1 H2 → StV H2 m y x → ∀ (o9 o10 : Option V), rAppend (.ref l) [y] H2 fun _ H3 => D.nx [o0, o1, o2, some (.int m), some (.ref l), o5, some (.int cell), some (.int (cell % 10)), some (.ref a), o9, o10] H3 := fun H2 y x s2 sy o9 o10 => by
    have e2 := s2 _ _ el
    refine ⟨l, _, _, rfl, rfl, e2, big _ (by rw [List.length_append, List.length_singleton]; omega), fin l o9 o10 _ ?_⟩
    have k1 := kp_mut (u := .lst (vs' ++ [.ref a] ++ [y])) e2 rfl
    refine ⟨vs' ++ [.ref a] ++ [y], ts' ++ [t] ++ [x], fun d o hd => by rw [upd_ne (ne_of_none hd hl)]; exact s2 _ _ (sm _ _ hd), hl, upd_same, ?_, by simp, by simp; omega⟩
    exact ((al.imp (StV.to ((Kp.of s2).trans k1))).app (.cons (StV.to ((Kp.of s2).trans k1) _ _ sv) .nil)).app (.cons (StV.to k1 _ _ sy) .nil)
  have leafp : ∀ (H2 : Hp) (x : Str) (z : Tr), Same H1 H2 → z.lets ≤ 1 → z.size = 1 → z.noq = true → (∀ (H : Hp) (d : Addr), H d = some (.tup [.str x]) → Tu H d z) → ∀ p1, H2 p1 = none → ∀ p2, upd H2 p1 (.tup [V.str x]) p2 = none → StV (upd (upd H2 p1 (.tup [V.str x])) p2 (.tup [.ref p1, .int (z.lets : Int), .int 1])) m (.ref p2) z := fun H2 x z s2 h1 h2 h3 h4 p1 hp1 p2 hp2 => by
    have u2 := same_new hp2 (.tup [.ref p1, .int (z.lets : Int), .int 1])
    refine ⟨p2, p1, rfl, by rw [upd_same, h2]; rfl, h4 _ _ (u2 _ _ upd_same), h3, by omega, by omega⟩
  have s00 : ∀ n : Nat, n ≤ 5 → n ≤ sizeLine := fun n h => Nat.le_trans h (by decide)
  refine ⟨_, rfl, rfl, _, rfl, ite2 (fun c1 => ⟨_, rfl, _, _, _, _, rfl, rfl, SqT.of ea, atI_nat (j := 2) rfl, _, _, rfl, rfl, _, rfl, ite2 (fun c2 => ?A) (fun _ => ?B)⟩) (fun _ => iteF ?C)⟩
  case A =>
    have c2' : (t.size : Int) < 24 := of_decide_eq_true c2
    refine ⟨_, rfl, _, _, _, _, rfl, rfl, SqT.of ea, atZ, s00 2 (by decide), fun p1 hp1 => ?_⟩
    have u1 := same_new hp1 (.tup [V.str "not", .ref b])
    refine ⟨_, rfl, _, _, _, _, rfl, rfl, SqT.of (u1 _ _ ea), atI_nat (j := 1) rfl, _, rfl, _, _, _, _, rfl, rfl, SqT.of (u1 _ _ ea), atI_nat (j := 2) rfl, _, _, rfl, rfl, s00 3 (by decide), fun p2 hp2 => ?_⟩
    have u2 := same_new hp2 (.tup [.ref p1, .int (t.lets : Int), .int ((t.size : Int) + 1)])
    have u12 := u1.trans u2
    refine ⟨_, rfl, _, rfl, l, _, _, _, rfl, rfl, u12 _ _ el, ixl _ _, ?_⟩
    rw [show (vs' ++ [V.ref a]).set vs'.length (V.ref p2) = vs' ++ [V.ref p2] by simp]
    have k1 := kp_mut (u := .lst (vs' ++ [V.ref p2])) (u12 _ _ el) rfl
    refine fin l _ _ _ ⟨vs' ++ [.ref p2], ts' ++ [.no t], fun d o hd => by rw [upd_ne (ne_of_none hd hl)]; exact u12 _ _ (sm _ _ hd), hl, upd_same, (al.imp (StV.to ((Kp.of u12).trans k1))).app (.cons ?_ .nil), by simp, by simp; omega⟩
    have kk := (Kp.of u2).trans k1
    exact ⟨p2, p1, rfl, k1 _ _ upd_same rfl, .no (kk _ _ upd_same rfl) (tb.to ((Kp.of u12).trans k1)), nq, lm, by show t.size + 1 ≤ 24; omega⟩
  all_goals
    refine ⟨_, rfl, _, _, rfl, rfl, _, rfl, ite2 (fun c3 => ⟨_, rfl, _, _, rfl, .inl ⟨_, SqL.of el, rfl⟩, _, _, rfl, rfl, _, rfl, ite2 (fun c4 => ?_) (fun _ => ?_)⟩) (fun _ => iteF ?_)⟩
    ·
      have c4' : (((vs' ++ [V.ref a]).length : Nat) : Int) > 1 := of_decide_eq_true c4
      have nv : vs' ≠ [] := fun z => by subst z; simp at c4'
      obtain ⟨ws, u, xs, y, rfl, rfl, su, aw⟩ := al.last nv
      have su' := su
      obtain ⟨d, e, rfl, ed, te, nqe, lme, sze⟩ := su
      refine ⟨_, rfl, _, rfl, _, _, _, _, rfl, rfl, SqL.of el, last2 _ _ _, ?_⟩
      have same : ∀ (o9 o10 : Option V), D.nx [o0, o1, o2, some (.int m), some (.ref l), o5, some (.int cell), some (.int (cell % 10)), some (.ref a), o9, o10] H1 := fun o9 o10 => fin l o9 o10 H1 ⟨_, _, sm, hl, el, al.app (.cons sv .nil), by simp, by simp at hz ⊢; omega⟩
      refine ⟨_, rfl, _, _, _, _, rfl, rfl, SqT.of ea, atI_nat (j := 1) rfl, _, rfl, _, _, _, _, rfl, rfl, SqT.of ed, atI_nat (j := 1) rfl, _, _, rfl, rfl, _, rfl, _, _, rfl, rfl, _, rfl, ite2 (fun c5 => ⟨_, rfl, _, _, _, _, rfl, rfl, SqT.of ea, atI_nat (j := 2) rfl, _, rfl, _, _, _, _, rfl, rfl, SqT.of ed, atI_nat (j := 2) rfl, _, _, rfl, rfl, _, _, rfl, rfl, _, rfl, ite2 (fun c6 => ?_) (fun _ => same _ _)⟩) (fun _ => iteF (same _ _))⟩
      have c5' : (t.lets : Int) + (y.lets : Int) ≤ m := of_decide_eq_true c5
      have c6' : (t.size : Int) + (y.size : Int) < 24 := of_decide_eq_true c6
      refine ⟨s00 5 (by decide), fun p0 hp0 => ?_⟩
      obtain ⟨u, hu⟩ := word_at (cell / 10 % 5) (Int.emod_nonneg _ (by decide)) (Int.emod_lt_of_pos _ (by decide))
      refine ⟨_, rfl, _, _, rfl, rfl, ⟨by decide, by decide⟩, _, _, rfl, rfl, (show (0 : Int) < 5 by decide), _, _, _, _, rfl, rfl, SqT.of upd_same, hu, ?_⟩
      have w0 := same_new hp0 (.tup [V.str "more", .str "less", .str "greater", .str "lesser", .str "leads"])
      refine ⟨_, rfl, _, rfl, _, rfl, l, _, rfl, SqL.of (w0 _ _ el), fun q1 hq1 => ?_⟩
      rw [cut2]
      have w1 := w0.trans (same_new hq1 (.lst ws))
      refine ⟨_, rfl, _, rfl, _, _, _, _, rfl, rfl, SqT.of (w1 _ _ ed), atZ, _, rfl, _, _, _, _, rfl, rfl, SqT.of (w1 _ _ ea), atZ, s00 3 (by decide), fun p1 hp1 => ?_⟩
      have w2 := w1.trans (same_new hp1 (.tup [V.str u.str, .ref e, .ref b]))
      refine ⟨_, rfl, _, _, _, _, rfl, rfl, SqT.of (w2 _ _ ea), atI_nat (j := 1) rfl, _, rfl, _, _, _, _, rfl, rfl, SqT.of (w2 _ _ ed), atI_nat (j := 1) rfl, _, _, rfl, rfl, _, rfl, _, _, _, _, rfl, rfl, SqT.of (w2 _ _ ea), atI_nat (j := 2) rfl, _, rfl, _, _, _, _, rfl, rfl, SqT.of (w2 _ _ ed), atI_nat (j := 2) rfl, _, _, rfl, rfl, _, _, rfl, rfl, s00 3 (by decide), fun p2 hp2 => ?_⟩
      have w3 := w2.trans (same_new hp2 (.tup [.ref p1, .int ((t.lets : Int) + (y.lets : Int)), .int ((t.size : Int) + (y.size : Int) + 1)]))
      refine ⟨s00 1 (by decide), fun q2 hq2 => ?_⟩
      have w4 := same_new hq2 (.lst [V.ref p2])
      have hq1' : H1 q1 = none := w0.free hq1
      refine ⟨q1, q2, _, _, rfl, rfl, w4 _ _ (same_new hp2 _ _ _ (same_new hp1 _ _ _ upd_same)), upd_same, ?_, fun q3 hq3 => ?_⟩
      · have := aw.len
        refine Nat.le_of_lt (big _ ?_)
        show ws.length + 1 ≤ 1000
        simp at hz
        omega
      have w5 := same_new hq3 (.lst (ws ++ [V.ref p2]))
      have w35 := w4.trans w5
      have w05 := w3.trans w35
      have k05 : Kp H1 _ := Kp.of w05
      refine fin q3 _ _ _ ⟨ws ++ [.ref p2], xs ++ [.fold u y t], sm.trans w05, sm.free (w3.free (w4.free hq3)), upd_same, (aw.imp (StV.to k05)).app (.cons ?_ .nil), by simp, by simp at hz ⊢; omega⟩
      have eh : (((Tr.fold u y t).lets : Nat) : Int) = (t.lets : Int) + (y.lets : Int) := by show ((y.lets + t.lets : Nat) : Int) = _; omega
      have es : (((Tr.fold u y t).size : Nat) : Int) = (t.size : Int) + (y.size : Int) + 1 := by show ((y.size + t.size + 1 : Nat) : Int) = _; omega
      refine ⟨p2, p1, rfl, ?_, .fold (w35 _ _ (same_new hp2 _ _ _ upd_same)) (te.to k05) (tb.to k05), by show (y.noq && t.noq) = true; rw [nqe, nq]; rfl, by rw [eh]; exact c5', by omega⟩
      rw [eh, es]
      exact w35 _ _ upd_same
    all_goals
      refine ⟨_, rfl, rfl, _, rfl, ite2 (fun _ => ?_) (fun _ => ?_)⟩
      · refine ⟨_, rfl, .inl ⟨rfl, _, SqL.of el⟩, s00 2 (by decide), fun p0 hp0 => ?_⟩
        obtain ⟨z, hz', hzz⟩ := two_at (x := V.str "never") (y := V.str "always") (cell / 10 % 2) (by have := Int.emod_nonneg (cell / 10) (show (2 : Int) ≠ 0 by decide); have := Int.emod_lt_of_pos (cell / 10) (show (0 : Int) < 2 by decide); omega)
        refine ⟨_, rfl, _, _, rfl, rfl, ⟨by decide, by decide⟩, _, _, rfl, rfl, (show (0 : Int) < 2 by decide), _, _, _, _, rfl, rfl, SqT.of upd_same, hz', s00 1 (by decide), fun p1 hp1 => ⟨s00 3 (by decide), fun p2 hp2 => ?_⟩⟩
        have w0 := same_new hp0 (.tup [V.str "never", .str "always"])
        rcases hzz with rfl | rfl
        · exact push _ (.ref p2) .never ((w0.trans (same_new hp1 _)).trans (same_new hp2 _)) (leafp _ "never" .never w0 (by decide) rfl rfl (fun _ _ h => .never h) p1 hp1 p2 hp2) _ _
        · exact push _ (.ref p2) .always ((w0.trans (same_new hp1 _)).trans (same_new hp2 _)) (leafp _ "always" .always w0 (by decide) rfl rfl (fun _ _ h => .always h) p1 hp1 p2 hp2) _ _
      · refine ⟨_, rfl, .inl ⟨rfl, _, SqL.of el⟩, s00 1 (by decide), fun p1 hp1 => ⟨s00 3 (by decide), fun p2 hp2 => ?_⟩⟩
        exact push _ (.ref p2) .lp ((same_new hp1 _).trans (same_new hp2 _)) (leafp _ "p" .lp (fun _ _ z => z) (by decide) rfl rfl (fun _ _ h => .lp h) p1 hp1 p2 hp2) _ _
end
end Mine




set_option Elab.async false
set_option linter.all false
set_option maxRecDepth 100000
set_option maxHeartbeats 4000000
namespace Mine
open PySem L2
def spFoldT (c : CCs) : Sp := fun vs H Q _ => ∃ (u : W5) (b d : Addr) (x y : Tr), vs = [.str u.str, .ref b, .ref d] ∧ Ob c H b x ∧ Ob c H d y ∧ ∀ e H', Same H H' → Ob c H' e (.fold u x y) → Q (.ref e) H'
def spMadeO (c : CCs) (n : Nat) : Sp := fun vs H Q _ => ∃ (a : Addr) (t : Tr), vs = [.ref a] ∧ Tu H a t ∧ t.size ≤ n ∧ ∀ x H', Same H H' → Ob c H' x t → Q (.ref x) H'
def spFolded2 : Sp := fun vs H Q _ => ∃ (u : W5) (n x y : Int), vs = [.str u.str, .int n, .int x, .int y] ∧ Q (.int (u.worth n x y)) H
section
variable {P : Program} {w : World} {K : PySem.W.Frag} {mg : Str → Option Value} {base : Heap} {c : CCs}
theorem sc_lfold : FnScope ["_law_word", "_law_one", "_law_other"] ["_law_word", "_law_one", "_law_other"] (defScope s_l_fold) := ⟨rfl, rfl, rfl, by decide +kernel, rfl, by decide +kernel, by decide +kernel⟩
theorem ok_lfold (T : TopDef K mg "_law_fold" s_l_fold) (K_fold : ∀ u : W5, MkOk P w K mg base u.cls (c.fold u) 1 ["self", "one", "other"] (spInit2 (c.fold u))) : Def P w K mg base 3 "_law_fold" ["_law_word", "_law_one", "_law_other"] (spFoldT c) := by
  refine def_of T sc_lfold (fun _ _ _ _ _ _ us hl => match us, hl with | [_, _, _], _ => rfl) (fun vs H Q E h => ?_) (fun f cdv A outer s H vs Q E hr h => ?_)
  · obtain ⟨u, b, d, x, y, rfl, _⟩ := h
    rfl
  obtain ⟨u, b, d, x, y, rfl, ob, od, q⟩ := h
  have nd := sc_lfold.nd
  refine ⟨_, (pss_cons (ps_if (pt_cmpR op_eq (pv 0) pe_str (nomark _)) (pss_one (ps_ret (pe_mk (K_fold .more) (hr.mono (by omega)) rfl (pa_cons (pv 1) (pa_cons (pv 2) pa_nil))))) pss_nil)
    (pss_cons (ps_if (pt_cmpR op_eq (pv 0) pe_str (nomark _)) (pss_one (ps_ret (pe_mk (K_fold .less) (hr.mono (by omega)) rfl (pa_cons (pv 1) (pa_cons (pv 2) pa_nil))))) pss_nil)
    (pss_cons (ps_if (pt_cmpR op_eq (pv 0) pe_str (nomark _)) (pss_one (ps_ret (pe_mk (K_fold .greater) (hr.mono (by omega)) rfl (pa_cons (pv 1) (pa_cons (pv 2) pa_nil))))) pss_nil)
    (pss_cons (ps_if (pt_cmpR op_eq (pv 0) pe_str (nomark _)) (pss_one (ps_ret (pe_mk (K_fold .lesser) (hr.mono (by omega)) rfl (pa_cons (pv 1) (pa_cons (pv 2) pa_nil))))) pss_nil)
    (pss_one (ps_ret (pe_mk (K_fold .leads) (hr.mono (by omega)) rfl (pa_cons (pv 1) (pa_cons (pv 2) pa_nil))))))))), ?_⟩
  have fin : ∀ (z dz : Addr), H z = none → H dz = none → dz ≠ z → Q (.ref z) (upd (upd (upd H dz (.own z)) z (.ins (c.fold u) dz [])) z (.ins (c.fold u) dz (fTwo (.ref b) (.ref d)))) := fun z dz h1 h2 ne => made_fold (Q := Q) h1 h2 ne ob od q
  cases u
  · refine ⟨_, rfl, rfl, _, rfl, ite_yes rfl ?_⟩
    exact ⟨_, rfl, _, rfl, fun z dz h1 h2 ne => ⟨z, dz, _, _, rfl, upd_same, rfl, fin z dz h1 h2 ne⟩⟩
  · refine ⟨_, rfl, rfl, _, rfl, ite_no (by decide +kernel) ⟨_, rfl, rfl, _, rfl, ite_yes rfl ?_⟩⟩
    exact ⟨_, rfl, _, rfl, fun z dz h1 h2 ne => ⟨z, dz, _, _, rfl, upd_same, rfl, fin z dz h1 h2 ne⟩⟩
  · refine ⟨_, rfl, rfl, _, rfl, ite_no (by decide +kernel) ⟨_, rfl, rfl, _, rfl, ite_no (by decide +kernel) ⟨_, rfl, rfl, _, rfl, ite_yes rfl ?_⟩⟩⟩
    exact ⟨_, rfl, _, rfl, fun z dz h1 h2 ne => ⟨z, dz, _, _, rfl, upd_same, rfl, fin z dz h1 h2 ne⟩⟩
  · refine ⟨_, rfl, rfl, _, rfl, ite_no (by decide +kernel) ⟨_, rfl, rfl, _, rfl, ite_no (by decide +kernel) ⟨_, rfl, rfl, _, rfl, ite_no (by decide +kernel) ⟨_, rfl, rfl, _, rfl, ite_yes rfl ?_⟩⟩⟩⟩
    exact ⟨_, rfl, _, rfl, fun z dz h1 h2 ne => ⟨z, dz, _, _, rfl, upd_same, rfl, fin z dz h1 h2 ne⟩⟩
  · refine ⟨_, rfl, rfl, _, rfl, ite_no (by decide +kernel) ⟨_, rfl, rfl, _, rfl, ite_no (by decide +kernel) ⟨_, rfl, rfl, _, rfl, ite_no (by decide +kernel) ⟨_, rfl, rfl, _, rfl, ite_no (by decide +kernel) ?_⟩⟩⟩⟩
    exact ⟨_, rfl, _, rfl, fun z dz h1 h2 ne => ⟨z, dz, _, _, rfl, upd_same, rfl, fin z dz h1 h2 ne⟩⟩
theorem ok_lmade (T : TopDef K mg "_law_made" s_l_made) (Z_len : mg "len" = none) (N_never : Mk0 K c.ne) (M_never : mg "Never" = some (.ref c.ne)) (N_always : Mk0 K c.al) (M_always : mg "Always" = some (.ref c.al)) (K_letter : MkOk P w K mg base "Letter" c.le 1 ["self", "name"] (spInit1 c.le fName)) (K_not : MkOk P w K mg base "Not" c.no 1 ["self", "part"] (spInit1 c.no fPart)) (D_law_fold : Def P w K mg base 3 "_law_fold" ["_law_word", "_law_one", "_law_other"] (spFoldT c)) : ∀ n : Nat, Def P w K mg base (n + 4) "_law_made" ["_law_tree_here"] (spMadeO c n) := by
  intro n
  induction n with
  | zero =>
    refine def_of T sc_l_made (fun _ _ _ _ _ _ us hl => match us, hl with | [_], _ => rfl) (fun vs H Q E h => ?_) (fun f cdv A outer s H vs Q E hr h => ?_)
    · obtain ⟨a, t, rfl, _⟩ := h
      rfl
    · obtain ⟨a, t, rfl, _, z, _⟩ := h
      have := t.size_pos
      omega
  | succ n D_law_made =>
    refine def_of T sc_l_made (fun _ _ _ _ _ _ us hl => match us, hl with | [_], _ => rfl) (fun vs H Q E h => ?_) (fun f cdv A outer s H vs Q E hr h => ?_)
    · obtain ⟨a, t, rfl, _⟩ := h
      rfl
    obtain ⟨a, t, rfl, tu, hz, q⟩ := h
    have nd := sc_l_made.nd
    refine ⟨_, (pss_cons (ps_if (pt_cmpR op_eq (pe_ix ix_tup (pv 0) pe_int (fun _ _ => rfl)) pe_str (nomark _)) (pss_one (ps_ret (pe_makeN N_never rfl M_never))) pss_nil)
    (pss_cons (ps_if (pt_cmpR op_eq (pe_ix ix_tup (pv 0) pe_int (fun _ _ => rfl)) pe_str (nomark _)) (pss_one (ps_ret (pe_makeN N_always rfl M_always))) pss_nil)
    (pss_cons (ps_if (pt_cmpR op_eq (pe_ix ix_tup (pv 0) pe_int (fun _ _ => rfl)) pe_str (nomark _)) (pss_one (ps_ret (pe_mk K_not (hr.mono (by omega)) rfl (pa_cons (pe_def D_law_made (hr.mono (by omega)) rfl (pa_cons (pe_ix ix_tup (pv 0) pe_int (fun _ _ => rfl)) pa_nil)) pa_nil)))) pss_nil)
    (pss_cons (ps_if (pt_cmpR op_eq (pe_callB call_len rfl Z_len (by decide +kernel) (pa_cons (pv 0) pa_nil)) pe_int (nomark _)) (pss_one (ps_ret (pe_mk K_letter (hr.mono (by omega)) rfl (pa_cons (pe_ix ix_tup (pv 0) pe_int (fun _ _ => rfl)) pa_nil)))) pss_nil)
    (pss_one (ps_ret (pe_def D_law_fold (hr.mono (by omega)) rfl (pa_cons (pe_ix ix_tup (pv 0) pe_int (fun _ _ => rfl)) (pa_cons (pe_def D_law_made (hr.mono (by omega)) rfl (pa_cons (pe_ix ix_tup (pv 0) pe_int (fun _ _ => rfl)) pa_nil)) (pa_cons (pe_def D_law_made (hr.mono (by omega)) rfl (pa_cons (pe_ix ix_tup (pv 0) pe_int (fun _ _ => rfl)) pa_nil)) pa_nil)))))))))), ?_⟩
    cases tu with
    | never e =>
      refine ⟨_, rfl, _, _, _, _, rfl, rfl, SqT.of e, atZ, rfl, _, rfl, ite_yes rfl (fun z dz h1 h2 ne => ?_)⟩
      exact q z _ (same_made0 (C := c.ne) h1 h2) (.never upd_same)
    | always e =>
      refine ⟨_, rfl, _, _, _, _, rfl, rfl, SqT.of e, atZ, rfl, _, rfl, ite_no (by decide +kernel) ?_⟩
      refine ⟨_, rfl, _, _, _, _, rfl, rfl, SqT.of e, atZ, rfl, _, rfl, ite_yes rfl (fun z dz h1 h2 ne => ?_)⟩
      exact q z _ (same_made0 (C := c.al) h1 h2) (.always upd_same)
    | lp e =>
      refine ⟨_, rfl, _, _, _, _, rfl, rfl, SqT.of e, atZ, rfl, _, rfl, ite_no (by decide +kernel) ?_⟩
      refine ⟨_, rfl, _, _, _, _, rfl, rfl, SqT.of e, atZ, rfl, _, rfl, ite_no (by decide +kernel) ?_⟩
      refine ⟨_, rfl, _, _, _, _, rfl, rfl, SqT.of e, atZ, rfl, _, rfl, ite_no (by decide +kernel) ?_⟩
      refine ⟨_, rfl, _, _, rfl, .inr ⟨_, SqT.of e, rfl⟩, rfl, _, rfl, ite2 (fun _ => ?_) (fun z => absurd (decide_eq_true rfl) z)⟩
      refine ⟨_, rfl, _, _, _, _, rfl, rfl, SqT.of e, atZ, fun z dz h1 h2 ne => ⟨z, dz, _, rfl, upd_same, rfl, ?_⟩⟩
      exact q z _ (same_made (C := c.le) (fs := fName (.str "p")) h1 h2 ne) (.lp upd_same)
    | lq e =>
      refine ⟨_, rfl, _, _, _, _, rfl, rfl, SqT.of e, atZ, rfl, _, rfl, ite_no (by decide +kernel) ?_⟩
      refine ⟨_, rfl, _, _, _, _, rfl, rfl, SqT.of e, atZ, rfl, _, rfl, ite_no (by decide +kernel) ?_⟩
      refine ⟨_, rfl, _, _, _, _, rfl, rfl, SqT.of e, atZ, rfl, _, rfl, ite_no (by decide +kernel) ?_⟩
      refine ⟨_, rfl, _, _, rfl, .inr ⟨_, SqT.of e, rfl⟩, rfl, _, rfl, ite2 (fun _ => ?_) (fun z => absurd (decide_eq_true rfl) z)⟩
      refine ⟨_, rfl, _, _, _, _, rfl, rfl, SqT.of e, atZ, fun z dz h1 h2 ne => ⟨z, dz, _, rfl, upd_same, rfl, ?_⟩⟩
      exact q z _ (same_made (C := c.le) (fs := fName (.str "q")) h1 h2 ne) (.lq upd_same)
    | @no _ b x e tb =>
      have hz' : x.size + 1 ≤ n + 1 := hz
      refine ⟨_, rfl, _, _, _, _, rfl, rfl, SqT.of e, atZ, rfl, _, rfl, ite_no (by decide +kernel) ?_⟩
      refine ⟨_, rfl, _, _, _, _, rfl, rfl, SqT.of e, atZ, rfl, _, rfl, ite_no (by decide +kernel) ?_⟩
      refine ⟨_, rfl, _, _, _, _, rfl, rfl, SqT.of e, atZ, rfl, _, rfl, ite_yes rfl ?_⟩
      refine ⟨_, rfl, _, _, _, _, rfl, rfl, SqT.of e, atI_nat (j := 1) rfl, b, x, rfl, tb, by omega, fun y H2 s2 oy => ?_⟩
      refine fun z dz h1 h2 ne => ⟨z, dz, _, rfl, upd_same, rfl, ?_⟩
      have sm := same_made (C := c.no) (fs := fPart (.ref y)) h1 h2 ne
      exact q z _ (s2.trans sm) (.no upd_same (oy.to (Kp.of sm)))
    | @fold _ b d u x y e tb td =>
      have hz' : x.size + y.size + 1 ≤ n + 1 := hz
      refine ⟨_, rfl, _, _, _, _, rfl, rfl, SqT.of e, atZ, rfl, _, rfl, ite_no (w_ne u) ?_⟩
      refine ⟨_, rfl, _, _, _, _, rfl, rfl, SqT.of e, atZ, rfl, _, rfl, ite_no (w_al u) ?_⟩
      refine ⟨_, rfl, _, _, _, _, rfl, rfl, SqT.of e, atZ, rfl, _, rfl, ite_no (by cases u <;> decide +kernel) ?_⟩
      refine ⟨_, rfl, _, _, rfl, .inr ⟨_, SqT.of e, rfl⟩, rfl, _, rfl, ite2 (fun z => absurd (V.int.inj (of_decide_eq_true z)) (show ¬ (((3 : Nat) : Int) = 1) by decide)) (fun _ => ?_)⟩
      refine ⟨_, rfl, _, _, _, _, rfl, rfl, SqT.of e, atZ, _, rfl, _, _, _, _, rfl, rfl, SqT.of e, atI_nat (j := 1) rfl, b, x, rfl, tb, by omega, fun v1 H2 s2 o1 => ?_⟩
      refine ⟨_, rfl, _, _, _, _, rfl, rfl, SqT.of (s2 _ _ e), atI_nat (j := 2) rfl, d, y, rfl, td.to (Kp.of s2), by omega, fun v2 H3 s3 o2 => ?_⟩
      exact ⟨u, v1, v2, x, y, rfl, o1.to (Kp.of s3), o2, fun e4 H4 s4 o4 => q e4 H4 ((s2.trans s3).trans s4) o4⟩
theorem ok_lfolded (T : TopDef K mg "_law_folded" s_l_folded) (Z_min : mg "min" = none) (Z_max : mg "max" = none) : Def P w K mg base 1 "_law_folded" ["_law_word", "_law_n", "_law_a", "_law_b"] spFolded2 := by
  refine def_of T sc_l_folded (fun _ _ _ _ _ _ us hl => match us, hl with | [_, _, _, _], _ => rfl) (fun vs H Q E h => ?_) (fun f cdv A outer s H vs Q E hr h => ?_)
  · obtain ⟨u, n, x, y, rfl, _⟩ := h
    rfl
  obtain ⟨u, n, x, y, rfl, q⟩ := h
  have nd := sc_l_folded.nd
  refine ⟨_, (pss_cons (ps_if (pt_cmpR op_eq (pv 0) pe_str (nomark _)) (pss_one (ps_ret (pe_callB (call_min2 rfl) rfl Z_min (by decide +kernel) (pa_cons (pv 1) (pa_cons (pe_op op_add (pv 2) (pv 3)) pa_nil))))) pss_nil)
    (pss_cons (ps_if (pt_cmpR op_eq (pv 0) pe_str (nomark _)) (pss_one (ps_ret (pe_callB (call_max2 rfl) rfl Z_max (by decide +kernel) (pa_cons pe_int (pa_cons (pe_op op_sub (pe_op op_add (pv 2) (pv 3)) (pv 1)) pa_nil))))) pss_nil)
    (pss_cons (ps_if (pt_cmpR op_eq (pv 0) pe_str (nomark _)) (pss_one (ps_ret (pe_callB (call_max2 rfl) rfl Z_max (by decide +kernel) (pa_cons (pv 2) (pa_cons (pv 3) pa_nil))))) pss_nil)
    (pss_cons (ps_if (pt_cmpR op_eq (pv 0) pe_str (nomark _)) (pss_one (ps_ret (pe_callB (call_min2 rfl) rfl Z_min (by decide +kernel) (pa_cons (pv 2) (pa_cons (pv 3) pa_nil))))) pss_nil)
    (pss_one (ps_ret (pe_callB (call_min2 rfl) rfl Z_min (by decide +kernel) (pa_cons (pv 1) (pa_cons (pe_op op_add (pe_op op_sub (pv 1) (pv 2)) (pv 3)) pa_nil))))))))), ?_⟩
  cases u with
  | more =>
    refine ⟨_, rfl, rfl, _, rfl, ite_yes rfl ⟨_, rfl, _, rfl, _, rfl, _, _, rfl, rfl, _, _, rfl, ?_⟩⟩
    rw [min_is, Int.min_comm]; exact q
  | less =>
    refine ⟨_, rfl, rfl, _, rfl, ite_no (by decide +kernel) ⟨_, rfl, rfl, _, rfl, ite_yes rfl ⟨_, rfl, _, rfl, _, _, rfl, rfl, _, rfl, _, _, rfl, rfl, _, _, rfl, ?_⟩⟩⟩
    rw [max_is, Int.max_comm]; exact q
  | greater =>
    refine ⟨_, rfl, rfl, _, rfl, ite_no (by decide +kernel) ⟨_, rfl, rfl, _, rfl, ite_no (by decide +kernel) ⟨_, rfl, rfl, _, rfl, ite_yes rfl ⟨_, rfl, _, rfl, _, _, rfl, ?_⟩⟩⟩⟩
    rw [max_is]; exact q
  | lesser =>
    refine ⟨_, rfl, rfl, _, rfl, ite_no (by decide +kernel) ⟨_, rfl, rfl, _, rfl, ite_no (by decide +kernel) ⟨_, rfl, rfl, _, rfl, ite_no (by decide +kernel) ⟨_, rfl, rfl, _, rfl, ite_yes rfl ⟨_, rfl, _, rfl, _, _, rfl, ?_⟩⟩⟩⟩⟩
    rw [min_is]; exact q
  | leads =>
    refine ⟨_, rfl, rfl, _, rfl, ite_no (by decide +kernel) ⟨_, rfl, rfl, _, rfl, ite_no (by decide +kernel) ⟨_, rfl, rfl, _, rfl, ite_no (by decide +kernel) ⟨_, rfl, rfl, _, rfl, ite_no (by decide +kernel) ⟨_, rfl, _, rfl, _, rfl, _, _, rfl, rfl, _, rfl, _, _, rfl, rfl, _, _, rfl, ?_⟩⟩⟩⟩⟩
    rw [min_is, Int.min_comm]; exact q
end
end Mine




set_option Elab.async false
set_option linter.all false
set_option maxRecDepth 100000
set_option maxHeartbeats 4000000
namespace Mine
open PySem L2
local macro_rules | `(tactic| walk_at "mul") => `(tactic| first | exact mulS (by assumption) (by assumption) | exact mulS (by first | assumption | exact sm_of (by omega) | exact sm_of (by decide) | exact sm_mod (by decide) (by decide)) (by first | assumption | exact sm_of (by omega) | exact sm_of (by decide) | exact sm_mod (by decide) (by decide)))
local macro_rules | `(tactic| walk_at "rd1") => `(tactic| first
  | refine ⟨_, rfl, ?_⟩
  | refine ⟨_, _, rfl, rfl, ?_⟩
  | (refine' ⟨_, _, _, _, rfl, rfl, ?sq, ?ia, ?k⟩; (case' sq => first | assumption | exact Scr.l (by assumption)); (case' ia => first | rfl | assumption))
  | refine ⟨rfl, ?_⟩
  | (refine ⟨?m, ?_⟩; (case' m => walk_at "mul"))
  | (refine ⟨?m, ?_⟩; (case' m => exact div_ok (by first | assumption | omega) (by assumption)))
  | (refine ⟨?m, ?_⟩; (case' m => show (0 : Int) < _; decide))
  | (refine ⟨?m, ?_⟩; (case' m => exact ⟨by decide, by decide⟩))
  | (refine ⟨?m, ?_⟩; (case' m => exact ⟨by decide, by decide, by decide⟩)))
local macro_rules | `(tactic| walk_at "rd") => `(tactic| repeat walk_at "rd1")

section
variable {P : Program} {w : World} {K : PySem.W.Frag} {mg : Str → Option Value} {base : Heap}
theorem ok_lowest (T : TopDef K mg "_law_lowest" s_l_lowest) (D__law_divisor : Def P w K mg base 1 "_law_divisor" ["_law_a", "_law_b"] spFactor) : Def P w K mg base 2 "_law_lowest" ["_law_top", "_law_bottom"] spLow := by
  refine def_of T sc_l_lowest (fun _ _ _ _ _ _ us hl => match us, hl with | [_, _], _ => rfl) (fun vs H Q E h => ?_) (fun f cdv A outer s H vs Q E hr h => ?_)
  · obtain ⟨t, b, rfl, _⟩ := h
    rfl
  obtain ⟨t, b, rfl, hb, hs, q⟩ := h
  have nd := sc_l_lowest.nd
  have tail : ∃ tt, PSs (cxOf CX0 P w K mg base n_l_lowest "_law_lowest" (defScope s_l_lowest) f cdv A outer s H E).nox ((defBody s_l_lowest).drop 1) tt ∧
      ∀ t' b' : Int, 0 < b' → Sm b' → Lo.lowT t' b' = Lo.lowT t b → Lo.lowB t' b' = Lo.lowB t b → tt { nx := fun _ H' => Q .non H', rt := Q } [some (.int t'), some (.int b'), none] H := by
    refine ⟨_, (pss_cons (ps_set (i := 2) nd rfl (Or.inl rfl) (pe_def D__law_divisor (hr.mono (by decide)) rfl (pa_cons (pv 0) (pa_cons (pv 1) pa_nil))))
    (pss_one (ps_ret (pe_tup (pa_cons (pe_op op_fdivK (pv 0) (pv 2)) (pa_cons (pe_op op_fdivK (pv 1) (pv 2)) pa_nil)))))), fun t' b' h0 hs' e1 e2 => ?_⟩
    have es : Lo.gc t' b' = Lo.sg t' b' := by unfold Lo.sg; rw [if_neg (by omega)]
    have hg2 : Sm (Lo.sg t' b') := Nat.lt_of_le_of_lt (Lo.sg_le (by omega)) hs'
    refine ⟨_, rfl, _, rfl, t', b', rfl, ?_⟩
    refine ⟨_, rfl, _, rfl, _, _, rfl, rfl, (by rw [es]; exact div_ok (Lo.sg_ne (by omega)) hg2), _, rfl, _, rfl, _, _, rfl, rfl, (by rw [es]; exact div_ok (Lo.sg_ne (by omega)) hg2), (by show 2 ≤ sizeLine; decide), fun p hp => ?_⟩
    rw [es]
    refine q p _ (same_new hp _) ?_
    rw [upd_same, ← e1, ← e2]
    rfl
  obtain ⟨t2, ht2, hq2⟩ := tail
  refine ⟨_, pss_cons (ps_if (pt_cmpR op_lt (pv 1) pe_int (nomark _)) (pss_cons (ps_set (i := 0) nd rfl (Or.inl rfl) (pe_un un_neg (pv 0)))
    (pss_one (ps_set (i := 1) nd rfl (Or.inl rfl) (pe_un un_neg (pv 1))))) pss_nil) ht2, ?_⟩
  refine ⟨_, rfl, _, _, rfl, rfl, _, rfl, ?_⟩
  refine ite2 (fun c => ?_) (fun c => ?_)
  · have c2 : b < 0 := of_decide_eq_true c
    refine ⟨_, rfl, _, rfl, _, rfl, _, rfl, ?_⟩
    have m1 := Lo.lowT_mul (f := -1) (by decide) t hb
    have m2 := Lo.lowB_mul (f := -1) (by decide) t hb
    rw [Int.neg_one_mul, Int.neg_one_mul] at m1 m2
    exact hq2 (-t) (-b) (by omega) hs.neg m1 m2
  · have c2 : ¬ b < 0 := fun z => c (decide_eq_true z)
    exact hq2 t b (by omega) hs rfl rfl
end
end Mine




set_option Elab.async false
set_option linter.all false
set_option maxRecDepth 100000
set_option maxHeartbeats 4000000
namespace Mine
open PySem L2
def spAs24 (K : PySem.W.Frag) : Sp := fun vs H Q _ => ∃ (x y z : V) (u : W5) (F A B : List St4), vs = [x, y, z, .str u.str] ∧ Dat K H (lnD F) x ∧ Dat K H (lnD A) y ∧ Dat K H (lnD B) z ∧ Ln.LineK F ∧ F.length ≤ 800 ∧ Ln.LineK A ∧ A.length ≤ 800 ∧ Ln.LineK B ∧ B.length ≤ 800 ∧ (∀ p q, 0 < q → 0 ≤ p → p ≤ q → hAt F p q = u.worth q (hAt A p q) (hAt B p q)) ∧ ∀ H', Same H H' → Q (.bl true) H'
theorem x2_sm {x : Int × Int} (h : XOk2 x) : Sm x.1 ∧ Sm x.2 := by
  obtain ⟨h1, h2, h3, h4⟩ := h
  exact ⟨Nat.lt_of_lt_of_le (show x.1.natAbs < 2 ^ 100 by omega) (by decide), Nat.lt_of_lt_of_le (show x.2.natAbs < 2 ^ 100 by omega) (by decide)⟩
section
variable {P : Program} {w : World} {K : PySem.W.Frag} {mg : Str → Option Value} {base : Heap}
theorem ok_as24 (T : TopDef K mg "_law_as" s_l_as) (D_law_is_line : Def P w K mg base 3 "_law_is_line" ["_law_line"] (spIsLine K)) (D_law_spots : Def P w K mg base 3 "_law_spots" ["_law_lines"] (spSpots K)) (D_law_height : Def P w K mg base 1 "_law_height" ["_law_line", "_law_x"] (spHt K)) (D_law_folded : Def P w K mg base 1 "_law_folded" ["_law_word", "_law_n", "_law_a", "_law_b"] spFolded2) : Def P w K mg base 4 "_law_as" ["_law_found", "_law_one", "_law_other", "_law_word"] (spAs24 K) := by
  refine def_of T sc_l_as (fun _ _ _ _ _ _ us hl => match us, hl with | [_, _, _, _], _ => rfl) (fun vs H Q E h => ?_) (fun f cdv A outer s H vs Q E hr h => ?_)
  · obtain ⟨x, y, z, u, F, A, B, rfl, _⟩ := h
    rfl
  obtain ⟨x, y, z, u, F, A, B, rfl, dx, dy, dz, kF, lF, kA, lA, kB, lB, hF, q⟩ := h
  have nd := sc_l_as.nd
  refine ⟨_, (pss_cons (ps_if (pt_not (pt_val (pe_def D_law_is_line (hr.mono (by omega)) rfl (pa_cons (pv 0) pa_nil)))) (pss_one (ps_ret pe_bl)) pss_nil)
    (pss_cons (ps_for PassesOwn.never rfl (pi_list (pe_def D_law_spots (hr.mono (by omega)) rfl (pa_cons (pe_lst (pa_cons (pv 0) (pa_cons (pv 1) (pa_cons (pv 2) pa_nil)))) pa_nil))) (pg_name (i := 4) nd rfl (Or.inl rfl)) (pss_cons (ps_set (i := 5) nd rfl (Or.inl rfl) (pe_def D_law_folded (hr.mono (by omega)) rfl (pa_cons (pv 3) (pa_cons (pe_ix ix_tup (pv 4) pe_int (fun _ _ => rfl)) (pa_cons (pe_ix ix_tup (pe_def D_law_height (hr.mono (by omega)) rfl (pa_cons (pv 1) (pa_cons (pv 4) pa_nil))) pe_int (fun _ _ => rfl)) (pa_cons (pe_ix ix_tup (pe_def D_law_height (hr.mono (by omega)) rfl (pa_cons (pv 2) (pa_cons (pv 4) pa_nil))) pe_int (fun _ _ => rfl)) pa_nil))))))
    (pss_one (ps_if (pt_cmpR op_ne (pe_ix ix_tup (pe_def D_law_height (hr.mono (by omega)) rfl (pa_cons (pv 0) (pa_cons (pv 4) pa_nil))) pe_int (fun _ _ => rfl)) (pv 5) (nomark _)) (pss_one (ps_ret pe_bl)) pss_nil))))
    (pss_one (ps_ret pe_bl)))), ?_⟩
  refine ⟨_, rfl, x, F, rfl, dx, kF, fun H1 s1 => ⟨_, rfl, iteF ?_⟩⟩
  refine ⟨_, rfl, _, rfl, _, rfl, (by show 3 ≤ sizeLine; decide), fun l hl => ?_⟩
  have u2 := same_new hl (.lst [x, y, z])
  have s2 := s1.trans u2
  have dx2 := dx.ts s2.ts
  have dy2 := dy.ts s2.ts
  have dz2 := dz.ts s2.ts
  refine ⟨l, [x, y, z], [F, A, B], rfl, SqL.of upd_same, ⟨_, _, rfl, dx2, _, _, rfl, dy2, _, _, rfl, dz2, rfl⟩, fun L hL => ?_, by simp, fun l' us' qs H3 s3 el da okq => ?_⟩
  · simp only [List.mem_cons, List.mem_nil_iff, or_false] at hL
    rcases hL with rfl | rfl | rfl
    · exact ⟨kF, lF⟩
    · exact ⟨kA, lA⟩
    · exact ⟨kB, lB⟩
  have s13 := s2.trans s3
  refine ⟨l', rfl, ⟨us', SqL.of el⟩, ?_⟩
  refine for_list (xs := us') (fun i σ H' => Same H3 H' ∧ ∃ o4 o5, σ = [some x, some y, some z, some (.str u.str), o4, o5]) ⟨Same.refl _, _, _, rfl⟩ (fun i σ H' _ z => SqL.of (z.1 _ _ el)) (fun i v σ H' hv zz => ?_) (fun σ H' zz => ?_)
  · obtain ⟨sm, o4, o5, rfl⟩ := zz
    obtain ⟨c, hc, dc⟩ := fx_at' (da.ts sm.ts) hv
    have xo := okq c (List.mem_of_getElem? hc)
    obtain ⟨m1, m2⟩ := x2_sm xo
    obtain ⟨h1, h2, h3, _⟩ := xo
    obtain ⟨ca, rfl, qc⟩ := fr_el dc
    have sH := s13.trans sm
    refine ⟨_, rfl, _, rfl, _, _, _, _, rfl, rfl, qc, atI_nat (j := 1) rfl, ?_⟩
    refine ⟨_, rfl, _, rfl, y, .ref ca, A, c.1, c.2, rfl, dy.ts sH.ts, kA, dc, h3, h2, m1, m2, fun sa hsa va Ha ssa da' => ?_⟩
    obtain ⟨ea, rfl, qa⟩ := fr_el da'
    refine ⟨_, _, _, _, rfl, rfl, qa, atI_nat (j := 0) rfl, ?_⟩
    refine ⟨_, rfl, _, rfl, z, .ref ca, B, c.1, c.2, rfl, dz.ts (sH.trans ssa).ts, kB, dc.ts ssa.ts, h3, h2, m1, m2, fun sb hsb vb Hb ssb db' => ?_⟩
    obtain ⟨eb, rfl, qb⟩ := fr_el db'
    refine ⟨_, _, _, _, rfl, rfl, qb, atI_nat (j := 0) rfl, u, _, _, _, rfl, ?_⟩
    have sab := ssa.trans ssb
    refine ⟨_, rfl, _, rfl, x, .ref ca, F, c.1, c.2, rfl, dx.ts (sH.trans sab).ts, kF, dc.ts sab.ts, h3, h2, m1, m2, fun sf hsf vf Hf ssf df' => ?_⟩
    obtain ⟨ef, rfl, qf⟩ := fr_el df'
    refine ⟨_, _, _, _, rfl, rfl, qf, atI_nat (j := 0) rfl, _, rfl, rfl, _, rfl, ?_⟩
    have e := hF c.1 c.2 h3 h1 h2
    rw [hAt_of hsf, hAt_of hsa, hAt_of hsb] at e
    have e' : V.int (sf.m * c.1 + sf.h * c.2) = V.int (u.worth c.2 (sa.m * c.1 + sa.h * c.2) (sb.m * c.1 + sb.h * c.2)) := congrArg V.int e
    exact iteNS e' ⟨sm.trans (sab.trans ssf), _, _, rfl⟩
  · obtain ⟨sm, o4, o5, rfl⟩ := zz
    exact q _ (s13.trans sm)
end
end Mine




set_option Elab.async false
set_option linter.all false
set_option maxRecDepth 100000
set_option maxHeartbeats 4000000
namespace Mine
open PySem L2
local macro_rules | `(tactic| walk_at "mul") => `(tactic| first | exact mulS (by assumption) (by assumption) | exact mulS (by first | assumption | exact sm_of (by omega) | exact sm_of (by decide) | exact sm_mod (by decide) (by decide)) (by first | assumption | exact sm_of (by omega) | exact sm_of (by decide) | exact sm_mod (by decide) (by decide)))
local macro_rules | `(tactic| walk_at "rd1") => `(tactic| first
  | refine ⟨_, rfl, ?_⟩
  | refine ⟨_, _, rfl, rfl, ?_⟩
  | (refine' ⟨_, _, _, _, rfl, rfl, ?sq, ?ia, ?k⟩; (case' sq => first | assumption | exact Scr.l (by assumption)); (case' ia => first | rfl | assumption))
  | refine ⟨rfl, ?_⟩
  | (refine ⟨?m, ?_⟩; (case' m => walk_at "mul"))
  | (refine ⟨?m, ?_⟩; (case' m => exact div_ok (by first | assumption | omega) (by assumption)))
  | (refine ⟨?m, ?_⟩; (case' m => show (0 : Int) < _; decide))
  | (refine ⟨?m, ?_⟩; (case' m => exact ⟨by decide, by decide⟩))
  | (refine ⟨?m, ?_⟩; (case' m => exact ⟨by decide, by decide, by decide⟩)))
local macro_rules | `(tactic| walk_at "rd") => `(tactic| repeat walk_at "rd1")

/-- a piece as data -/
def pcD (c : Ln.Pc) : PyData := .tuple [frD c.p c.q, stD c.a, stD c.b]
theorem pc_mk {K : PySem.W.Frag} {H : Hp} {a : Addr} {e f g : V} {c : Ln.Pc} (q : SqT K H a [e, f, g]) (h1 : Dat K H (frD c.p c.q) e) (h2 : Dat K H (stD c.a) f) (h3 : Dat K H (stD c.b) g) : Dat K H (pcD c) (.ref a) := ⟨a, _, rfl, q, _, _, rfl, h1, _, _, rfl, h2, _, _, rfl, h3, rfl⟩
theorem pc_el {K : PySem.W.Frag} {H : Hp} {v : V} {c : Ln.Pc} (g : Dat K H (pcD c) v) : ∃ a e f g, v = .ref a ∧ SqT K H a [e, f, g] ∧ Dat K H (frD c.p c.q) e ∧ Dat K H (stD c.a) f ∧ Dat K H (stD c.b) g := by
  obtain ⟨a, xs, rfl, g, x, r, rfl, hx, y, t, rfl, hy, z, u, rfl, hz, hu⟩ := g
  cases (show u = [] from hu)
  exact ⟨a, x, y, z, rfl, g, hx, hy, hz⟩
def spSbs (K : PySem.W.Frag) : Sp := fun vs H Q _ => ∃ (x y : V) (A B : List St4), vs = [x, y] ∧ Dat K H (lnD A) x ∧ Ln.LineK A ∧ Dat K H (lnD B) y ∧ Ln.LineK B ∧
  ∀ (l : Addr) (us : List V) (H' : Hp), Same H H' → H l = none → H' l = some (.lst us) → DatAll K H' ((Ln.sbs A B).map pcD) us → Q (.ref l) H'
section
variable {P : Program} {w : World} {K : PySem.W.Frag} {mg : Str → Option Value} {base : Heap}
theorem ok_side_by_side (T : TopDef K mg "side_by_side" s_side_by_side) (Z_len : mg "len" = none) (D_less : Def P w K mg base 1 "less" ["one", "other"] (spLess K)) : Def P w K mg base 2 "side_by_side" ["one", "other"] (spSbs K) := by
  refine def_of T sc_side_by_side (fun _ _ _ _ _ _ us hl => match us, hl with | [_, _], _ => rfl) (fun vs H Q E h => ?_) (fun f cdv A outer s H vs Q E hr h => ?_)
  · obtain ⟨x, y, A, B, rfl, _⟩ := h
    rfl
  obtain ⟨x, y, A, B, rfl, hx, la, hy, lb, k⟩ := h
  obtain ⟨a, xs, rfl, sa, da⟩ := ln_el hx
  obtain ⟨b, ys, rfl, sb, db⟩ := ln_el hy
  have nd := sc_side_by_side.nd
  have hu := hr.units
  have lx := ln_len da
  have ly := ln_len db
  have fa := la.few
  have fb := lb.few
  have slen := Ln.sbs_len A B
  refine ⟨_, (pss_cons (ps_set (i := 2) nd rfl (Or.inl rfl) (pe_lst pa_nil))
    (pss_cons (ps_set (i := 3) nd rfl (Or.inl rfl) pe_int)
    (pss_cons (ps_set (i := 4) nd rfl (Or.inl rfl) pe_int)
    (pss_cons (ps_while PassesOwn.never (PW.pt (pw_and (pt_cmpR op_lt (pv 3) (pe_callB call_len rfl Z_len (by decide +kernel) (pa_cons (pv 0) pa_nil)) (nomark _)) (pw_and1 (pt_cmpR op_lt (pv 4) (pe_callB call_len rfl Z_len (by decide +kernel) (pa_cons (pv 1) pa_nil)) (nomark _))))) (pss_cons (ps_set (i := 5) nd rfl (Or.inl rfl) (pe_ifExp (pt_val (pe_def D_less (hr.mono (by decide)) rfl (pa_cons (pe_ix ix_tup (pe_ix ix_tup (pv 0) (pv 3) (fun _ _ => rfl)) pe_int (fun _ _ => rfl)) (pa_cons (pe_ix ix_tup (pe_ix ix_tup (pv 1) (pv 4) (fun _ _ => rfl)) pe_int (fun _ _ => rfl)) pa_nil)))) (pe_ix ix_tup (pe_ix ix_tup (pv 0) (pv 3) (fun _ _ => rfl)) pe_int (fun _ _ => rfl)) (pe_ix ix_tup (pe_ix ix_tup (pv 1) (pv 4) (fun _ _ => rfl)) pe_int (fun _ _ => rfl))))
    (pss_cons (ps_expr (pe_bm PySem.F.plainAttrs_list PySem.F.slot_list_append PySem.F.type_list_append mt_append (pv 2) (pa_cons (pe_tup (pa_cons (pv 5) (pa_cons (pe_ix ix_tup (pv 0) (pv 3) (fun _ _ => rfl)) (pa_cons (pe_ix ix_tup (pv 1) (pv 4) (fun _ _ => rfl)) pa_nil)))) pa_nil)))
    (pss_cons (ps_if (pt_cmpR (op_eqD hu) (pe_ix ix_tup (pe_ix ix_tup (pv 0) (pv 3) (fun _ _ => rfl)) pe_int (fun _ _ => rfl)) (pv 5) (nomark _)) (pss_one (ps_aug (i := 3) nd rfl (Or.inl rfl) pe_int ip_add)) pss_nil)
    (pss_one (ps_if (pt_cmpR (op_eqD hu) (pe_ix ix_tup (pe_ix ix_tup (pv 1) (pv 4) (fun _ _ => rfl)) pe_int (fun _ _ => rfl)) (pv 5) (nomark _)) (pss_one (ps_aug (i := 4) nd rfl (Or.inl rfl) pe_int ip_add)) pss_nil))))))
    (pss_one (ps_ret (pv 2))))))), ?_⟩
  refine ⟨(by show 0 ≤ sizeLine; decide), fun l hb => ?_⟩
  have u0 := same_new hb (.lst [])
  refine ⟨fun m σ H' => Same H H' ∧ ∃ (i j : Nat) (o5 : Option V) (zs : List V) (dn : List Ln.Pc), σ = [some (.ref a), some (.ref b), some (.ref l), some (.int i), some (.int j), o5] ∧ H' l = some (.lst zs) ∧ DatAll K H' (dn.map pcD) zs ∧ dn ++ Ln.sbs (A.drop i) (B.drop j) = Ln.sbs A B ∧ i ≤ A.length ∧ j ≤ B.length ∧ m = (A.length - i) + (B.length - j),
    ⟨_, u0, 0, 0, _, [], [], rfl, upd_same, rfl, rfl, Nat.zero_le _, Nat.zero_le _, rfl⟩, ?_⟩
  rintro m σ H' ⟨sm, i, j, o5, zs, dn, rfl, hl, dz, al, hi, hj, rfl⟩
  have sa2 := sa.ts sm.ts
  have sb2 := sb.ts sm.ts
  have lz : zs.length ≤ 9000 := by
    have z1 : zs.length = dn.length := by rw [dz.len, List.length_map]
    have z2 := congrArg List.length al
    rw [List.length_append] at z2
    omega
  have fin : (A.length ≤ i ∨ B.length ≤ j) → Q (.ref l) H' := fun z => by
    rw [Ln.sbs_stop z, List.append_nil] at al
    rw [al] at dz
    exact k l zs H' sm hb hl dz
  refine ⟨_, rfl, _, rfl, _, _, rfl, .inr ⟨_, sa2, rfl⟩, _, _, rfl, rfl, _, rfl, ?_⟩
  by_cases ci : i < A.length
  case neg =>
    rw [decide_eq_false (show ¬ ((i : Int) < ((xs.length : Nat) : Int)) by omega)]
    refine iteF (iteF ?_)
    exact ⟨_, rfl, fin (.inl (by omega))⟩
  rw [decide_eq_true (show ((i : Int) < ((xs.length : Nat) : Int)) by omega)]
  refine iteT ?_
  refine ⟨_, rfl, _, rfl, _, _, rfl, .inr ⟨_, sb2, rfl⟩, _, _, rfl, rfl, _, rfl, ?_⟩
  by_cases cj : j < B.length
  case neg =>
    rw [decide_eq_false (show ¬ ((j : Int) < ((ys.length : Nat) : Int)) by omega)]
    refine iteF ?_
    exact ⟨_, rfl, fin (.inr (by omega))⟩
  rw [decide_eq_true (show ((j : Int) < ((ys.length : Nat) : Int)) by omega)]
  refine iteT ?_
  have hs1 : A[i]? = some A[i] := List.getElem?_eq_getElem ci
  have hs2 : B[j]? = some B[j] := List.getElem?_eq_getElem cj
  obtain ⟨v1, hv1, dv1⟩ := ln_at (da.ts sm.ts) hs1
  obtain ⟨v2, hv2, dv2⟩ := ln_at (db.ts sm.ts) hs2
  obtain ⟨c1, e1, rfl, q1, d1⟩ := st_el dv1
  obtain ⟨c2, e2, rfl, q2, d2⟩ := st_el dv2
  obtain ⟨f1, rfl, r1⟩ := fr_el d1
  obtain ⟨f2, rfl, r2⟩ := fr_el d2
  obtain ⟨m1, m2, m3, m4, m5⟩ := stb_sm (la.at hs1)
  obtain ⟨n1, n2, n3, n4, n5⟩ := stb_sm (lb.at hs2)
  have at1 : atI xs (i : Int) = some (.ref c1) := atI_nat hv1
  have at2 : atI ys (j : Int) = some (.ref c2) := atI_nat hv2
  have stp := Ln.sbs_step hs1 hs2
  refine ⟨fun σ' H'' => Same H H'' ∧ ∃ (i2 j2 : Nat) (o5 : Option V) (zs : List V) (dn : List Ln.Pc), σ' = [some (.ref a), some (.ref b), some (.ref l), some (.int i2), some (.int j2), o5] ∧ H'' l = some (.lst zs) ∧ DatAll K H'' (dn.map pcD) zs ∧ dn ++ Ln.sbs (A.drop i2) (B.drop j2) = Ln.sbs A B ∧ i2 ≤ A.length ∧ j2 ≤ B.length ∧ (A.length - i2) + (B.length - j2) < (A.length - i) + (B.length - j), ?_, ?_⟩
  · rintro σ' H'' ⟨h1, i2, j2, o, zs, dn, h2, h3, h4, h5, h6, h7, h8⟩
    exact ⟨_, h8, h1, i2, j2, o, zs, dn, h2, h3, h4, h5, h6, h7, rfl⟩
  refine ⟨_, rfl, _, rfl, _, _, _, _, rfl, rfl, sa2, at1, _, _, _, _, rfl, rfl, q1, rfl, _, rfl, _, rfl, _, _, _, _, rfl, rfl, sb2, at2, _, _, _, _, rfl, rfl, q2, rfl, _, _, _, _, _, _, rfl, d1, d2, m1, m2, n1, n2, _, rfl, ?_⟩
  rcases Ln.ends_cases (la.at hs1) (lb.at hs2) with h | h | ⟨h, h1, h2⟩
  · rw [decide_eq_true h]
    rw [if_pos h] at stp
    refine iteT ?_
    refine ⟨_, rfl, _, rfl, _, _, _, _, rfl, rfl, sa2, at1, _, _, _, _, rfl, rfl, q1, rfl, ?_⟩
    refine ⟨_, rfl, .inl ⟨rfl, _, SqL.of hl⟩, _, rfl, _, rfl, _, rfl, _, _, _, _, rfl, rfl, sa2, at1, _, rfl, _, rfl, _, _, _, _, rfl, rfl, sb2, at2, (by show 3 ≤ sizeLine; decide), fun t ht => ?_⟩
    have u1 := same_new ht (.tup [.ref f1, .ref c1, .ref c2])
    have hl1 := u1 _ _ hl
    refine ⟨l, zs, _, rfl, rfl, hl1, small9000 lz, ?_⟩
    have t2 : Tst (upd H' t (.tup [.ref f1, .ref c1, .ref c2])) (upd (upd H' t (.tup [.ref f1, .ref c1, .ref c2])) l (.lst (zs ++ [.ref t]))) := ts_mut hl1
    have tt := u1.ts.trans t2
    have nt : t ≠ l := fun e => by rw [e, hl] at ht; cases ht
    have dpc : Dat K (upd (upd H' t (.tup [.ref f1, .ref c1, .ref c2])) l (.lst (zs ++ [.ref t]))) (pcD ⟨A[i].p, A[i].q, A[i], B[j]⟩) (.ref t) := pc_mk (SqT.of (by rw [upd_ne nt]; exact upd_same)) (d1.ts tt) (dv1.ts tt) (dv2.ts tt)
    refine ⟨_, rfl, _, rfl, _, _, _, _, rfl, rfl, sa2.ts tt, at1, _, _, _, _, rfl, rfl, q1.ts tt, rfl, _, rfl, ?_⟩
    refine ⟨_, _, .inl (d1.ts tt), .inl (d1.ts tt), fr_shaped _ _, fr_shaped _ _, _, rfl, ?_⟩
    rw [fr_eqv, decide_eq_true ⟨rfl, rfl⟩]
    refine iteT ?_
    refine ⟨_, rfl, _, _, rfl, rfl, ?_⟩
    refine ⟨_, rfl, _, rfl, _, _, _, _, rfl, rfl, sb2.ts tt, at2, _, _, _, _, rfl, rfl, q2.ts tt, rfl, _, rfl, ?_⟩
    refine ⟨_, _, .inl (d2.ts tt), .inl (d1.ts tt), fr_shaped _ _, fr_shaped _ _, _, rfl, ?_⟩
    rw [fr_eqv, decide_eq_false (show ¬ (B[j].p = A[i].p ∧ B[j].q = A[i].q) from fun z => by rw [z.1, z.2] at h; omega)]
    refine iteF ?_
    refine ⟨same_mut (sm.trans u1) hb _, i + 1, j, _, zs ++ [.ref t], dn ++ [⟨A[i].p, A[i].q, A[i], B[j]⟩], rfl, upd_same, ?_, ?_, by omega, by omega, by omega⟩
    · rw [List.map_append]
      exact (dz.ts tt).snoc dpc
    · rw [← al, stp, List.append_assoc]
      rfl
  · rw [decide_eq_false (show ¬ (A[i].p * B[j].q < B[j].p * A[i].q) by rw [h.1, h.2]; omega)]
    rw [if_neg (show ¬ (A[i].p * B[j].q < B[j].p * A[i].q) by rw [h.1, h.2]; omega), if_pos h] at stp
    refine iteF ?_
    refine ⟨_, rfl, _, rfl, _, _, _, _, rfl, rfl, sb2, at2, _, _, _, _, rfl, rfl, q2, rfl, ?_⟩
    refine ⟨_, rfl, .inl ⟨rfl, _, SqL.of hl⟩, _, rfl, _, rfl, _, rfl, _, _, _, _, rfl, rfl, sa2, at1, _, rfl, _, rfl, _, _, _, _, rfl, rfl, sb2, at2, (by show 3 ≤ sizeLine; decide), fun t ht => ?_⟩
    have u1 := same_new ht (.tup [.ref f2, .ref c1, .ref c2])
    have hl1 := u1 _ _ hl
    refine ⟨l, zs, _, rfl, rfl, hl1, small9000 lz, ?_⟩
    have t2 : Tst (upd H' t (.tup [.ref f2, .ref c1, .ref c2])) (upd (upd H' t (.tup [.ref f2, .ref c1, .ref c2])) l (.lst (zs ++ [.ref t]))) := ts_mut hl1
    have tt := u1.ts.trans t2
    have nt : t ≠ l := fun e => by rw [e, hl] at ht; cases ht
    have dpc : Dat K (upd (upd H' t (.tup [.ref f2, .ref c1, .ref c2])) l (.lst (zs ++ [.ref t]))) (pcD ⟨B[j].p, B[j].q, A[i], B[j]⟩) (.ref t) := pc_mk (SqT.of (by rw [upd_ne nt]; exact upd_same)) (d2.ts tt) (dv1.ts tt) (dv2.ts tt)
    refine ⟨_, rfl, _, rfl, _, _, _, _, rfl, rfl, sa2.ts tt, at1, _, _, _, _, rfl, rfl, q1.ts tt, rfl, _, rfl, ?_⟩
    refine ⟨_, _, .inl (d1.ts tt), .inl (d2.ts tt), fr_shaped _ _, fr_shaped _ _, _, rfl, ?_⟩
    rw [fr_eqv, decide_eq_true h]
    refine iteT ?_
    refine ⟨_, rfl, _, _, rfl, rfl, ?_⟩
    refine ⟨_, rfl, _, rfl, _, _, _, _, rfl, rfl, sb2.ts tt, at2, _, _, _, _, rfl, rfl, q2.ts tt, rfl, _, rfl, ?_⟩
    refine ⟨_, _, .inl (d2.ts tt), .inl (d2.ts tt), fr_shaped _ _, fr_shaped _ _, _, rfl, ?_⟩
    rw [fr_eqv, decide_eq_true ⟨rfl, rfl⟩]
    refine iteT ?_
    refine ⟨_, rfl, _, _, rfl, rfl, ?_⟩
    refine ⟨same_mut (sm.trans u1) hb _, i + 1, j + 1, _, zs ++ [.ref t], dn ++ [⟨B[j].p, B[j].q, A[i], B[j]⟩], rfl, upd_same, ?_, ?_, by omega, by omega, by omega⟩
    · rw [List.map_append]
      exact (dz.ts tt).snoc dpc
    · rw [← al, stp, List.append_assoc]
      rfl
  · rw [decide_eq_false h1]
    rw [if_neg h1, if_neg h2] at stp
    refine iteF ?_
    refine ⟨_, rfl, _, rfl, _, _, _, _, rfl, rfl, sb2, at2, _, _, _, _, rfl, rfl, q2, rfl, ?_⟩
    refine ⟨_, rfl, .inl ⟨rfl, _, SqL.of hl⟩, _, rfl, _, rfl, _, rfl, _, _, _, _, rfl, rfl, sa2, at1, _, rfl, _, rfl, _, _, _, _, rfl, rfl, sb2, at2, (by show 3 ≤ sizeLine; decide), fun t ht => ?_⟩
    have u1 := same_new ht (.tup [.ref f2, .ref c1, .ref c2])
    have hl1 := u1 _ _ hl
    refine ⟨l, zs, _, rfl, rfl, hl1, small9000 lz, ?_⟩
    have t2 : Tst (upd H' t (.tup [.ref f2, .ref c1, .ref c2])) (upd (upd H' t (.tup [.ref f2, .ref c1, .ref c2])) l (.lst (zs ++ [.ref t]))) := ts_mut hl1
    have tt := u1.ts.trans t2
    have nt : t ≠ l := fun e => by rw [e, hl] at ht; cases ht
    have dpc : Dat K (upd (upd H' t (.tup [.ref f2, .ref c1, .ref c2])) l (.lst (zs ++ [.ref t]))) (pcD ⟨B[j].p, B[j].q, A[i], B[j]⟩) (.ref t) := pc_mk (SqT.of (by rw [upd_ne nt]; exact upd_same)) (d2.ts tt) (dv1.ts tt) (dv2.ts tt)
    refine ⟨_, rfl, _, rfl, _, _, _, _, rfl, rfl, sa2.ts tt, at1, _, _, _, _, rfl, rfl, q1.ts tt, rfl, _, rfl, ?_⟩
    refine ⟨_, _, .inl (d1.ts tt), .inl (d2.ts tt), fr_shaped _ _, fr_shaped _ _, _, rfl, ?_⟩
    rw [fr_eqv, decide_eq_false h2]
    refine iteF ?_
    refine ⟨_, rfl, _, rfl, _, _, _, _, rfl, rfl, sb2.ts tt, at2, _, _, _, _, rfl, rfl, q2.ts tt, rfl, _, rfl, ?_⟩
    refine ⟨_, _, .inl (d2.ts tt), .inl (d2.ts tt), fr_shaped _ _, fr_shaped _ _, _, rfl, ?_⟩
    rw [fr_eqv, decide_eq_true ⟨rfl, rfl⟩]
    refine iteT ?_
    refine ⟨_, rfl, _, _, rfl, rfl, ?_⟩
    refine ⟨same_mut (sm.trans u1) hb _, i, j + 1, _, zs ++ [.ref t], dn ++ [⟨B[j].p, B[j].q, A[i], B[j]⟩], rfl, upd_same, ?_, ?_, by omega, by omega, by omega⟩
    · rw [List.map_append]
      exact (dz.ts tt).snoc dpc
    · rw [← al, stp, List.append_assoc]
      rfl
end
end Mine




set_option Elab.async false
set_option linter.all false
set_option maxRecDepth 100000
set_option maxHeartbeats 4000000
namespace Mine
open PySem L2
local macro_rules | `(tactic| walk_at "mul") => `(tactic| first | exact mulS (by assumption) (by assumption) | exact mulS (by first | assumption | exact sm_of (by omega) | exact sm_of (by decide) | exact sm_mod (by decide) (by decide)) (by first | assumption | exact sm_of (by omega) | exact sm_of (by decide) | exact sm_mod (by decide) (by decide)))
local macro_rules | `(tactic| walk_at "rd1") => `(tactic| first
  | refine ⟨_, rfl, ?_⟩
  | refine ⟨_, _, rfl, rfl, ?_⟩
  | (refine' ⟨_, _, _, _, rfl, rfl, ?sq, ?ia, ?k⟩; (case' sq => first | assumption | exact Scr.l (by assumption)); (case' ia => first | rfl | assumption))
  | refine ⟨rfl, ?_⟩
  | (refine ⟨?m, ?_⟩; (case' m => walk_at "mul"))
  | (refine ⟨?m, ?_⟩; (case' m => exact div_ok (by first | assumption | omega) (by assumption)))
  | (refine ⟨?m, ?_⟩; (case' m => show (0 : Int) < _; decide))
  | (refine ⟨?m, ?_⟩; (case' m => exact ⟨by decide, by decide⟩))
  | (refine ⟨?m, ?_⟩; (case' m => exact ⟨by decide, by decide, by decide⟩)))
local macro_rules | `(tactic| walk_at "rd") => `(tactic| repeat walk_at "rd1")

theorem pg_tupK {X : Cx} {K : PySem.W.Frag} {es : List Expr} {k : Nat} {pos : Pos} {t : TGs} {n : Nat} (e : X.K = K) (hc : X.calm = true) (h : PGs X es t)
    (hn : (assignEach es X.env).length = n := by rfl) (hst : (assignEach es X.env).findIdx? (·.1) = none := by rfl) : PG X (.Tuple es k pos) (gTup K n t) := by
  subst e
  exact pg_tup hc h hn hst
theorem len3 {o : St} (h : o.length = 3) : ∃ a b c, o = [a, b, c] := by
  match o, h with
  | [a, b, c], _ => exact ⟨a, b, c, rfl⟩
def spTurned (K : PySem.W.Frag) : Sp := fun vs H Q _ => ∃ (x : V) (L : List St4), vs = [x] ∧ Dat K H (lnD L) x ∧ L.length ≤ 1000 ∧ ∀ v H', Same H H' → Dat K H' (lnD (L.map Ln.tnS)) v → Q v H'
def spRaised (K : PySem.W.Frag) : Sp := fun vs H Q _ => ∃ (x : V) (L : List St4) (n : Int), vs = [x, .int n] ∧ Dat K H (lnD L) x ∧ L.length ≤ 1000 ∧ ∀ v H', Same H H' → Dat K H' (lnD (L.map (Ln.rsS n))) v → Q v H'
def spAdded (K : PySem.W.Frag) : Sp := fun vs H Q _ => ∃ (x y : V) (A B : List St4), vs = [x, y] ∧ Dat K H (lnD A) x ∧ Ln.LineK A ∧ Dat K H (lnD B) y ∧ Ln.LineK B ∧ ∀ v H', Same H H' → Dat K H' (lnD (Ln.jn (Ln.ad (Ln.sbs A B)))) v → Q v H'
theorem map_step {α : Type} {f : St4 → α} {L : List St4} {i : Nat} {s : St4} (h : L[i]? = some s) : (L.take (i + 1)).map f = (L.take i).map f ++ [f s] := by
  rw [List.take_add_one, h, List.map_append]
  rfl
theorem ne_lst {H : Hp} {t D : Addr} {zs : List V} (ht : H t = none) (h : H D = some (.lst zs)) : D ≠ t := fun e => by rw [e, ht] at h; cases h
section
variable {P : Program} {w : World} {K : PySem.W.Frag} {mg : Str → Option Value} {base : Heap}
theorem ok_turned (T : TopDef K mg "turned" s_turned) (Z_tuple : mg "tuple" = none) : Def P w K mg base 1 "turned" ["line"] (spTurned K) := by
  refine def_of T sc_turned (fun _ _ _ _ _ _ us hl => match us, hl with | [_], _ => rfl) (fun vs H Q E h => ?_) (fun f cdv A outer s H vs Q E hr h => ?_)
  · obtain ⟨x, L, rfl, _⟩ := h
    rfl
  obtain ⟨x, L, rfl, hx, few, k⟩ := h
  obtain ⟨a, xs, rfl, sa, da⟩ := ln_el hx
  have nd := sc_turned.nd
  have lx := ln_len da
  refine ⟨_, (pss_one (ps_ret (pe_callTy call_tuple_of rfl Z_tuple (by decide +kernel) (pa_cons (pe_compTF (xs := ["end", "slope", "height"]) rfl (pi_tup (pv 0)) rfl (by decide +kernel) (by decide +kernel) (show ∀ p ∈ Scope.names _, p.2 = NameKind.free → List.lookup p.1 (defScope s_turned).names = some .cell ∨ List.lookup p.1 (defScope s_turned).names = some .free by decide +kernel) fa_nil (show (["end", "slope", "height"] : List Str).Nodup by decide +kernel) (fun _ _ _ _ => pg_tupK (K := K) (n := 3) rfl rfl (pgs_cons (pg_name (i := 0) (show (["end", "slope", "height"] : List Str).Nodup by decide +kernel) rfl (Or.inl rfl) (.inr rfl)) (pgs_cons (pg_name (i := 1) (show (["end", "slope", "height"] : List Str).Nodup by decide +kernel) rfl (Or.inl rfl) (.inr rfl)) (pgs_cons (pg_name (i := 2) (show (["end", "slope", "height"] : List Str).Nodup by decide +kernel) rfl (Or.inl rfl) (.inr rfl)) pgs_nil)))) (fun _ _ _ _ => (pe_tup (pa_cons (pv 0) (pa_cons (pe_un un_neg (pv 1)) (pa_cons (pe_un un_neg (pv 2)) pa_nil)))))) pa_nil)))), ?_⟩
  refine ⟨_, rfl, a, rfl, ⟨xs, sa⟩, fun D hD => ?_⟩
  refine ⟨fun i m H2 => m = xs.length - i ∧ i ≤ xs.length ∧ Same H H2 ∧ ∃ zs, H2 D = some (.lst zs) ∧ DatAll K H2 (((L.take i).map Ln.tnS).map stD) zs, ⟨_, rfl, Nat.zero_le _, same_new hD _, [], upd_same, rfl⟩, ?_⟩
  rintro i m H2 ⟨rfl, hi, sm, zs, hlD, dz⟩
  have sa2 := sa.ts sm.ts
  have lz : zs.length ≤ 9000 := by rw [dz.len]; simp; omega
  by_cases hlt : i < xs.length
  · refine .inr ⟨⟨xs, _, sa2, List.getElem?_eq_getElem hlt⟩, fun o ho v H3 y => ?_⟩
    obtain ⟨rfl, y⟩ := y
    obtain ⟨st, hst, dst⟩ := ln_at' (da.ts sm.ts) (y xs sa2)
    obtain ⟨c, e, rfl, q1, d1⟩ := st_el dst
    obtain ⟨o1, o2, o3, rfl⟩ := len3 ho
    refine ⟨c, _, rfl, q1, rfl, _, _, rfl, _, _, rfl, _, _, rfl, rfl, [some e, some (.int st.m), some (.int st.h)], rfl, rfl, ?_⟩
    refine ⟨_, rfl, _, rfl, _, rfl, _, rfl, _, rfl, (by show 3 ≤ sizeLine; decide), fun t ht => ?_⟩
    have u1 := same_new ht (.tup [e, .int (-st.m), .int (-st.h)])
    have hD1 := u1 _ _ hlD
    have t2 : Tst (upd H3 t (.tup [e, .int (-st.m), .int (-st.h)])) (upd (upd H3 t (.tup [e, .int (-st.m), .int (-st.h)])) D (.lst (zs ++ [.ref t]))) := ts_mut hD1
    have tt := u1.ts.trans t2
    refine ⟨zs, hD1, small9000 lz, xs.length - (i + 1), by omega, rfl, hlt, same_mut (sm.trans u1) hD _, zs ++ [.ref t], upd_same, ?_⟩
    rw [map_step hst, List.map_append]
    exact (dz.ts tt).snoc (st_mk (s := Ln.tnS st) (SqT.of (by rw [upd_ne (ne_lst ht hlD).symm]; exact upd_same)) (d1.ts tt))
  have ei : i = xs.length := by omega
  subst ei
  refine .inl ⟨⟨xs, sa2, Nat.le_refl _⟩, ?_⟩
  rw [lx, List.take_length] at dz
  refine ⟨D, zs, rfl, .inl ⟨SqL.of hlD, fun t ht => ?_⟩⟩
  have u1 := same_new ht (.tup zs)
  exact k _ _ (sm.trans u1) ⟨t, zs, rfl, SqT.of upd_same, dz.ts u1.ts⟩
theorem ok_raised (T : TopDef K mg "raised" s_raised) (Z_tuple : mg "tuple" = none) : Def P w K mg base 1 "raised" ["line", "by"] (spRaised K) := by
  refine def_of T sc_raised (fun _ _ _ _ _ _ us hl => match us, hl with | [_, _], _ => rfl) (fun vs H Q E h => ?_) (fun f cdv A outer s H vs Q E hr h => ?_)
  · obtain ⟨x, L, n, rfl, _⟩ := h
    rfl
  obtain ⟨x, L, n, rfl, hx, few, k⟩ := h
  obtain ⟨a, xs, rfl, sa, da⟩ := ln_el hx
  have nd := sc_raised.nd
  have lx := ln_len da
  refine ⟨_, (pss_one (ps_ret (pe_callTy call_tuple_of rfl Z_tuple (by decide +kernel) (pa_cons (pe_compTF (xs := ["end", "slope", "height"]) rfl (pi_tup (pv 0)) rfl (by decide +kernel) (by decide +kernel) (show ∀ p ∈ Scope.names _, p.2 = NameKind.free → List.lookup p.1 (defScope s_raised).names = some .cell ∨ List.lookup p.1 (defScope s_raised).names = some .free by decide +kernel) (fa_cons (j := 1) rfl (Or.inl rfl) (by decide +kernel) (Or.inl rfl) fa_nil) (show (["end", "slope", "height", "by"] : List Str).Nodup by decide +kernel) (fun _ _ _ _ => pg_tupK (K := K) (n := 3) rfl rfl (pgs_cons (pg_name (i := 0) (show (["end", "slope", "height", "by"] : List Str).Nodup by decide +kernel) rfl (Or.inl rfl) (.inr rfl)) (pgs_cons (pg_name (i := 1) (show (["end", "slope", "height", "by"] : List Str).Nodup by decide +kernel) rfl (Or.inl rfl) (.inr rfl)) (pgs_cons (pg_name (i := 2) (show (["end", "slope", "height", "by"] : List Str).Nodup by decide +kernel) rfl (Or.inl rfl) (.inr rfl)) pgs_nil)))) (fun _ _ _ _ => (pe_tup (pa_cons (pv 0) (pa_cons (pv 1) (pa_cons (pe_op op_add (pv 2) (pv 3)) pa_nil)))))) pa_nil)))), ?_⟩
  refine ⟨_, rfl, a, rfl, ⟨xs, sa⟩, fun D hD => ?_⟩
  refine ⟨fun i m H2 => m = xs.length - i ∧ i ≤ xs.length ∧ Same H H2 ∧ ∃ zs, H2 D = some (.lst zs) ∧ DatAll K H2 (((L.take i).map (Ln.rsS n)).map stD) zs, ⟨_, rfl, Nat.zero_le _, same_new hD _, [], upd_same, rfl⟩, ?_⟩
  rintro i m H2 ⟨rfl, hi, sm, zs, hlD, dz⟩
  have sa2 := sa.ts sm.ts
  have lz : zs.length ≤ 9000 := by rw [dz.len]; simp; omega
  by_cases hlt : i < xs.length
  · refine .inr ⟨⟨xs, _, sa2, List.getElem?_eq_getElem hlt⟩, fun o ho v H3 y => ?_⟩
    obtain ⟨rfl, y⟩ := y
    obtain ⟨st, hst, dst⟩ := ln_at' (da.ts sm.ts) (y xs sa2)
    obtain ⟨c, e, rfl, q1, d1⟩ := st_el dst
    obtain ⟨o1, o2, o3, rfl⟩ := len3 ho
    refine ⟨c, _, rfl, q1, rfl, _, _, rfl, _, _, rfl, _, _, rfl, rfl, [some e, some (.int st.m), some (.int st.h)], rfl, rfl, ?_⟩
    refine ⟨_, rfl, _, rfl, _, rfl, _, rfl, _, _, rfl, rfl, (by show 3 ≤ sizeLine; decide), fun t ht => ?_⟩
    have u1 := same_new ht (.tup [e, .int st.m, .int (st.h + n)])
    have hD1 := u1 _ _ hlD
    have t2 : Tst (upd H3 t (.tup [e, .int st.m, .int (st.h + n)])) (upd (upd H3 t (.tup [e, .int st.m, .int (st.h + n)])) D (.lst (zs ++ [.ref t]))) := ts_mut hD1
    have tt := u1.ts.trans t2
    refine ⟨zs, hD1, small9000 lz, xs.length - (i + 1), by omega, rfl, hlt, same_mut (sm.trans u1) hD _, zs ++ [.ref t], upd_same, ?_⟩
    rw [map_step hst, List.map_append]
    exact (dz.ts tt).snoc (st_mk (s := Ln.rsS n st) (SqT.of (by rw [upd_ne (ne_lst ht hlD).symm]; exact upd_same)) (d1.ts tt))
  have ei : i = xs.length := by omega
  subst ei
  refine .inl ⟨⟨xs, sa2, Nat.le_refl _⟩, ?_⟩
  rw [lx, List.take_length] at dz
  refine ⟨D, zs, rfl, .inl ⟨SqL.of hlD, fun t ht => ?_⟩⟩
  have u1 := same_new ht (.tup zs)
  exact k _ _ (sm.trans u1) ⟨t, zs, rfl, SqT.of upd_same, dz.ts u1.ts⟩
theorem pc_at' {H : Hp} {xs : List V} {Ps : List Ln.Pc} (g : DatAll K H (Ps.map pcD) xs) {i : Nat} {x : V} (h : xs[i]? = some x) : ∃ c, Ps[i]? = some c ∧ Dat K H (pcD c) x := by
  obtain ⟨d, e1, e2⟩ := g.get' h
  rw [List.getElem?_map] at e1
  cases z : Ps[i]? with
  | none => rw [z] at e1; cases e1
  | some s => rw [z] at e1; cases e1; exact ⟨s, rfl, e2⟩
theorem ok_added (T : TopDef K mg "added" s_added) (D_side_by_side : Def P w K mg base 2 "side_by_side" ["one", "other"] (spSbs K)) (D_joined : Def P w K mg base 1 "joined" ["stretches"] (spJoined K)) : Def P w K mg base 3 "added" ["one", "other"] (spAdded K) := by
  refine def_of T sc_added (fun _ _ _ _ _ _ us hl => match us, hl with | [_, _], _ => rfl) (fun vs H Q E h => ?_) (fun f cdv A outer s H vs Q E hr h => ?_)
  · obtain ⟨x, y, A, B, rfl, _⟩ := h
    rfl
  obtain ⟨x, y, A, B, rfl, hx, la, hy, lb, k⟩ := h
  have nd := sc_added.nd
  have slen := Ln.sbs_len A B
  have fa := la.few
  have fb := lb.few
  refine ⟨_, (pss_cons (ps_set (i := 2) nd rfl (Or.inl rfl) (pe_def D_side_by_side (hr.mono (by decide)) rfl (pa_cons (pv 0) (pa_cons (pv 1) pa_nil))))
    (pss_one (ps_ret (pe_def D_joined (hr.mono (by decide)) rfl (pa_cons (pe_compTF (xs := ["end", "first", "second"]) rfl (pi_list (pv 2)) rfl (by decide +kernel) (by decide +kernel) (show ∀ p ∈ Scope.names _, p.2 = NameKind.free → List.lookup p.1 (defScope s_added).names = some .cell ∨ List.lookup p.1 (defScope s_added).names = some .free by decide +kernel) fa_nil (show (["end", "first", "second"] : List Str).Nodup by decide +kernel) (fun _ _ _ _ => pg_tupK (K := K) (n := 3) rfl rfl (pgs_cons (pg_name (i := 0) (show (["end", "first", "second"] : List Str).Nodup by decide +kernel) rfl (Or.inl rfl) (.inr rfl)) (pgs_cons (pg_name (i := 1) (show (["end", "first", "second"] : List Str).Nodup by decide +kernel) rfl (Or.inl rfl) (.inr rfl)) (pgs_cons (pg_name (i := 2) (show (["end", "first", "second"] : List Str).Nodup by decide +kernel) rfl (Or.inl rfl) (.inr rfl)) pgs_nil)))) (fun _ _ _ _ => (pe_tup (pa_cons (pv 0) (pa_cons (pe_op op_add (pe_ix (ix_tupK (K := K) rfl) (pv 1) pe_int (fun _ _ => rfl)) (pe_ix (ix_tupK (K := K) rfl) (pv 2) pe_int (fun _ _ => rfl))) (pa_cons (pe_op op_add (pe_ix (ix_tupK (K := K) rfl) (pv 1) pe_int (fun _ _ => rfl)) (pe_ix (ix_tupK (K := K) rfl) (pv 2) pe_int (fun _ _ => rfl))) pa_nil)))))) pa_nil))))), ?_⟩
  refine ⟨_, rfl, _, rfl, x, y, A, B, rfl, hx, la, hy, lb, fun l us H1 s1 hl0 hl dus => ?_⟩
  have lu : us.length = (Ln.sbs A B).length := by rw [dus.len, List.length_map]
  refine ⟨_, rfl, l, rfl, ⟨us, SqL.of hl⟩, fun D hD => ?_⟩
  refine ⟨fun i m H2 => m = us.length - i ∧ i ≤ us.length ∧ Same H1 H2 ∧ ∃ zs, H2 D = some (.lst zs) ∧ DatAll K H2 ((Ln.ad ((Ln.sbs A B).take i)).map stD) zs, ⟨_, rfl, Nat.zero_le _, same_new hD _, [], upd_same, rfl⟩, ?_⟩
  rintro i m H2 ⟨rfl, hi, sm, zs, hlD, dz⟩
  have sl2 : SqL K H2 l us := SqL.of (sm _ _ hl)
  have lz : zs.length ≤ 9000 := by rw [dz.len]; simp [Ln.ad]; omega
  by_cases hlt : i < us.length
  · refine .inr ⟨⟨us, _, sl2, List.getElem?_eq_getElem hlt⟩, fun o ho v H3 y => ?_⟩
    obtain ⟨rfl, y⟩ := y
    obtain ⟨c, hc, dc⟩ := pc_at' (dus.ts sm.ts) (y us sl2)
    obtain ⟨ca, e, f, g, rfl, q1, d1, df, dg⟩ := pc_el dc
    obtain ⟨fa', _, rfl, qf, _⟩ := st_el df
    obtain ⟨ga', _, rfl, qg, _⟩ := st_el dg
    obtain ⟨o1, o2, o3, rfl⟩ := len3 ho
    refine ⟨ca, _, rfl, q1, rfl, _, _, rfl, _, _, rfl, _, _, rfl, rfl, [some e, some (.ref fa'), some (.ref ga')], rfl, rfl, ?_⟩
    refine ⟨_, rfl, _, rfl, _, _, _, _, rfl, rfl, qf, rfl, _, rfl, _, _, _, _, rfl, rfl, qg, rfl, _, _, rfl, rfl, _, rfl, _, _, _, _, rfl, rfl, qf, rfl, _, rfl, _, _, _, _, rfl, rfl, qg, rfl, _, _, rfl, rfl, (by show 3 ≤ sizeLine; decide), fun t ht => ?_⟩
    have u1 := same_new ht (.tup [e, .int (c.a.m + c.b.m), .int (c.a.h + c.b.h)])
    have hD1 := u1 _ _ hlD
    have t2 : Tst (upd H3 t (.tup [e, .int (c.a.m + c.b.m), .int (c.a.h + c.b.h)])) (upd (upd H3 t (.tup [e, .int (c.a.m + c.b.m), .int (c.a.h + c.b.h)])) D (.lst (zs ++ [.ref t]))) := ts_mut hD1
    have tt := u1.ts.trans t2
    refine ⟨zs, hD1, small9000 lz, us.length - (i + 1), by omega, rfl, hlt, same_mut (sm.trans u1) hD _, zs ++ [.ref t], upd_same, ?_⟩
    have e2 : Ln.ad ((Ln.sbs A B).take (i + 1)) = Ln.ad ((Ln.sbs A B).take i) ++ [⟨c.p, c.q, c.a.m + c.b.m, c.a.h + c.b.h⟩] := by
      unfold Ln.ad
      rw [List.take_add_one, hc, List.map_append]
      rfl
    rw [e2, List.map_append]
    exact (dz.ts tt).snoc (st_mk (s := ⟨c.p, c.q, c.a.m + c.b.m, c.a.h + c.b.h⟩) (SqT.of (by rw [upd_ne (ne_lst ht hlD).symm]; exact upd_same)) (d1.ts tt))
  have ei : i = us.length := by omega
  subst ei
  refine .inl ⟨⟨us, sl2, Nat.le_refl _⟩, ?_⟩
  rw [lu, List.take_length] at dz
  refine ⟨.ref D, Ln.ad (Ln.sbs A B), rfl, ⟨D, zs, rfl, SqL.of hlD, dz⟩, by simp [Ln.ad]; omega, fun v H' s' dv => ?_⟩
  exact k v H' (s1.trans (sm.trans s')) dv
end
end Mine




set_option Elab.async false
set_option linter.all false
set_option maxRecDepth 100000
set_option maxHeartbeats 4000000
namespace Mine
open PySem L2
local macro_rules | `(tactic| walk_at "mul") => `(tactic| first | exact mulS (by assumption) (by assumption) | exact mulS (by first | assumption | exact sm_of (by omega) | exact sm_of (by decide) | exact sm_mod (by decide) (by decide)) (by first | assumption | exact sm_of (by omega) | exact sm_of (by decide) | exact sm_mod (by decide) (by decide)))
local macro_rules | `(tactic| walk_at "rd1") => `(tactic| first
  | refine ⟨_, rfl, ?_⟩
  | refine ⟨_, _, rfl, rfl, ?_⟩
  | (refine' ⟨_, _, _, _, rfl, rfl, ?sq, ?ia, ?k⟩; (case' sq => first | assumption | exact Scr.l (by assumption)); (case' ia => first | rfl | assumption))
  | refine ⟨rfl, ?_⟩
  | (refine ⟨?m, ?_⟩; (case' m => walk_at "mul"))
  | (refine ⟨?m, ?_⟩; (case' m => exact div_ok (by first | assumption | omega) (by assumption)))
  | (refine ⟨?m, ?_⟩; (case' m => show (0 : Int) < _; decide))
  | (refine ⟨?m, ?_⟩; (case' m => exact ⟨by decide, by decide⟩))
  | (refine ⟨?m, ?_⟩; (case' m => exact ⟨by decide, by decide, by decide⟩)))
local macro_rules | `(tactic| walk_at "rd") => `(tactic| repeat walk_at "rd1")

def spGst (K : PySem.W.Frag) : Sp := fun vs H Q _ => ∃ (v0 v1 f g : V) (sp sq : Int) (c : Ln.Pc), vs = [v0, v1, f, g] ∧ Dat K H (frD sp sq) v0 ∧ Dat K H (frD c.p c.q) v1 ∧ Dat K H (stD c.a) f ∧ Dat K H (stD c.b) g ∧ Ln.PcOk 45 c ∧ 0 ≤ sp ∧ sp ≤ sq ∧ 0 < sq ∧ sq < 2 ^ 46 ∧
  ∀ (l : Addr) (us : List V) (H' : Hp), Same H H' → H' l = some (.lst us) → DatAll K H' ((Ln.gs sp sq c).map stD) us → us.length ≤ 2 → Q (.ref l) H'
theorem gs_of {sp sq : Int} {c : Ln.Pc} {u1 u2 : St4} (h1 : (if 0 < (c.a.m - c.b.m) * sp + (c.a.h - c.b.h) * sq then c.a else c.b) = u1) (h2 : (if 0 < (c.a.m - c.b.m) * c.p + (c.a.h - c.b.h) * c.q then c.a else c.b) = u2) :
    Ln.gs sp sq c = (if ((c.a.m - c.b.m) * sp + (c.a.h - c.b.h) * sq) * ((c.a.m - c.b.m) * c.p + (c.a.h - c.b.h) * c.q) < 0 then [⟨Lo.lowT (-(c.a.h - c.b.h)) (c.a.m - c.b.m), Lo.lowB (-(c.a.h - c.b.h)) (c.a.m - c.b.m), u1.m, u1.h⟩, ⟨c.p, c.q, u2.m, u2.h⟩] else if (c.a.m - c.b.m) * sp + (c.a.h - c.b.h) * sq = 0 then [⟨c.p, c.q, u2.m, u2.h⟩] else [⟨c.p, c.q, u1.m, u1.h⟩]) := by
  unfold Ln.gs
  rw [h1, h2]
theorem slope_ne {S h sq q : Int} {sp p : Int} (hs : 0 < sq) (hq : 0 < q) (c : (S * sp + h * sq) * (S * p + h * q) < 0) : S ≠ 0 := by
  intro z
  subst z
  rw [Int.zero_mul, Int.zero_mul, Int.zero_add, Int.zero_add] at c
  rcases Int.le_total 0 h with y | y
  · have := Int.mul_nonneg (Int.mul_nonneg y (Int.le_of_lt hs)) (Int.mul_nonneg y (Int.le_of_lt hq))
    omega
  · have := Int.mul_nonneg_of_nonpos_of_nonpos (Int.mul_nonpos_of_nonpos_of_nonneg y (Int.le_of_lt hs)) (Int.mul_nonpos_of_nonpos_of_nonneg y (Int.le_of_lt hq))
    omega
section
variable {P : Program} {w : World} {K : PySem.W.Frag} {mg : Str → Option Value} {base : Heap}
theorem ok_gst (T : TopDef K mg "greater_stretches" s_greater_stretches) (D_fraction : Def P w K mg base 2 "fraction" ["top", "bottom"] spLow) : Def P w K mg base 3 "greater_stretches" ["start", "end", "first", "second"] (spGst K) := by
  refine def_of T sc_greater_stretches (fun _ _ _ _ _ _ us hl => match us, hl with | [_, _, _, _], _ => rfl) (fun vs H Q E h => ?_) (fun f cdv A outer s H vs Q E hr h => ?_)
  · obtain ⟨v0, v1, f, g, sp, sq, c, rfl, _⟩ := h
    rfl
  obtain ⟨v0, v1, f', g, sp, sq, c, rfl, d0, d1, df, dg, ok, p0, pq, q0, qb, k⟩ := h
  have nd := sc_greater_stretches.nd
  have t6 : ∃ t, PSs (cxOf CX0 P w K mg base n_greater_stretches "greater_stretches" (defScope s_greater_stretches) f cdv A outer s H E).nox ((defBody s_greater_stretches).drop 6) t ∧
      ∀ (S Hh AS AE : Int) (u1 u2 : St4) (w1 w2 : V), Sm AS → Sm AE → Sm S → (AS * AE < 0 → S ≠ 0) → Dat K H (stD u1) w1 → Dat K H (stD u2) w2 →
        (∀ (l : Addr) (us : List V) (H' : Hp), Same H H' → H' l = some (.lst us) → DatAll K H' ((if AS * AE < 0 then [⟨Lo.lowT (-Hh) S, Lo.lowB (-Hh) S, u1.m, u1.h⟩, ⟨c.p, c.q, u2.m, u2.h⟩] else if AS = 0 then [⟨c.p, c.q, u2.m, u2.h⟩] else [⟨c.p, c.q, u1.m, u1.h⟩]).map stD) us → us.length ≤ 2 → Q (.ref l) H') →
        t { nx := fun _ H' => Q .non H', rt := Q } [some v0, some v1, some f', some g, some (.int S), some (.int Hh), some (.int AS), some (.int AE), some w1, some w2, none] H := by
    refine ⟨_, (pss_cons (ps_if (pt_cmpR op_lt (pe_op op_mulK (pv 6) (pv 7)) pe_int (nomark _)) (pss_cons (ps_set (i := 10) nd rfl (Or.inl rfl) (pe_def D_fraction (hr.mono (by decide)) rfl (pa_cons (pe_un un_neg (pv 5)) (pa_cons (pv 4) pa_nil))))
    (pss_one (ps_ret (pe_lst (pa_cons (pe_op op_catT (pe_tup (pa_cons (pv 10) pa_nil)) (pe_slice sl_tup (pv 8) (po_some pe_int) po_none)) (pa_cons (pe_op op_catT (pe_tup (pa_cons (pv 1) pa_nil)) (pe_slice sl_tup (pv 9) (po_some pe_int) po_none)) pa_nil)))))) pss_nil)
    (pss_cons (ps_if (pt_cmpR op_eq (pv 6) pe_int (nomark _)) (pss_one (ps_ret (pe_lst (pa_cons (pe_op op_catT (pe_tup (pa_cons (pv 1) pa_nil)) (pe_slice sl_tup (pv 9) (po_some pe_int) po_none)) pa_nil)))) pss_nil)
    (pss_one (ps_ret (pe_lst (pa_cons (pe_op op_catT (pe_tup (pa_cons (pv 1) pa_nil)) (pe_slice sl_tup (pv 8) (po_some pe_int) po_none)) pa_nil)))))), fun S Hh AS AE u1 u2 w1 w2 bAS bAE bS hS e1 e2 kk => ?_⟩
    obtain ⟨a1, f1, rfl, q1, _⟩ := st_el e1
    obtain ⟨a2, f2, rfl, q2, _⟩ := st_el e2
    refine ⟨_, rfl, _, rfl, _, _, rfl, rfl, mulS bAS bAE, _, _, rfl, rfl, _, rfl, ?_⟩
    refine ite2 (fun cc => ?_) (fun cc => ?_)
    · have c' : AS * AE < 0 := of_decide_eq_true cc
      rw [if_pos c'] at kk
      refine ⟨_, rfl, _, rfl, _, rfl, -Hh, S, rfl, hS c', bS, fun t1 H1 s1 ht1 => ?_⟩
      refine ⟨_, rfl, (by show 1 ≤ sizeLine; decide), fun p1 hp1 => ?_⟩
      have n1 := same_new hp1 (.tup [.ref t1])
      refine ⟨_, rfl, _, rfl, a1, _, rfl, q1.ts (s1.trans n1).ts, cut1_ne _ _ _, fun p2 hp2 => ?_⟩
      have n2 := same_new hp2 (.tup (cutV [f1, .int u1.m, .int u1.h] (some 1) none))
      refine ⟨p1, p2, [.ref t1], [.int u1.m, .int u1.h], rfl, rfl, SqT.of (n2 _ _ upd_same), SqT.of upd_same, by simp, (by show 3 ≤ sizeLine; decide), (fun z => nomatch z), fun _ p3 hp3 => ?_⟩
      have n3 := same_new hp3 (.tup ([.ref t1] ++ [.int u1.m, .int u1.h]))
      have m3 := s1.trans (n1.trans (n2.trans n3))
      refine ⟨_, rfl, (by show 1 ≤ sizeLine; decide), fun p4 hp4 => ?_⟩
      have n4 := same_new hp4 (.tup [v1])
      refine ⟨_, rfl, _, rfl, a2, _, rfl, q2.ts (m3.trans n4).ts, cut1_ne _ _ _, fun p5 hp5 => ?_⟩
      have n5 := same_new hp5 (.tup (cutV [f2, .int u2.m, .int u2.h] (some 1) none))
      refine ⟨p4, p5, [v1], [.int u2.m, .int u2.h], rfl, rfl, SqT.of (n5 _ _ upd_same), SqT.of upd_same, by simp, (by show 3 ≤ sizeLine; decide), (fun z => nomatch z), fun _ p6 hp6 => ?_⟩
      have n6 := same_new hp6 (.tup ([v1] ++ [.int u2.m, .int u2.h]))
      refine ⟨(by show 2 ≤ sizeLine; decide), fun l hl => ?_⟩
      have n7 := same_new hl (.lst [.ref p3, .ref p6])
      have m47 := n4.trans (n5.trans (n6.trans n7))
      have ft : Dat K _ (frD (Lo.lowT (-Hh) S) (Lo.lowB (-Hh) S)) (.ref t1) := fr_mk (SqT.of ht1)
      refine kk l _ _ (m3.trans m47) upd_same ?_ (by simp)
      exact ⟨_, _, rfl, st_mk (s := ⟨Lo.lowT (-Hh) S, Lo.lowB (-Hh) S, u1.m, u1.h⟩) (SqT.of (m47 _ _ upd_same)) (ft.ts ((n1.trans (n2.trans n3)).trans m47).ts), _, _, rfl, st_mk (s := ⟨c.p, c.q, u2.m, u2.h⟩) (SqT.of (n7 _ _ upd_same)) (d1.ts (m3.trans m47).ts), rfl⟩
    have c' : ¬ AS * AE < 0 := fun z => cc (decide_eq_true z)
    rw [if_neg c'] at kk
    refine ⟨_, rfl, rfl, _, rfl, ?_⟩
    refine ite2 (fun cc => ?_) (fun cc => ?_)
    · have e0 : AS = 0 := V.int.inj (of_decide_eq_true cc)
      rw [if_pos e0] at kk
      refine ⟨_, rfl, (by show 1 ≤ sizeLine; decide), fun p4 hp4 => ?_⟩
      have n4 := same_new hp4 (.tup [v1])
      refine ⟨_, rfl, _, rfl, a2, _, rfl, q2.ts n4.ts, cut1_ne _ _ _, fun p5 hp5 => ?_⟩
      have n5 := same_new hp5 (.tup (cutV [f2, .int u2.m, .int u2.h] (some 1) none))
      refine ⟨p4, p5, [v1], [.int u2.m, .int u2.h], rfl, rfl, SqT.of (n5 _ _ upd_same), SqT.of upd_same, by simp, (by show 3 ≤ sizeLine; decide), (fun z => nomatch z), fun _ p6 hp6 => ?_⟩
      have n6 := same_new hp6 (.tup ([v1] ++ [.int u2.m, .int u2.h]))
      refine ⟨(by show 1 ≤ sizeLine; decide), fun l hl => ?_⟩
      have n7 := same_new hl (.lst [.ref p6])
      have m47 := n4.trans (n5.trans (n6.trans n7))
      refine kk l _ _ m47 upd_same ?_ (by simp)
      exact ⟨_, _, rfl, st_mk (s := ⟨c.p, c.q, u2.m, u2.h⟩) (SqT.of (n7 _ _ upd_same)) (d1.ts m47.ts), rfl⟩
    · have e0 : ¬ AS = 0 := fun z => cc (decide_eq_true (congrArg V.int z))
      rw [if_neg e0] at kk
      refine ⟨_, rfl, (by show 1 ≤ sizeLine; decide), fun p4 hp4 => ?_⟩
      have n4 := same_new hp4 (.tup [v1])
      refine ⟨_, rfl, _, rfl, a1, _, rfl, q1.ts n4.ts, cut1_ne _ _ _, fun p5 hp5 => ?_⟩
      have n5 := same_new hp5 (.tup (cutV [f1, .int u1.m, .int u1.h] (some 1) none))
      refine ⟨p4, p5, [v1], [.int u1.m, .int u1.h], rfl, rfl, SqT.of (n5 _ _ upd_same), SqT.of upd_same, by simp, (by show 3 ≤ sizeLine; decide), (fun z => nomatch z), fun _ p6 hp6 => ?_⟩
      have n6 := same_new hp6 (.tup ([v1] ++ [.int u1.m, .int u1.h]))
      refine ⟨(by show 1 ≤ sizeLine; decide), fun l hl => ?_⟩
      have n7 := same_new hl (.lst [.ref p6])
      have m47 := n4.trans (n5.trans (n6.trans n7))
      refine kk l _ _ m47 upd_same ?_ (by simp)
      exact ⟨_, _, rfl, st_mk (s := ⟨c.p, c.q, u1.m, u1.h⟩) (SqT.of (n7 _ _ upd_same)) (d1.ts m47.ts), rfl⟩
  obtain ⟨t6, ht6, hq6⟩ := t6
  obtain ⟨a0, rfl, s0⟩ := fr_el d0
  obtain ⟨a1, rfl, s1⟩ := fr_el d1
  obtain ⟨fa, ef, rfl, qf, ff⟩ := st_el df
  obtain ⟨ga, eg, rfl, qg, gg⟩ := st_el dg
  have oa := ok.a.2.2.2.2
  have ob := ok.b.2.2.2.2
  have bS : (c.a.m - c.b.m).natAbs < 2 ^ 46 := by omega
  have bH : (c.a.h - c.b.h).natAbs < 2 ^ 46 := by omega
  obtain ⟨cp0, cpq, _, cq⟩ := ok.e
  have bsp : sp.natAbs < 2 ^ 46 := by omega
  have bsq : sq.natAbs < 2 ^ 46 := by omega
  have bcp : c.p.natAbs < 2 ^ 46 := by omega
  have bcq : c.q.natAbs < 2 ^ 46 := by omega
  have small : ∀ {x : Int}, x.natAbs < 2 ^ 46 → Sm x := fun h => Nat.lt_of_lt_of_le h (by decide)
  have y1 := Ln.prod_small (x := c.a.m - c.b.m) (y := sp) (m := 46) (n := 46) bS bsp
  have y2 := Ln.prod_small (x := c.a.h - c.b.h) (y := sq) (m := 46) (n := 46) bH bsq
  have y3 := Ln.prod_small (x := c.a.m - c.b.m) (y := c.p) (m := 46) (n := 46) bS bcp
  have y4 := Ln.prod_small (x := c.a.h - c.b.h) (y := c.q) (m := 46) (n := 46) bH bcq
  have bAS : Sm ((c.a.m - c.b.m) * sp + (c.a.h - c.b.h) * sq) := Nat.lt_of_lt_of_le (m := 2 ^ 93) (by omega) (by decide)
  have bAE : Sm ((c.a.m - c.b.m) * c.p + (c.a.h - c.b.h) * c.q) := Nat.lt_of_lt_of_le (m := 2 ^ 93) (by omega) (by decide)
  have hS : ((c.a.m - c.b.m) * sp + (c.a.h - c.b.h) * sq) * ((c.a.m - c.b.m) * c.p + (c.a.h - c.b.h) * c.q) < 0 → c.a.m - c.b.m ≠ 0 := slope_ne q0 (by omega)
  refine ⟨_, pss_cons (ps_set (i := 4) nd rfl (Or.inl rfl) (pe_op op_sub (pe_ix ix_tup (pv 2) pe_int (fun _ _ => rfl)) (pe_ix ix_tup (pv 3) pe_int (fun _ _ => rfl)))) (pss_cons (ps_set (i := 5) nd rfl (Or.inl rfl) (pe_op op_sub (pe_ix ix_tup (pv 2) pe_int (fun _ _ => rfl)) (pe_ix ix_tup (pv 3) pe_int (fun _ _ => rfl)))) (pss_cons (ps_set (i := 6) nd rfl (Or.inl rfl) (pe_op op_add (pe_op op_mulK (pv 4) (pe_ix ix_tup (pv 0) pe_int (fun _ _ => rfl))) (pe_op op_mulK (pv 5) (pe_ix ix_tup (pv 0) pe_int (fun _ _ => rfl))))) (pss_cons (ps_set (i := 7) nd rfl (Or.inl rfl) (pe_op op_add (pe_op op_mulK (pv 4) (pe_ix ix_tup (pv 1) pe_int (fun _ _ => rfl))) (pe_op op_mulK (pv 5) (pe_ix ix_tup (pv 1) pe_int (fun _ _ => rfl))))) (pss_cons (ps_set (i := 8) nd rfl (Or.inl rfl) (pe_ifExp (pt_cmpR op_gt (pv 6) pe_int (nomark _)) (pv 2) (pv 3))) (pss_cons (ps_set (i := 9) nd rfl (Or.inl rfl) (pe_ifExp (pt_cmpR op_gt (pv 7) pe_int (nomark _)) (pv 2) (pv 3))) ht6))))), ?_⟩
  refine ⟨_, rfl, _, _, _, _, rfl, rfl, qf, rfl, _, rfl, _, _, _, _, rfl, rfl, qg, rfl, _, _, rfl, rfl, ?_⟩
  refine ⟨_, rfl, _, _, _, _, rfl, rfl, qf, rfl, _, rfl, _, _, _, _, rfl, rfl, qg, rfl, _, _, rfl, rfl, ?_⟩
  refine ⟨_, rfl, _, rfl, _, _, _, _, rfl, rfl, s0, rfl, _, _, rfl, rfl, mulS (small bS) (small bsp), _, rfl, _, rfl, _, _, _, _, rfl, rfl, s0, rfl, _, _, rfl, rfl, mulS (small bH) (small bsq), _, _, rfl, rfl, ?_⟩
  refine ⟨_, rfl, _, rfl, _, _, _, _, rfl, rfl, s1, rfl, _, _, rfl, rfl, mulS (small bS) (small bcp), _, rfl, _, rfl, _, _, _, _, rfl, rfl, s1, rfl, _, _, rfl, rfl, mulS (small bH) (small bcq), _, _, rfl, rfl, ?_⟩
  have go : ∀ (u1 u2 : St4) (w1 w2 : V), (if 0 < (c.a.m - c.b.m) * sp + (c.a.h - c.b.h) * sq then c.a else c.b) = u1 → (if 0 < (c.a.m - c.b.m) * c.p + (c.a.h - c.b.h) * c.q then c.a else c.b) = u2 → Dat K H (stD u1) w1 → Dat K H (stD u2) w2 →
      t6 { nx := fun _ H' => Q .non H', rt := Q } [some (.ref a0), some (.ref a1), some (.ref fa), some (.ref ga), some (.int (c.a.m - c.b.m)), some (.int (c.a.h - c.b.h)), some (.int ((c.a.m - c.b.m) * sp + (c.a.h - c.b.h) * sq)), some (.int ((c.a.m - c.b.m) * c.p + (c.a.h - c.b.h) * c.q)), some w1, some w2, none] H :=
    fun u1 u2 w1 w2 e1 e2 k1 k2 => hq6 _ _ _ _ u1 u2 w1 w2 bAS bAE (small bS) hS k1 k2 fun l us H' s' hl da n => k l us H' s' hl (by rw [gs_of e1 e2]; exact da) n
  refine ⟨_, rfl, _, _, rfl, rfl, _, rfl, ?_⟩
  refine ite2 (fun c1 => ?_) (fun c1 => ?_)
  · have e1 : (if 0 < (c.a.m - c.b.m) * sp + (c.a.h - c.b.h) * sq then c.a else c.b) = c.a := if_pos (of_decide_eq_true c1)
    refine ⟨_, rfl, ?_⟩
    refine ⟨_, rfl, _, _, rfl, rfl, _, rfl, ?_⟩
    refine ite2 (fun c2 => ⟨_, rfl, ?_⟩) (fun c2 => ⟨_, rfl, ?_⟩)
    · exact go _ _ _ _ e1 (if_pos (of_decide_eq_true c2)) df df
    · exact go _ _ _ _ e1 (if_neg fun z => c2 (decide_eq_true z)) df dg
  · have e1 : (if 0 < (c.a.m - c.b.m) * sp + (c.a.h - c.b.h) * sq then c.a else c.b) = c.b := if_neg fun z => c1 (decide_eq_true z)
    refine ⟨_, rfl, ?_⟩
    refine ⟨_, rfl, _, _, rfl, rfl, _, rfl, ?_⟩
    refine ite2 (fun c2 => ⟨_, rfl, ?_⟩) (fun c2 => ⟨_, rfl, ?_⟩)
    · exact go _ _ _ _ e1 (if_pos (of_decide_eq_true c2)) dg df
    · exact go _ _ _ _ e1 (if_neg fun z => c2 (decide_eq_true z)) dg dg
end
end Mine




set_option Elab.async false
set_option linter.all false
set_option maxRecDepth 100000
set_option maxHeartbeats 4000000
namespace Mine
open PySem L2
local macro_rules | `(tactic| walk_at "mul") => `(tactic| first | exact mulS (by assumption) (by assumption) | exact mulS (by first | assumption | exact sm_of (by omega) | exact sm_of (by decide) | exact sm_mod (by decide) (by decide)) (by first | assumption | exact sm_of (by omega) | exact sm_of (by decide) | exact sm_mod (by decide) (by decide)))
local macro_rules | `(tactic| walk_at "rd1") => `(tactic| first
  | refine ⟨_, rfl, ?_⟩
  | refine ⟨_, _, rfl, rfl, ?_⟩
  | (refine' ⟨_, _, _, _, rfl, rfl, ?sq, ?ia, ?k⟩; (case' sq => first | assumption | exact Scr.l (by assumption)); (case' ia => first | rfl | assumption))
  | refine ⟨rfl, ?_⟩
  | (refine ⟨?m, ?_⟩; (case' m => walk_at "mul"))
  | (refine ⟨?m, ?_⟩; (case' m => exact div_ok (by first | assumption | omega) (by assumption)))
  | (refine ⟨?m, ?_⟩; (case' m => show (0 : Int) < _; decide))
  | (refine ⟨?m, ?_⟩; (case' m => exact ⟨by decide, by decide⟩))
  | (refine ⟨?m, ?_⟩; (case' m => exact ⟨by decide, by decide, by decide⟩)))
local macro_rules | `(tactic| walk_at "rd") => `(tactic| repeat walk_at "rd1")

def spGr (K : PySem.W.Frag) : Sp := fun vs H Q _ => ∃ (x y : V) (A B : List St4), vs = [x, y] ∧ Dat K H (lnD A) x ∧ Ln.LineK A ∧ Dat K H (lnD B) y ∧ Ln.LineK B ∧ ∀ v H', Same H H' → Dat K H' (lnD (up A B)) v → Q v H'
def spLe (K : PySem.W.Frag) : Sp := fun vs H Q _ => ∃ (x y : V) (A B : List St4), vs = [x, y] ∧ Dat K H (lnD A) x ∧ Ln.LineK A ∧ Dat K H (lnD B) y ∧ Ln.LineK B ∧ (le A B).length ≤ 1000 ∧ ∀ v H', Same H H' → Dat K H' (lnD (le A B)) v → Q v H'
section
variable {P : Program} {w : World} {K : PySem.W.Frag} {mg : Str → Option Value} {base : Heap}
theorem ok_gr (T : TopDef K mg "greater_line" s_greater_line) (TN : TopTup K mg "NOUGHT" [0, 1]) (D_side_by_side : Def P w K mg base 2 "side_by_side" ["one", "other"] (spSbs K)) (D_greater_stretches : Def P w K mg base 3 "greater_stretches" ["start", "end", "first", "second"] (spGst K))
    (D_joined : Def P w K mg base 1 "joined" ["stretches"] (spJoined K)) : Def P w K mg base 4 "greater_line" ["one", "other"] (spGr K) := by
  refine def_of T sc_greater_line (fun _ _ _ _ _ _ us hl => match us, hl with | [_, _], _ => rfl) (fun vs H Q E h => ?_) (fun f cdv A outer s H vs Q E hr h => ?_)
  · obtain ⟨x, y, A, B, rfl, _⟩ := h
    rfl
  obtain ⟨x, y, A, B, rfl, hx, la, hy, lb, k⟩ := h
  have nd := sc_greater_line.nd
  obtain ⟨aN, M_NOUGHT, qN⟩ := TN.ex
  have slen := Ln.sbs_len A B
  have fa := la.few
  have fb := lb.few
  obtain ⟨okp, _, _⟩ := Ln.sbs_way A B la.way lb.way
  refine ⟨_, (pss_cons (ps_set (i := 2) nd rfl (Or.inl rfl) (pe_lst pa_nil))
    (pss_cons (ps_set (i := 3) nd rfl (Or.inl rfl) (pe_glob (v := V.ref aN) rfl M_NOUGHT rfl))
    (pss_cons (ps_for PassesOwn.never rfl (pi_list (pe_def D_side_by_side (hr.mono (by decide)) rfl (pa_cons (pv 0) (pa_cons (pv 1) pa_nil)))) (pg_tup rfl (pgs_cons (pg_name (i := 4) nd rfl (Or.inl rfl)) (pgs_cons (pg_name (i := 5) nd rfl (Or.inl rfl)) (pgs_cons (pg_name (i := 6) nd rfl (Or.inl rfl)) pgs_nil)))) (pss_cons (ps_expr (pe_bm PySem.F.plainAttrs_list PySem.F.slot_list_extend PySem.F.type_list_extend mt_extend (pv 2) (pa_cons (pe_def D_greater_stretches (hr.mono (by decide)) rfl (pa_cons (pv 3) (pa_cons (pv 4) (pa_cons (pv 5) (pa_cons (pv 6) pa_nil))))) pa_nil)))
    (pss_one (ps_set (i := 3) nd rfl (Or.inl rfl) (pv 4)))))
    (pss_one (ps_ret (pe_def D_joined (hr.mono (by decide)) rfl (pa_cons (pv 2) pa_nil))))))), ?_⟩
  refine ⟨(by show 0 ≤ sizeLine; decide), fun st hst => ?_⟩
  have u0 := same_new hst (.lst [])
  refine ⟨_, rfl, _, rfl, x, y, A, B, rfl, hx.ts u0.ts, la, hy.ts u0.ts, lb, fun l us H1 s1 hl0 hl dus => ?_⟩
  have lu : us.length = (Ln.sbs A B).length := by rw [dus.len, List.length_map]
  have ne : l ≠ st := fun z => by subst z; rw [upd_same] at hl0; cases hl0
  refine ⟨l, rfl, ⟨us, SqL.of hl⟩, ?_⟩
  refine for_list (xs := us) (fun i σ H' => Same H H' ∧ H' l = some (.lst us) ∧ DatAll K H' ((Ln.sbs A B).map pcD) us ∧ ∃ (zs : List V) (G : List St4) (vS : V) (sp sq : Int) (o4 o5 o6 : Option V), σ = [some x, some y, some (.ref st), some vS, o4, o5, o6] ∧ H' st = some (.lst zs) ∧ DatAll K H' (G.map stD) zs ∧ Dat K H' (frD sp sq) vS ∧ 0 ≤ sp ∧ sp ≤ sq ∧ 0 < sq ∧ sq < 2 ^ 46 ∧ G.length ≤ 2 * i ∧ G ++ Ln.gr sp sq ((Ln.sbs A B).drop i) = Ln.gr 0 1 (Ln.sbs A B))
    ⟨u0.trans s1, hl, dus, [], [], .ref aN, 0, 1, _, _, _, rfl, s1 _ _ upd_same, rfl, fr_mk (p := 0) (q := 1) (qN _), by decide, by decide, by decide, by decide, by simp, by simp⟩ (fun i σ H' _ z => SqL.of z.2.1) (fun i v σ H' hv z => ?_) (fun σ H' z => ?_)
  · obtain ⟨sm, hl', dus', zs, G, vS, sp, sq, o4, o5, o6, rfl, hz, dz, dS, p0, pq, q0, qb, lG, eG⟩ := z
    have hi : i < us.length := (List.getElem?_eq_some_iff.mp hv).1
    obtain ⟨c, hc, dc⟩ := pc_at' dus' hv
    obtain ⟨ca, e, f', g, rfl, q1, d1, df, dg⟩ := pc_el dc
    have okc := okp c (List.mem_of_getElem? hc)
    obtain ⟨cp0, cpq, _, cq⟩ := okc.e
    refine ⟨ca, _, rfl, q1, rfl, _, _, rfl, _, _, rfl, _, _, rfl, rfl, ?_⟩
    refine ⟨_, rfl, .inl ⟨rfl, _, SqL.of hz⟩, _, rfl, _, rfl, _, rfl, _, rfl, vS, e, f', g, sp, sq, c, rfl, dS, d1, df, dg, okc, p0, pq, q0, qb, fun l2 us2 H2 s2 hl2 da2 n2 => ?_⟩
    have hz2 := s2 _ _ hz
    have lz : zs.length ≤ 8900 := by rw [ln_len dz]; omega
    refine ⟨st, l2, zs, us2, rfl, rfl, hz2, hl2, Nat.le_of_lt (small9000 (by omega)), ?_⟩
    have t3 : Tst H2 (upd H2 st (.lst (zs ++ us2))) := ts_mut hz2
    have tt := s2.ts.trans t3
    refine ⟨_, rfl, ?_⟩
    refine ⟨same_mut (sm.trans s2) hst _, by rw [upd_ne ne]; exact s2 _ _ hl', dus'.ts tt, zs ++ us2, G ++ Ln.gs sp sq c, e, c.p, c.q, _, _, _, rfl, upd_same, ?_, d1.ts tt, by omega, cpq, by omega, by omega, ?_, ?_⟩
    · rw [List.map_append]
      exact (dz.ts tt).append (da2.ts t3)
    · have := Ln.gs_len sp sq c
      rw [List.length_append]
      omega
    · rw [← eG]
      obtain ⟨w1, w2⟩ := List.getElem?_eq_some_iff.mp hc
      rw [List.drop_eq_getElem_cons w1, w2, List.append_assoc]
      rfl
  · obtain ⟨sm, hl', dus', zs, G, vS, sp, sq, o4, o5, o6, rfl, hz, dz, dS, p0, pq, q0, qb, lG, eG⟩ := z
    rw [lu, List.drop_length] at eG
    have eG' : G = Ln.gr 0 1 (Ln.sbs A B) := by rw [← eG]; exact (List.append_nil G).symm
    refine ⟨_, rfl, .ref st, G, rfl, ⟨st, zs, rfl, SqL.of hz, dz⟩, by omega, fun v H2 s2 dv => ?_⟩
    rw [eG'] at dv
    exact k v H2 (sm.trans s2) dv
theorem ok_le (T : TopDef K mg "lesser_line" s_lesser_line) (D_turned : Def P w K mg base 1 "turned" ["line"] (spTurned K)) (D_greater_line : Def P w K mg base 4 "greater_line" ["one", "other"] (spGr K)) : Def P w K mg base 5 "lesser_line" ["one", "other"] (spLe K) := by
  refine def_of T sc_lesser_line (fun _ _ _ _ _ _ us hl => match us, hl with | [_, _], _ => rfl) (fun vs H Q E h => ?_) (fun f cdv A outer s H vs Q E hr h => ?_)
  · obtain ⟨x, y, A, B, rfl, _⟩ := h
    rfl
  obtain ⟨x, y, A, B, rfl, hx, la, hy, lb, few, k⟩ := h
  have nd := sc_lesser_line.nd
  have lA : Ln.LineK (A.map Ln.tnS) := ⟨Ln.turned_line la.b, by simpa using la.few⟩
  have lB : Ln.LineK (B.map Ln.tnS) := ⟨Ln.turned_line lb.b, by simpa using lb.few⟩
  refine ⟨_, (pss_one (ps_ret (pe_def D_turned (hr.mono (by decide)) rfl (pa_cons (pe_def D_greater_line (hr.mono (by decide)) rfl (pa_cons (pe_def D_turned (hr.mono (by decide)) rfl (pa_cons (pv 0) pa_nil)) (pa_cons (pe_def D_turned (hr.mono (by decide)) rfl (pa_cons (pv 1) pa_nil)) pa_nil))) pa_nil)))), ?_⟩
  refine ⟨_, rfl, x, A, rfl, hx, la.few, fun v1 H1 s1 d1 => ?_⟩
  refine ⟨_, rfl, y, B, rfl, hy.ts s1.ts, lb.few, fun v2 H2 s2 d2 => ?_⟩
  refine ⟨v1, v2, _, _, rfl, d1.ts s2.ts, lA, d2, lB, fun v3 H3 s3 d3 => ?_⟩
  have gl : (up (A.map Ln.tnS) (B.map Ln.tnS)).length ≤ 1000 := by
    unfold le at few
    rw [List.length_map] at few
    exact few
  exact ⟨v3, _, rfl, d3, gl, fun v4 H4 s4 d4 => k v4 H4 (s1.trans (s2.trans (s3.trans s4))) d4⟩
end
end Mine




set_option Elab.async false
set_option linter.all false
set_option maxRecDepth 100000
set_option maxHeartbeats 4000000
namespace Mine
open PySem L2
def spStraight (K : PySem.W.Frag) : Sp := fun vs H Q _ => ∃ m h : Int, vs = [.int m, .int h] ∧ ∀ v H', Same H H' → Dat K H' (lnD [⟨1, 1, m, h⟩]) v → Q v H'
def spCut (K : PySem.W.Frag) : Sp := fun vs H Q _ => ∃ (x : V) (A : List St4), vs = [x] ∧ Dat K H (lnD A) x ∧ Ln.LineK A ∧ Ln.LineK (up A (St1 0)) ∧ (cut A).length ≤ 1000 ∧ ∀ v H', Same H H' → Dat K H' (lnD (cut A)) v → Q v H'
section
variable {P : Program} {w : World} {K : PySem.W.Frag} {mg : Str → Option Value} {base : Heap}
theorem ok_straight (T : TopDef K mg "straight" s_straight) (TW : TopTup K mg "WHOLE" [1, 1]) : Def P w K mg base 1 "straight" ["slope", "height"] (spStraight K) := by
  refine def_of T sc_straight (fun _ _ _ _ _ _ us hl => match us, hl with | [_, _], _ => rfl) (fun vs H Q E h => ?_) (fun f cdv A outer s H vs Q E hr h => ?_)
  · obtain ⟨m, h, rfl, _⟩ := h
    rfl
  obtain ⟨m, h, rfl, k⟩ := h
  have nd := sc_straight.nd
  obtain ⟨aW, M_WHOLE, qW⟩ := TW.ex
  refine ⟨_, (pss_one (ps_ret (pe_tup (pa_cons (pe_tup (pa_cons (pe_glob (v := V.ref aW) rfl M_WHOLE rfl) (pa_cons (pv 0) (pa_cons (pv 1) pa_nil)))) pa_nil)))), ?_⟩
  refine ⟨_, rfl, _, rfl, (by show 3 ≤ sizeLine; decide), fun t ht => ⟨(by show 1 ≤ sizeLine; decide), fun u hu => ?_⟩⟩
  have u1 := same_new ht (.tup [.ref aW, .int m, .int h])
  have u2 := same_new hu (.tup [.ref t])
  refine k _ _ (u1.trans u2) ⟨u, _, rfl, SqT.of upd_same, _, _, rfl, ?_, rfl⟩
  exact st_mk (s := ⟨1, 1, m, h⟩) (SqT.of (u2 _ _ upd_same)) (fr_mk (p := 1) (q := 1) (qW _))
theorem ok_cut (T : TopDef K mg "cut_off" s_cut_off) (D_straight : Def P w K mg base 1 "straight" ["slope", "height"] (spStraight K)) (D_greater_line : Def P w K mg base 4 "greater_line" ["one", "other"] (spGr K)) (D_lesser_line : Def P w K mg base 5 "lesser_line" ["one", "other"] (spLe K)) : Def P w K mg base 6 "cut_off" ["line"] (spCut K) := by
  refine def_of T sc_cut_off (fun _ _ _ _ _ _ us hl => match us, hl with | [_], _ => rfl) (fun vs H Q E h => ?_) (fun f cdv A outer s H vs Q E hr h => ?_)
  · obtain ⟨x, A, rfl, _⟩ := h
    rfl
  obtain ⟨x, A, rfl, hx, la, lu, few, k⟩ := h
  have nd := sc_cut_off.nd
  have l0 : Ln.LineK (St1 0) := ⟨s0_line (by decide), by decide⟩
  have l1 : Ln.LineK (St1 1) := ⟨s1_line (by decide), by decide⟩
  refine ⟨_, (pss_one (ps_ret (pe_def D_lesser_line (hr.mono (by decide)) rfl (pa_cons (pe_def D_greater_line (hr.mono (by decide)) rfl (pa_cons (pv 0) (pa_cons (pe_def D_straight (hr.mono (by decide)) rfl (pa_cons pe_int (pa_cons pe_int pa_nil))) pa_nil))) (pa_cons (pe_def D_straight (hr.mono (by decide)) rfl (pa_cons pe_int (pa_cons pe_int pa_nil))) pa_nil))))), ?_⟩
  refine ⟨_, rfl, 0, 0, rfl, fun v1 H1 s1 d1 => ?_⟩
  refine ⟨x, v1, A, St1 0, rfl, hx.ts s1.ts, la, d1, l0, fun v2 H2 s2 d2 => ?_⟩
  refine ⟨0, 1, rfl, fun v3 H3 s3 d3 => ?_⟩
  exact ⟨v2, v3, up A (St1 0), St1 1, rfl, d2.ts s3.ts, lu, d3, l1, few, fun v4 H4 s4 d4 => k v4 H4 (s1.trans (s2.trans (s3.trans s4))) d4⟩
end
end Mine




set_option Elab.async false
set_option linter.all false
set_option maxRecDepth 100000
set_option maxHeartbeats 4000000
namespace Mine
open PySem L2
abbrev GrV (H : Hp) (v : V) (g : Gr) : Prop := RwV H v g.rw
theorem GrV.tup {H : Hp} {v : V} {g : Gr} (h : GrV H v g) : ∃ a, v = .ref a ∧ H a = some (.tup (.str g.word :: g.nums.map fun i : Nat => .int (i : Int))) := by
  obtain ⟨a, rfl, e⟩ := h
  unfold Gr.rw at e
  rw [rowK_kV] at e
  exact ⟨a, rfl, e⟩
theorem at0 {x : V} {us : List V} : atI (x :: us) 0 = some x := atI_nat (j := 0) rfl
theorem iteYv {a b : V} {A B : Prop} (h : a = b) (k : A) : if decide (a = b) = true then A else B := by rw [decide_eq_true h, if_pos rfl]; exact k
theorem iteNv {a b : V} {A B : Prop} (h : a ≠ b) (k : B) : if decide (a = b) = true then A else B := by rw [decide_eq_false h, if_neg Bool.false_ne_true]; exact k
def leafL : Gr → List St4
  | .ne => St1 0 | .al => St1 1 | _ => lineP
/-- a row's line by those of the rows ahead -/
def RowL (Ls : List (List St4)) (F : List St4) : Gr → Prop
  | .no i => ∃ A, Ls[i]? = some A ∧ A.length ≤ 1000 ∧ F = lineNo A
  | .fold u i j => ∃ A B, Ls[i]? = some A ∧ Ls[j]? = some B ∧ FoldOk u A B ∧ F = lineF u A B
  | g => F = leafL g
def spLeafLine (K : PySem.W.Frag) : Sp := fun vs H Q _ => ∃ g : Gr, vs = [.str g.word] ∧ g.nums = [] ∧ ∀ v H', Same H H' → Dat K H' (lnD (leafL g)) v → Q v H'
def spFoldLine (K : PySem.W.Frag) : Sp := fun vs H Q _ => ∃ (u : W5) (x y : V) (A B : List St4), vs = [.str u.str, x, y] ∧ Dat K H (lnD A) x ∧ Dat K H (lnD B) y ∧ FoldOk u A B ∧ ∀ v H', Same H H' → Dat K H' (lnD (lineF u A B)) v → Q v H'
def spRowLine (K : PySem.W.Frag) : Sp := fun vs H Q _ => ∃ (x : V) (l : Addr) (g : Gr) (us : List V) (Ls : List (List St4)) (F : List St4), vs = [x, .ref l] ∧ GrV H x g ∧ H l = some (.lst us) ∧ DatAll K H (Ls.map lnD) us ∧ RowL Ls F g ∧ ∀ v H', Same H H' → Dat K H' (lnD F) v → Q v H'
def spLastLine (K : PySem.W.Frag) : Sp := fun vs H Q _ => ∃ (l : Addr) (us : List V) (gs : List Gr) (ts : List Tr) (t : Tr), vs = [.ref l] ∧ H l = some (.lst us) ∧ All2 (GrV H) us gs ∧ Tab gs (ts ++ [t]) ∧ (∀ x ∈ ts ++ [t], x.steep ≤ 25) ∧ gs.length ≤ 1000 ∧ ∀ v H', Same H H' → Dat K H' (lnD (lineT t)) v → Q v H'
/-- the row of a tree by the lines of the trees ahead -/
theorem row_tree {ts : List Tr} {g : Gr} {t : Tr} (h : GrT ts g t) (st : t.steep ≤ 25) {k : Nat} (ok : GrOk k g) : RowL ((ts.take k).map lineT) (lineT t) g := by
  have at_ : ∀ {i : Nat} {x : Tr}, i < k → ts[i]? = some x → ((ts.take k).map lineT)[i]? = some (lineT x) := fun {i x} hi hx => by
    rw [List.getElem?_map, List.getElem?_take_of_lt hi, hx]
    rfl
  cases g with
  | no i =>
    cases t <;> first | exact h.elim | skip
    rename_i t
    have st' : t.steep ≤ 25 := st
    exact ⟨lineT t, at_ (ok i (by simp [Gr.nums])) h, (no_facts (lineT_ok t st') st').1, rfl⟩
  | fold u i j =>
    cases t <;> first | exact h.elim | skip
    rename_i v a b
    obtain ⟨rfl, h1, h2⟩ := h
    have st' : u.steep a.steep b.steep ≤ 25 := st
    have s := steep_sub u a.steep b.steep
    exact ⟨lineT a, lineT b, at_ (ok i (by simp [Gr.nums])) h1, at_ (ok j (by simp [Gr.nums])) h2, (fold_facts u (lineT_ok a (by omega)) (lineT_ok b (by omega)) st').1, rfl⟩
  | ne => cases t <;> first | exact h.elim | rfl
  | al => cases t <;> first | exact h.elim | rfl
  | p => cases t <;> first | exact h.elim | rfl
  | q => cases t <;> first | exact h.elim | rfl
section
variable {P : Program} {w : World} {K : PySem.W.Frag} {mg : Str → Option Value} {base : Heap} {c : CCs}
theorem ok_leafLine (T : TopDef K mg "leaf_line" s_leaf_line) (D_straight : Def P w K mg base 1 "straight" ["slope", "height"] (spStraight K)) : Def P w K mg base 2 "leaf_line" ["word"] (spLeafLine K) := by
  refine def_of T sc_leaf_line (fun _ _ _ _ _ _ us hl => match us, hl with | [_], _ => rfl) (fun vs H Q E h => ?_) (fun f cdv A outer s H vs Q E hr h => ?_)
  · obtain ⟨g, rfl, _⟩ := h
    rfl
  obtain ⟨g, rfl, hg, q⟩ := h
  have nd := sc_leaf_line.nd
  refine ⟨_, (pss_cons (ps_if (pt_cmpR op_eq (pv 0) pe_str (nomark _)) (pss_one (ps_ret (pe_def D_straight (hr.mono (by omega)) rfl (pa_cons pe_int (pa_cons pe_int pa_nil))))) pss_nil)
    (pss_cons (ps_if (pt_cmpR op_eq (pv 0) pe_str (nomark _)) (pss_one (ps_ret (pe_def D_straight (hr.mono (by omega)) rfl (pa_cons pe_int (pa_cons pe_int pa_nil))))) pss_nil)
    (pss_one (ps_ret (pe_def D_straight (hr.mono (by omega)) rfl (pa_cons pe_int (pa_cons pe_int pa_nil))))))), ?_⟩
  cases g with
  | no i => cases hg
  | fold u i j => cases hg
  | ne => exact ⟨_, rfl, rfl, _, rfl, ite_yes rfl ⟨0, 0, rfl, q⟩⟩
  | al => exact ⟨_, rfl, rfl, _, rfl, ite_no (by decide +kernel) ⟨_, rfl, rfl, _, rfl, ite_yes rfl ⟨0, 1, rfl, q⟩⟩⟩
  | p => exact ⟨_, rfl, rfl, _, rfl, ite_no (by decide +kernel) ⟨_, rfl, rfl, _, rfl, ite_no (by decide +kernel) ⟨1, 0, rfl, q⟩⟩⟩
  | q => exact ⟨_, rfl, rfl, _, rfl, ite_no (by decide +kernel) ⟨_, rfl, rfl, _, rfl, ite_no (by decide +kernel) ⟨1, 0, rfl, q⟩⟩⟩
theorem ok_foldLine (T : TopDef K mg "fold_line" s_fold_line) (D_added : Def P w K mg base 3 "added" ["one", "other"] (spAdded K)) (D_turned : Def P w K mg base 1 "turned" ["line"] (spTurned K)) (D_raised : Def P w K mg base 1 "raised" ["line", "by"] (spRaised K)) (D_greater_line : Def P w K mg base 4 "greater_line" ["one", "other"] (spGr K)) (D_lesser_line : Def P w K mg base 5 "lesser_line" ["one", "other"] (spLe K)) (D_cut_off : Def P w K mg base 6 "cut_off" ["line"] (spCut K)) : Def P w K mg base 7 "fold_line" ["word", "one", "other"] (spFoldLine K) := by
  refine def_of T sc_fold_line (fun _ _ _ _ _ _ us hl => match us, hl with | [_, _, _], _ => rfl) (fun vs H Q E h => ?_) (fun f cdv A outer s H vs Q E hr h => ?_)
  · obtain ⟨u, x, y, A, B, rfl, _⟩ := h
    rfl
  obtain ⟨u, x, y, A, B, rfl, dx, dy, ok, q⟩ := h
  have nd := sc_fold_line.nd
  refine ⟨_, (pss_cons (ps_if (pt_cmpR op_eq (pv 0) pe_str (nomark _)) (pss_one (ps_ret (pe_def D_cut_off (hr.mono (by omega)) rfl (pa_cons (pe_def D_added (hr.mono (by omega)) rfl (pa_cons (pv 1) (pa_cons (pv 2) pa_nil))) pa_nil)))) pss_nil)
    (pss_cons (ps_if (pt_cmpR op_eq (pv 0) pe_str (nomark _)) (pss_one (ps_ret (pe_def D_cut_off (hr.mono (by omega)) rfl (pa_cons (pe_def D_raised (hr.mono (by omega)) rfl (pa_cons (pe_def D_added (hr.mono (by omega)) rfl (pa_cons (pv 1) (pa_cons (pv 2) pa_nil))) (pa_cons (pe_un un_neg pe_int) pa_nil))) pa_nil)))) pss_nil)
    (pss_cons (ps_if (pt_cmpR op_eq (pv 0) pe_str (nomark _)) (pss_one (ps_ret (pe_def D_greater_line (hr.mono (by omega)) rfl (pa_cons (pv 1) (pa_cons (pv 2) pa_nil))))) pss_nil)
    (pss_cons (ps_if (pt_cmpR op_eq (pv 0) pe_str (nomark _)) (pss_one (ps_ret (pe_def D_lesser_line (hr.mono (by omega)) rfl (pa_cons (pv 1) (pa_cons (pv 2) pa_nil))))) pss_nil)
    (pss_one (ps_ret (pe_def D_cut_off (hr.mono (by omega)) rfl (pa_cons (pe_def D_raised (hr.mono (by omega)) rfl (pa_cons (pe_def D_added (hr.mono (by omega)) rfl (pa_cons (pe_def D_turned (hr.mono (by omega)) rfl (pa_cons (pv 1) pa_nil)) (pa_cons (pv 2) pa_nil))) (pa_cons pe_int pa_nil))) pa_nil)))))))), ?_⟩
  cases u with
  | more =>
    obtain ⟨ka, kb, co⟩ := ok
    refine ⟨_, rfl, rfl, _, rfl, ite_yes rfl ?_⟩
    refine ⟨_, rfl, _, rfl, x, y, A, B, rfl, dx, ka, dy, kb, fun v1 H1 s1 d1 => ?_⟩
    exact ⟨v1, addL A B, rfl, d1, co.k, co.u, co.c, fun v2 H2 s2 d2 => q v2 H2 (s1.trans s2) d2⟩
  | less =>
    obtain ⟨ka, kb, few, co⟩ := ok
    refine ⟨_, rfl, rfl, _, rfl, ite_no (by decide +kernel) ⟨_, rfl, rfl, _, rfl, ite_yes rfl ?_⟩⟩
    refine ⟨_, rfl, _, rfl, x, y, A, B, rfl, dx, ka, dy, kb, fun v1 H1 s1 d1 => ?_⟩
    refine ⟨_, rfl, v1, addL A B, -1, rfl, d1, few, fun v2 H2 s2 d2 => ?_⟩
    exact ⟨v2, _, rfl, d2, co.k, co.u, co.c, fun v3 H3 s3 d3 => q v3 H3 ((s1.trans s2).trans s3) d3⟩
  | greater =>
    obtain ⟨ka, kb⟩ := ok
    refine ⟨_, rfl, rfl, _, rfl, ite_no (by decide +kernel) ⟨_, rfl, rfl, _, rfl, ite_no (by decide +kernel) ⟨_, rfl, rfl, _, rfl, ite_yes rfl ?_⟩⟩⟩
    exact ⟨_, rfl, _, rfl, x, y, A, B, rfl, dx, ka, dy, kb, q⟩
  | lesser =>
    obtain ⟨ka, kb, few⟩ := ok
    refine ⟨_, rfl, rfl, _, rfl, ite_no (by decide +kernel) ⟨_, rfl, rfl, _, rfl, ite_no (by decide +kernel) ⟨_, rfl, rfl, _, rfl, ite_no (by decide +kernel) ⟨_, rfl, rfl, _, rfl, ite_yes rfl ?_⟩⟩⟩⟩
    exact ⟨_, rfl, _, rfl, x, y, A, B, rfl, dx, ka, dy, kb, few, q⟩
  | leads =>
    obtain ⟨fa, kt, kb, few, co⟩ := ok
    refine ⟨_, rfl, rfl, _, rfl, ite_no (by decide +kernel) ⟨_, rfl, rfl, _, rfl, ite_no (by decide +kernel) ⟨_, rfl, rfl, _, rfl, ite_no (by decide +kernel) ⟨_, rfl, rfl, _, rfl, ite_no (by decide +kernel) ?_⟩⟩⟩⟩
    refine ⟨_, rfl, x, A, rfl, dx, fa, fun v0 H0 s0 d0 => ?_⟩
    refine ⟨_, rfl, v0, y, A.map Ln.tnS, B, rfl, d0, kt, dy.ts s0.ts, kb, fun v1 H1 s1 d1 => ?_⟩
    refine ⟨v1, addL (A.map Ln.tnS) B, 1, rfl, d1, few, fun v2 H2 s2 d2 => ?_⟩
    exact ⟨v2, _, rfl, d2, co.k, co.u, co.c, fun v3 H3 s3 d3 => q v3 H3 (((s0.trans s1).trans s2).trans s3) d3⟩
theorem ok_rowLine (T : TopDef K mg "row_line" s_row_line) (Z_len : mg "len" = none) (D_leaf_line : Def P w K mg base 2 "leaf_line" ["word"] (spLeafLine K)) (D_turned : Def P w K mg base 1 "turned" ["line"] (spTurned K)) (D_raised : Def P w K mg base 1 "raised" ["line", "by"] (spRaised K)) (D_fold_line : Def P w K mg base 7 "fold_line" ["word", "one", "other"] (spFoldLine K)) : Def P w K mg base 8 "row_line" ["row", "lines"] (spRowLine K) := by
  refine def_of T sc_row_line (fun _ _ _ _ _ _ us hl => match us, hl with | [_, _], _ => rfl) (fun vs H Q E h => ?_) (fun f cdv A outer s H vs Q E hr h => ?_)
  · obtain ⟨x, l, g, us, Ls, F, rfl, _⟩ := h
    rfl
  obtain ⟨x, l, g, us, Ls, F, rfl, gv, el, da, rl, q⟩ := h
  have nd := sc_row_line.nd
  obtain ⟨a, rfl, e⟩ := gv.tup
  have at_ : ∀ {i : Nat} {A : List St4}, Ls[i]? = some A → ∃ y, atI us (i : Int) = some y ∧ Dat K H (lnD A) y := fun {i A} h => by
    obtain ⟨y, hy, dy⟩ := da.get (i := i) (d := lnD A) (by rw [List.getElem?_map, h]; rfl)
    exact ⟨y, atI_nat hy, dy⟩
  refine ⟨_, (pss_cons (ps_if (pt_cmpR op_eq (pe_callB call_len rfl Z_len (by decide +kernel) (pa_cons (pv 0) pa_nil)) pe_int (nomark _)) (pss_one (ps_ret (pe_def D_leaf_line (hr.mono (by omega)) rfl (pa_cons (pe_ix ix_tup (pv 0) pe_int (fun _ _ => rfl)) pa_nil)))) pss_nil)
    (pss_cons (ps_if (pt_cmpR op_eq (pe_callB call_len rfl Z_len (by decide +kernel) (pa_cons (pv 0) pa_nil)) pe_int (nomark _)) (pss_one (ps_ret (pe_def D_raised (hr.mono (by omega)) rfl (pa_cons (pe_def D_turned (hr.mono (by omega)) rfl (pa_cons (pe_ix ix_list (pv 1) (pe_ix ix_tup (pv 0) pe_int (fun _ _ => rfl)) (fun _ _ => rfl)) pa_nil)) (pa_cons pe_int pa_nil))))) pss_nil)
    (pss_one (ps_ret (pe_def D_fold_line (hr.mono (by omega)) rfl (pa_cons (pe_ix ix_tup (pv 0) pe_int (fun _ _ => rfl)) (pa_cons (pe_ix ix_list (pv 1) (pe_ix ix_tup (pv 0) pe_int (fun _ _ => rfl)) (fun _ _ => rfl)) (pa_cons (pe_ix ix_list (pv 1) (pe_ix ix_tup (pv 0) pe_int (fun _ _ => rfl)) (fun _ _ => rfl)) pa_nil)))))))), ?_⟩
  cases g with
  | no i =>
    obtain ⟨A, hA, few, rfl⟩ := rl
    obtain ⟨y, ay, dy⟩ := at_ hA
    refine ⟨_, rfl, _, _, rfl, .inr ⟨_, SqT.of e, rfl⟩, rfl, _, rfl, iteNv (fun z => absurd (V.int.inj z) (show ¬ (((2 : Nat) : Int) = 1) by decide)) ?_⟩
    refine ⟨_, rfl, _, _, rfl, .inr ⟨_, SqT.of e, rfl⟩, rfl, _, rfl, iteYv rfl ?_⟩
    refine ⟨_, rfl, _, rfl, _, _, _, _, rfl, rfl, SqT.of e, atI_nat (j := 1) rfl, _, _, _, _, rfl, rfl, SqL.of el, ay, y, A, rfl, dy, few, fun v1 H1 s1 d1 => ?_⟩
    exact ⟨v1, A.map Ln.tnS, 1, rfl, d1, by rw [List.length_map]; exact few, fun v2 H2 s2 d2 => q v2 H2 (s1.trans s2) d2⟩
  | fold u i j =>
    obtain ⟨A, B, hA, hB, ok, rfl⟩ := rl
    obtain ⟨y, ay, dy⟩ := at_ hA
    obtain ⟨z, az, dz⟩ := at_ hB
    refine ⟨_, rfl, _, _, rfl, .inr ⟨_, SqT.of e, rfl⟩, rfl, _, rfl, iteNv (fun z => absurd (V.int.inj z) (show ¬ (((3 : Nat) : Int) = 1) by decide)) ?_⟩
    refine ⟨_, rfl, _, _, rfl, .inr ⟨_, SqT.of e, rfl⟩, rfl, _, rfl, iteNv (fun z => absurd (V.int.inj z) (show ¬ (((3 : Nat) : Int) = 2) by decide)) ?_⟩
    exact ⟨_, rfl, _, _, _, _, rfl, rfl, SqT.of e, at0, _, rfl, _, rfl, _, _, _, _, rfl, rfl, SqT.of e, atI_nat (j := 1) rfl, _, _, _, _, rfl, rfl, SqL.of el, ay, _, rfl, _, rfl, _, _, _, _, rfl, rfl, SqT.of e, atI_nat (j := 2) rfl, _, _, _, _, rfl, rfl, SqL.of el, az, u, y, z, A, B, rfl, dy, dz, ok, q⟩
  | ne =>
    have hF : F = leafL .ne := rl
    subst hF
    refine ⟨_, rfl, _, _, rfl, .inr ⟨_, SqT.of e, rfl⟩, rfl, _, rfl, iteYv rfl ?_⟩
    exact ⟨_, rfl, _, _, _, _, rfl, rfl, SqT.of e, at0, .ne, rfl, rfl, q⟩
  | al =>
    have hF : F = leafL .al := rl
    subst hF
    refine ⟨_, rfl, _, _, rfl, .inr ⟨_, SqT.of e, rfl⟩, rfl, _, rfl, iteYv rfl ?_⟩
    exact ⟨_, rfl, _, _, _, _, rfl, rfl, SqT.of e, at0, .al, rfl, rfl, q⟩
  | p =>
    have hF : F = leafL .p := rl
    subst hF
    refine ⟨_, rfl, _, _, rfl, .inr ⟨_, SqT.of e, rfl⟩, rfl, _, rfl, iteYv rfl ?_⟩
    exact ⟨_, rfl, _, _, _, _, rfl, rfl, SqT.of e, at0, .p, rfl, rfl, q⟩
  | q =>
    have hF : F = leafL .q := rl
    subst hF
    refine ⟨_, rfl, _, _, rfl, .inr ⟨_, SqT.of e, rfl⟩, rfl, _, rfl, iteYv rfl ?_⟩
    exact ⟨_, rfl, _, _, _, _, rfl, rfl, SqT.of e, at0, .q, rfl, rfl, q⟩
theorem ok_lastLine (T : TopDef K mg "last_line" s_last_line) (D_row_line : Def P w K mg base 8 "row_line" ["row", "lines"] (spRowLine K)) : Def P w K mg base 9 "last_line" ["rows"] (spLastLine K) := by
  refine def_of T sc_last_line (fun _ _ _ _ _ _ us hl => match us, hl with | [_], _ => rfl) (fun vs H Q E h => ?_) (fun f cdv A outer s H vs Q E hr h => ?_)
  · obtain ⟨l, us, gs, ts, t, rfl, _⟩ := h
    rfl
  obtain ⟨l, us, gs, ts, t, rfl, el, al, tb, st, hz, q⟩ := h
  have nd := sc_last_line.nd
  refine ⟨_, (pss_cons (ps_set (i := 1) nd rfl (Or.inl rfl) (pe_lst pa_nil))
    (pss_cons (ps_for PassesOwn.never rfl (pi_list (pv 0)) (pg_name (i := 2) nd rfl (Or.inl rfl)) (pss_one (ps_expr (pe_bm PySem.F.plainAttrs_list PySem.F.slot_list_append PySem.F.type_list_append mt_append (pv 1) (pa_cons (pe_def D_row_line (hr.mono (by omega)) rfl (pa_cons (pv 2) (pa_cons (pv 1) pa_nil))) pa_nil)))))
    (pss_one (ps_ret (pe_ix ix_list (pv 1) (pe_un un_neg pe_int) (fun _ _ => rfl)))))), ?_⟩
  refine ⟨(by show 0 ≤ sizeLine; decide), fun D hD => ?_⟩
  have s1 := same_new hD (.lst [])
  have hl1 := al.len
  have hl2 := tb.len
  refine ⟨_, rfl, l, rfl, ⟨_, SqL.of (s1 _ _ el)⟩, ?_⟩
  refine for_list (xs := us) (fun i σ H' => Same H H' ∧ ∃ (ms : List V) (o : Option V), σ = [some (.ref l), some (.ref D), o] ∧ H' D = some (.lst ms) ∧ DatAll K H' ((((ts ++ [t]).take i).map lineT).map lnD) ms)
    ⟨s1, [], _, rfl, upd_same, rfl⟩ (fun i σ H' _ z => SqL.of (z.1 _ _ el)) (fun i v σ H' hv z => ?_) (fun σ H' z => ?_)
  · obtain ⟨sm, ms, o, rfl, eD, dm⟩ := z
    obtain ⟨g, hg, gv⟩ := al.get i v hv
    obtain ⟨x, hx, gt⟩ := tb.at hg
    have rl := row_tree gt (st x (List.mem_of_getElem? hx)) (tb.ok i g hg)
    have hi : i < us.length := (List.getElem?_eq_some_iff.mp hv).1
    refine ⟨_, rfl, .inl ⟨rfl, _, SqL.of eD⟩, _, rfl, _, rfl, v, D, g, ms, _, _, rfl, RwV.to (Kp.of sm) _ _ gv, eD, dm, rl, fun y H2 s2 dy => ?_⟩
    have eD2 := s2 _ _ eD
    have lm : ms.length ≤ 1000 := by
      rw [dm.len, List.length_map, List.length_map, List.length_take]
      omega
    refine ⟨D, _, _, rfl, rfl, eD2, Nat.lt_of_le_of_lt lm (by decide), ?_⟩
    have t2 : Tst H2 (upd H2 D (.lst (ms ++ [y]))) := ts_mut eD2
    refine ⟨fun b o hb => by rw [upd_ne (ne_of_none hb hD)]; exact s2 _ _ (sm _ _ hb), ms ++ [y], _, rfl, upd_same, ?_⟩
    rw [List.take_add_one, hx, List.map_append, List.map_append]
    exact ((dm.ts s2.ts).ts t2).snoc (dy.ts t2)
  · obtain ⟨sm, ms, o, rfl, eD, dm⟩ := z
    rw [show us.length = (ts ++ [t]).length by rw [hl1, hl2], List.take_length, List.map_append, List.map_append] at dm
    have hlm := dm.len
    obtain ⟨y, hy, dy⟩ := dm.get (i := ts.length) (d := lnD (lineT t)) (by
      rw [List.getElem?_append_right (by simp)]
      simp)
    have hm : ms.length = ts.length + 1 := by rw [hlm]; simp
    refine ⟨_, rfl, _, rfl, _, _, _, y, rfl, rfl, SqL.of eD, ?_, q y H' sm dy⟩
    unfold atI ixN
    rw [if_neg (by decide), if_pos (by omega)]
    show ms[((-1 : Int) + (ms.length : Nat)).toNat]? = some y
    rw [show ((-1 : Int) + (ms.length : Nat)).toNat = ts.length by omega]
    exact hy
end
end Mine




set_option Elab.async false
set_option linter.all false
set_option maxRecDepth 100000
set_option maxHeartbeats 4000000
namespace Mine
open PySem L2
def spNoQ : Sp := fun vs H Q _ => ∃ (l : Addr) (us : List V) (rs : List Rw), vs = [.ref l] ∧ H l = some (.lst us) ∧ All2 (RwV H) us rs ∧ (∀ x ∈ rs, RwOk x) ∧ idx rs (rowK "q" []) = none ∧ ∀ H', Same H H' → Q .non H'
def spLineOf (c : CCs) (K : PySem.W.Frag) : Sp := fun vs H Q _ => ∃ (a : Addr) (t : Tr), vs = [.ref a] ∧ Ob c H a t ∧ t.size ≤ 1000 ∧ t.steep ≤ 25 ∧ t.noq = true ∧ ∀ v H', Same H H' → Dat K H' (lnD (lineT t)) v → Q v H'
theorem q_ok : RwOk (rowK "q" []) := rowK_ok (by decide +kernel)
theorem noq_sub : ∀ (t x : Tr), t.noq = true → x ∈ t.post → x.noq = true
  | .no t, x, h, m => by
    rcases List.mem_append.mp (show x ∈ t.post ++ [.no t] from m) with m | m
    · exact noq_sub t x h m
    · rw [List.mem_singleton.mp m]; exact h
  | .fold u a b, x, h, m => by
    have h' : (a.noq && b.noq) = true := h
    rw [Bool.and_eq_true] at h'
    rcases List.mem_append.mp (show x ∈ a.post ++ b.post ++ [.fold u a b] from m) with m | m
    · rcases List.mem_append.mp m with m | m
      · exact noq_sub a x h'.1 m
      · exact noq_sub b x h'.2 m
    · rw [List.mem_singleton.mp m]; exact h
  | .never, x, h, m => by rw [List.mem_singleton.mp m]; exact h
  | .always, x, h, m => by rw [List.mem_singleton.mp m]; exact h
  | .lp, x, h, m => by rw [List.mem_singleton.mp m]; exact h
  | .lq, x, h, m => by rw [List.mem_singleton.mp m]; exact h
theorem steep_sub' : ∀ (t x : Tr), x ∈ t.post → x.steep ≤ t.steep
  | .no t, x, m => by
    rcases List.mem_append.mp (show x ∈ t.post ++ [.no t] from m) with m | m
    · exact steep_sub' t x m
    · rw [List.mem_singleton.mp m]; exact Nat.le_refl _
  | .fold u a b, x, m => by
    have s := steep_sub u a.steep b.steep
    rcases List.mem_append.mp (show x ∈ a.post ++ b.post ++ [.fold u a b] from m) with m | m
    · rcases List.mem_append.mp m with m | m
      · exact Nat.le_trans (steep_sub' a x m) s.1
      · exact Nat.le_trans (steep_sub' b x m) s.2
    · rw [List.mem_singleton.mp m]; exact Nat.le_refl _
  | .never, x, m => by rw [List.mem_singleton.mp m]; exact Nat.le_refl _
  | .always, x, m => by rw [List.mem_singleton.mp m]; exact Nat.le_refl _
  | .lp, x, m => by rw [List.mem_singleton.mp m]; exact Nat.le_refl _
  | .lq, x, m => by rw [List.mem_singleton.mp m]; exact Nat.le_refl _
/-- no row of q where no part is q -/
theorem noq_rows {gs : List Gr} {ts : List Tr} (h : Tab gs ts) (hq : ∀ x ∈ ts, x.noq = true) : idx (gs.map Gr.rw) (rowK "q" []) = none := by
  cases e : idx (gs.map Gr.rw) (rowK "q" []) with
  | none => rfl
  | some i =>
    exfalso
    have z := idx_at e
    rw [List.getElem?_map] at z
    cases y : gs[i]? with
    | none => rw [y] at z; cases z
    | some g =>
      rw [y] at z
      have eg : g = .q := rw_inj (k := .q) (Option.some.inj z)
      subst eg
      obtain ⟨t, ht, gt⟩ := h.at y
      have := hq t (List.mem_of_getElem? ht)
      cases t <;> first | exact gt.elim | cases this
theorem All2.of_map {α β γ : Type} {R : α → β → Prop} {f : γ → β} : ∀ {as : List α} {cs : List γ}, All2 R as (cs.map f) → All2 (fun a c => R a (f c)) as cs
  | [], [], _ => .nil
  | _ :: _, [], h => nomatch h
  | [], _ :: _, h => nomatch h
  | _ :: _, _ :: _, .cons r t => .cons r (All2.of_map t)
section
variable {P : Program} {w : World} {K : PySem.W.Frag} {mg : Str → Option Value} {base : Heap} {c : CCs}
theorem ok_noQ (T : TopDef K mg "must_be_without_q" s_must_be_without_q) : Def P w K mg base 1 "must_be_without_q" ["rows"] spNoQ := by
  refine def_of T sc_must_be_without_q (fun _ _ _ _ _ _ us hl => match us, hl with | [_], _ => rfl) (fun vs H Q E h => ?_) (fun f cdv A outer s H vs Q E hr h => ?_)
  · obtain ⟨l, us, rs, rfl, _⟩ := h
    rfl
  obtain ⟨l, us, rs, rfl, el, al, ok, nq, q⟩ := h
  have nd := sc_must_be_without_q.nd
  have hu := hr.units
  refine ⟨_, (pss_one (ps_if (pt_cmpR (op_inD hu) (pe_tup (pa_cons pe_str pa_nil)) (pv 0) rfl) (pss_one ps_dead) pss_nil)), ?_⟩
  refine ⟨(by show 1 ≤ sizeLine; decide), fun t ht => ?_⟩
  have s1 := same_new ht (.tup [V.str "q"])
  have dq : Dat K (upd H t (.tup [V.str "q"])) (rwD (rowK "q" [])) (.ref t) := RwV.dat ⟨t, rfl, upd_same⟩
  refine ⟨_, rfl, rwD (rowK "q" []), rs.map rwD, l, us, .inl dq, rfl, SqL.of (s1 _ _ el), (RwV.all al).ts s1.ts, rws_lay ok, rw_lay q_ok, Nat.le_trans (rws_depth rs) (by decide), _, rfl, ?_⟩
  rw [rws_any, nq]
  exact iteF (q _ s1)
theorem ok_lineOf (T : TopDef K mg "line_of" s_line_of) (D_rows_of : Def P w K mg base 3 "rows_of" ["saying"] (spRowsOf c)) (D_must_be_without_q : Def P w K mg base 1 "must_be_without_q" ["rows"] spNoQ) (D_last_line : Def P w K mg base 9 "last_line" ["rows"] (spLastLine K)) : Def P w K mg base 10 "line_of" ["saying"] (spLineOf c K) := by
  refine def_of T sc_line_of (fun _ _ _ _ _ _ us hl => match us, hl with | [_], _ => rfl) (fun vs H Q E h => ?_) (fun f cdv A outer s H vs Q E hr h => ?_)
  · obtain ⟨a, t, rfl, _⟩ := h
    rfl
  obtain ⟨a, t, rfl, oa, hz, st, nq, q⟩ := h
  have nd := sc_line_of.nd
  refine ⟨_, (pss_cons (ps_set (i := 1) nd rfl (Or.inl rfl) (pe_def D_rows_of (hr.mono (by omega)) rfl (pa_cons (pv 0) pa_nil)))
    (pss_cons (ps_expr (pe_def D_must_be_without_q (hr.mono (by omega)) rfl (pa_cons (pv 1) pa_nil)))
    (pss_one (ps_ret (pe_def D_last_line (hr.mono (by omega)) rfl (pa_cons (pv 1) pa_nil)))))), ?_⟩
  refine ⟨_, rfl, a, t, rfl, oa, hz, fun l us H1 s1 hl el al => ?_⟩
  obtain ⟨gs, ts, er, tb, sub, len⟩ := rows_tab t
  have hok : ∀ x ∈ t.rows, RwOk x := putR_ok t [] fun _ z => nomatch z
  have hnq : idx t.rows (rowK "q" []) = none := by rw [er]; exact noq_rows tb fun x hx => noq_sub t x nq (sub x hx)
  refine ⟨_, rfl, l, us, t.rows, rfl, el, al, hok, hnq, fun H2 s2 => ?_⟩
  have al2 : All2 (RwV H2) us (gs.map Gr.rw) := by rw [← er]; exact al.imp (RwV.to (Kp.of s2))
  exact ⟨_, rfl, l, us, gs, ts, t, rfl, s2 _ _ el, All2.of_map (R := RwV H2) (f := Gr.rw) al2, tb, fun x hx => Nat.le_trans (steep_sub' t x (sub x hx)) st, Nat.le_trans len hz, fun v H3 s3 d3 => q v H3 ((s1.trans s2).trans s3) d3⟩
end
end Mine




set_option Elab.async false
set_option linter.all false
set_option maxRecDepth 100000
set_option maxHeartbeats 4000000
namespace Mine
open PySem L2
section
variable {P : Program} {w : World} {K : PySem.W.Frag} {mg : Str → Option Value} {base : Heap} {c : CCs}
theorem ok_tree (T : TopDef K mg "_law_tree" s_l_tree) (Z_len : mg "len" = none) (Z_min : mg "min" = none) (Z_range : mg "range" = none) (D_law_cell_at : Def P w K mg base 1 "_law_cell_at" ["_law_script", "_law_k"] (spCell K)) : Def P w K mg base 2 "_law_tree" ["_law_script", "_law_first", "_law_last", "_law_most"] (spTree K) := by
  refine def_of T sc_l_tree (fun _ _ _ _ _ _ us hl => match us, hl with | [_, _, _, _], _ => rfl) (fun vs H Q E h => ?_) (fun f cdv A outer s H vs Q E hr h => ?_)
  · obtain ⟨a, ns, f, l, m, rfl, _⟩ := h
    rfl
  obtain ⟨a, ns, f', l', m, rfl, S, f0, f1, l0, l1, m1, q⟩ := h
  have nd : trN.Nodup := sc_l_tree.nd
  obtain ⟨tI, hI, qI⟩ := tr_if (P := P) (w := w) (K := K) (mg := mg) (base := base) (f := f) (cdv := cdv) (A := A) (outer := outer) (s := s) (H := H) (E := E) Z_len hr
  refine ⟨_, pss_cons (ps_set (i := 4) nd rfl (Or.inl rfl) (pe_lst (pa_cons (pe_tup (pa_cons (pe_tup (pa_cons pe_str pa_nil)) (pa_cons pe_int (pa_cons pe_int pa_nil)))) pa_nil))) (pss_cons (ps_for PassesOwn.never rfl (pi_range2 rfl Z_range (pa_cons (pv 1) (pa_cons (pe_callB (call_min2 rfl) rfl Z_min (by decide +kernel) (pa_cons (pe_callB call_len rfl Z_len (by decide +kernel) (pa_cons (pv 0) pa_nil)) (pa_cons (pv 2) pa_nil))) pa_nil))) (pg_name (i := 5) nd rfl (Or.inl rfl))
    (pss_cons (ps_set (i := 6) nd rfl (Or.inl rfl) (pe_def D_law_cell_at (hr.mono (by omega)) rfl (pa_cons (pv 0) (pa_cons (pv 5) pa_nil)))) (pss_cons (ps_set (i := 7) nd rfl (Or.inl rfl) (pe_op op_mod (pv 6) pe_int)) (pss_cons (ps_set (i := 8) nd rfl (Or.inl rfl) (pe_ix ix_list (pv 4) (pe_un un_neg pe_int) (fun _ _ => rfl))) (pss_one hI))))) (pss_one (ps_ret (pe_ix ix_tup (pe_ix ix_list (pv 4) (pe_op op_modN (pe_def D_law_cell_at (hr.mono (by omega)) rfl (pa_cons (pv 0) (pa_cons (pv 1) pa_nil))) (pe_callB call_len rfl Z_len (by decide +kernel) (pa_cons (pv 4) pa_nil))) (fun _ _ => rfl)) pe_int (fun _ _ => rfl))))), ?_⟩
  have s00 : ∀ n : Nat, n ≤ 5 → n ≤ sizeLine := fun n h => Nat.le_trans h (by decide)
  refine ⟨s00 1 (by decide), fun p1 hp1 => ⟨s00 3 (by decide), fun p2 hp2 => ⟨s00 1 (by decide), fun st hst => ?_⟩⟩⟩
  have u1 := same_new hp1 (.tup [V.str "p"])
  have u2 := same_new hp2 (.tup [.ref p1, .int 1, .int 1])
  have u3 := same_new hst (.lst [V.ref p2])
  have u := (u1.trans u2).trans u3
  have S3 := S.to u
  have few := S.few
  refine ⟨_, rfl, _, rfl, _, _, rfl, .inl ⟨_, S3.l, rfl⟩, _, rfl, _, _, rfl, _, _, rfl, ⟨by omega, by omega, ?_, ?_⟩, ?_⟩
  · rw [min_is, List.length_map]; omega
  · rw [min_is, List.length_map]; omega
  rw [min_is, List.length_map]
  refine for_range (fun i σ H' => i ≤ 63 ∧ ∃ (l : Addr) (o5 o6 o7 o8 o9 o10 : Option V), σ = [some (.ref a), some (.int f'), some (.int l'), some (.int m), some (.ref l), o5, o6, o7, o8, o9, o10] ∧ StkI H m i l H')
    ⟨by omega, st, _, _, _, _, _, _, rfl, [.ref p2], [.lp], u, (u1.trans u2).free hst, upd_same, .cons ⟨p2, p1, rfl, u3 _ _ upd_same, .lp ((u2.trans u3) _ _ upd_same), rfl, m1, by decide⟩ .nil, by simp, by simp⟩ (fun i σ H' hi z => ?_) (fun σ H' z => ?_)
  · obtain ⟨_, l, o5, o6, o7, o8, o9, o10, rfl, vs, ts, sm, hl, el, al, ne, hz⟩ := z
    have hi' : f' + (i : Int) < 63 := by
      have : (i : Int) < min (ns.length : Int) l' - f' := by omega
      omega
    obtain ⟨vs', v, ts', t, rfl, rfl, sv, al'⟩ := al.last ne
    refine ⟨_, rfl, _, rfl, a, ns, f' + (i : Int), rfl, S.to sm, by omega, by omega, fun cell c0 c1 => ?_⟩
    refine ⟨_, rfl, _, _, rfl, rfl, (show (0 : Int) < 10 by decide), ?_⟩
    refine ⟨_, rfl, _, rfl, _, _, _, _, rfl, rfl, SqL.of el, last1 _ _, ?_⟩
    refine qI _ _ _ _ _ _ _ l m cell i vs' ts' v t H' m1 (by omega) sm hl el al' sv (by simp at hz; omega) fun l2 o9 o10 H2 stk => ?_
    exact ⟨by omega, l2, _, _, _, _, _, _, rfl, stk⟩
  · obtain ⟨_, l, o5, o6, o7, o8, o9, o10, rfl, vs, ts, sm, hl, el, al, ne, hz⟩ := z
    refine ⟨_, rfl, _, rfl, _, rfl, a, ns, f', rfl, S.to sm, f0, by omega, fun cell c0 c1 => ?_⟩
    have hlen : 0 < vs.length := List.length_pos_iff.mpr ne
    have g0 := Int.fmod_nonneg_of_pos cell (show (0 : Int) < (vs.length : Int) by omega)
    have g1 := Int.fmod_lt_of_pos cell (show (0 : Int) < (vs.length : Int) by omega)
    have hlt : (cell.fmod (vs.length : Int)).toNat < vs.length := by omega
    obtain ⟨t, ht, sv⟩ := al.get _ _ (List.getElem?_eq_getElem hlt)
    obtain ⟨d, b, ev, ed, tb, nq, lm, sz⟩ := sv
    refine ⟨_, rfl, _, _, rfl, .inl ⟨_, SqL.of el, rfl⟩, _, _, rfl, rfl, (show ((vs.length : Nat) : Int) ≠ 0 by omega), _, _, _, vs[(cell.fmod (vs.length : Int)).toNat], rfl, rfl, SqL.of el, at_of g0 (List.getElem?_eq_getElem hlt), ?_⟩
    rw [ev]
    exact ⟨_, _, _, _, rfl, rfl, SqT.of ed, atZ, q b t H' sm tb nq lm sz⟩
end
end Mine




set_option Elab.async false
set_option linter.all false
set_option maxRecDepth 100000
set_option maxHeartbeats 4000000
namespace Mine
open PySem L2
theorem w5_get {i : Nat} {y : V} (h : [V.str "more", .str "less", .str "greater", .str "lesser", .str "leads"][i]? = some y) : ∃ u : W5, y = .str u.str := by
  match i, h with
  | 0, h => cases h; exact ⟨.more, rfl⟩
  | 1, h => cases h; exact ⟨.less, rfl⟩
  | 2, h => cases h; exact ⟨.greater, rfl⟩
  | 3, h => cases h; exact ⟨.lesser, rfl⟩
  | 4, h => cases h; exact ⟨.leads, rfl⟩
  | n + 5, h => exact nomatch h
abbrev lawN24 : List Str := ["_law_script", "_law_first", "_law_second", "_law_one", "_law_other", "_law_word", "_law_turned_one"]
theorem sc_law : FnScope lawN24 ["_law_script"] (defScope sLaw) := ⟨rfl, rfl, rfl, by decide +kernel, rfl, by decide +kernel, by decide +kernel⟩
section
variable {P : Program} {w : World} {K : PySem.W.Frag} {mg : Str → Option Value} {base : Heap} {c : CCs}
theorem ok_law {f : Addr} {fd : FuncData} (F : Fun K "law" "law" sLaw f fd) (Z_tuple : mg "tuple" = none) (D_law_tree : Def P w K mg base 2 "_law_tree" ["_law_script", "_law_first", "_law_last", "_law_most"] (spTree K)) (D_law_made : Def P w K mg base 28 "_law_made" ["_law_tree_here"] (spMadeO c 24)) (D_line_of : Def P w K mg base 10 "line_of" ["saying"] (spLineOf c K))
    (D_law_is_line : Def P w K mg base 3 "_law_is_line" ["_law_line"] (spIsLine K)) (D_law_fold : Def P w K mg base 3 "_law_fold" ["_law_word", "_law_one", "_law_other"] (spFoldT c)) (D_law_as : Def P w K mg base 4 "_law_as" ["_law_found", "_law_one", "_law_other", "_law_word"] (spAs24 K)) (K_not : MkOk P w K mg base "Not" c.no 1 ["self", "part"] (spInit1 c.no fPart)) : FnOk P w K mg base CX0 40 f fd ["_law_script"] (spLaw K) := by
  refine F.ok sc_law (fun vs H Q E h => ?_) (fun cdv A outer s H vs Q E hr h => ?_)
  · obtain ⟨a, ns, rfl, _⟩ := h
    rfl
  obtain ⟨a, ns, rfl, S, q⟩ := h
  have nd := sc_law.nd
  have hu := hr.units
  refine ⟨_, (pss_cons (ps_set (i := 1) nd rfl (Or.inl rfl) (pe_def D_law_made (hr.mono (by omega)) rfl (pa_cons (pe_def D_law_tree (hr.mono (by omega)) rfl (pa_cons (pv 0) (pa_cons pe_int (pa_cons pe_int (pa_cons pe_int pa_nil))))) pa_nil)))
    (pss_cons (ps_set (i := 2) nd rfl (Or.inl rfl) (pe_def D_law_made (hr.mono (by omega)) rfl (pa_cons (pe_def D_law_tree (hr.mono (by omega)) rfl (pa_cons (pv 0) (pa_cons pe_int (pa_cons pe_int (pa_cons pe_int pa_nil))))) pa_nil)))
    (pss_cons (ps_set (i := 3) nd rfl (Or.inl rfl) (pe_def D_line_of (hr.mono (by omega)) rfl (pa_cons (pv 1) pa_nil)))
    (pss_cons (ps_set (i := 4) nd rfl (Or.inl rfl) (pe_def D_line_of (hr.mono (by omega)) rfl (pa_cons (pv 2) pa_nil)))
    (pss_cons (ps_if (PW.pt (pw_or (pt_not (pt_val (pe_def D_law_is_line (hr.mono (by omega)) rfl (pa_cons (pv 3) pa_nil)))) (pw_or1 (pt_not (pt_val (pe_def D_law_is_line (hr.mono (by omega)) rfl (pa_cons (pv 4) pa_nil))))))) (pss_one (ps_ret pe_bl)) pss_nil)
    (pss_cons (ps_for PassesOwn.never rfl (pi_tup (pe_tup (pa_cons pe_str (pa_cons pe_str (pa_cons pe_str (pa_cons pe_str (pa_cons pe_str pa_nil))))))) (pg_name (i := 5) nd rfl (Or.inl rfl)) (pss_one (ps_if (pt_not (pt_val (pe_def D_law_as (hr.mono (by omega)) rfl (pa_cons (pe_def D_line_of (hr.mono (by omega)) rfl (pa_cons (pe_def D_law_fold (hr.mono (by omega)) rfl (pa_cons (pv 5) (pa_cons (pv 1) (pa_cons (pv 2) pa_nil)))) pa_nil)) (pa_cons (pv 3) (pa_cons (pv 4) (pa_cons (pv 5) pa_nil))))))) (pss_one (ps_ret pe_bl)) pss_nil)))
    (pss_cons (ps_set (i := 6) nd rfl (Or.inl rfl) (pe_def D_line_of (hr.mono (by omega)) rfl (pa_cons (pe_mk K_not (hr.mono (by omega)) rfl (pa_cons (pv 1) pa_nil)) pa_nil)))
    (pss_one (ps_ret (pe_cmpR (op_eqD hu) (pv 6) (pe_callTy call_tuple_of rfl Z_tuple (by decide +kernel) (pa_cons (pe_compTF (xs := ["_law_end", "_law_slope", "_law_height_here"]) rfl (pi_tup (pv 3)) rfl (by decide +kernel) (by decide +kernel) (show ∀ p ∈ Scope.names _, p.2 = NameKind.free → List.lookup p.1 (defScope sLaw).names = some .cell ∨ List.lookup p.1 (defScope sLaw).names = some .free by decide +kernel) fa_nil (show (["_law_end", "_law_slope", "_law_height_here"] : List Str).Nodup by decide +kernel) (fun _ _ _ _ => pg_tupK (K := K) (n := 3) rfl rfl (pgs_cons (pg_name (i := 0) (show (["_law_end", "_law_slope", "_law_height_here"] : List Str).Nodup by decide +kernel) rfl (Or.inl rfl) (.inr rfl)) (pgs_cons (pg_name (i := 1) (show (["_law_end", "_law_slope", "_law_height_here"] : List Str).Nodup by decide +kernel) rfl (Or.inl rfl) (.inr rfl)) (pgs_cons (pg_name (i := 2) (show (["_law_end", "_law_slope", "_law_height_here"] : List Str).Nodup by decide +kernel) rfl (Or.inl rfl) (.inr rfl)) pgs_nil)))) (fun _ _ _ _ => (pe_tup (pa_cons (pv 0) (pa_cons (pe_un un_neg (pv 1)) (pa_cons (pe_op op_sub pe_int (pv 2)) pa_nil)))))) pa_nil)) (nomark _))))))))))), ?_⟩
  refine ⟨_, rfl, a, ns, 1, 31, 12, rfl, S, by decide, by decide, by decide, by decide, by decide, fun b1 t1 H1 s1 tu1 nq1 lm1 sz1 => ?_⟩
  refine ⟨b1, t1, rfl, tu1, sz1, fun o1 H2 s2 oo1 => ?_⟩
  refine ⟨_, rfl, a, ns, 31, 61, 12, rfl, S.to (s1.trans s2), by decide, by decide, by decide, by decide, by decide, fun b2 t2 H3 s3 tu2 nq2 lm2 sz2 => ?_⟩
  refine ⟨b2, t2, rfl, tu2, sz2, fun o2 H4 s4 oo2 => ?_⟩
  have l1 : t1.steep ≤ 12 := Nat.le_trans (steep_lets t1) (by omega)
  have l2 : t2.steep ≤ 12 := Nat.le_trans (steep_lets t2) (by omega)
  have c1 := (oo1.to (Kp.of s3)).to (Kp.of s4)
  refine ⟨_, rfl, o1, t1, rfl, c1, by omega, by omega, nq1, fun v1 H5 s5 d1 => ?_⟩
  refine ⟨_, rfl, o2, t2, rfl, oo2.to (Kp.of s5), by omega, by omega, nq2, fun v2 H6 s6 d2 => ?_⟩
  have g1 := lineT_ok t1 (by omega)
  have g2 := lineT_ok t2 (by omega)
  have k1 := g1.k (by omega)
  have k2 := g2.k (by omega)
  have n1 := g1.len (by omega)
  have n2 := g2.len (by omega)
  have d1' := d1.ts s6.ts
  have c1' := (c1.to (Kp.of s5)).to (Kp.of s6)
  have c2' := (oo2.to (Kp.of s5)).to (Kp.of s6)
  refine ⟨_, rfl, v1, _, rfl, d1', k1, fun H7 s7 => ⟨_, rfl, iteF ⟨_, rfl, v2, _, rfl, d2.ts s7.ts, k2, fun H8 s8 => ⟨_, rfl, iteF ?_⟩⟩⟩⟩
  have s68 := s7.trans s8
  refine ⟨(by show 5 ≤ sizeLine; decide), fun p5 hp5 => ?_⟩
  have u9 := s68.trans (same_new hp5 (.tup [V.str "more", .str "less", .str "greater", .str "lesser", .str "leads"]))
  have e9 : upd H8 p5 (.tup [V.str "more", .str "less", .str "greater", .str "lesser", .str "leads"]) p5 = some (.tup [V.str "more", .str "less", .str "greater", .str "lesser", .str "leads"]) := upd_same
  generalize upd H8 p5 (.tup [V.str "more", .str "less", .str "greater", .str "lesser", .str "leads"]) = H9 at u9 e9 ⊢
  refine ⟨p5, rfl, ⟨_, SqT.of e9⟩, ?_⟩
  refine for_tup (xs := [V.str "more", .str "less", .str "greater", .str "lesser", .str "leads"]) (fun i σ H' => Same H9 H' ∧ ∃ o5, σ = [some (.ref a), some (.ref o1), some (.ref o2), some v1, some v2, o5, none]) ⟨Same.refl _, _, rfl⟩ (fun i σ H' _ z => SqT.of (z.1 _ _ e9)) (fun i y σ H' hy z => ?_) (fun σ H' z => ?_)
  · obtain ⟨sm, o5, rfl⟩ := z
    obtain ⟨u, rfl⟩ := w5_get hy
    have sH := u9.trans sm
    refine ⟨_, rfl, _, rfl, _, rfl, u, o1, o2, t1, t2, rfl, c1'.to (Kp.of sH), c2'.to (Kp.of sH), fun e H10 s10 oe => ?_⟩
    have st : (Tr.fold u t1 t2).steep ≤ 24 := Nat.le_trans (steep_lets _) (by show t1.lets + t2.lets ≤ 24; omega)
    refine ⟨e, .fold u t1 t2, rfl, oe, by show t1.size + t2.size + 1 ≤ 1000; omega, by omega, by show (_ && _) = true; rw [nq1, nq2]; rfl, fun vf H11 s11 df => ?_⟩
    have gf := lineT_ok (.fold u t1 t2) (by omega)
    have sA := sH.trans (s10.trans s11)
    refine ⟨_, rfl, _, rfl, _, rfl, vf, v1, v2, u, lineT (.fold u t1 t2), lineT t1, lineT t2, rfl, df, d1'.ts sA.ts, d2.ts sA.ts, gf.k (by omega), gf.len (by omega), k1, n1, k2, n2, (fold_facts u g1 g2 (by have : u.steep t1.steep t2.steep ≤ 24 := st; omega)).2.2, fun H12 s12 => ⟨_, rfl, iteF ⟨sm.trans ((s10.trans s11).trans s12), _, rfl⟩⟩⟩
  · obtain ⟨sm, o5, rfl⟩ := z
    have sH := u9.trans sm
    refine ⟨_, rfl, fun z dz h1 h2 ne => ⟨z, dz, _, rfl, upd_same, rfl, ?_⟩⟩
    have sz := same_made (C := c.no) (fs := fPart (.ref o1)) h1 h2 ne
    have oz : Ob c _ z (.no t1) := .no upd_same ((c1'.to (Kp.of sH)).to (Kp.of sz))
    refine ⟨z, .no t1, rfl, oz, by show t1.size + 1 ≤ 1000; omega, by show t1.steep ≤ 25; omega, nq1, fun vn H10 s10 dn => ?_⟩
    have sA := sH.trans (sz.trans s10)
    obtain ⟨la, xs, rfl, sa, da⟩ := ln_el (d1'.ts sA.ts)
    have lx := ln_len da
    refine ⟨_, rfl, _, rfl, la, rfl, ⟨xs, sa⟩, fun D hD => ?_⟩
    refine ⟨fun i m H2 => m = xs.length - i ∧ i ≤ xs.length ∧ Same H10 H2 ∧ ∃ zs, H2 D = some (.lst zs) ∧ DatAll K H2 ((((lineT t1).take i).map fun s => Ln.rsS 1 (Ln.tnS s)).map stD) zs, ⟨_, rfl, Nat.zero_le _, same_new hD _, [], upd_same, rfl⟩, ?_⟩
    rintro i m H11 ⟨rfl, hi, sm, zs, hlD, dz'⟩
    have sa2 := sa.ts sm.ts
    have lz : zs.length ≤ 9000 := by rw [dz'.len]; simp; omega
    by_cases hlt : i < xs.length
    · refine .inr ⟨⟨xs, _, sa2, List.getElem?_eq_getElem hlt⟩, fun o ho v H12 y => ?_⟩
      obtain ⟨rfl, y⟩ := y
      obtain ⟨st, hst, dst⟩ := ln_at' (da.ts sm.ts) (y xs sa2)
      obtain ⟨cc, e, rfl, q1, d1⟩ := st_el dst
      obtain ⟨p1, p2, p3, rfl⟩ := len3 ho
      refine ⟨cc, _, rfl, q1, rfl, _, _, rfl, _, _, rfl, _, _, rfl, rfl, [some e, some (.int st.m), some (.int st.h)], rfl, rfl, ?_⟩
      refine ⟨_, rfl, _, rfl, _, rfl, _, rfl, _, _, rfl, rfl, (by show 3 ≤ sizeLine; decide), fun t ht => ?_⟩
      have u1 := same_new ht (.tup [e, .int (-st.m), .int (1 - st.h)])
      have hD1 := u1 _ _ hlD
      have t2 : Tst (upd H12 t (.tup [e, .int (-st.m), .int (1 - st.h)])) (upd (upd H12 t (.tup [e, .int (-st.m), .int (1 - st.h)])) D (.lst (zs ++ [.ref t]))) := ts_mut hD1
      have tt := u1.ts.trans t2
      refine ⟨zs, hD1, small9000 lz, xs.length - (i + 1), by omega, rfl, hlt, same_mut (sm.trans u1) hD _, zs ++ [.ref t], upd_same, ?_⟩
      rw [map_step hst, List.map_append]
      have es : stD (Ln.rsS 1 (Ln.tnS st)) = stD ⟨st.p, st.q, -st.m, 1 - st.h⟩ := by
        show PyData.tuple [_, _, .int (-st.h + 1)] = PyData.tuple [_, _, .int (1 - st.h)]
        rw [show -st.h + 1 = 1 - st.h by omega]
        rfl
      refine (dz'.ts tt).snoc ?_
      rw [es]
      exact st_mk (s := ⟨st.p, st.q, -st.m, 1 - st.h⟩) (SqT.of (by rw [upd_ne (ne_lst ht hlD).symm]; exact upd_same)) (d1.ts tt)
    have ei : i = xs.length := by omega
    subst ei
    refine .inl ⟨⟨xs, sa2, Nat.le_refl _⟩, ?_⟩
    rw [lx, List.take_length] at dz'
    refine ⟨D, zs, rfl, .inl ⟨SqL.of hlD, fun t ht => ?_⟩⟩
    have u1 := same_new ht (.tup zs)
    have d5 : Dat K (upd H11 t (.tup zs)) (lnD (lineT (.no t1))) (.ref t) := by
      have : lineT (.no t1) = (lineT t1).map fun s => Ln.rsS 1 (Ln.tnS s) := by show lineNo (lineT t1) = _; unfold lineNo; rw [List.map_map]; rfl
      rw [this]
      exact ⟨t, zs, rfl, SqT.of upd_same, dz'.ts u1.ts⟩
    refine ⟨_, _, .inl ((dn.ts sm.ts).ts u1.ts), .inl d5, ln_shaped _, ln_shaped _, ?_⟩
    rw [ln_eqv, decide_eq_true rfl]
    exact q _
end
end Mine




set_option Elab.async false
set_option linter.all false
set_option maxRecDepth 100000
set_option maxHeartbeats 4000000
namespace L2
open PySem PySem.Spec PyProof.Rows
structure FunE (K : PySem.W.Frag) (x qual : Str) (st : Stmt) (f : Addr) : Prop where
  ex : ∃ fd : FuncData, Fun K x qual st f fd
  fn : PySem.W.isFn K (.ref f) = true
theorem funE_mk {K : PySem.W.Frag} {x qual : Str} {st : Stmt} {f : Addr} {oc kV doc pm cdv ct : Value} {od an : Option Addr} {osl : Array (Option Value)} (l : K.lookup f = some ⟨oc, od, .func (PySem.W.fnOf x qual (defArgs st) (defBody st) (defScope st) .none kV doc pm an cdv ct), osl⟩)
    (c : PySem.W.codeIn K cdv qual = true) (k : PySem.W.keepIn K (.ref f) = true) (fn : PySem.W.isFn K (.ref f) = true) : FunE K x qual st f := ⟨⟨_, fun_mk l c k⟩, fn⟩
theorem FunE.meth {K : PySem.W.Frag} {x qual : Str} {st : Stmt} {f C : Addr} (e : FunE K x qual st f) (cl : Cls K C) (g : PySem.W.findIn K (.ref C) x = some (some (.ref f))) : MethF K C x qual st := by
  obtain ⟨fd, F⟩ := e.ex
  exact ⟨cl, f, fd, ⟨g, e.fn, F.kp⟩, F⟩
theorem FunE.made {K : PySem.W.Frag} {mg : Str → Option Value} {x qual : Str} {st : Stmt} {f C : Addr} (e : FunE K "__init__" qual st f) (cl : Cls K C) (g : PySem.W.findIn K (.ref C) "__init__" = some (some (.ref f))) (m : mg x = some (.ref C)) (y : PySem.W.makesIn K C = true) (z : PySem.W.keepIn K (.ref C) = true) : MkF K mg x C qual st := by
  obtain ⟨fd, F⟩ := e.ex
  exact ⟨cl, m, f, fd, ⟨y, g, e.fn, z⟩, F⟩
end L2
open PySem PySem.W PyProof.Rows

structure Mine.AllF (K : Frag) (mg : Str → Option Value) (c : Mine.CCs) : Prop where
  fx : Mine.Fx K c
  madeS_ne : L2.MethF K c.ne "made_of" "Saying.made_of" Mine.s_Saying_made_of
  madeS_al : L2.MethF K c.al "made_of" "Saying.made_of" Mine.s_Saying_made_of
  madeS_le : L2.MethF K c.le "made_of" "Saying.made_of" Mine.s_Saying_made_of
  piecesS_ne : L2.MethF K c.ne "pieces" "Saying.pieces" Mine.s_Saying_pieces
  piecesS_al : L2.MethF K c.al "pieces" "Saying.pieces" Mine.s_Saying_pieces
  piecesS_le : L2.MethF K c.le "pieces" "Saying.pieces" Mine.s_Saying_pieces
  laid : ∀ t, L2.MethF K (c.of t) "laid_out" "Saying.laid_out" Mine.s_Saying_laid_out
  told : ∀ t, L2.MethF K (c.of t) "told" "Saying.told" Mine.s_Saying_told
  Kne_ne : L2.MethF K c.ne "making_word" "Never.making_word" Mine.s_Never_making_word
  Kal_al : L2.MethF K c.al "making_word" "Always.making_word" Mine.s_Always_making_word
  Kle_le : L2.MethF K c.le "making_word" "Letter.making_word" Mine.s_Letter_making_word
  Kno_no : L2.MethF K c.no "making_word" "Not.making_word" Mine.s_Not_making_word
  Mno_no : L2.MethF K c.no "made_of" "Not.made_of" Mine.s_Not_made_of
  Pno_no : L2.MethF K c.no "pieces" "Not.pieces" Mine.s_Not_pieces
  Mfo : ∀ u, L2.MethF K (c.fold u) "made_of" "Fold.made_of" Mine.s_Fold_made_of
  Pfo : ∀ u, L2.MethF K (c.fold u) "pieces" "Fold.pieces" Mine.s_Fold_pieces
  F0mo_mo : L2.MethF K c.mo "making_word" "More.making_word" Mine.s_More_making_word
  F0ls_ls : L2.MethF K c.ls "making_word" "Less.making_word" Mine.s_Less_making_word
  F0gr_gr : L2.MethF K c.gr "making_word" "Greater.making_word" Mine.s_Greater_making_word
  F0lr_lr : L2.MethF K c.lr "making_word" "Lesser.making_word" Mine.s_Lesser_making_word
  F0ld_ld : L2.MethF K c.ld "making_word" "Leads.making_word" Mine.s_Leads_making_word
  ile : L2.MkF K mg "Letter" c.le "Letter.__init__" Mine.s_Letter_init
  ino : L2.MkF K mg "Not" c.no "Not.__init__" Mine.s_Not_init
  ifo : ∀ u, L2.MkF K mg (Mine.W5.cls u) (c.fold u) "Fold.__init__" Mine.s_Fold_init
  o_ne : L2.Mk0 K c.ne
  r_ne : mg "Never" = some (.ref c.ne)
  o_al : L2.Mk0 K c.al
  r_al : mg "Always" = some (.ref c.al)
theorem Mine.all_mk {K : Frag} {h : Heap} {mg : Str → Option Value} {ne al le no mo ls gr lr ld f_madeS f_piecesS f_laid f_told f_Kne f_Kal f_Kle f_Kno f_Mno f_Pno f_Mfo f_Pfo f_F0mo f_F0ls f_F0gr f_F0lr f_F0ld f_ile f_ino f_ifo : Addr} (X : K.In h) (G : h.Ns mainGlobals mg)
    (n_ne : nsIn K mainGlobals "Never" = some (some (.ref ne)))
    (n_al : nsIn K mainGlobals "Always" = some (some (.ref al)))
    (n_le : nsIn K mainGlobals "Letter" = some (some (.ref le)))
    (n_no : nsIn K mainGlobals "Not" = some (some (.ref no)))
    (n_mo : nsIn K mainGlobals "More" = some (some (.ref mo)))
    (n_ls : nsIn K mainGlobals "Less" = some (some (.ref ls)))
    (n_gr : nsIn K mainGlobals "Greater" = some (some (.ref gr)))
    (n_lr : nsIn K mainGlobals "Lesser" = some (some (.ref lr)))
    (n_ld : nsIn K mainGlobals "Leads" = some (some (.ref ld)))
    (c_ne : L2.Cls K ne)
    (c_al : L2.Cls K al)
    (c_le : L2.Cls K le)
    (c_no : L2.Cls K no)
    (c_mo : L2.Cls K mo)
    (c_ls : L2.Cls K ls)
    (c_gr : L2.Cls K gr)
    (c_lr : L2.Cls K lr)
    (c_ld : L2.Cls K ld)
    (h_ne : findIn K (.ref ne) "__class__" = some (some (.builtin "object.__class__")))
    (h_al : findIn K (.ref al) "__class__" = some (some (.builtin "object.__class__")))
    (h_le : findIn K (.ref le) "__class__" = some (some (.builtin "object.__class__")))
    (h_no : findIn K (.ref no) "__class__" = some (some (.builtin "object.__class__")))
    (h_mo : findIn K (.ref mo) "__class__" = some (some (.builtin "object.__class__")))
    (h_ls : findIn K (.ref ls) "__class__" = some (some (.builtin "object.__class__")))
    (h_gr : findIn K (.ref gr) "__class__" = some (some (.builtin "object.__class__")))
    (h_lr : findIn K (.ref lr) "__class__" = some (some (.builtin "object.__class__")))
    (h_ld : findIn K (.ref ld) "__class__" = some (some (.builtin "object.__class__")))
    (m_ne : mroIn K ne (.type "object") = some true)
    (m_al : mroIn K al (.type "object") = some true)
    (m_le : mroIn K le (.type "object") = some true)
    (m_no : mroIn K no (.type "object") = some true)
    (m_mo : mroIn K mo (.type "object") = some true)
    (m_ls : mroIn K ls (.type "object") = some true)
    (m_gr : mroIn K gr (.type "object") = some true)
    (m_lr : mroIn K lr (.type "object") = some true)
    (m_ld : mroIn K ld (.type "object") = some true)
    (s_ne : kitOne K (.ref ne) (.type "str") = some false)
    (s_al : kitOne K (.ref al) (.type "str") = some false)
    (s_le : kitOne K (.ref le) (.type "str") = some false)
    (s_no : kitOne K (.ref no) (.type "str") = some false)
    (s_mo : kitOne K (.ref mo) (.type "str") = some false)
    (s_ls : kitOne K (.ref ls) (.type "str") = some false)
    (s_gr : kitOne K (.ref gr) (.type "str") = some false)
    (s_lr : kitOne K (.ref lr) (.type "str") = some false)
    (s_ld : kitOne K (.ref ld) (.type "str") = some false)
    (hn : specialIn K (.builtin "object.__class__") "__get__" = some (some (.builtin "getset_descriptor.__get__")))
    (tk : takesIn K (.builtin "object.__class__") = some true)
    (a_name : findIn K (.ref le) "name" = some none)
    (a_part : findIn K (.ref no) "part" = some none)
    (a_one_mo : findIn K (.ref mo) "one" = some none)
    (a_one_ls : findIn K (.ref ls) "one" = some none)
    (a_one_gr : findIn K (.ref gr) "one" = some none)
    (a_one_lr : findIn K (.ref lr) "one" = some none)
    (a_one_ld : findIn K (.ref ld) "one" = some none)
    (a_other_mo : findIn K (.ref mo) "other" = some none)
    (a_other_ls : findIn K (.ref ls) "other" = some none)
    (a_other_gr : findIn K (.ref gr) "other" = some none)
    (a_other_lr : findIn K (.ref lr) "other" = some none)
    (a_other_ld : findIn K (.ref ld) "other" = some none)
    (g_madeS_ne : findIn K (.ref ne) "made_of" = some (some (.ref f_madeS)))
    (g_madeS_al : findIn K (.ref al) "made_of" = some (some (.ref f_madeS)))
    (g_madeS_le : findIn K (.ref le) "made_of" = some (some (.ref f_madeS)))
    (e_madeS : L2.FunE K "made_of" "Saying.made_of" Mine.s_Saying_made_of f_madeS)
    (g_piecesS_ne : findIn K (.ref ne) "pieces" = some (some (.ref f_piecesS)))
    (g_piecesS_al : findIn K (.ref al) "pieces" = some (some (.ref f_piecesS)))
    (g_piecesS_le : findIn K (.ref le) "pieces" = some (some (.ref f_piecesS)))
    (e_piecesS : L2.FunE K "pieces" "Saying.pieces" Mine.s_Saying_pieces f_piecesS)
    (g_laid_ne : findIn K (.ref ne) "laid_out" = some (some (.ref f_laid)))
    (g_laid_al : findIn K (.ref al) "laid_out" = some (some (.ref f_laid)))
    (g_laid_le : findIn K (.ref le) "laid_out" = some (some (.ref f_laid)))
    (g_laid_no : findIn K (.ref no) "laid_out" = some (some (.ref f_laid)))
    (g_laid_mo : findIn K (.ref mo) "laid_out" = some (some (.ref f_laid)))
    (g_laid_ls : findIn K (.ref ls) "laid_out" = some (some (.ref f_laid)))
    (g_laid_gr : findIn K (.ref gr) "laid_out" = some (some (.ref f_laid)))
    (g_laid_lr : findIn K (.ref lr) "laid_out" = some (some (.ref f_laid)))
    (g_laid_ld : findIn K (.ref ld) "laid_out" = some (some (.ref f_laid)))
    (e_laid : L2.FunE K "laid_out" "Saying.laid_out" Mine.s_Saying_laid_out f_laid)
    (g_told_ne : findIn K (.ref ne) "told" = some (some (.ref f_told)))
    (g_told_al : findIn K (.ref al) "told" = some (some (.ref f_told)))
    (g_told_le : findIn K (.ref le) "told" = some (some (.ref f_told)))
    (g_told_no : findIn K (.ref no) "told" = some (some (.ref f_told)))
    (g_told_mo : findIn K (.ref mo) "told" = some (some (.ref f_told)))
    (g_told_ls : findIn K (.ref ls) "told" = some (some (.ref f_told)))
    (g_told_gr : findIn K (.ref gr) "told" = some (some (.ref f_told)))
    (g_told_lr : findIn K (.ref lr) "told" = some (some (.ref f_told)))
    (g_told_ld : findIn K (.ref ld) "told" = some (some (.ref f_told)))
    (e_told : L2.FunE K "told" "Saying.told" Mine.s_Saying_told f_told)
    (g_Kne_ne : findIn K (.ref ne) "making_word" = some (some (.ref f_Kne)))
    (e_Kne : L2.FunE K "making_word" "Never.making_word" Mine.s_Never_making_word f_Kne)
    (g_Kal_al : findIn K (.ref al) "making_word" = some (some (.ref f_Kal)))
    (e_Kal : L2.FunE K "making_word" "Always.making_word" Mine.s_Always_making_word f_Kal)
    (g_Kle_le : findIn K (.ref le) "making_word" = some (some (.ref f_Kle)))
    (e_Kle : L2.FunE K "making_word" "Letter.making_word" Mine.s_Letter_making_word f_Kle)
    (g_Kno_no : findIn K (.ref no) "making_word" = some (some (.ref f_Kno)))
    (e_Kno : L2.FunE K "making_word" "Not.making_word" Mine.s_Not_making_word f_Kno)
    (g_Mno_no : findIn K (.ref no) "made_of" = some (some (.ref f_Mno)))
    (e_Mno : L2.FunE K "made_of" "Not.made_of" Mine.s_Not_made_of f_Mno)
    (g_Pno_no : findIn K (.ref no) "pieces" = some (some (.ref f_Pno)))
    (e_Pno : L2.FunE K "pieces" "Not.pieces" Mine.s_Not_pieces f_Pno)
    (g_Mfo_mo : findIn K (.ref mo) "made_of" = some (some (.ref f_Mfo)))
    (g_Mfo_ls : findIn K (.ref ls) "made_of" = some (some (.ref f_Mfo)))
    (g_Mfo_gr : findIn K (.ref gr) "made_of" = some (some (.ref f_Mfo)))
    (g_Mfo_lr : findIn K (.ref lr) "made_of" = some (some (.ref f_Mfo)))
    (g_Mfo_ld : findIn K (.ref ld) "made_of" = some (some (.ref f_Mfo)))
    (e_Mfo : L2.FunE K "made_of" "Fold.made_of" Mine.s_Fold_made_of f_Mfo)
    (g_Pfo_mo : findIn K (.ref mo) "pieces" = some (some (.ref f_Pfo)))
    (g_Pfo_ls : findIn K (.ref ls) "pieces" = some (some (.ref f_Pfo)))
    (g_Pfo_gr : findIn K (.ref gr) "pieces" = some (some (.ref f_Pfo)))
    (g_Pfo_lr : findIn K (.ref lr) "pieces" = some (some (.ref f_Pfo)))
    (g_Pfo_ld : findIn K (.ref ld) "pieces" = some (some (.ref f_Pfo)))
    (e_Pfo : L2.FunE K "pieces" "Fold.pieces" Mine.s_Fold_pieces f_Pfo)
    (g_F0mo_mo : findIn K (.ref mo) "making_word" = some (some (.ref f_F0mo)))
    (e_F0mo : L2.FunE K "making_word" "More.making_word" Mine.s_More_making_word f_F0mo)
    (g_F0ls_ls : findIn K (.ref ls) "making_word" = some (some (.ref f_F0ls)))
    (e_F0ls : L2.FunE K "making_word" "Less.making_word" Mine.s_Less_making_word f_F0ls)
    (g_F0gr_gr : findIn K (.ref gr) "making_word" = some (some (.ref f_F0gr)))
    (e_F0gr : L2.FunE K "making_word" "Greater.making_word" Mine.s_Greater_making_word f_F0gr)
    (g_F0lr_lr : findIn K (.ref lr) "making_word" = some (some (.ref f_F0lr)))
    (e_F0lr : L2.FunE K "making_word" "Lesser.making_word" Mine.s_Lesser_making_word f_F0lr)
    (g_F0ld_ld : findIn K (.ref ld) "making_word" = some (some (.ref f_F0ld)))
    (e_F0ld : L2.FunE K "making_word" "Leads.making_word" Mine.s_Leads_making_word f_F0ld)
    (g_ile_le : findIn K (.ref le) "__init__" = some (some (.ref f_ile)))
    (e_ile : L2.FunE K "__init__" "Letter.__init__" Mine.s_Letter_init f_ile)
    (g_ino_no : findIn K (.ref no) "__init__" = some (some (.ref f_ino)))
    (e_ino : L2.FunE K "__init__" "Not.__init__" Mine.s_Not_init f_ino)
    (g_ifo_mo : findIn K (.ref mo) "__init__" = some (some (.ref f_ifo)))
    (g_ifo_ls : findIn K (.ref ls) "__init__" = some (some (.ref f_ifo)))
    (g_ifo_gr : findIn K (.ref gr) "__init__" = some (some (.ref f_ifo)))
    (g_ifo_lr : findIn K (.ref lr) "__init__" = some (some (.ref f_ifo)))
    (g_ifo_ld : findIn K (.ref ld) "__init__" = some (some (.ref f_ifo)))
    (e_ifo : L2.FunE K "__init__" "Fold.__init__" Mine.s_Fold_init f_ifo)
    (i_ne : findIn K (.ref ne) "__init__" = some (some (.builtin "object.__init__")))
    (i_al : findIn K (.ref al) "__init__" = some (some (.builtin "object.__init__")))
    (y_ne : makesIn K ne = true)
    (y_al : makesIn K al = true)
    (y_le : makesIn K le = true)
    (y_no : makesIn K no = true)
    (y_mo : makesIn K mo = true)
    (y_ls : makesIn K ls = true)
    (y_gr : makesIn K gr = true)
    (y_lr : makesIn K lr = true)
    (y_ld : makesIn K ld = true)
    (z_ne : keepIn K (.ref ne) = true)
    (z_al : keepIn K (.ref al) = true)
    (z_le : keepIn K (.ref le) = true)
    (z_no : keepIn K (.ref no) = true)
    (z_mo : keepIn K (.ref mo) = true)
    (z_ls : keepIn K (.ref ls) = true)
    (z_gr : keepIn K (.ref gr) = true)
    (z_lr : keepIn K (.ref lr) = true)
    (z_ld : keepIn K (.ref ld) = true) :
    ∃ c, Mine.AllF K mg c := by
  refine ⟨⟨ne, al, le, no, mo, ls, gr, lr, ld⟩, ?_⟩
  refine ⟨?_,
    ?_,
    ?_,
    ?_,
    ?_,
    ?_,
    ?_,
    ?_,
    ?_,
    ?_,
    ?_,
    ?_,
    ?_,
    ?_,
    ?_,
    ?_,
    ?_,
    ?_,
    ?_,
    ?_,
    ?_,
    ?_,
    ?_,
    ?_,
    ?_,
    ?_,
    ?_,
    ?_,
    ?_⟩
  · exact ⟨by intro t; cases t <;> first | exact c_ne | exact c_al | exact c_le | exact c_no | (rename_i u _ _; cases u <;> assumption), by intro t; cases t <;> first | exact h_ne | exact h_al | exact h_le | exact h_no | (rename_i u _ _; cases u <;> assumption), by intro t; cases t <;> first | exact m_ne | exact m_al | exact m_le | exact m_no | (rename_i u _ _; cases u <;> assumption), by intro t; cases t <;> first | exact s_ne | exact s_al | exact s_le | exact s_no | (rename_i u _ _; cases u <;> assumption), hn, tk, a_name, a_part, by intro u; cases u <;> assumption, by intro u; cases u <;> assumption⟩
  · exact e_madeS.meth c_ne g_madeS_ne
  · exact e_madeS.meth c_al g_madeS_al
  · exact e_madeS.meth c_le g_madeS_le
  · exact e_piecesS.meth c_ne g_piecesS_ne
  · exact e_piecesS.meth c_al g_piecesS_al
  · exact e_piecesS.meth c_le g_piecesS_le
  · intro t; cases t <;> first | exact e_laid.meth c_ne g_laid_ne | exact e_laid.meth c_al g_laid_al | exact e_laid.meth c_le g_laid_le | exact e_laid.meth c_no g_laid_no | (rename_i u _ _; cases u <;> first | exact e_laid.meth c_mo g_laid_mo | exact e_laid.meth c_ls g_laid_ls | exact e_laid.meth c_gr g_laid_gr | exact e_laid.meth c_lr g_laid_lr | exact e_laid.meth c_ld g_laid_ld)
  · intro t; cases t <;> first | exact e_told.meth c_ne g_told_ne | exact e_told.meth c_al g_told_al | exact e_told.meth c_le g_told_le | exact e_told.meth c_no g_told_no | (rename_i u _ _; cases u <;> first | exact e_told.meth c_mo g_told_mo | exact e_told.meth c_ls g_told_ls | exact e_told.meth c_gr g_told_gr | exact e_told.meth c_lr g_told_lr | exact e_told.meth c_ld g_told_ld)
  · exact e_Kne.meth c_ne g_Kne_ne
  · exact e_Kal.meth c_al g_Kal_al
  · exact e_Kle.meth c_le g_Kle_le
  · exact e_Kno.meth c_no g_Kno_no
  · exact e_Mno.meth c_no g_Mno_no
  · exact e_Pno.meth c_no g_Pno_no
  · intro u; cases u <;> first | exact e_Mfo.meth c_mo g_Mfo_mo | exact e_Mfo.meth c_ls g_Mfo_ls | exact e_Mfo.meth c_gr g_Mfo_gr | exact e_Mfo.meth c_lr g_Mfo_lr | exact e_Mfo.meth c_ld g_Mfo_ld
  · intro u; cases u <;> first | exact e_Pfo.meth c_mo g_Pfo_mo | exact e_Pfo.meth c_ls g_Pfo_ls | exact e_Pfo.meth c_gr g_Pfo_gr | exact e_Pfo.meth c_lr g_Pfo_lr | exact e_Pfo.meth c_ld g_Pfo_ld
  · exact e_F0mo.meth c_mo g_F0mo_mo
  · exact e_F0ls.meth c_ls g_F0ls_ls
  · exact e_F0gr.meth c_gr g_F0gr_gr
  · exact e_F0lr.meth c_lr g_F0lr_lr
  · exact e_F0ld.meth c_ld g_F0ld_ld
  · exact e_ile.made c_le g_ile_le (mg_of X G n_le) y_le z_le
  · exact e_ino.made c_no g_ino_no (mg_of X G n_no) y_no z_no
  · intro u; cases u <;> first | exact e_ifo.made c_mo g_ifo_mo (mg_of X G n_mo) y_mo z_mo | exact e_ifo.made c_ls g_ifo_ls (mg_of X G n_ls) y_ls z_ls | exact e_ifo.made c_gr g_ifo_gr (mg_of X G n_gr) y_gr z_gr | exact e_ifo.made c_lr g_ifo_lr (mg_of X G n_lr) y_lr z_lr | exact e_ifo.made c_ld g_ifo_ld (mg_of X G n_ld) y_ld z_ld
  · exact ⟨y_ne, i_ne, z_ne⟩
  · exact mg_of X G n_ne
  · exact ⟨y_al, i_al, z_al⟩
  · exact mg_of X G n_al
section
variable {P : Program} {w : World} {K : Frag} {mg : Str → Option Value} {base : Heap} {c : Mine.CCs}
open Mine L2
theorem Mine.mks (A : AllF K mg c) : MkOk P w K mg base "Letter" c.le 1 ["self", "name"] (spInit1 c.le fName) ∧ MkOk P w K mg base "Not" c.no 1 ["self", "part"] (spInit1 c.no fPart) ∧ ∀ u : W5, MkOk P w K mg base u.cls (c.fold u) 1 ["self", "one", "other"] (spInit2 (c.fold u)) :=
  ⟨ok_iLetter A.ile A.fx.nName, ok_iNot A.ino A.fx.nPart, fun u => ok_iFold (A.ifo u) (A.fx.nOne u) (A.fx.nOther u)⟩
theorem Mine.ms (A : AllF K mg c) : Ms P w K mg base c := by
  obtain ⟨kl, kn, kf⟩ := mks (P := P) (w := w) (base := base) A
  have word : ∀ t, MethOk P w K mg base (c.of t) "making_word" 1 ["self"] (spWord c t) := by
    intro t
    cases t with
    | never => exact ok_wNever A.Kne_ne
    | always => exact ok_wAlways A.Kal_al
    | lp => exact ok_wLp A.Kle_le A.fx
    | lq => exact ok_wLq A.Kle_le A.fx
    | no t => exact ok_wNot A.Kno_no
    | fold u a b =>
      cases u
      · exact ok_wMore A.F0mo_mo
      · exact ok_wLess A.F0ls_ls
      · exact ok_wGreater A.F0gr_gr
      · exact ok_wLesser A.F0lr_lr
      · exact ok_wLeads A.F0ld_ld
  refine ⟨fun t => ?_, fun t => ?_, fun t => ?_⟩
  · cases t with
    | never => exact ok_mS A.madeS_ne rfl
    | always => exact ok_mS A.madeS_al rfl
    | lp => exact ok_mS A.madeS_le rfl
    | lq => exact ok_mS A.madeS_le rfl
    | no t => exact ok_mNot A.Mno_no A.fx
    | fold u a b => exact ok_mFold (A.Mfo u) A.fx
  · exact word t
  · cases t with
    | never => exact ok_pSay A.piecesS_ne rfl (word .never)
    | always => exact ok_pSay A.piecesS_al rfl (word .always)
    | lp => exact ok_pSay (t := .lp) A.piecesS_le rfl (word .lp)
    | lq => exact ok_pSay (t := .lq) A.piecesS_le rfl (word .lq)
    | no t => exact ok_pNot A.Pno_no A.fx
    | fold u a b => exact ok_pFold (A.Pfo u) A.fx (word (.fold u a b))
end




set_option Elab.async false
set_option linter.all false
set_option maxRecDepth 100000
set_option maxHeartbeats 4000000
theorem PySem.W.Fast.tw2426700748379557984 : True := .intro
theorem PySem.W.Fast.tw11237324169322415200 : True := .intro
theorem PySem.W.Fast.tw12369904908606688384 : True := .intro
theorem PySem.W.Fast.tw18131044315070189696 : True := .intro
theorem PySem.W.Fast.tw16053713433195113664 : True := .intro
theorem PySem.W.Fast.tw17887622570854706432 : True := .intro
theorem PySem.W.Fast.tw4927512262722411808 : True := .intro
theorem PySem.W.Fast.tw11084880643895668032 : True := .intro
theorem PySem.W.Fast.tw5670161982299440480 : True := .intro
theorem PySem.W.Fast.tw15315221296161494400 : True := .intro
theorem PySem.W.Fast.tw12066415461471364480 : True := .intro
theorem PySem.W.Fast.tw3239255414492605888 : True := .intro
theorem PySem.W.Fast.tw3679760057541900736 : True := .intro
theorem PySem.W.Fast.tw8831339995160549856 : True := .intro
theorem PySem.W.Fast.tw3914641022290251392 : True := .intro
theorem PySem.W.Fast.tw10248263788616033920 : True := .intro
theorem PySem.W.Fast.tw13140315772084466464 : True := .intro
theorem PySem.W.Fast.tw3093019346774496032 : True := .intro
theorem PySem.W.Fast.tw8245287388606564192 : True := .intro
theorem PySem.W.Fast.tw8577548445840156544 : True := .intro
theorem PySem.W.Fast.tw16241230320707187616 : True := .intro
theorem PySem.W.Fast.tw17838229569025639360 : True := .intro
theorem PySem.W.Fast.tw16988750205495424992 : True := .intro
theorem PySem.W.Fast.tw13773653728532159456 : True := .intro
theorem PySem.W.Fast.tw8291088105643993153 : True := .intro
theorem PySem.W.Fast.tw8234261989696474241 : True := .intro
theorem PySem.W.Fast.tw7367726952525739137 : True := .intro
theorem PySem.W.Fast.tw975822073095129313 : True := .intro
theorem PySem.W.Fast.tw3022279113174440161 : True := .intro
theorem PySem.W.Fast.tw5619692548755398913 : True := .intro
theorem PySem.W.Fast.tw15330733948896188705 : True := .intro
theorem PySem.W.Fast.tw10769630484366340417 : True := .intro
theorem PySem.W.Fast.tw3228262165534814529 : True := .intro
theorem PySem.W.Fast.tw14623670535139607905 : True := .intro
theorem PySem.W.Fast.tw17607881541543207361 : True := .intro
theorem PySem.W.Fast.tw11466473953635168705 : True := .intro
theorem PySem.W.Fast.tw767991576097017409 : True := .intro
theorem PySem.W.Fast.tw11635746483356995137 : True := .intro
theorem PySem.W.Fast.tw17355852485748691649 : True := .intro
theorem PySem.W.Fast.tw16690914577714191041 : True := .intro
theorem PySem.W.Fast.tw2717352343899157281 : True := .intro
theorem PySem.W.Fast.tw3822283934090907489 : True := .intro
theorem PySem.W.Fast.tw3197385798158192481 : True := .intro
theorem PySem.W.Fast.tw5341396375177361249 : True := .intro
theorem PySem.W.Fast.tw14517655306993313665 : True := .intro
theorem PySem.W.Fast.tw2587986043051222913 : True := .intro
theorem PySem.W.Fast.tw17147874237989627841 : True := .intro
theorem PySem.W.Fast.tw6921877458324077570 : True := .intro
theorem PySem.W.Fast.tw517831908198793218 : True := .intro
theorem PySem.W.Fast.tw3538475801577592930 : True := .intro
theorem PySem.W.Fast.tw15528674365642569858 : True := .intro
theorem PySem.W.Fast.tw15464025927916983458 : True := .intro
theorem PySem.W.Fast.tw5560501097619251362 : True := .intro
theorem PySem.W.Fast.tw2590977052773759202 : True := .intro
theorem PySem.W.Fast.tw8160895760127439202 : True := .intro
theorem PySem.W.Fast.tw4465596344206523938 : True := .intro
theorem PySem.W.Fast.tw12527667312131456578 : True := .intro
theorem PySem.W.Fast.tw6549116725510807138 : True := .intro
theorem PySem.W.Fast.tw12845081177073121890 : True := .intro
theorem PySem.W.Fast.tw13883678677051584130 : True := .intro
theorem PySem.W.Fast.tw18204164117262699202 : True := .intro
theorem PySem.W.Fast.tw15666778382695502530 : True := .intro
theorem PySem.W.Fast.tw10126896632892662466 : True := .intro
theorem PySem.W.Fast.tw16841830341470567138 : True := .intro
theorem PySem.W.Fast.tw1117887738603806466 : True := .intro
theorem PySem.W.Fast.tw4733346936874058498 : True := .intro
theorem PySem.W.Fast.tw11503396846519172898 : True := .intro
theorem PySem.W.Fast.tw1025214052081537858 : True := .intro
theorem PySem.W.Fast.tw2864347355291218818 : True := .intro
theorem PySem.W.Fast.tw5060196369434261410 : True := .intro
theorem PySem.W.Fast.tw4619337486007427042 : True := .intro
theorem PySem.W.Fast.tw8010585138713637891 : True := .intro
theorem PySem.W.Fast.tw11635473423532677251 : True := .intro
theorem PySem.W.Fast.tw6835131981787654275 : True := .intro
theorem PySem.W.Fast.tw10668477786148357347 : True := .intro
theorem PySem.W.Fast.tw16751689485461554595 : True := .intro
theorem PySem.W.Fast.tw12940399835530488355 : True := .intro
theorem PySem.W.Fast.tw5732440790224394787 : True := .intro
theorem PySem.W.Fast.tw14111210734119970403 : True := .intro
theorem PySem.W.Fast.tw3256829501511037571 : True := .intro
theorem PySem.W.Fast.tw1743762872071236323 : True := .intro
theorem PySem.W.Fast.tw16933676097035167523 : True := .intro
theorem PySem.W.Fast.tw15384462019662261187 : True := .intro
theorem PySem.W.Fast.tw6446458023346500612 : True := .intro
theorem PySem.W.Fast.tw1525927904604514532 : True := .intro
theorem PySem.W.Fast.tw14716756060601485572 : True := .intro
theorem PySem.W.Fast.tw15720953507469333764 : True := .intro
theorem PySem.W.Fast.tw18049743110435982596 : True := .intro
theorem PySem.W.Fast.tw4344502291269835012 : True := .intro
theorem PySem.W.Fast.tw8946159885965893924 : True := .intro
theorem PySem.W.Fast.tw10810983545768570180 : True := .intro
theorem PySem.W.Fast.tw10921517713738891620 : True := .intro
theorem PySem.W.Fast.tw16919810833908846948 : True := .intro
theorem PySem.W.Fast.tw16146170945611363684 : True := .intro
theorem PySem.W.Fast.tw14235994335679380836 : True := .intro
theorem PySem.W.Fast.tw7137168120262454820 : True := .intro
theorem PySem.W.Fast.tw1989454631442526788 : True := .intro
theorem PySem.W.Fast.tw514629638965917252 : True := .intro
theorem PySem.W.Fast.tw13886178356410679908 : True := .intro
theorem PySem.W.Fast.tw10470977529005758052 : True := .intro
theorem PySem.W.Fast.tw4714516173745448548 : True := .intro
theorem PySem.W.Fast.tw2330542292814364292 : True := .intro
theorem PySem.W.Fast.tw10605521471656432292 : True := .intro
theorem PySem.W.Fast.tw9107570216582222500 : True := .intro
theorem PySem.W.Fast.tw18306353070088173220 : True := .intro
theorem PySem.W.Fast.tw10418577433810462436 : True := .intro
theorem PySem.W.Fast.tw11216640210321987460 : True := .intro
theorem PySem.W.Fast.tw13667504379819285444 : True := .intro
theorem PySem.W.Fast.tw5190161283818526692 : True := .intro
theorem PySem.W.Fast.tw10125578918855159780 : True := .intro
theorem PySem.W.Fast.tw6575795571631925285 : True := .intro
theorem PySem.W.Fast.tw2804837896058056901 : True := .intro
theorem PySem.W.Fast.tw14234549041302136005 : True := .intro
theorem PySem.W.Fast.tw6059600558347567429 : True := .intro
theorem PySem.W.Fast.tw14839825449724829189 : True := .intro
theorem PySem.W.Fast.tw6895547769367715461 : True := .intro
theorem PySem.W.Fast.tw9055270465376533189 : True := .intro
theorem PySem.W.Fast.tw5873214378910782149 : True := .intro
theorem PySem.W.Fast.tw8244771156094408453 : True := .intro
theorem PySem.W.Fast.tw4558742557065654053 : True := .intro
theorem PySem.W.Fast.tw1800785732858388293 : True := .intro
theorem PySem.W.Fast.tw1287184431813611365 : True := .intro
theorem PySem.W.Fast.tw3947938396244514725 : True := .intro
theorem PySem.W.Fast.tw10321932985272903621 : True := .intro
theorem PySem.W.Fast.tw9621272890340936710 : True := .intro
theorem PySem.W.Fast.tw4578927605308888070 : True := .intro
theorem PySem.W.Fast.tw1019615406024606726 : True := .intro
theorem PySem.W.Fast.tw5687007256134585382 : True := .intro
theorem PySem.W.Fast.tw12998886335588294694 : True := .intro
theorem PySem.W.Fast.tw3627374713175698534 : True := .intro
theorem PySem.W.Fast.tw7387680043961152710 : True := .intro
theorem PySem.W.Fast.tw15792642328954662182 : True := .intro
theorem PySem.W.Fast.tw12061482066200596774 : True := .intro
theorem PySem.W.Fast.tw9671937577277103398 : True := .intro
theorem PySem.W.Fast.tw3084295868925784486 : True := .intro
theorem PySem.W.Fast.tw12960916718521108902 : True := .intro
theorem PySem.W.Fast.tw8460400467305448902 : True := .intro
theorem PySem.W.Fast.tw7819358502495283654 : True := .intro
theorem PySem.W.Fast.tw7894384070282444326 : True := .intro
theorem PySem.W.Fast.tw17859216800155351622 : True := .intro
theorem PySem.W.Fast.tw14739519110481837638 : True := .intro
theorem PySem.W.Fast.tw959389485762436838 : True := .intro
theorem PySem.W.Fast.tw8633244088075756454 : True := .intro
theorem PySem.W.Fast.tw13485585544404092838 : True := .intro
theorem PySem.W.Fast.tw4396244206285519782 : True := .intro
theorem PySem.W.Fast.tw10484659958084242374 : True := .intro
theorem PySem.W.Fast.tw2779876843852369862 : True := .intro
theorem PySem.W.Fast.tw326004286925851590 : True := .intro
theorem PySem.W.Fast.tw17178648347054886886 : True := .intro
theorem PySem.W.Fast.tw15900728461990781959 : True := .intro
theorem PySem.W.Fast.tw127377741481768967 : True := .intro
theorem PySem.W.Fast.tw7673404086021309479 : True := .intro
theorem PySem.W.Fast.tw2454840447698933895 : True := .intro
theorem PySem.W.Fast.tw2172806095176156391 : True := .intro
theorem PySem.W.Fast.tw8605331482535079175 : True := .intro
theorem PySem.W.Fast.tw14980683828182666535 : True := .intro
theorem PySem.W.Fast.tw4397904727983572295 : True := .intro
theorem PySem.W.Fast.tw15677264352858764615 : True := .intro
theorem PySem.W.Fast.tw2713487195729985991 : True := .intro
theorem PySem.W.Fast.tw6808806546468102631 : True := .intro
theorem PySem.W.Fast.tw12888859550480568839 : True := .intro
theorem PySem.W.Fast.tw18415792600637938215 : True := .intro
theorem PySem.W.Fast.tw17501749084576909127 : True := .intro
theorem PySem.W.Fast.tw10295962343322906503 : True := .intro
theorem PySem.W.Fast.tw15380511413646427015 : True := .intro
theorem PySem.W.Fast.tw7326427410322942951 : True := .intro
theorem PySem.W.Fast.tw7077331397536212104 : True := .intro
theorem PySem.W.Fast.tw15520605975543662792 : True := .intro
theorem PySem.W.Fast.tw13872538969051319560 : True := .intro
theorem PySem.W.Fast.tw13100519964941159752 : True := .intro
theorem PySem.W.Fast.tw18422460828440122728 : True := .intro
theorem PySem.W.Fast.tw18304006488552553928 : True := .intro
theorem PySem.W.Fast.tw6757186574692282856 : True := .intro
theorem PySem.W.Fast.tw15765018601404122664 : True := .intro
theorem PySem.W.Fast.tw3531309591872474696 : True := .intro
theorem PySem.W.Fast.tw13886466290398132840 : True := .intro
theorem PySem.W.Fast.tw10208353589371878088 : True := .intro
theorem PySem.W.Fast.tw7080574070499596040 : True := .intro
theorem PySem.W.Fast.tw9865163267845628776 : True := .intro
theorem PySem.W.Fast.tw2193272542199913416 : True := .intro
theorem PySem.W.Fast.tw11441625849581614056 : True := .intro
theorem PySem.W.Fast.tw1499627147953739785 : True := .intro
theorem PySem.W.Fast.tw13736176377633827849 : True := .intro
theorem PySem.W.Fast.tw12258576851565150281 : True := .intro
theorem PySem.W.Fast.tw5552256652896075849 : True := .intro
theorem PySem.W.Fast.tw8128609352475307081 : True := .intro
theorem PySem.W.Fast.tw6545178416216228969 : True := .intro
theorem PySem.W.Fast.tw7553820136712511689 : True := .intro
theorem PySem.W.Fast.tw4833298198512625897 : True := .intro
theorem PySem.W.Fast.tw410645752602841385 : True := .intro
theorem PySem.W.Fast.tw12602991179832815913 : True := .intro
theorem PySem.W.Fast.tw7324382792318854473 : True := .intro
theorem PySem.W.Fast.tw7301559719087745353 : True := .intro
theorem PySem.W.Fast.tw6882421424068296105 : True := .intro
theorem PySem.W.Fast.tw716213805315497449 : True := .intro
theorem PySem.W.Fast.tw5933023873768881705 : True := .intro
theorem PySem.W.Fast.tw12384871329775498825 : True := .intro
theorem PySem.W.Fast.tw11730240822992658057 : True := .intro
theorem PySem.W.Fast.tw13847000969832722121 : True := .intro
theorem PySem.W.Fast.tw7757253054891701961 : True := .intro
theorem PySem.W.Fast.tw13496898379884913353 : True := .intro
theorem PySem.W.Fast.tw11371296433377614569 : True := .intro
theorem PySem.W.Fast.tw3687290864907377481 : True := .intro
theorem PySem.W.Fast.tw9363920996466197385 : True := .intro
theorem PySem.W.Fast.tw5372864712903130025 : True := .intro
theorem PySem.W.Fast.tw3700830347882704809 : True := .intro
theorem PySem.W.Fast.tw4424289364127066057 : True := .intro
theorem PySem.W.Fast.tw4639054351965695945 : True := .intro
theorem PySem.W.Fast.tw453901034422787017 : True := .intro
theorem PySem.W.Fast.tw17124286576233710569 : True := .intro
theorem PySem.W.Fast.tw7535638441547171817 : True := .intro
theorem PySem.W.Fast.tw5671102733792872425 : True := .intro
theorem PySem.W.Fast.tw5282484189907349481 : True := .intro
theorem PySem.W.Fast.tw9955247181476257834 : True := .intro
theorem PySem.W.Fast.tw11486104409138430026 : True := .intro
theorem PySem.W.Fast.tw6824334888546535498 : True := .intro
theorem PySem.W.Fast.tw16693763279780092042 : True := .intro
theorem PySem.W.Fast.tw17314553207772689546 : True := .intro
theorem PySem.W.Fast.tw3698230881985540266 : True := .intro
theorem PySem.W.Fast.tw15183978141967457546 : True := .intro
theorem PySem.W.Fast.tw708401124124825962 : True := .intro
theorem PySem.W.Fast.tw1185690411323937226 : True := .intro
theorem PySem.W.Fast.tw2699280591997275690 : True := .intro
theorem PySem.W.Fast.tw1825663302371606090 : True := .intro
theorem PySem.W.Fast.tw8508261048523386538 : True := .intro
theorem PySem.W.Fast.tw1431310686803568362 : True := .intro
theorem PySem.W.Fast.tw1122850946389081866 : True := .intro
theorem PySem.W.Fast.tw8605403863008468874 : True := .intro
theorem PySem.W.Fast.tw9117567162897387434 : True := .intro
theorem PySem.W.Fast.tw12357645677363742634 : True := .intro
theorem PySem.W.Fast.tw1425527626275136458 : True := .intro
theorem PySem.W.Fast.tw12148656318052774858 : True := .intro
theorem PySem.W.Fast.tw1319101360562585546 : True := .intro
theorem PySem.W.Fast.tw15511178248352939019 : True := .intro
theorem PySem.W.Fast.tw4219639583512564779 : True := .intro
theorem PySem.W.Fast.tw284655648667838539 : True := .intro
theorem PySem.W.Fast.tw9433277977332256011 : True := .intro
theorem PySem.W.Fast.tw18278842290671856011 : True := .intro
theorem PySem.W.Fast.tw10706431809483692491 : True := .intro
theorem PySem.W.Fast.tw17758354061536430603 : True := .intro
theorem PySem.W.Fast.tw1414434308170352171 : True := .intro
theorem PySem.W.Fast.tw10961225871258683979 : True := .intro
theorem PySem.W.Fast.tw2584886879671332459 : True := .intro
theorem PySem.W.Fast.tw4070564937119029899 : True := .intro
theorem PySem.W.Fast.tw7927555519417915019 : True := .intro
theorem PySem.W.Fast.tw4974075981823345323 : True := .intro
theorem PySem.W.Fast.tw8585021790297785035 : True := .intro
theorem PySem.W.Fast.tw11122959292921708235 : True := .intro
theorem PySem.W.Fast.tw17745797455275587307 : True := .intro
theorem PySem.W.Fast.tw9087078033856114443 : True := .intro
theorem PySem.W.Fast.tw17182174620582050571 : True := .intro
theorem PySem.W.Fast.tw2165638374782626603 : True := .intro
theorem PySem.W.Fast.tw12733784611515536235 : True := .intro
theorem PySem.W.Fast.tw15674931795227971499 : True := .intro
theorem PySem.W.Fast.tw3246755690753789867 : True := .intro
theorem PySem.W.Fast.tw6872272572832661483 : True := .intro
theorem PySem.W.Fast.tw14105888220089305100 : True := .intro
theorem PySem.W.Fast.tw18109436157980959756 : True := .intro
theorem PySem.W.Fast.tw3160345438095454284 : True := .intro
theorem PySem.W.Fast.tw16324979942388921452 : True := .intro
theorem PySem.W.Fast.tw7101264606348886156 : True := .intro
theorem PySem.W.Fast.tw11179798589989332140 : True := .intro
theorem PySem.W.Fast.tw13527530997304015212 : True := .intro
theorem PySem.W.Fast.tw13059819850455907692 : True := .intro
theorem PySem.W.Fast.tw10516461702623263148 : True := .intro
theorem PySem.W.Fast.tw8491523194749625964 : True := .intro
theorem PySem.W.Fast.tw16383012402207745708 : True := .intro
theorem PySem.W.Fast.tw9660456493740956332 : True := .intro
theorem PySem.W.Fast.tw8510751844214722316 : True := .intro
theorem PySem.W.Fast.tw12119429407594462060 : True := .intro
theorem PySem.W.Fast.tw16042604423532104620 : True := .intro
theorem PySem.W.Fast.tw11790820589345857613 : True := .intro
theorem PySem.W.Fast.tw12874905257797705837 : True := .intro
theorem PySem.W.Fast.tw4467242179818527885 : True := .intro
theorem PySem.W.Fast.tw8728347643019943149 : True := .intro
theorem PySem.W.Fast.tw13647677416064035085 : True := .intro
theorem PySem.W.Fast.tw1500175390392605005 : True := .intro
theorem PySem.W.Fast.tw6807530462675313005 : True := .intro
theorem PySem.W.Fast.tw2540072239266222445 : True := .intro
theorem PySem.W.Fast.tw8409210263748573709 : True := .intro
theorem PySem.W.Fast.tw18325175271241372205 : True := .intro
theorem PySem.W.Fast.tw1307473056664738349 : True := .intro
theorem PySem.W.Fast.tw8679275783240522317 : True := .intro
theorem PySem.W.Fast.tw1802353329448914605 : True := .intro
theorem PySem.W.Fast.tw10591874721850746541 : True := .intro
theorem PySem.W.Fast.tw15544029382209814221 : True := .intro
theorem PySem.W.Fast.tw10166605372976067373 : True := .intro
theorem PySem.W.Fast.tw3322503372331507661 : True := .intro
theorem PySem.W.Fast.tw18164858152864699373 : True := .intro
theorem PySem.W.Fast.tw2944855171398163437 : True := .intro
theorem PySem.W.Fast.tw10001093193795271661 : True := .intro
theorem PySem.W.Fast.tw3836372186392012814 : True := .intro
theorem PySem.W.Fast.tw5347796839465990190 : True := .intro
theorem PySem.W.Fast.tw2883732811509384238 : True := .intro
theorem PySem.W.Fast.tw4114175079676305454 : True := .intro
theorem PySem.W.Fast.tw15897500382900577358 : True := .intro
theorem PySem.W.Fast.tw17928752454274204846 : True := .intro
theorem PySem.W.Fast.tw7677288349864025262 : True := .intro
theorem PySem.W.Fast.tw248652259713814830 : True := .intro
theorem PySem.W.Fast.tw10972329437339228494 : True := .intro
theorem PySem.W.Fast.tw15101037199536778606 : True := .intro
theorem PySem.W.Fast.tw17779403844988934510 : True := .intro
theorem PySem.W.Fast.tw12832739655617048974 : True := .intro
theorem PySem.W.Fast.tw14442283343685059182 : True := .intro
theorem PySem.W.Fast.tw10439417605105043086 : True := .intro
theorem PySem.W.Fast.tw778596117080859310 : True := .intro
theorem PySem.W.Fast.tw14681753307281495726 : True := .intro
theorem PySem.W.Fast.tw9494613188484959054 : True := .intro
theorem PySem.W.Fast.tw6690943592610675566 : True := .intro
theorem PySem.W.Fast.tw3508575792772950926 : True := .intro
theorem PySem.W.Fast.tw10601514471828674446 : True := .intro
theorem PySem.W.Fast.tw1916173783030449070 : True := .intro
theorem PySem.W.Fast.tw6778920981479975886 : True := .intro
theorem PySem.W.Fast.tw17839208733490702318 : True := .intro
theorem PySem.W.Fast.tw10124825655461387311 : True := .intro
theorem PySem.W.Fast.tw4394689167847567407 : True := .intro
theorem PySem.W.Fast.tw12896211638021731375 : True := .intro
theorem PySem.W.Fast.tw8168900419824514159 : True := .intro
theorem PySem.W.Fast.tw18343984859327283343 : True := .intro
theorem PySem.W.Fast.tw16439069762204138639 : True := .intro
theorem PySem.W.Fast.tw5299477557885549743 : True := .intro
theorem PySem.W.Fast.tw10832904170133499055 : True := .intro
theorem PySem.W.Fast.tw92671846567477455 : True := .intro
theorem PySem.W.Fast.tw9398754851645067471 : True := .intro
theorem PySem.W.Fast.tw1972402117891088623 : True := .intro
theorem PySem.W.Fast.tw17361273198774922479 : True := .intro
theorem PySem.W.Fast.tw1062438875355342127 : True := .intro
theorem PySem.W.Fast.tw3158082722539044207 : True := .intro
theorem PySem.W.Fast.tw17520241362766875023 : True := .intro
theorem PySem.W.Fast.tw9545338153265612175 : True := .intro
theorem PySem.W.Fast.tw11254276555545494031 : True := .intro
theorem PySem.W.Fast.tw3259620238684821039 : True := .intro
theorem PySem.W.Fast.tw16689077250640640623 : True := .intro
theorem PySem.W.Fast.tw7822178895932383919 : True := .intro
theorem PySem.W.Fast.tw5154501853335817967 : True := .intro
theorem PySem.W.Fast.tw8629534293419330319 : True := .intro
theorem PySem.W.Fast.tw3867117421317241647 : True := .intro
theorem PySem.W.Fast.tw5794190592318234543 : True := .intro
theorem PySem.W.Fast.tw11646998663061095375 : True := .intro
theorem PySem.W.Fast.tw4068539541579121647 : True := .intro
theorem PySem.W.Fast.tw7142881978503488624 : True := .intro
theorem PySem.W.Fast.tw9066282111061949552 : True := .intro
theorem PySem.W.Fast.tw13699001813013259440 : True := .intro
theorem PySem.W.Fast.tw14137918862709957840 : True := .intro
theorem PySem.W.Fast.tw8402955316347541744 : True := .intro
theorem PySem.W.Fast.tw9240735330143542576 : True := .intro
theorem PySem.W.Fast.tw13921961040930678064 : True := .intro
theorem PySem.W.Fast.tw16684203209459982704 : True := .intro
theorem PySem.W.Fast.tw14335721921777241552 : True := .intro
theorem PySem.W.Fast.tw14744437947733946832 : True := .intro
theorem PySem.W.Fast.tw5227309486607185392 : True := .intro
theorem PySem.W.Fast.tw6154920249332218384 : True := .intro
theorem PySem.W.Fast.tw8359197156453948976 : True := .intro
theorem PySem.W.Fast.tw1379818004373102160 : True := .intro
theorem PySem.W.Fast.tw5688967037763726992 : True := .intro
theorem PySem.W.Fast.tw2633620380009435824 : True := .intro
theorem PySem.W.Fast.tw11060674505124526832 : True := .intro
theorem PySem.W.Fast.tw691533551786092368 : True := .intro
theorem PySem.W.Fast.tw16094951066875979696 : True := .intro
theorem PySem.W.Fast.tw6490461352659514288 : True := .intro
theorem PySem.W.Fast.tw6163537433173874640 : True := .intro
theorem PySem.W.Fast.tw12101925165325279184 : True := .intro
theorem PySem.W.Fast.tw6178847751635097617 : True := .intro
theorem PySem.W.Fast.tw15771522475082090545 : True := .intro
theorem PySem.W.Fast.tw7638549102521018545 : True := .intro
theorem PySem.W.Fast.tw12610305639864205521 : True := .intro
theorem PySem.W.Fast.tw3030160286991404273 : True := .intro
theorem PySem.W.Fast.tw2277181968607754513 : True := .intro
theorem PySem.W.Fast.tw16598407366429018449 : True := .intro
theorem PySem.W.Fast.tw18179796917688662417 : True := .intro
theorem PySem.W.Fast.tw363532502362364337 : True := .intro
theorem PySem.W.Fast.tw6958795301347368433 : True := .intro
theorem PySem.W.Fast.tw13932703805685766673 : True := .intro
theorem PySem.W.Fast.tw8741060515129171505 : True := .intro
theorem PySem.W.Fast.tw958329339330905745 : True := .intro
theorem PySem.W.Fast.tw2571976786805681841 : True := .intro
theorem PySem.W.Fast.tw16046397224197986033 : True := .intro
theorem PySem.W.Fast.tw1511161299646716689 : True := .intro
theorem PySem.W.Fast.tw12441696230844078929 : True := .intro
theorem PySem.W.Fast.tw11646571969477527409 : True := .intro
theorem PySem.W.Fast.tw314910216231009169 : True := .intro
theorem PySem.W.Fast.tw3040644461921068945 : True := .intro
theorem PySem.W.Fast.tw3339244206697861073 : True := .intro
theorem PySem.W.Fast.tw6379950907909970994 : True := .intro
theorem PySem.W.Fast.tw4251948613908004018 : True := .intro
theorem PySem.W.Fast.tw12381966144263183570 : True := .intro
theorem PySem.W.Fast.tw9835285082105175378 : True := .intro
theorem PySem.W.Fast.tw15293953932427908466 : True := .intro
theorem PySem.W.Fast.tw13621058700381029746 : True := .intro
theorem PySem.W.Fast.tw15281663186685639058 : True := .intro
theorem PySem.W.Fast.tw1169122436924509618 : True := .intro
theorem PySem.W.Fast.tw9765544414284044786 : True := .intro
theorem PySem.W.Fast.tw2972153690766704242 : True := .intro
theorem PySem.W.Fast.tw15682410277794756274 : True := .intro
theorem PySem.W.Fast.tw14905734247815307186 : True := .intro
theorem PySem.W.Fast.tw977266860653134899 : True := .intro
theorem PySem.W.Fast.tw2578308756884353107 : True := .intro
theorem PySem.W.Fast.tw6998227970616260691 : True := .intro
theorem PySem.W.Fast.tw8065604800165177459 : True := .intro
theorem PySem.W.Fast.tw16709341762436033651 : True := .intro
theorem PySem.W.Fast.tw4403496898551105779 : True := .intro
theorem PySem.W.Fast.tw11179887309742348563 : True := .intro
theorem PySem.W.Fast.tw8676452226591676915 : True := .intro
theorem PySem.W.Fast.tw8369500108326498803 : True := .intro
theorem PySem.W.Fast.tw9807025303076085267 : True := .intro
theorem PySem.W.Fast.tw14542778733315609107 : True := .intro
theorem PySem.W.Fast.tw13198167543495101011 : True := .intro
theorem PySem.W.Fast.tw888219179486543539 : True := .intro
theorem PySem.W.Fast.tw6486358448231918291 : True := .intro
theorem PySem.W.Fast.tw15225765846589943507 : True := .intro
theorem PySem.W.Fast.tw3561376316755074771 : True := .intro
theorem PySem.W.Fast.tw14188956312515280787 : True := .intro
theorem PySem.W.Fast.tw5421356001180295091 : True := .intro
theorem PySem.W.Fast.tw12113425797601929171 : True := .intro
theorem PySem.W.Fast.tw2024853145276034035 : True := .intro
theorem PySem.W.Fast.tw14837766676431908884 : True := .intro
theorem PySem.W.Fast.tw342936978501452820 : True := .intro
theorem PySem.W.Fast.tw16830154168384181268 : True := .intro
theorem PySem.W.Fast.tw15588448931426300948 : True := .intro
theorem PySem.W.Fast.tw14757705143906919476 : True := .intro
theorem PySem.W.Fast.tw6441101786717136980 : True := .intro
theorem PySem.W.Fast.tw2440864368543155284 : True := .intro
theorem PySem.W.Fast.tw13125309044796101780 : True := .intro
theorem PySem.W.Fast.tw7218939235858987252 : True := .intro
theorem PySem.W.Fast.tw15997874641399989492 : True := .intro
theorem PySem.W.Fast.tw13175741766286436724 : True := .intro
theorem PySem.W.Fast.tw8904371534940540308 : True := .intro
theorem PySem.W.Fast.tw2489580394710788532 : True := .intro
theorem PySem.W.Fast.tw3421035599506304468 : True := .intro
theorem PySem.W.Fast.tw16575784089348841972 : True := .intro
theorem PySem.W.Fast.tw3510111550412668468 : True := .intro
theorem PySem.W.Fast.tw11455977278177169972 : True := .intro
theorem PySem.W.Fast.tw3260455862770417236 : True := .intro
theorem PySem.W.Fast.tw10996367057769459284 : True := .intro
theorem PySem.W.Fast.tw12938276633440270964 : True := .intro
theorem PySem.W.Fast.tw13095746747634357940 : True := .intro
theorem PySem.W.Fast.tw7230115230471305908 : True := .intro
theorem PySem.W.Fast.tw8099880570613294772 : True := .intro
theorem PySem.W.Fast.tw17116671278780970676 : True := .intro
theorem PySem.W.Fast.tw5643806122213706452 : True := .intro
theorem PySem.W.Fast.tw7775341218707300244 : True := .intro
theorem PySem.W.Fast.tw4375261914291112852 : True := .intro
theorem PySem.W.Fast.tw17109977128548990900 : True := .intro
theorem PySem.W.Fast.tw81283283614707668 : True := .intro
theorem PySem.W.Fast.tw12714432592335186965 : True := .intro
theorem PySem.W.Fast.tw16250657425337546773 : True := .intro
theorem PySem.W.Fast.tw8062083487843361941 : True := .intro
theorem PySem.W.Fast.tw9232540760832680213 : True := .intro
theorem PySem.W.Fast.tw17570997115199729973 : True := .intro
theorem PySem.W.Fast.tw8260211820281252149 : True := .intro
theorem PySem.W.Fast.tw9215791011555140917 : True := .intro
theorem PySem.W.Fast.tw14641730542444167541 : True := .intro
theorem PySem.W.Fast.tw13962781407391682965 : True := .intro
theorem PySem.W.Fast.tw13305069476645019093 : True := .intro
theorem PySem.W.Fast.tw18013995000808188405 : True := .intro
theorem PySem.W.Fast.tw6930377485320995381 : True := .intro
theorem PySem.W.Fast.tw15872168320144712373 : True := .intro
theorem PySem.W.Fast.tw16206420095128205013 : True := .intro
theorem PySem.W.Fast.tw8557844417593050933 : True := .intro
theorem PySem.W.Fast.tw9620169960398687125 : True := .intro
theorem PySem.W.Fast.tw12066483624766605237 : True := .intro
theorem PySem.W.Fast.tw15004103037222837173 : True := .intro
theorem PySem.W.Fast.tw1664334175728218069 : True := .intro
theorem PySem.W.Fast.tw10961043514810618837 : True := .intro
theorem PySem.W.Fast.tw3154295161235392566 : True := .intro
theorem PySem.W.Fast.tw980332835965145238 : True := .intro
theorem PySem.W.Fast.tw3076407900417356982 : True := .intro
theorem PySem.W.Fast.tw15776832123262725366 : True := .intro
theorem PySem.W.Fast.tw8625043600030284054 : True := .intro
theorem PySem.W.Fast.tw2299497783358712086 : True := .intro
theorem PySem.W.Fast.tw3906841355617034678 : True := .intro
theorem PySem.W.Fast.tw12067358665147932086 : True := .intro
theorem PySem.W.Fast.tw358503684517314038 : True := .intro
theorem PySem.W.Fast.tw11847565651530832374 : True := .intro
theorem PySem.W.Fast.tw11216102603350841878 : True := .intro
theorem PySem.W.Fast.tw4943334806157798966 : True := .intro
theorem PySem.W.Fast.tw16263788554066094678 : True := .intro
theorem PySem.W.Fast.tw15708296201711913686 : True := .intro
theorem PySem.W.Fast.tw833800460815106806 : True := .intro
theorem PySem.W.Fast.tw11414542259039192854 : True := .intro
theorem PySem.W.Fast.tw4773858923411636086 : True := .intro
theorem PySem.W.Fast.tw5132530307206928278 : True := .intro
theorem PySem.W.Fast.tw10605434754489425846 : True := .intro
theorem PySem.W.Fast.tw8320765894449542070 : True := .intro
theorem PySem.W.Fast.tw16062805331564283830 : True := .intro
theorem PySem.W.Fast.tw16713955124322605046 : True := .intro
theorem PySem.W.Fast.tw6930848108288058358 : True := .intro
theorem PySem.W.Fast.tw6070342897541301367 : True := .intro
theorem PySem.W.Fast.tw2577024981944435863 : True := .intro
theorem PySem.W.Fast.tw1700461304895845527 : True := .intro
theorem PySem.W.Fast.tw18214448709602441431 : True := .intro
theorem PySem.W.Fast.tw1023629926490703063 : True := .intro
theorem PySem.W.Fast.tw1320473015462271255 : True := .intro
theorem PySem.W.Fast.tw5886552797436899607 : True := .intro
theorem PySem.W.Fast.tw17596822894931971383 : True := .intro
theorem PySem.W.Fast.tw2574734266768769367 : True := .intro
theorem PySem.W.Fast.tw6782426475281997143 : True := .intro
theorem PySem.W.Fast.tw5308097379804220791 : True := .intro
theorem PySem.W.Fast.tw2246229203807670903 : True := .intro
theorem PySem.W.Fast.tw13938481538823688855 : True := .intro
theorem PySem.W.Fast.tw9358385691168958103 : True := .intro
theorem PySem.W.Fast.tw4700651065530389175 : True := .intro
theorem PySem.W.Fast.tw1111034499498730231 : True := .intro
theorem PySem.W.Fast.tw15777686016542999319 : True := .intro
theorem PySem.W.Fast.tw14571766983264578327 : True := .intro
theorem PySem.W.Fast.tw8622531835991063319 : True := .intro
theorem PySem.W.Fast.tw5080119234836947799 : True := .intro
theorem PySem.W.Fast.tw7203641834984523607 : True := .intro
theorem PySem.W.Fast.tw2741662941141595095 : True := .intro
theorem PySem.W.Fast.tw13668784405088460856 : True := .intro
theorem PySem.W.Fast.tw9784216677263274040 : True := .intro
theorem PySem.W.Fast.tw16897126641022783576 : True := .intro
theorem PySem.W.Fast.tw16929094576603980888 : True := .intro
theorem PySem.W.Fast.tw18387546081113811320 : True := .intro
theorem PySem.W.Fast.tw6829706467330024856 : True := .intro
theorem PySem.W.Fast.tw8164271981193998744 : True := .intro
theorem PySem.W.Fast.tw14316139181146620344 : True := .intro
theorem PySem.W.Fast.tw17952319585740896696 : True := .intro
theorem PySem.W.Fast.tw30055210295546360 : True := .intro
theorem PySem.W.Fast.tw7519226302970575416 : True := .intro
theorem PySem.W.Fast.tw17726397676764355256 : True := .intro
theorem PySem.W.Fast.tw16203506262480399128 : True := .intro
theorem PySem.W.Fast.tw17844942679580041016 : True := .intro
theorem PySem.W.Fast.tw4633600307149095768 : True := .intro
theorem PySem.W.Fast.tw2279897766460617560 : True := .intro
theorem PySem.W.Fast.tw14404491886146556856 : True := .intro
theorem PySem.W.Fast.tw5622436321502604216 : True := .intro
theorem PySem.W.Fast.tw17482615773609897912 : True := .intro
theorem PySem.W.Fast.tw15047932993753204825 : True := .intro
theorem PySem.W.Fast.tw6932093696789764185 : True := .intro
theorem PySem.W.Fast.tw9987433309058423129 : True := .intro
theorem PySem.W.Fast.tw7498830743433280889 : True := .intro
theorem PySem.W.Fast.tw17383227638850437561 : True := .intro
theorem PySem.W.Fast.tw15651649488147647993 : True := .intro
theorem PySem.W.Fast.tw15601687563552086521 : True := .intro
theorem PySem.W.Fast.tw9513892530604846617 : True := .intro
theorem PySem.W.Fast.tw17841582348987994713 : True := .intro
theorem PySem.W.Fast.tw15472898628316716665 : True := .intro
theorem PySem.W.Fast.tw13750801280962571897 : True := .intro
theorem PySem.W.Fast.tw16234832387132752569 : True := .intro
theorem PySem.W.Fast.tw14318282165522324153 : True := .intro
theorem PySem.W.Fast.tw7246749042178414361 : True := .intro
theorem PySem.W.Fast.tw4785446520290971417 : True := .intro
theorem PySem.W.Fast.tw6409213256654698329 : True := .intro
theorem PySem.W.Fast.tw9352227180149614425 : True := .intro
theorem PySem.W.Fast.tw15929183197342199673 : True := .intro
theorem PySem.W.Fast.tw10961476944458116985 : True := .intro
theorem PySem.W.Fast.tw4247861105463793625 : True := .intro
theorem PySem.W.Fast.tw9613302083193382938 : True := .intro
theorem PySem.W.Fast.tw12819926367106663482 : True := .intro
theorem PySem.W.Fast.tw13092584101947195642 : True := .intro
theorem PySem.W.Fast.tw5766436143260436762 : True := .intro
theorem PySem.W.Fast.tw13830772103712406810 : True := .intro
theorem PySem.W.Fast.tw9003107091464614202 : True := .intro
theorem PySem.W.Fast.tw13207319919518216506 : True := .intro
theorem PySem.W.Fast.tw130926582806953370 : True := .intro
theorem PySem.W.Fast.tw299158978202145210 : True := .intro
theorem PySem.W.Fast.tw17333759525387036122 : True := .intro
theorem PySem.W.Fast.tw1572215895371898362 : True := .intro
theorem PySem.W.Fast.tw18115936866525380090 : True := .intro
theorem PySem.W.Fast.tw16055634360719528474 : True := .intro
theorem PySem.W.Fast.tw4420831005319991930 : True := .intro
theorem PySem.W.Fast.tw5803529595932164826 : True := .intro
theorem PySem.W.Fast.tw10158404770862473978 : True := .intro
theorem PySem.W.Fast.tw15765347387690487578 : True := .intro
theorem PySem.W.Fast.tw2757782672989885242 : True := .intro
theorem PySem.W.Fast.tw15843784909727074298 : True := .intro
theorem PySem.W.Fast.tw10051093723206023162 : True := .intro
theorem PySem.W.Fast.tw8489816365766242331 : True := .intro
theorem PySem.W.Fast.tw14853569207956291707 : True := .intro
theorem PySem.W.Fast.tw6782108578628102331 : True := .intro
theorem PySem.W.Fast.tw2691280633519590683 : True := .intro
theorem PySem.W.Fast.tw3818252223809644859 : True := .intro
theorem PySem.W.Fast.tw12597708063619765659 : True := .intro
theorem PySem.W.Fast.tw10305321750178443675 : True := .intro
theorem PySem.W.Fast.tw5293304188723567099 : True := .intro
theorem PySem.W.Fast.tw13869490416423021083 : True := .intro
theorem PySem.W.Fast.tw6738669980376401467 : True := .intro
theorem PySem.W.Fast.tw14523251140277083707 : True := .intro
theorem PySem.W.Fast.tw10227157446438270555 : True := .intro
theorem PySem.W.Fast.tw2109764059499444891 : True := .intro
theorem PySem.W.Fast.tw18349836033587529371 : True := .intro
theorem PySem.W.Fast.tw18123642594197591707 : True := .intro
theorem PySem.W.Fast.tw14105931499126060731 : True := .intro
theorem PySem.W.Fast.tw13094584332839504571 : True := .intro
theorem PySem.W.Fast.tw1711495727531106299 : True := .intro
theorem PySem.W.Fast.tw6588438455952354332 : True := .intro
theorem PySem.W.Fast.tw6065006319959768092 : True := .intro
theorem PySem.W.Fast.tw2506452938492822588 : True := .intro
theorem PySem.W.Fast.tw7694162288991790140 : True := .intro
theorem PySem.W.Fast.tw16038479749036912764 : True := .intro
theorem PySem.W.Fast.tw8081513934704883868 : True := .intro
theorem PySem.W.Fast.tw15753957473989987516 : True := .intro
theorem PySem.W.Fast.tw7647262153492546876 : True := .intro
theorem PySem.W.Fast.tw14067632092877275580 : True := .intro
theorem PySem.W.Fast.tw5283528637154186684 : True := .intro
theorem PySem.W.Fast.tw8177084333425441276 : True := .intro
theorem PySem.W.Fast.tw18255095425688896060 : True := .intro
theorem PySem.W.Fast.tw8560759992781724220 : True := .intro
theorem PySem.W.Fast.tw5693686457710216860 : True := .intro
theorem PySem.W.Fast.tw3060362731839453884 : True := .intro
theorem PySem.W.Fast.tw17643843472929768220 : True := .intro
theorem PySem.W.Fast.tw7705588798745646876 : True := .intro
theorem PySem.W.Fast.tw10900888122233485244 : True := .intro
theorem PySem.W.Fast.tw8917396824374164444 : True := .intro
theorem PySem.W.Fast.tw2749082153248049148 : True := .intro
theorem PySem.W.Fast.tw2922782608592965917 : True := .intro
theorem PySem.W.Fast.tw14166098683359088989 : True := .intro
theorem PySem.W.Fast.tw12341708986526933373 : True := .intro
theorem PySem.W.Fast.tw17365322862075152829 : True := .intro
theorem PySem.W.Fast.tw13205822990692260317 : True := .intro
theorem PySem.W.Fast.tw6850252873845023229 : True := .intro
theorem PySem.W.Fast.tw10023741790080591357 : True := .intro
theorem PySem.W.Fast.tw9993579121808241181 : True := .intro
theorem PySem.W.Fast.tw17585159871120081565 : True := .intro
theorem PySem.W.Fast.tw1574220189419194013 : True := .intro
theorem PySem.W.Fast.tw3200747251645371037 : True := .intro
theorem PySem.W.Fast.tw12322531268152362781 : True := .intro
theorem PySem.W.Fast.tw4320608688975037245 : True := .intro
theorem PySem.W.Fast.tw7328468919828689757 : True := .intro
theorem PySem.W.Fast.tw5674991839691101053 : True := .intro
theorem PySem.W.Fast.tw3397412109438306205 : True := .intro
theorem PySem.W.Fast.tw15058798947882816413 : True := .intro
theorem PySem.W.Fast.tw8360689032807316477 : True := .intro
theorem PySem.W.Fast.tw13043881644068092958 : True := .intro
theorem PySem.W.Fast.tw17189156681750465566 : True := .intro
theorem PySem.W.Fast.tw13505311066156303678 : True := .intro
theorem PySem.W.Fast.tw8610180512341326142 : True := .intro
theorem PySem.W.Fast.tw11781306944942649758 : True := .intro
theorem PySem.W.Fast.tw2917343701832267262 : True := .intro
theorem PySem.W.Fast.tw418303413549160094 : True := .intro
theorem PySem.W.Fast.tw10936658022774869790 : True := .intro
theorem PySem.W.Fast.tw6596417876574171966 : True := .intro
theorem PySem.W.Fast.tw14132977005253168958 : True := .intro
theorem PySem.W.Fast.tw12663687004084345694 : True := .intro
theorem PySem.W.Fast.tw11034756445384012638 : True := .intro
theorem PySem.W.Fast.tw4161394462304509854 : True := .intro
theorem PySem.W.Fast.tw7178478521686574111 : True := .intro
theorem PySem.W.Fast.tw17883816028960671775 : True := .intro
theorem PySem.W.Fast.tw12039060544806210655 : True := .intro
theorem PySem.W.Fast.tw13186074226530199839 : True := .intro
theorem PySem.W.Fast.tw8959691897507588383 : True := .intro
theorem PySem.W.Fast.tw7572486718842754367 : True := .intro
theorem PySem.W.Fast.tw18425745752394842559 : True := .intro
theorem PySem.W.Fast.tw18215266107863390655 : True := .intro
theorem PySem.W.Fast.tw17905426360703633887 : True := .intro
theorem PySem.W.Fast.tw10763524412019213791 : True := .intro
theorem PySem.W.Fast.tw387698641392668191 : True := .intro
theorem PySem.W.Fast.tw16663027308533944863 : True := .intro
theorem PySem.W.Fast.tw11259934127186950687 : True := .intro
theorem PySem.W.Fast.tw9108203834889932383 : True := .intro
theorem PySem.W.Fast.tw6380677388315541087 : True := .intro
theorem PySem.W.Fast.tw13751852641051616895 : True := .intro
theorem PySem.W.Fast.tw6995956517221243647 : True := .intro
theorem PySem.W.Fast.tw848882989398349567 : True := .intro
theorem PySem.W.Fast.tw11846602407658087231 : True := .intro
theorem PySem.W.Fast.tw3082095302920550271 : True := .intro
theorem PySem.W.Fast.tw1441055795707138914 : True := .intro
theorem PySem.W.Fast.tw3707252937644246068 : True := .intro
theorem PySem.W.Fast.tw12313556509559376761 : True := .intro
open PySem PySem.W PyProof.Rows
set_option maxRecDepth 100000 in
set_option maxHeartbeats 0 in
theorem PySem.Challenge.cw_leansay_k24_whole_lines_by_parts_holds : PySem.Challenge.rw_leansay_k24_whole_lines_by_parts.Holds := by
  w_on; o_law; k_head; (case hw => w_witness2)
  k_fill
  refine L2.walk_bits (l := PySem.Challenge.rw_leansay_k24_whole_lines_by_parts) (n := 63) (k := 40) (x := "_law_script") (CX := L2.CX0) (sp := Mine.spLaw) rfl (by decide) rfl ⟨rfl, by decide, by decide⟩ (fun w h Y => PySem.W.kIn_of Y) ?F ?S ?C
  case F =>
    intro w mg fa h KX G hmg
    have T_common_factor : L2.TopDef (L2.KOf KX) mg "common_factor" Mine.s_common_factor := by
      dsimp only [L2.KOf]
      refine' L2.top_mk KX G ?a ?l ?c ?k; (case a => k_is); (case l => k_is); (case c => k_is); (case k => k_is)
    have T_fraction : L2.TopDef (L2.KOf KX) mg "fraction" Mine.s_fraction := by
      dsimp only [L2.KOf]
      refine' L2.top_mk KX G ?a ?l ?c ?k; (case a => k_is); (case l => k_is); (case c => k_is); (case k => k_is)
    have T_less : L2.TopDef (L2.KOf KX) mg "less" Mine.s_less := by
      dsimp only [L2.KOf]
      refine' L2.top_mk KX G ?a ?l ?c ?k; (case a => k_is); (case l => k_is); (case c => k_is); (case k => k_is)
    have T_joined : L2.TopDef (L2.KOf KX) mg "joined" Mine.s_joined := by
      dsimp only [L2.KOf]
      refine' L2.top_mk KX G ?a ?l ?c ?k; (case a => k_is); (case l => k_is); (case c => k_is); (case k => k_is)
    have T_straight : L2.TopDef (L2.KOf KX) mg "straight" Mine.s_straight := by
      dsimp only [L2.KOf]
      refine' L2.top_mk KX G ?a ?l ?c ?k; (case a => k_is); (case l => k_is); (case c => k_is); (case k => k_is)
    have T_side_by_side : L2.TopDef (L2.KOf KX) mg "side_by_side" Mine.s_side_by_side := by
      dsimp only [L2.KOf]
      refine' L2.top_mk KX G ?a ?l ?c ?k; (case a => k_is); (case l => k_is); (case c => k_is); (case k => k_is)
    have T_added : L2.TopDef (L2.KOf KX) mg "added" Mine.s_added := by
      dsimp only [L2.KOf]
      refine' L2.top_mk KX G ?a ?l ?c ?k; (case a => k_is); (case l => k_is); (case c => k_is); (case k => k_is)
    have T_turned : L2.TopDef (L2.KOf KX) mg "turned" Mine.s_turned := by
      dsimp only [L2.KOf]
      refine' L2.top_mk KX G ?a ?l ?c ?k; (case a => k_is); (case l => k_is); (case c => k_is); (case k => k_is)
    have T_raised : L2.TopDef (L2.KOf KX) mg "raised" Mine.s_raised := by
      dsimp only [L2.KOf]
      refine' L2.top_mk KX G ?a ?l ?c ?k; (case a => k_is); (case l => k_is); (case c => k_is); (case k => k_is)
    have T_greater_stretches : L2.TopDef (L2.KOf KX) mg "greater_stretches" Mine.s_greater_stretches := by
      dsimp only [L2.KOf]
      refine' L2.top_mk KX G ?a ?l ?c ?k; (case a => k_is); (case l => k_is); (case c => k_is); (case k => k_is)
    have T_greater_line : L2.TopDef (L2.KOf KX) mg "greater_line" Mine.s_greater_line := by
      dsimp only [L2.KOf]
      refine' L2.top_mk KX G ?a ?l ?c ?k; (case a => k_is); (case l => k_is); (case c => k_is); (case k => k_is)
    have T_lesser_line : L2.TopDef (L2.KOf KX) mg "lesser_line" Mine.s_lesser_line := by
      dsimp only [L2.KOf]
      refine' L2.top_mk KX G ?a ?l ?c ?k; (case a => k_is); (case l => k_is); (case c => k_is); (case k => k_is)
    have T_cut_off : L2.TopDef (L2.KOf KX) mg "cut_off" Mine.s_cut_off := by
      dsimp only [L2.KOf]
      refine' L2.top_mk KX G ?a ?l ?c ?k; (case a => k_is); (case l => k_is); (case c => k_is); (case k => k_is)
    have T_rows_of : L2.TopDef (L2.KOf KX) mg "rows_of" Mine.s_rows_of := by
      dsimp only [L2.KOf]
      refine' L2.top_mk KX G ?a ?l ?c ?k; (case a => k_is); (case l => k_is); (case c => k_is); (case k => k_is)
    have T_leaf_line : L2.TopDef (L2.KOf KX) mg "leaf_line" Mine.s_leaf_line := by
      dsimp only [L2.KOf]
      refine' L2.top_mk KX G ?a ?l ?c ?k; (case a => k_is); (case l => k_is); (case c => k_is); (case k => k_is)
    have T_fold_line : L2.TopDef (L2.KOf KX) mg "fold_line" Mine.s_fold_line := by
      dsimp only [L2.KOf]
      refine' L2.top_mk KX G ?a ?l ?c ?k; (case a => k_is); (case l => k_is); (case c => k_is); (case k => k_is)
    have T_row_line : L2.TopDef (L2.KOf KX) mg "row_line" Mine.s_row_line := by
      dsimp only [L2.KOf]
      refine' L2.top_mk KX G ?a ?l ?c ?k; (case a => k_is); (case l => k_is); (case c => k_is); (case k => k_is)
    have T_last_line : L2.TopDef (L2.KOf KX) mg "last_line" Mine.s_last_line := by
      dsimp only [L2.KOf]
      refine' L2.top_mk KX G ?a ?l ?c ?k; (case a => k_is); (case l => k_is); (case c => k_is); (case k => k_is)
    have T_must_be_without_q : L2.TopDef (L2.KOf KX) mg "must_be_without_q" Mine.s_must_be_without_q := by
      dsimp only [L2.KOf]
      refine' L2.top_mk KX G ?a ?l ?c ?k; (case a => k_is); (case l => k_is); (case c => k_is); (case k => k_is)
    have T_line_of : L2.TopDef (L2.KOf KX) mg "line_of" Mine.s_line_of := by
      dsimp only [L2.KOf]
      refine' L2.top_mk KX G ?a ?l ?c ?k; (case a => k_is); (case l => k_is); (case c => k_is); (case k => k_is)
    have T_l_cell_at : L2.TopDef (L2.KOf KX) mg "_law_cell_at" Mine.s_l_cell_at := by
      dsimp only [L2.KOf]
      refine' L2.top_mk KX G ?a ?l ?c ?k; (case a => k_is); (case l => k_is); (case c => k_is); (case k => k_is)
    have T_l_divisor : L2.TopDef (L2.KOf KX) mg "_law_divisor" Mine.s_l_divisor := by
      dsimp only [L2.KOf]
      refine' L2.top_mk KX G ?a ?l ?c ?k; (case a => k_is); (case l => k_is); (case c => k_is); (case k => k_is)
    have T_l_lowest : L2.TopDef (L2.KOf KX) mg "_law_lowest" Mine.s_l_lowest := by
      dsimp only [L2.KOf]
      refine' L2.top_mk KX G ?a ?l ?c ?k; (case a => k_is); (case l => k_is); (case c => k_is); (case k => k_is)
    have T_l_whole : L2.TopDef (L2.KOf KX) mg "_law_whole" Mine.s_l_whole := by
      dsimp only [L2.KOf]
      refine' L2.top_mk KX G ?a ?l ?c ?k; (case a => k_is); (case l => k_is); (case c => k_is); (case k => k_is)
    have T_l_is_stretch : L2.TopDef (L2.KOf KX) mg "_law_is_stretch" Mine.s_l_is_stretch := by
      dsimp only [L2.KOf]
      refine' L2.top_mk KX G ?a ?l ?c ?k; (case a => k_is); (case l => k_is); (case c => k_is); (case k => k_is)
    have T_l_is_line : L2.TopDef (L2.KOf KX) mg "_law_is_line" Mine.s_l_is_line := by
      dsimp only [L2.KOf]
      refine' L2.top_mk KX G ?a ?l ?c ?k; (case a => k_is); (case l => k_is); (case c => k_is); (case k => k_is)
    have T_l_height : L2.TopDef (L2.KOf KX) mg "_law_height" Mine.s_l_height := by
      dsimp only [L2.KOf]
      refine' L2.top_mk KX G ?a ?l ?c ?k; (case a => k_is); (case l => k_is); (case c => k_is); (case k => k_is)
    have T_l_spots : L2.TopDef (L2.KOf KX) mg "_law_spots" Mine.s_l_spots := by
      dsimp only [L2.KOf]
      refine' L2.top_mk KX G ?a ?l ?c ?k; (case a => k_is); (case l => k_is); (case c => k_is); (case k => k_is)
    have T_l_rising : L2.TopDef (L2.KOf KX) mg "_law_rising" Mine.s_l_rising := by
      dsimp only [L2.KOf]
      refine' L2.top_mk KX G ?a ?l ?c ?k; (case a => k_is); (case l => k_is); (case c => k_is); (case k => k_is)
    have T_l_tree : L2.TopDef (L2.KOf KX) mg "_law_tree" Mine.s_l_tree := by
      dsimp only [L2.KOf]
      refine' L2.top_mk KX G ?a ?l ?c ?k; (case a => k_is); (case l => k_is); (case c => k_is); (case k => k_is)
    have T_l_fold : L2.TopDef (L2.KOf KX) mg "_law_fold" Mine.s_l_fold := by
      dsimp only [L2.KOf]
      refine' L2.top_mk KX G ?a ?l ?c ?k; (case a => k_is); (case l => k_is); (case c => k_is); (case k => k_is)
    have T_l_made : L2.TopDef (L2.KOf KX) mg "_law_made" Mine.s_l_made := by
      dsimp only [L2.KOf]
      refine' L2.top_mk KX G ?a ?l ?c ?k; (case a => k_is); (case l => k_is); (case c => k_is); (case k => k_is)
    have T_l_folded : L2.TopDef (L2.KOf KX) mg "_law_folded" Mine.s_l_folded := by
      dsimp only [L2.KOf]
      refine' L2.top_mk KX G ?a ?l ?c ?k; (case a => k_is); (case l => k_is); (case c => k_is); (case k => k_is)
    have T_l_as : L2.TopDef (L2.KOf KX) mg "_law_as" Mine.s_l_as := by
      dsimp only [L2.KOf]
      refine' L2.top_mk KX G ?a ?l ?c ?k; (case a => k_is); (case l => k_is); (case c => k_is); (case k => k_is)
    have T_law : L2.TopDef (L2.KOf KX) mg "law" Mine.s_law := by
      dsimp only [L2.KOf]
      refine' L2.top_mk KX G ?a ?l ?c ?k; (case a => k_is); (case l => k_is); (case c => k_is); (case k => k_is)
    have Z_len : mg "len" = none := by
      refine' PySem.W.mg_none_of KX G ?z; (case z => k_is)
    have Z_abs : mg "abs" = none := by
      refine' PySem.W.mg_none_of KX G ?z; (case z => k_is)
    have Z_isinstance : mg "isinstance" = none := by
      refine' PySem.W.mg_none_of KX G ?z; (case z => k_is)
    have Z_bool : mg "bool" = none := by
      refine' PySem.W.mg_none_of KX G ?z; (case z => k_is)
    have Z_int : mg "int" = none := by
      refine' PySem.W.mg_none_of KX G ?z; (case z => k_is)
    have Z_tuple : mg "tuple" = none := by
      refine' PySem.W.mg_none_of KX G ?z; (case z => k_is)
    have Z_range : mg "range" = none := by
      refine' PySem.W.mg_none_of KX G ?z; (case z => k_is)
    have Z_list : mg "list" = none := by
      refine' PySem.W.mg_none_of KX G ?z; (case z => k_is)
    have Z_min : mg "min" = none := by
      refine' PySem.W.mg_none_of KX G ?z; (case z => k_is)
    have Z_max : mg "max" = none := by
      refine' PySem.W.mg_none_of KX G ?z; (case z => k_is)
    have Z_all : mg "all" = none := by
      refine' PySem.W.mg_none_of KX G ?z; (case z => k_is)
    have Z_enumerate : mg "enumerate" = none := by
      refine' PySem.W.mg_none_of KX G ?z; (case z => k_is)
    have Z_zip : mg "zip" = none := by
      refine' PySem.W.mg_none_of KX G ?z; (case z => k_is)
    have kb : kitOne (L2.KOf KX) (.type "int") (.type "bool") = some false := by
      dsimp only [L2.KOf]
      first | k_is | kit_is
    have AA : ∃ c, Mine.AllF (L2.KOf KX) mg c := by
      dsimp only [L2.KOf]
      refine' Mine.all_mk KX G ?n_ne ?n_al ?n_le ?n_no ?n_mo ?n_ls ?n_gr ?n_lr ?n_ld ?c_ne ?c_al ?c_le ?c_no ?c_mo ?c_ls ?c_gr ?c_lr ?c_ld ?h_ne ?h_al ?h_le ?h_no ?h_mo ?h_ls ?h_gr ?h_lr ?h_ld ?m_ne ?m_al ?m_le ?m_no ?m_mo ?m_ls ?m_gr ?m_lr ?m_ld ?s_ne ?s_al ?s_le ?s_no ?s_mo ?s_ls ?s_gr ?s_lr ?s_ld ?hn ?tk ?a_name ?a_part ?a_one_mo ?a_one_ls ?a_one_gr ?a_one_lr ?a_one_ld ?a_other_mo ?a_other_ls ?a_other_gr ?a_other_lr ?a_other_ld ?g_madeS_ne ?g_madeS_al ?g_madeS_le ?e_madeS ?g_piecesS_ne ?g_piecesS_al ?g_piecesS_le ?e_piecesS ?g_laid_ne ?g_laid_al ?g_laid_le ?g_laid_no ?g_laid_mo ?g_laid_ls ?g_laid_gr ?g_laid_lr ?g_laid_ld ?e_laid ?g_told_ne ?g_told_al ?g_told_le ?g_told_no ?g_told_mo ?g_told_ls ?g_told_gr ?g_told_lr ?g_told_ld ?e_told ?g_Kne_ne ?e_Kne ?g_Kal_al ?e_Kal ?g_Kle_le ?e_Kle ?g_Kno_no ?e_Kno ?g_Mno_no ?e_Mno ?g_Pno_no ?e_Pno ?g_Mfo_mo ?g_Mfo_ls ?g_Mfo_gr ?g_Mfo_lr ?g_Mfo_ld ?e_Mfo ?g_Pfo_mo ?g_Pfo_ls ?g_Pfo_gr ?g_Pfo_lr ?g_Pfo_ld ?e_Pfo ?g_F0mo_mo ?e_F0mo ?g_F0ls_ls ?e_F0ls ?g_F0gr_gr ?e_F0gr ?g_F0lr_lr ?e_F0lr ?g_F0ld_ld ?e_F0ld ?g_ile_le ?e_ile ?g_ino_no ?e_ino ?g_ifo_mo ?g_ifo_ls ?g_ifo_gr ?g_ifo_lr ?g_ifo_ld ?e_ifo ?i_ne ?i_al ?y_ne ?y_al ?y_le ?y_no ?y_mo ?y_ls ?y_gr ?y_lr ?y_ld ?z_ne ?z_al ?z_le ?z_no ?z_mo ?z_ls ?z_gr ?z_lr ?z_ld
      (case n_ne => k_is)
      (case n_al => k_is)
      (case n_le => k_is)
      (case n_no => k_is)
      (case n_mo => k_is)
      (case n_ls => k_is)
      (case n_gr => k_is)
      (case n_lr => k_is)
      (case n_ld => k_is)
      (case c_ne => refine' ⟨?q1, ?q2, ?q3, ?q4⟩; (case q1 => k_is); (case q2 => k_is); (case q3 => k_is); (case q4 => k_is))
      (case c_al => refine' ⟨?q1, ?q2, ?q3, ?q4⟩; (case q1 => k_is); (case q2 => k_is); (case q3 => k_is); (case q4 => k_is))
      (case c_le => refine' ⟨?q1, ?q2, ?q3, ?q4⟩; (case q1 => k_is); (case q2 => k_is); (case q3 => k_is); (case q4 => k_is))
      (case c_no => refine' ⟨?q1, ?q2, ?q3, ?q4⟩; (case q1 => k_is); (case q2 => k_is); (case q3 => k_is); (case q4 => k_is))
      (case c_mo => refine' ⟨?q1, ?q2, ?q3, ?q4⟩; (case q1 => k_is); (case q2 => k_is); (case q3 => k_is); (case q4 => k_is))
      (case c_ls => refine' ⟨?q1, ?q2, ?q3, ?q4⟩; (case q1 => k_is); (case q2 => k_is); (case q3 => k_is); (case q4 => k_is))
      (case c_gr => refine' ⟨?q1, ?q2, ?q3, ?q4⟩; (case q1 => k_is); (case q2 => k_is); (case q3 => k_is); (case q4 => k_is))
      (case c_lr => refine' ⟨?q1, ?q2, ?q3, ?q4⟩; (case q1 => k_is); (case q2 => k_is); (case q3 => k_is); (case q4 => k_is))
      (case c_ld => refine' ⟨?q1, ?q2, ?q3, ?q4⟩; (case q1 => k_is); (case q2 => k_is); (case q3 => k_is); (case q4 => k_is))
      (case h_ne => k_is)
      (case h_al => k_is)
      (case h_le => k_is)
      (case h_no => k_is)
      (case h_mo => k_is)
      (case h_ls => k_is)
      (case h_gr => k_is)
      (case h_lr => k_is)
      (case h_ld => k_is)
      (case m_ne => k_is)
      (case m_al => k_is)
      (case m_le => k_is)
      (case m_no => k_is)
      (case m_mo => k_is)
      (case m_ls => k_is)
      (case m_gr => k_is)
      (case m_lr => k_is)
      (case m_ld => k_is)
      (case s_ne => first | k_is | kit_is)
      (case s_al => first | k_is | kit_is)
      (case s_le => first | k_is | kit_is)
      (case s_no => first | k_is | kit_is)
      (case s_mo => first | k_is | kit_is)
      (case s_ls => first | k_is | kit_is)
      (case s_gr => first | k_is | kit_is)
      (case s_lr => first | k_is | kit_is)
      (case s_ld => first | k_is | kit_is)
      (case hn => k_is)
      (case tk => k_is)
      (case a_name => k_is)
      (case a_part => k_is)
      (case a_one_mo => k_is)
      (case a_one_ls => k_is)
      (case a_one_gr => k_is)
      (case a_one_lr => k_is)
      (case a_one_ld => k_is)
      (case a_other_mo => k_is)
      (case a_other_ls => k_is)
      (case a_other_gr => k_is)
      (case a_other_lr => k_is)
      (case a_other_ld => k_is)
      (case g_madeS_ne => k_is)
      (case g_madeS_al => k_is)
      (case g_madeS_le => k_is)
      (case e_madeS => refine' L2.funE_mk ?l ?c ?k ?fn; (case l => k_is); (case c => k_is); (case k => k_is); (case fn => k_is))
      (case g_piecesS_ne => k_is)
      (case g_piecesS_al => k_is)
      (case g_piecesS_le => k_is)
      (case e_piecesS => refine' L2.funE_mk ?l ?c ?k ?fn; (case l => k_is); (case c => k_is); (case k => k_is); (case fn => k_is))
      (case g_laid_ne => k_is)
      (case g_laid_al => k_is)
      (case g_laid_le => k_is)
      (case g_laid_no => k_is)
      (case g_laid_mo => k_is)
      (case g_laid_ls => k_is)
      (case g_laid_gr => k_is)
      (case g_laid_lr => k_is)
      (case g_laid_ld => k_is)
      (case e_laid => refine' L2.funE_mk ?l ?c ?k ?fn; (case l => k_is); (case c => k_is); (case k => k_is); (case fn => k_is))
      (case g_told_ne => k_is)
      (case g_told_al => k_is)
      (case g_told_le => k_is)
      (case g_told_no => k_is)
      (case g_told_mo => k_is)
      (case g_told_ls => k_is)
      (case g_told_gr => k_is)
      (case g_told_lr => k_is)
      (case g_told_ld => k_is)
      (case e_told => refine' L2.funE_mk ?l ?c ?k ?fn; (case l => k_is); (case c => k_is); (case k => k_is); (case fn => k_is))
      (case g_Kne_ne => k_is)
      (case e_Kne => refine' L2.funE_mk ?l ?c ?k ?fn; (case l => k_is); (case c => k_is); (case k => k_is); (case fn => k_is))
      (case g_Kal_al => k_is)
      (case e_Kal => refine' L2.funE_mk ?l ?c ?k ?fn; (case l => k_is); (case c => k_is); (case k => k_is); (case fn => k_is))
      (case g_Kle_le => k_is)
      (case e_Kle => refine' L2.funE_mk ?l ?c ?k ?fn; (case l => k_is); (case c => k_is); (case k => k_is); (case fn => k_is))
      (case g_Kno_no => k_is)
      (case e_Kno => refine' L2.funE_mk ?l ?c ?k ?fn; (case l => k_is); (case c => k_is); (case k => k_is); (case fn => k_is))
      (case g_Mno_no => k_is)
      (case e_Mno => refine' L2.funE_mk ?l ?c ?k ?fn; (case l => k_is); (case c => k_is); (case k => k_is); (case fn => k_is))
      (case g_Pno_no => k_is)
      (case e_Pno => refine' L2.funE_mk ?l ?c ?k ?fn; (case l => k_is); (case c => k_is); (case k => k_is); (case fn => k_is))
      (case g_Mfo_mo => k_is)
      (case g_Mfo_ls => k_is)
      (case g_Mfo_gr => k_is)
      (case g_Mfo_lr => k_is)
      (case g_Mfo_ld => k_is)
      (case e_Mfo => refine' L2.funE_mk ?l ?c ?k ?fn; (case l => k_is); (case c => k_is); (case k => k_is); (case fn => k_is))
      (case g_Pfo_mo => k_is)
      (case g_Pfo_ls => k_is)
      (case g_Pfo_gr => k_is)
      (case g_Pfo_lr => k_is)
      (case g_Pfo_ld => k_is)
      (case e_Pfo => refine' L2.funE_mk ?l ?c ?k ?fn; (case l => k_is); (case c => k_is); (case k => k_is); (case fn => k_is))
      (case g_F0mo_mo => k_is)
      (case e_F0mo => refine' L2.funE_mk ?l ?c ?k ?fn; (case l => k_is); (case c => k_is); (case k => k_is); (case fn => k_is))
      (case g_F0ls_ls => k_is)
      (case e_F0ls => refine' L2.funE_mk ?l ?c ?k ?fn; (case l => k_is); (case c => k_is); (case k => k_is); (case fn => k_is))
      (case g_F0gr_gr => k_is)
      (case e_F0gr => refine' L2.funE_mk ?l ?c ?k ?fn; (case l => k_is); (case c => k_is); (case k => k_is); (case fn => k_is))
      (case g_F0lr_lr => k_is)
      (case e_F0lr => refine' L2.funE_mk ?l ?c ?k ?fn; (case l => k_is); (case c => k_is); (case k => k_is); (case fn => k_is))
      (case g_F0ld_ld => k_is)
      (case e_F0ld => refine' L2.funE_mk ?l ?c ?k ?fn; (case l => k_is); (case c => k_is); (case k => k_is); (case fn => k_is))
      (case g_ile_le => k_is)
      (case e_ile => refine' L2.funE_mk ?l ?c ?k ?fn; (case l => k_is); (case c => k_is); (case k => k_is); (case fn => k_is))
      (case g_ino_no => k_is)
      (case e_ino => refine' L2.funE_mk ?l ?c ?k ?fn; (case l => k_is); (case c => k_is); (case k => k_is); (case fn => k_is))
      (case g_ifo_mo => k_is)
      (case g_ifo_ls => k_is)
      (case g_ifo_gr => k_is)
      (case g_ifo_lr => k_is)
      (case g_ifo_ld => k_is)
      (case e_ifo => refine' L2.funE_mk ?l ?c ?k ?fn; (case l => k_is); (case c => k_is); (case k => k_is); (case fn => k_is))
      (case i_ne => k_is)
      (case i_al => k_is)
      (case y_ne => k_is)
      (case y_al => k_is)
      (case y_le => k_is)
      (case y_no => k_is)
      (case y_mo => k_is)
      (case y_ls => k_is)
      (case y_gr => k_is)
      (case y_lr => k_is)
      (case y_ld => k_is)
      (case z_ne => k_is)
      (case z_al => k_is)
      (case z_le => k_is)
      (case z_no => k_is)
      (case z_mo => k_is)
      (case z_ls => k_is)
      (case z_gr => k_is)
      (case z_lr => k_is)
      (case z_ld => k_is)
    obtain ⟨c, AF⟩ := AA
    have P_NOUGHT : L2.TopTup (L2.KOf KX) mg "NOUGHT" [0, 1] := by
      dsimp only [L2.KOf]
      refine' L2.toptup_mk (ns := [0, 1]) KX G ?e ?l ?z ?v; (case e => k_is); (case l => k_is); (case z => decide); (case v => exact (.cons ⟨_, rfl⟩ (.cons ⟨_, rfl⟩ .nil)))
    have P_WHOLE : L2.TopTup (L2.KOf KX) mg "WHOLE" [1, 1] := by
      dsimp only [L2.KOf]
      refine' L2.toptup_mk (ns := [1, 1]) KX G ?e ?l ?z ?v; (case e => k_is); (case l => k_is); (case z => decide); (case v => exact (.cons ⟨_, rfl⟩ (.cons ⟨_, rfl⟩ .nil)))
    obtain ⟨f, fd, F, m⟩ := T_law.ex
    have e := hmg.symm.trans m
    cases e
    obtain ⟨oc, od, kV, doc, pm, an, cdv, ct, osl, hfd, lk, hcd⟩ := id F.ex
    subst hfd
    refine ⟨PySem.W.fnOf "law" "law" (L2.defArgs Mine.sLaw) (L2.defBody Mine.sLaw) (L2.defScope Mine.sLaw) .none kV doc pm an cdv ct, fun s u => .of_eq rfl, fun base kb' nb => ?_⟩
    have M := Mine.ms (P := PySem.Challenge.rw_leansay_k24_whole_lines_by_parts.prog) (w := w) (base := base) AF
    obtain ⟨kl, kn, kf⟩ := Mine.mks (P := PySem.Challenge.rw_leansay_k24_whole_lines_by_parts.prog) (w := w) (base := base) AF
    have GL : ∀ t, L2.MethOk PySem.Challenge.rw_leansay_k24_whole_lines_by_parts.prog w (L2.KOf KX) mg base (c.of t) "laid_out" 2 ["self"] (Mine.spLaid c t) := fun t => Mine.ok_laid (AF.laid t) M
    have dRows := Mine.ok_rowsOf T_rows_of Z_len Z_tuple M GL
    have dFactor := Mine.ok_factor (P := PySem.Challenge.rw_leansay_k24_whole_lines_by_parts.prog) (w := w) (base := base) T_common_factor Z_abs
    have dFrac := Mine.ok_fraction T_fraction dFactor
    have dLess := Mine.ok_less (P := PySem.Challenge.rw_leansay_k24_whole_lines_by_parts.prog) (w := w) (base := base) T_less
    have dJoined := Mine.ok_joined (P := PySem.Challenge.rw_leansay_k24_whole_lines_by_parts.prog) (w := w) (base := base) T_joined Z_tuple
    have dSbs := Mine.ok_side_by_side T_side_by_side Z_len dLess
    have dTurned := Mine.ok_turned (P := PySem.Challenge.rw_leansay_k24_whole_lines_by_parts.prog) (w := w) (base := base) T_turned Z_tuple
    have dRaised := Mine.ok_raised (P := PySem.Challenge.rw_leansay_k24_whole_lines_by_parts.prog) (w := w) (base := base) T_raised Z_tuple
    have dAdded := Mine.ok_added T_added dSbs dJoined
    have dGr := Mine.ok_gr T_greater_line P_NOUGHT dSbs (Mine.ok_gst T_greater_stretches dFrac) dJoined
    have dLe := Mine.ok_le T_lesser_line dTurned dGr
    have dStr := Mine.ok_straight (P := PySem.Challenge.rw_leansay_k24_whole_lines_by_parts.prog) (w := w) (base := base) T_straight P_WHOLE
    have dCut := Mine.ok_cut T_cut_off dStr dGr dLe
    have dFold := Mine.ok_foldLine T_fold_line dAdded dTurned dRaised dGr dLe dCut
    have dRow := Mine.ok_rowLine T_row_line Z_len (Mine.ok_leafLine T_leaf_line dStr) dTurned dRaised dFold
    have dLine := Mine.ok_lineOf T_line_of dRows (Mine.ok_noQ (P := PySem.Challenge.rw_leansay_k24_whole_lines_by_parts.prog) (w := w) (base := base) T_must_be_without_q) (Mine.ok_lastLine T_last_line dRow)
    have dCell := Mine.ok_cell_at (P := PySem.Challenge.rw_leansay_k24_whole_lines_by_parts.prog) (w := w) (base := base) T_l_cell_at Z_len
    have dDiv := Mine.ok_divisor (P := PySem.Challenge.rw_leansay_k24_whole_lines_by_parts.prog) (w := w) (base := base) T_l_divisor Z_abs
    have dWhole := Mine.ok_whole (P := PySem.Challenge.rw_leansay_k24_whole_lines_by_parts.prog) (w := w) (base := base) T_l_whole Z_isinstance Z_int Z_bool kb
    have dIsl := Mine.ok_is_line T_l_is_line Z_isinstance Z_tuple Z_len Z_all Z_enumerate (Mine.ok_is_stretch T_l_is_stretch Z_isinstance Z_tuple Z_len dWhole dDiv)
    have dHt := Mine.ok_height (P := PySem.Challenge.rw_leansay_k24_whole_lines_by_parts.prog) (w := w) (base := base) T_l_height
    have dTree := Mine.ok_tree T_l_tree Z_len Z_min Z_range dCell
    have dMade := Mine.ok_lmade T_l_made Z_len AF.o_ne AF.r_ne AF.o_al AF.r_al kl kn (Mine.ok_lfold (P := PySem.Challenge.rw_leansay_k24_whole_lines_by_parts.prog) (w := w) (base := base) T_l_fold kf) 24
    have dLfold := Mine.ok_lfold (P := PySem.Challenge.rw_leansay_k24_whole_lines_by_parts.prog) (w := w) (base := base) T_l_fold kf
    have dSpots := Mine.ok_spots T_l_spots Z_list Z_zip (Mine.ok_rising (P := PySem.Challenge.rw_leansay_k24_whole_lines_by_parts.prog) (w := w) (base := base) T_l_rising Z_len) (Mine.ok_lowest T_l_lowest dDiv)
    exact Mine.ok_law F Z_tuple dTree dMade dLine dIsl dLfold (Mine.ok_as24 T_l_as dIsl dSpots dHt (Mine.ok_lfolded (P := PySem.Challenge.rw_leansay_k24_whole_lines_by_parts.prog) (w := w) (base := base) T_l_folded Z_min Z_max)) kn
  case S => exact fun K H a ns hl hb hO hS => ⟨a, ns, rfl, Mine.scr_of hO hS hl hb, fun _ => rfl⟩
  case C => exact fun _ _ _ _ z => z




