import PyProof.Rows.All
import Wide.All
import OpenK.AllK
import Wide.FinOn
import Lean
import PyProof.EqAt
import PyProof.EqKinds
import PyProof.TupleCall
import KE.LcSums
import PyProof.Rows.EqDataRows
import KE.KTab
import PyProof.Rows.SumAny
import PyProof.Draws
import PyProof.EnumMake
import PyProof.ZipIter
import PyProof.WalksMore
import PyProof.P3In
import PyProof.ExcClass2
import PyProof.ExcInit
import PyProof.StationsW
import PyProof.InstStoreFacts
import KE.KRevIter
import PyProof.ListNew
import PyProof.NeKinds
import PyProof.StrBlockL
import PyProof.SetKind
import PyProof.Rows.SetFrom
import PyProof.SetRoads
import PyProof.CollectWalk
import PyProof.Rows.SortStr
import KE.KDictSum
import KE.KLcPair
import PySem.Challenge.RW_leansay_k33_lines_that_cannot_be
set_option Elab.async false
set_option linter.all false
set_option maxRecDepth 100000
/-! THE HAND LAYER, for ints, bools, texts, own classes, LISTS and tuples (index, slices, in, append, pop ..), calls, loops. Paste it whole ahead of your own text; what your proof does not reach may be deleted. -/
namespace L2
open PySem PySem.Spec PyProof.Rows

/-- a key: an int or a str -/
abbrev Key := Sum Int Str
def keyIs : Key → Value → Bool
  | .inl k, v => Value.isInt k v
  | .inr x, v => Value.isStrOf x v
def keyH (w : World) : Key → Int
  | .inl k => hashInt k
  | .inr x => hashStr w x
theorem keyIs_shape : ∀ {k : Key} {v : Value}, keyIs k v = true → (∃ i t, k = Sum.inl i ∧ v = Value.int i t) ∨ (∃ x t, k = Sum.inr x ∧ v = Value.str x t)
  | .inl i, v, h => by
    obtain ⟨t, e⟩ := Value.isInt_shape (k := i) (v := v) h
    exact .inl ⟨i, t, rfl, e⟩
  | .inr x, v, h => by
    obtain ⟨t, e⟩ := Value.isStrOf_shape (x := x) (v := v) h
    exact .inr ⟨x, t, rfl, e⟩
theorem keyIs_int (i : Int) (t : Tok) : keyIs (.inl i) (.int i t) = true := by simp [keyIs, Value.isInt]
theorem keyIs_str (x : Str) (t : Tok) : keyIs (.inr x) (.str x t) = true := by simp [keyIs, Value.isStrOf]
theorem key_ll (a b : Int) : decide ((Sum.inl a : Key) = Sum.inl b) = (a == b) := by
  by_cases e : a = b
  · subst e; simp
  · have h : ¬ (Sum.inl a : Key) = Sum.inl b := fun q => e (Sum.inl.inj q)
    rw [decide_eq_false h]
    exact (beq_eq_false_iff_ne.mpr e).symm
theorem key_rr (a b : Str) : decide ((Sum.inr a : Key) = Sum.inr b) = decide (a = b) := by
  by_cases e : a = b
  · subst e; simp
  · have h : ¬ (Sum.inr a : Key) = Sum.inr b := fun q => e (Sum.inr.inj q)
    rw [decide_eq_false h, decide_eq_false e]
theorem key_lr (a : Int) (b : Str) : decide ((Sum.inl a : Key) = Sum.inr b) = false := decide_eq_false (fun q => nomatch q)
theorem key_rl (a : Str) (b : Int) : decide ((Sum.inr a : Key) = Sum.inl b) = false := decide_eq_false (fun q => nomatch q)

def mixKind (prog : Program) (w : World) : PySem.KeyKind prog w Key where
  is := keyIs
  hash := keyH w
  inj := fun v a b ha hb => by
    rcases keyIs_shape ha with ⟨i, t, rfl, rfl⟩ | ⟨x, t, rfl, rfl⟩
    · rcases keyIs_shape hb with ⟨j, u, rfl, e⟩ | ⟨y, u, rfl, e⟩
      · injection e with e1 _; rw [e1]
      · exact nomatch e
    · rcases keyIs_shape hb with ⟨j, u, rfl, e⟩ | ⟨y, u, rfl, e⟩
      · exact nomatch e
      · injection e with e1 _; rw [e1]
  byValue := fun k v h => by
    rcases keyIs_shape h with ⟨i, t, rfl, rfl⟩ | ⟨x, t, rfl, rfl⟩ <;> rfl
  pyHash := fun hv h => by
    rcases keyIs_shape hv with ⟨i, t, rfl, rfl⟩ | ⟨x, t, rfl, rfl⟩
    · exact wpAny_pyHash_int h
    · exact wpAny_pyHash_str h
  eqBool := fun hu hv h => by
    rcases keyIs_shape hu with ⟨i, t, rfl, rfl⟩ | ⟨x, t, rfl, rfl⟩
    · rcases keyIs_shape hv with ⟨j, u, rfl, rfl⟩ | ⟨y, u, rfl, rfl⟩
      · rw [key_ll] at h; exact wpAny_eqBool_int h
      · rw [key_lr] at h; exact SeqAt.EqAt.int_str i t y u _ _ _ _ h
    · rcases keyIs_shape hv with ⟨j, u, rfl, rfl⟩ | ⟨y, u, rfl, rfl⟩
      · rw [key_rl] at h; exact SeqAt.EqAt.str_int x t j u _ _ _ _ h
      · rw [key_rr] at h; exact wpAny_eqBool_str h
  «strs» := fun k x t v h => by
    rcases keyIs_shape h with ⟨i, u, rfl, e⟩ | ⟨y, u, rfl, e⟩
    · exact nomatch e
    · injection e with e1 _
      subst e1
      cases v <;> rfl

theorem mixKind_int (prog : Program) (w : World) (i : Int) (t : Tok) : (mixKind prog w).is (.inl i) (.int i t) = true := keyIs_int i t
theorem mixKind_str (prog : Program) (w : World) (x : Str) (t : Tok) : (mixKind prog w).is (.inr x) (.str x t) = true := keyIs_str x t
end L2

namespace L2
open PySem PySem.Spec PyProof.Rows

/-- a value, without the heap -/
inductive V where
  | non | bl (b : Bool) | int (i : Int) | str (x : Str) | byt (b : Array UInt8) | flt (b : UInt64) | ref (a : Addr) | ty (n : String)
  deriving DecidableEq

def RelV : V → Value → Prop
  | .non, u => u = Value.none
  | .bl b, u => u = Value.bool b
  | .int i, u => ∃ t, u = Value.int i t
  | .str x, u => ∃ t, u = Value.str x t
  | .byt b, u => ∃ t, u = Value.bytes b t
  | .flt b, u => ∃ t, u = Value.float b t
  | .ref a, u => u = Value.ref a
  | .ty n, u => u = Value.type n

abbrev Vals : List V → List Value → Prop := Paired RelV
theorem Vals.length {xs : List V} {us : List Value} (r : Vals xs us) : xs.length = us.length := Paired.length r
theorem Vals.get : ∀ {xs : List V} {us : List Value} {i : Nat} {x : V}, Vals xs us → xs[i]? = some x → ∃ u, us[i]? = some u ∧ RelV x u
  | _, _, _, _, .nil, e => by simp at e
  | _, _, 0, _, .cons r _, e => by simp at e; subst e; exact ⟨_, rfl, r⟩
  | _, _, i + 1, x, .cons _ t, e => by
    obtain ⟨u, h1, h2⟩ := Vals.get (i := i) (x := x) t (by simpa using e)
    exact ⟨u, by simpa using h1, h2⟩
theorem Vals.append : ∀ {xs ys : List V} {us ws : List Value}, Vals xs us → Vals ys ws → Vals (xs ++ ys) (us ++ ws)
  | _, _, _, _, .nil, s => s
  | _, _, _, _, .cons r t, s => .cons r (Vals.append t s)
theorem Vals.take : ∀ {xs : List V} {us : List Value} (n : Nat), Vals xs us → Vals (xs.take n) (us.take n)
  | _, _, 0, _ => .nil
  | _, _, _ + 1, .nil => .nil
  | _, _, n + 1, .cons r t => .cons r (Vals.take n t)
theorem Vals.drop : ∀ {xs : List V} {us : List Value} (n : Nat), Vals xs us → Vals (xs.drop n) (us.drop n)
  | _, _, 0, r => r
  | _, _, _ + 1, .nil => .nil
  | _, _, n + 1, .cons _ t => Vals.drop n t

def RelO : Option V → Option Value → Prop
  | some v, some u => RelV v u
  | none, none => True
  | _, _ => False
def KV {κ : Type} : List (κ × V) → List (κ × Value) → Prop := Paired fun (p : κ × V) (q : κ × Value) => p.1 = q.1 ∧ RelV p.2 q.2

/-- a key of a dict (00_mix): an int or a text -/
def kV : Key → V
  | .inl i => .int i
  | .inr x => .str x

/-- what stands at a tracked address -/
inductive HO where
  /-- a list -/
  | lst (xs : List V)
  /-- a tuple (never changes) -/
  | tup (xs : List V)
  /-- a dict whose keys are ints and texts; one whose keys are tuples of ints and texts (the empty one is both) -/
  | dK (kvs : List (Key × V)) | dT (kvs : List (List Key × V))
  /-- a set of ints: its members, its size -/
  | set (S : Int → Bool) (n : Nat)
  /-- an instance of the class at C, its dict at dx, its attributes -/
  | ins (C dx : Addr) (fs : List (Str × V))
  /-- the dict of the instance at x -/
  | own (x : Addr)
  /-- the dict of an exception -/
  | xd (fs : List (Str × V))
  /-- a bound method, f of x -/
  | met (f x : Addr)
  /-- a range object lo, lo + 1, .. below hi -/
  | rng (lo hi : Int)
  /-- a thing that is known to the object (the script; a dict while a loop walks it): read, never written while it is so -/
  | frz (o : Obj) (u : HO)
  /-- a code object's table -/
  | tbl (ps : Array Value)
  /-- any other thing, by what is true of its one object (a def of one's own: SetO a S n := HO.ext fun h => ..) -/
  | ext (φ : Heap → Prop)

abbrev Hp := Addr → Option HO
def upd (H : Hp) (a : Addr) (o : HO) : Hp := fun b => if b = a then some o else H b
theorem upd_same {H : Hp} {a : Addr} {o : HO} : upd H a o a = some o := by unfold upd; rw [if_pos rfl]
theorem upd_ne {H : Hp} {a b : Addr} {o : HO} (h : b ≠ a) : upd H a o b = H b := by unfold upd; rw [if_neg h]
/-- two objects of different content stand apart -/
theorem ne_of {H : Hp} {a b : Addr} {o u : HO} (h : H a = some o) (h' : H b = some u) (d : o ≠ u) : a ≠ b := by
  intro e; subst e; rw [h] at h'; exact d (Option.some.inj h')
theorem ne_of_none {H : Hp} {a b : Addr} {o : HO} (h : H a = some o) (h' : H b = none) : a ≠ b := by
  intro e; subst e; rw [h] at h'; cases h'

section
variable (P : Program) (w : World)
def ObjOk (H : Hp) (h : Heap) (a : Addr) : HO → Prop
  | .lst xs => xs.length ≤ sizeLine ∧ ∃ (its : List Value) (n : Nat), Vals xs its ∧ h.get? a = some { cls := .type "list", data := .seq its.toArray n }
  | .tup xs => xs.length ≤ sizeLine ∧ ∃ its : List Value, Vals xs its ∧ IsTup h a its.toArray
  | .dK kvs => kvs.length ≤ sizeLine ∧ (a == sysModules) = false ∧ ∃ vs, KV kvs vs ∧ h.DictOf (mixKind P w) a vs
  | .dT kvs => kvs.length ≤ sizeLine ∧ (a == sysModules) = false ∧ ∃ xs : List (List Key × Addr × Value),
      Paired (fun (p : List Key × V) (q : List Key × Addr × Value) => p.1 = q.1 ∧ H q.2.1 = some (.tup (p.1.map kV)) ∧ RelV p.2 q.2.2) kvs xs ∧
      ∃ o es ep, h.get? a = some o ∧ o.ExactDict ∧ o.data = .dict es ep ∧ es.toList = xs.map (entryOfKey (tupleKind (mixKind P w))) ∧ (xs.map (·.1)).Nodup
  | .set S n => h.SetOf (intKind P w) a S n
  | .ins C dx fs => H dx = some (.own a) ∧ fs.length ≤ 1000 ∧ dx ≠ a ∧ h.get? a = some (PySem.W.instObj C dx) ∧
      ∃ mA, h.Ns1 dx mA ∧ (∀ f, RelO (fs.lookup f) (mA f)) ∧ PySem.Within mA (fs.map (·.1))
  | .own _ => ∃ o, h.get? a = some o
  | .xd fs => ∃ mA, h.Ns1 a mA ∧ ∀ f, RelO (fs.lookup f) (mA f)
  | .rng lo hi => ∃ t u v, h.get? a = some { cls := .type "range", data := .fields #[.int lo t, .int hi u, .int 1 v] }
  | .frz o u => h.get? a = some o ∧ ObjOk H h a u
  | .tbl ps => h.get? a = some { cls := .none, data := .fields ps }
  | .met f x => h.get? a = some (PySem.W.methodObj (.ref f) (.ref x))
  | .ext φ => φ h ∧ (∃ o, h.get? a = some o) ∧ ∀ h1 h2 : Heap, φ h1 → (∀ o, h1.get? a = some o → h2.get? a = some o) → φ h2
/-- the abstract heap is held -/
def HOk (H : Hp) (h : Heap) : Prop := ∀ a o, H a = some o → ObjOk P w H h a o
end

section
variable {P : Program} {w : World} {H H' : Hp} {h h' : Heap} {a : Addr} {o : HO}
theorem ObjOk.lt (x : ObjOk P w H h a o) : a < h.objs.size := by
  cases o with
  | lst xs => obtain ⟨_, _, _, _, e⟩ := x; exact Heap.lt_size e
  | tup xs => obtain ⟨_, _, _, p⟩ := x; exact p.lt
  | dK kvs => obtain ⟨_, _, _, _, o, _, _, e, _⟩ := x; exact Heap.lt_size e
  | dT kvs => obtain ⟨_, _, _, _, o, _, _, e, _⟩ := x; exact Heap.lt_size e
  | set S n => obtain ⟨o, _, _, _, e, _⟩ := x; exact Heap.lt_size e
  | ins C dx fs => obtain ⟨_, _, _, e, _⟩ := x; exact Heap.lt_size e
  | own y => obtain ⟨_, e⟩ := x; exact Heap.lt_size e
  | xd fs => obtain ⟨_, ⟨_, _, _, e, _⟩, _⟩ := x; exact Heap.lt_size e
  | rng lo hi => obtain ⟨_, _, _, e⟩ := x; exact Heap.lt_size e
  | frz ob u => obtain ⟨e, _⟩ := x; exact Heap.lt_size e
  | tbl ps => exact Heap.lt_size (show h.get? a = some _ from x)
  | met f y => exact Heap.lt_size (show h.get? a = some _ from x)
  | ext φ => obtain ⟨_, ⟨_, e⟩, _⟩ := x; exact Heap.lt_size e
theorem Paired.mapP {α β : Type} {F G : α → β → Prop} : ∀ {l₁ : List α} {l₂ : List β}, Paired F l₁ l₂ → (∀ a b, F a b → G a b) → Paired G l₁ l₂
  | _, _, .nil, _ => .nil
  | _, _, .cons r t, f => .cons (f _ _ r) (Paired.mapP t f)
/-- what an object's description leans on: its own object, its own dict, the tuples -/
theorem ObjOk.stay (x : ObjOk P w H h a o) (k : ∀ b u, (b = a ∨ H b = some (.own a)) → h.get? b = some u → h'.get? b = some u)
    (ho : ∀ b, H b = some (.own a) → H' b = some (.own a)) (ht : ∀ b xs, H b = some (.tup xs) → H' b = some (.tup xs)) : ObjOk P w H' h' a o := by
  induction o with
  | lst xs => obtain ⟨z, its, n, r, e⟩ := x; exact ⟨z, its, n, r, k _ _ (.inl rfl) e⟩
  | tup xs => obtain ⟨z, its, r, ob, e, c⟩ := x; exact ⟨z, its, r, ob, k _ _ (.inl rfl) e, c⟩
  | dK kvs => obtain ⟨z, y, vs, r, ob, es, ep, e, c⟩ := x; exact ⟨z, y, vs, r, ob, es, ep, k _ _ (.inl rfl) e, c⟩
  | dT kvs =>
    obtain ⟨z, y, xs, r, ob, es, ep, e, c⟩ := x
    exact ⟨z, y, xs, Paired.mapP r fun p q z => ⟨z.1, ht _ _ z.2.1, z.2.2⟩, ob, es, ep, k _ _ (.inl rfl) e, c⟩
  | set S n => obtain ⟨ob, es, ep, t, e, c⟩ := x; exact ⟨ob, es, ep, t, k _ _ (.inl rfl) e, c⟩
  | ins C dx fs =>
    obtain ⟨d, z, ne, e, mA, ⟨od, es, ep, e2, c⟩, r⟩ := x
    exact ⟨ho _ d, z, ne, k _ _ (.inl rfl) e, mA, ⟨od, es, ep, k _ _ (.inr d) e2, c⟩, r⟩
  | own y => obtain ⟨ob, e⟩ := x; exact ⟨ob, k _ _ (.inl rfl) e⟩
  | xd fs => obtain ⟨mA, ⟨od, es, ep, e, c⟩, r⟩ := x; exact ⟨mA, ⟨od, es, ep, k _ _ (.inl rfl) e, c⟩, r⟩
  | rng lo hi => obtain ⟨t, u, v, e⟩ := x; exact ⟨t, u, v, k _ _ (.inl rfl) e⟩
  | frz ob u ih => obtain ⟨e, q⟩ := x; exact ⟨k _ _ (.inl rfl) e, ih q⟩
  | tbl ps =>
    have e : h.get? a = some { cls := .none, data := .fields ps } := x
    show h'.get? a = some { cls := .none, data := .fields ps }
    exact k a _ (.inl rfl) e
  | met f y =>
    have e : h.get? a = some (PySem.W.methodObj (.ref f) (.ref y)) := x
    show h'.get? a = some (PySem.W.methodObj (.ref f) (.ref y))
    exact k a _ (.inl rfl) e
  | ext φ => obtain ⟨p, ⟨o, e⟩, st⟩ := x; exact ⟨st _ _ p fun o q => k _ _ (.inl rfl) q, ⟨o, k _ _ (.inl rfl) e⟩, st⟩
theorem HOk.lt (x : HOk P w H h) (e : H a = some o) : a < h.objs.size := (x a o e).lt
theorem HOk.fresh (x : HOk P w H h) (e : h.objs.size ≤ a) : H a = none := by
  cases q : H a with
  | none => rfl
  | some u => exact absurd (Nat.lt_of_lt_of_le (x.lt q) e) (Nat.lt_irrefl _)
/-- every object of the heap is kept -/
theorem HOk.kept (x : HOk P w H h) (k : ∀ b u, h.get? b = some u → h'.get? b = some u) : HOk P w H h' := fun a o e =>
  (x a o e).stay (fun b u _ q => k b u q) (fun _ q => q) fun _ _ q => q
/-- a new object is laid and tracked -/
theorem HOk.laid (x : HOk P w H h) (k : ∀ b u, h.get? b = some u → h'.get? b = some u) (hp : h.objs.size ≤ a) (new : ObjOk P w (upd H a o) h' a o) : HOk P w (upd H a o) h' := fun b u e => by
  have hn := x.fresh hp
  by_cases hb : b = a
  · subst hb; rw [upd_same] at e; cases e; exact new
  · rw [upd_ne hb] at e
    exact (x b u e).stay (fun c v _ q => k c v q) (fun c q => by rw [upd_ne (ne_of_none q hn)]; exact q) fun c xs q => by rw [upd_ne (ne_of_none q hn)]; exact q
end

/-- what may be read as u: it is u, or a known u -/
def Rd (H : Hp) (a : Addr) (u : HO) : Prop := H a = some u ∨ ∃ o, H a = some (.frz o u)
theorem Rd.ok {P : Program} {w : World} {H : Hp} {h : Heap} {a : Addr} {u : HO} (r : Rd H a u) (x : HOk P w H h) : ObjOk P w H h a u := by
  rcases r with r | ⟨o, r⟩
  · exact x a u r
  · obtain ⟨_, q⟩ := x a _ r
    exact q
/-- what may be written -/
def Mut : Option HO → Prop
  | some (.lst _) => True
  | some (.dK _) => True
  | some (.dT _) => True
  | some (.set _ _) => True
  | some (.ins _ _ _) => True
  | some (.ext _) => True
  | _ => False
section
variable {P : Program} {w : World} {H : Hp} {h h' : Heap} {x e : Addr} {o' : HO}
/-- the object at e is changed: x itself, or the dict of the instance x -/
theorem HOk.write (ok : HOk P w H h) (mu : Mut (H x)) (he : e = x ∨ H e = some (.own x)) (k : ∀ b u, b ≠ e → h.get? b = some u → h'.get? b = some u) (heo : ∃ u, h'.get? e = some u)
    (new : ObjOk P w (upd H x o') h' x o') : HOk P w (upd H x o') h' := fun b u q => by
  have nown : ∀ c y, H c = some (.own y) → c ≠ x := fun c y r z => by subst z; rw [r] at mu; exact mu
  have ntup : ∀ c xs, H c = some (.tup xs) → c ≠ x := fun c xs r z => by subst z; rw [r] at mu; exact mu
  by_cases hb : b = x
  · subst hb; rw [upd_same] at q; cases q; exact new
  · rw [upd_ne hb] at q
    by_cases hbe : b = e
    · have q' : H b = some (.own x) := by
        rcases he with z | z
        · exact absurd (hbe.trans z) hb
        · rw [hbe]; exact z
      rw [q] at q'; cases q'
      obtain ⟨v, hv⟩ := heo
      exact ⟨v, by rw [hbe]; exact hv⟩
    · refine (ok b u q).stay (fun c v hc r => k c v ?_ r) (fun c r => by rw [upd_ne (nown c b r)]; exact r) fun c xs r => by rw [upd_ne (ntup c xs r)]; exact r
      rcases hc with rfl | hc
      · exact hbe
      · rintro rfl
        rcases he with z | z
        · exact nown c b hc z
        · rw [hc] at z; cases z; exact hb rfl
end

/-! ### kept unless tracked; of the frames at fs (the callers') the slots may change (an exception that passes writes there); of the records at ex (iterators) nothing is said -/
structure Un (fs ex : List Addr) (H H' : Hp) (h h' : Heap) : Prop where
  keep : ∀ b o, h.get? b = some o → H b = none → b ∉ fs → b ∉ ex → h'.get? b = some o
  slot : ∀ b o, h.get? b = some o → H b = none → b ∈ fs → b ∉ ex → ∃ sl, h'.get? b = some { o with slots := sl }
  free : ∀ b o, h.get? b = some o → H b = none → b ∉ ex → H' b = none
  there : ∀ b o, h.get? b = some o → b ∉ ex → ∃ o', h'.get? b = some o'
  tups : ∀ b xs, H b = some (.tup xs) → H' b = some (.tup xs)
  frzs : ∀ b o u, H b = some (.frz o u) → H' b = some (.frz o u)
  tbls : ∀ b ps, H b = some (.tbl ps) → ∃ more, H' b = some (.tbl (ps ++ more))
section
variable {fs fs' ex ex' : List Addr} {H H1 H2 : Hp} {h h1 h2 h' : Heap} {a x e : Addr} {o : HO}
theorem Un.any (u : Un fs ex H H1 h h1) {b : Addr} {ob : Obj} (q : h.get? b = some ob) (n : H b = none) (hx : b ∉ ex) : ∃ sl, h1.get? b = some { ob with slots := sl } := by
  by_cases hb : b ∈ fs
  · exact u.slot b ob q n hb hx
  · exact ⟨ob.slots, u.keep b ob q n hb hx⟩
theorem Un.kept (k : ∀ b u, h.get? b = some u → h'.get? b = some u) : Un fs ex H H h h' :=
  ⟨fun b ob q _ _ _ => k b ob q, fun b ob q _ _ _ => ⟨ob.slots, k b ob q⟩, fun _ _ _ n _ => n, fun b ob q _ => ⟨ob, k b ob q⟩, fun _ _ q => q, fun _ _ _ q => q, fun _ ps q => ⟨#[], by rw [q]; simp⟩⟩
theorem Un.refl : Un fs ex H H h h := Un.kept fun _ _ q => q
theorem Un.laid (k : ∀ b u, h.get? b = some u → h'.get? b = some u) (hp : h.objs.size ≤ a) (hn : H a = none) : Un fs ex H (upd H a o) h h' where
  keep := fun b u q _ _ _ => k b u q
  slot := fun b u q _ _ _ => ⟨u.slots, k b u q⟩
  free := fun b u q n _ => by rw [upd_ne (Nat.ne_of_lt (Nat.lt_of_lt_of_le (Heap.lt_size q) hp))]; exact n
  there := fun b u q _ => ⟨u, k b u q⟩
  tups := fun b xs q => by rw [upd_ne (ne_of_none q hn)]; exact q
  frzs := fun b u xs q => by rw [upd_ne (ne_of_none q hn)]; exact q
  tbls := fun b ps q => ⟨#[], by rw [upd_ne (ne_of_none q hn), q]; simp⟩
theorem Un.write (mu : Mut (H x)) (he : e = x ∨ H e = some (.own x)) (k : ∀ b u, b ≠ e → h.get? b = some u → h'.get? b = some u) (heo : ∃ u, h'.get? e = some u) : Un fs ex H (upd H x o) h h' := by
  have hx : ∀ b, H b = none → b ≠ x := fun b n z => by subst z; rw [n] at mu; exact mu
  have hb : ∀ b, H b = none → b ≠ e := fun b n z => by
    subst z
    rcases he with r | r
    · exact hx b n r
    · rw [n] at r; cases r
  have hm : ∀ b u, H b = some u → ¬ Mut (some u) → b ≠ x := fun b u q nm z => by subst z; rw [q] at mu; exact nm mu
  refine ⟨fun b u q n _ _ => k b u (hb b n) q, fun b u q n _ _ => ⟨u.slots, k b u (hb b n) q⟩, fun b u q n _ => by rw [upd_ne (hx b n)]; exact n, fun b u q _ => ?_,
    fun b xs q => by rw [upd_ne (hm b _ q fun z => z)]; exact q, fun b u xs q => by rw [upd_ne (hm b _ q fun z => z)]; exact q, fun b ps q => ⟨#[], by rw [upd_ne (hm b _ q fun z => z), q]; simp⟩⟩
  by_cases hbe : b = e
  · subst hbe; exact heo
  · exact ⟨u, k b u hbe q⟩
end

/-! ### the heap without what is tracked -/
def trk (h : Heap) (H : Hp) : List Addr := (List.range h.objs.size).filter fun a => (H a).isSome
def hidT (h : Heap) (H : Hp) : Heap := PySem.W.hideAll h (trk h H)
theorem hidT_size (h : Heap) (H : Hp) : (hidT h H).objs.size = h.objs.size := PySem.W.hideAll_size _ _
theorem hidT_get {h : Heap} {H : Hp} {b : Addr} {o : Obj} (e : h.get? b = some o) (n : H b = none) : (hidT h H).get? b = some o :=
  PySem.W.hideAll_get _ e fun hm => by
    have q : (H b).isSome = true := (List.mem_filter.mp hm).2
    rw [n] at q; simp at q
theorem of_hidT {h : Heap} {H : Hp} {b : Addr} {o : Obj} (e : (hidT h H).get? b = some o) : h.get? b = some o ∧ H b = none := by
  have e' : h.get? b = some o := PySem.W.of_hideAll (trk h H) e
  refine ⟨e', ?_⟩
  cases q : H b with
  | none => rfl
  | some x =>
    have hm : b ∈ trk h H := List.mem_filter.mpr ⟨List.mem_range.mpr (Heap.lt_size e'), by simp [q]⟩
    have z : (hidT h H).get? b = none := PySem.W.hideAll_none (trk h H) hm
    rw [z] at e; cases e

/-! ### OpenK's ledger, filled with every new object but one -/
end L2

namespace L2
open PySem PySem.Spec PyProof.Rows

/-- the module's facts, over the base: the heap at the law's entry without what is tracked there -/
structure Mod (K : PySem.W.Frag) (mg : Str → Option Value) (base : Heap) : Prop where
  kin : K.In base
  glob : base.Ns mainGlobals mg
  blt : ∃ mb, base.Ns builtinsNs mb ∧ ∀ x : Str, x ≠ "__name__" → mb x = bootBuiltins x
  nolimit : base.NoLimit

/-- the context: a def's body (or a comprehension's block) running. base: fixed through the whole law; s₀, H₀: the entry; outer: the frames whose slots others may change (a def's callers); stack: all frames that run;
   ex: iterators that were made ahead of the entry and are walked here (a comprehension's); fn: the names whose cells were made at the entry (a def: all; a comprehension's block: its own); calm: not within an except suite; pn: pins that every state bears; xe: what is wanted of an exception that leaves the code -/
structure Cx where
  prog : Program
  w : World
  K : PySem.W.Frag
  mg : Str → Option Value
  base : Heap
  A : Around
  N : List Str
  s₀ : Shared
  H₀ : Hp
  env : Env
  outer : List Env
  stack : List Env
  ex : List Addr
  fn : Str → Bool
  calm : Bool
  pn : List (Addr × Obj)
  xe : Value → Shared → Prop
/-- the callers' frames -/
def frs (l : List Env) : List Addr := l.filterMap (·.frame)
abbrev Cx.fs (X : Cx) : List Addr := frs X.outer

def Vis (sc : Scope) (x : Str) : Prop := sc.names.lookup x = some .local ∨ sc.names.lookup x = some .cell ∨ sc.names.lookup x = some .free
def Loc (sc : Scope) (x : Str) : Prop := sc.names.lookup x = some .local ∨ sc.names.lookup x = some .cell
def Look (env : Env) (h : Heap) (m : Str → Option Value) (x : Str) (u : Value) : Prop :=
  (env.kindOf x = some .local ∧ m x = some u) ∨ ((env.kindOf x = some .cell ∨ env.kindOf x = some .free) ∧ ∃ c, env.cells.lookup x = some c ∧ h.IsCell c (some u))

structure Cx.Ok (X : Cx) : Prop where
  mod : Mod X.K X.mg X.base
  kind : X.env.scope.kind = .function
  glob : X.env.globals = mainGlobals
  blt : X.env.builtins = builtinsNs
  above : X.s₀.heap.objs.size ≤ X.env.locals
  inj : ∀ x y c, X.env.cells.lookup x = some c → X.env.cells.lookup y = some c → x = y
  has : ∀ x, (X.env.kindOf x = some .cell ∨ X.env.kindOf x = some .free) → ∃ c, X.env.cells.lookup x = some c
  cab : ∀ x c, X.fn x = true → X.env.cells.lookup x = some c → X.s₀.heap.objs.size ≤ c
  hd : X.calm = true → X.A.handled = none
  frames : X.A.frames = some X.stack
  stk : X.stack = X.outer ∨ (X.stack = X.env :: X.outer ∧ X.env.frame = some X.env.locals)
  exf : ∀ b ∈ X.ex, b ≠ X.env.locals ∧ ∀ x c, X.env.cells.lookup x = some c → c ≠ b
  bs : ∀ b o, X.base.get? b = some o → X.s₀.heap.get? b = some o ∧ X.H₀ b = none
  bsz : X.base.objs.size ≤ X.s₀.heap.objs.size
  noex : ∀ b o, X.base.get? b = some o → b ∉ X.ex
  exfs : ∀ b ∈ X.ex, b ∉ X.fs
  funs : X.s₀.heap.FunFrames X.base X.outer
  frf : ∀ b ∈ X.fs, X.H₀ b = none

structure Inv (X : Cx) (pins : List (Addr × Obj)) (σ : List (Option V)) (H : Hp) (s : Shared) : Prop where
  ok : X.Ok
  os : s.os = X.s₀.os
  bare : AllBare s.gens
  base : Un X.fs X.ex X.H₀ H X.s₀.heap s.heap
  loc : ∃ m, s.heap.Ns X.env.locals m ∧ ∀ (i : Nat) (x : Str) (v : V), X.N[i]? = some x → σ[i]? = some (some v) → Vis X.env.scope x → ∃ u, RelV v u ∧ Look X.env s.heap m x u
  cell : ∀ x c, X.env.cells.lookup x = some c → ∃ v, s.heap.IsCell c v
  free : H X.env.locals = none
  freeC : ∀ x c, X.env.cells.lookup x = some c → H c = none
  pin : ∀ p ∈ X.pn ++ pins, s.heap.get? p.1 = some p.2 ∧ H p.1 = none ∧ p.1 ≠ X.env.locals ∧ p.1 ∉ X.fs ∧ ∀ v, p.2.data ≠ .cell v
  hok : HOk X.prog X.w H s.heap
  len : σ.length = X.N.length

section
variable {X : Cx} {pins : List (Addr × Obj)} {σ : List (Option V)} {H H' : Hp} {s : Shared} {h' : Heap}

theorem Cx.Ok.nofr (ok : X.Ok) {b : Addr} {o : Obj} (e : X.base.get? b = some o) : b ∉ X.fs := fun hb => by
  have := (ok.funs.mem hb).1
  rw [e] at this; cases this
theorem Inv.bs (I : Inv X pins σ H s) : ∀ b o, X.base.get? b = some o → s.heap.get? b = some o ∧ H b = none := fun b o e =>
  ⟨I.base.keep b o (I.ok.bs b o e).1 (I.ok.bs b o e).2 (I.ok.nofr e) (I.ok.noex b o e), I.base.free b o (I.ok.bs b o e).1 (I.ok.bs b o e).2 (I.ok.noex b o e)⟩
theorem Inv.bk (I : Inv X pins σ H s) : ∀ b o, X.base.get? b = some o → s.heap.get? b = some o := fun b o e => (I.bs b o e).1
theorem Inv.mod (I : Inv X pins σ H s) : Mod X.K X.mg X.base := I.ok.mod
theorem Inv.kIn (I : Inv X pins σ H s) : X.K.In s.heap := I.ok.mod.kin.keeps I.bk
theorem Inv.lt (I : Inv X pins σ H s) : X.env.locals < s.heap.objs.size := let ⟨_, hn, _⟩ := I.loc; hn.lt
theorem Inv.sz (I : Inv X pins σ H s) : X.s₀.heap.objs.size ≤ s.heap.objs.size := Nat.le_trans I.ok.above (Nat.le_of_lt I.lt)
theorem Inv.nofs (I : Inv X pins σ H s) {a : Addr} (h : s.heap.objs.size ≤ a) : a ∉ X.fs := fun hb => by
  obtain ⟨_, o, ho, _⟩ := I.ok.funs.mem hb
  exact absurd (Nat.lt_of_lt_of_le (Heap.lt_size ho) (Nat.le_trans I.sz h)) (Nat.lt_irrefl _)
theorem Inv.cne (I : Inv X pins σ H s) : ∀ x c, X.env.cells.lookup x = some c → c ≠ X.env.locals := fun x c e z => by
  obtain ⟨v, o, ho, hd⟩ := I.cell x c e
  obtain ⟨m, ⟨o', es, ep, ho', hd', _⟩, _⟩ := I.loc
  rw [z, ho'] at ho; cases ho; rw [hd'] at hd; cases hd
theorem Inv.funs (I : Inv X pins σ H s) : s.heap.FunFrames X.base X.outer := by
  have all : ∀ (l : List Env), (∀ b ∈ frs l, b ∈ X.fs) → X.s₀.heap.FunFrames X.base l → s.heap.FunFrames X.base l := by
    intro l
    induction l with
    | nil => intro _ _; trivial
    | cons env r ih =>
      intro hs hl
      obtain ⟨hk, ⟨L, o, hf, hn, ho, hd⟩, hr⟩ := hl
      have hL : L ∈ X.fs := hs L (by unfold frs; rw [List.filterMap_cons, hf]; exact List.mem_cons_self)
      obtain ⟨sl, e⟩ := I.base.slot L o ho (I.ok.frf L hL) hL fun z => I.ok.exfs L z hL
      exact ⟨hk, ⟨L, _, hf, hn, e, hd⟩, ih (fun b hb => hs b (by unfold frs; rw [List.filterMap_cons, hf]; exact List.mem_cons_of_mem _ hb)) hr⟩
  exact all X.outer (fun _ hb => hb) I.ok.funs

/-- the frames that run, for a call -/
theorem Inv.stack (I : Inv X pins σ H s) : s.heap.FunFrames X.base X.stack := by
  rcases I.ok.stk with e | ⟨e, hf⟩
  · rw [e]; exact I.funs
  · rw [e]
    obtain ⟨m, hn, _⟩ := I.loc
    refine .cons (by rw [I.ok.kind]; decide) hf hn ?_ I.funs
    exact Heap.get?_none_of_le (Nat.le_trans I.ok.bsz I.ok.above)
theorem Inv.stkSub (I : Inv X pins σ H s) : ∀ b ∈ frs X.stack, b ∈ X.env.locals :: X.fs := fun b hb => by
  rcases I.ok.stk with e | ⟨e, hf⟩
  · rw [e] at hb; exact List.mem_cons_of_mem _ hb
  · rw [e] at hb
    unfold frs at hb
    rw [List.filterMap_cons, hf] at hb
    exact hb
theorem Inv.stkFree (I : Inv X pins σ H s) : ∀ b ∈ frs X.stack, H b = none := fun b hb => by
  rcases List.mem_cons.mp (I.stkSub b hb) with e | hb
  · rw [e]; exact I.free
  · obtain ⟨_, o, ho, _⟩ := I.ok.funs.mem hb
    exact I.base.free b o ho (I.ok.frf b hb) fun z => I.ok.exfs b z hb

/-- THE STEP: the untracked objects but the frame and the records at ch are kept (the callers' frames up to slots), the frame's map is kept, the new abstract heap is held -/
theorem Inv.step {g' : Array GenState} {t' : Nat} {d' : Drawn} {ch : List Addr} (I : Inv X pins σ H s)
    (hch : ∀ b ∈ ch, (b ∈ X.ex ∨ X.s₀.heap.objs.size ≤ b) ∧ b ≠ X.env.locals ∧ (∀ x c, X.env.cells.lookup x = some c → c ≠ b) ∧ ∀ p ∈ X.pn ++ pins, p.1 ≠ b)
    (keep : ∀ b o, b ≠ X.env.locals → b ∉ X.fs → b ∉ ch → s.heap.get? b = some o → H b = none → h'.get? b = some o)
    (slot : ∀ b o, b ≠ X.env.locals → b ∈ X.fs → b ∉ ch → s.heap.get? b = some o → H b = none → ∃ sl, h'.get? b = some { o with slots := sl }) (free : ∀ b o, b ∉ ch → s.heap.get? b = some o → H b = none → H' b = none)
    (there : ∀ b o, b ∉ ch → s.heap.get? b = some o → ∃ o', h'.get? b = some o')
    (tups : ∀ b xs, H b = some (.tup xs) → H' b = some (.tup xs)) (frzs : ∀ b o u, H b = some (.frz o u) → H' b = some (.frz o u)) (tbls : ∀ b ps, H b = some (.tbl ps) → ∃ more, H' b = some (.tbl (ps ++ more)))
    (ns : ∀ m, s.heap.Ns X.env.locals m → h'.Ns X.env.locals m) (hok : HOk X.prog X.w H' h') (hg : AllBare g') :
    Inv X pins σ H' { s with heap := h', gens := g', drawn := d', toks := t' } := by
  have neL : ∀ b o, X.s₀.heap.get? b = some o → b ≠ X.env.locals := fun b o e => Nat.ne_of_lt (Nat.lt_of_lt_of_le (Heap.lt_size e) I.ok.above)
  have neC : ∀ b o, X.s₀.heap.get? b = some o → b ∉ X.ex → b ∉ ch := fun b o e hx hb => by
    rcases (hch b hb).1 with z | z
    · exact hx z
    · exact absurd (Nat.lt_of_lt_of_le (Heap.lt_size e) z) (Nat.lt_irrefl _)
  have cellK : ∀ x c, X.env.cells.lookup x = some c → ∀ v, s.heap.IsCell c v → h'.IsCell c v := fun x c e v ⟨o, ho, hd⟩ => by
    have nch : c ∉ ch := fun z => (hch c z).2.2.1 x c e rfl
    by_cases hc : c ∈ X.fs
    · obtain ⟨sl, q⟩ := slot c o (I.cne x c e) hc nch ho (I.freeC x c e)
      exact ⟨_, q, hd⟩
    · exact ⟨o, keep c o (I.cne x c e) hc nch ho (I.freeC x c e), hd⟩
  refine ⟨I.ok, I.os, hg, ⟨fun b o e n hb hx => ?_, fun b o e n hb hx => ?_, fun b o e n hx => ?_, fun b o e hx => ?_, fun b xs e => tups b xs (I.base.tups b xs e), fun b o xs e => frzs b o xs (I.base.frzs b o xs e), fun b ps e => ?_⟩, ?_, fun x c e => ?_, ?_, fun x c e => ?_, fun p hp => ?_, hok, I.len⟩
  · exact keep b o (neL b o e) hb (neC b o e hx) (I.base.keep b o e n hb hx) (I.base.free b o e n hx)
  · obtain ⟨sl, e1⟩ := I.base.slot b o e n hb hx
    obtain ⟨sl', e2⟩ := slot b _ (neL b o e) hb (neC b o e hx) e1 (I.base.free b o e n hx)
    exact ⟨sl', e2⟩
  · obtain ⟨o', e1⟩ := I.base.there b o e hx
    exact free b o' (neC b o e hx) e1 (I.base.free b o e n hx)
  · obtain ⟨o', e1⟩ := I.base.there b o e hx
    exact there b o' (neC b o e hx) e1
  · obtain ⟨m1, e1⟩ := I.base.tbls b ps e
    obtain ⟨m2, e2⟩ := tbls b _ e1
    exact ⟨m1 ++ m2, by rw [e2, Array.append_assoc]⟩
  · obtain ⟨m, hn, hl⟩ := I.loc
    refine ⟨m, ns m hn, fun i x v e1 e2 e3 => ?_⟩
    obtain ⟨u, r, l⟩ := hl i x v e1 e2 e3
    refine ⟨u, r, ?_⟩
    rcases l with l | ⟨k, c, e, z⟩
    · exact .inl l
    · exact .inr ⟨k, c, e, cellK x c e _ z⟩
  · obtain ⟨v, z⟩ := I.cell x c e
    exact ⟨v, cellK x c e v z⟩
  · obtain ⟨m, ⟨o, _, _, ho, _⟩, _⟩ := I.loc
    exact free _ o (fun z => (hch _ z).2.1 rfl) ho I.free
  · obtain ⟨v, o, ho, hd⟩ := I.cell x c e
    exact free c o (fun z => (hch c z).2.2.1 x c e rfl) ho (I.freeC x c e)
  · obtain ⟨e, n, ne, nf, d⟩ := I.pin p hp
    have nch : p.1 ∉ ch := fun z => (hch p.1 z).2.2.2 p hp rfl
    exact ⟨keep p.1 p.2 ne nf nch e n, free p.1 p.2 nch e n, ne, nf, d⟩
/-- .. where the frame's own object is kept too -/
theorem Inv.un {t' : Nat} (I : Inv X pins σ H s) (u : Un X.fs [] H H' s.heap h') (hok : HOk X.prog X.w H' h') : Inv X pins σ H' { s with heap := h', toks := t' } := by
  obtain ⟨m, ⟨o, es, ep, ho, r⟩, _⟩ := id I.loc
  obtain ⟨sl, hL⟩ := u.any ho I.free (by simp)
  exact I.step (g' := s.gens) (d' := s.drawn) (ch := []) (fun _ z => nomatch z) (fun b o _ hb _ e n => u.keep b o e n hb (by simp)) (fun b o _ hb _ e n => u.slot b o e n hb (by simp)) (fun b o _ e n => u.free b o e n (by simp)) (fun b o _ e => u.there b o e (by simp)) u.tups u.frzs u.tbls (fun m' hm => by
    obtain ⟨o', es', ep', ho', r'⟩ := hm
    rw [ho] at ho'; cases ho'
    exact ⟨_, es', ep', hL, r'⟩) hok I.bare
/-- behind a call (or a comprehension's block): the slots of this frame may have changed too, the records at ch may have turned -/
theorem Inv.call {g' : Array GenState} {t' : Nat} {d' : Drawn} {ch : List Addr} (I : Inv X pins σ H s) (u : Un (frs X.stack) ch H H' s.heap h') (hok : HOk X.prog X.w H' h') (hg : AllBare g')
    (hch : ∀ b ∈ ch, (b ∈ X.ex ∨ X.s₀.heap.objs.size ≤ b) ∧ b ≠ X.env.locals ∧ (∀ x c, X.env.cells.lookup x = some c → c ≠ b) ∧ ∀ p ∈ X.pn ++ pins, p.1 ≠ b) :
    Inv X pins σ H' { s with heap := h', gens := g', drawn := d', toks := t' } := by
  obtain ⟨m, ⟨o, es, ep, ho, r⟩, _⟩ := id I.loc
  obtain ⟨sl, hL⟩ := u.any ho I.free fun z => (hch _ z).2.1 rfl
  exact I.step (ch := ch) hch (fun b o hL hb hc e n => u.keep b o e n (fun z => (List.mem_cons.mp (I.stkSub b z)).elim hL hb) hc) (fun b o _ _ hc e n => u.any e n hc) (fun b o hc e n => u.free b o e n hc) (fun b o hc e => u.there b o e hc) u.tups u.frzs u.tbls (fun m' hm => by
    obtain ⟨o', es', ep', ho', r'⟩ := hm
    rw [ho] at ho'; cases ho'
    exact ⟨_, es', ep', hL, r'⟩) hok hg
/-- an untracked record of ours (an iterator) has turned -/
theorem Inv.turned {t' : Nat} {it : Addr} (I : Inv X pins σ H s) (k : ∀ b o, b ≠ it → s.heap.get? b = some o → h'.get? b = some o) (hn : H it = none) (hL : it ≠ X.env.locals)
    (h1 : it ∈ X.ex ∨ X.s₀.heap.objs.size ≤ it) (h2 : ∀ x c, X.env.cells.lookup x = some c → c ≠ it) (h3 : ∀ p ∈ X.pn ++ pins, p.1 ≠ it) : Inv X pins σ H { s with heap := h', toks := t' } := by
  have nit : ∀ b u, H b = some u → b ≠ it := fun b u e z => by rw [z, hn] at e; cases e
  refine I.step (g' := s.gens) (d' := s.drawn) (ch := [it]) (fun b hb => ?_) (fun b o _ _ hc e _ => k b o (fun z => hc (by simp [z])) e) (fun b o _ _ hc e _ => ⟨o.slots, k b o (fun z => hc (by simp [z])) e⟩) (fun _ _ _ _ n => n)
    (fun b o hc e => ⟨o, k b o (fun z => hc (by simp [z])) e⟩) (fun _ _ e => e) (fun _ _ _ e => e) (fun b ps e => ⟨#[], by rw [e]; simp⟩) (fun m hm => ?_) (fun b u e => ?_) I.bare
  · have e : b = it := by simpa using hb
    subst e
    exact ⟨h1, hL, h2, h3⟩
  · obtain ⟨o, es, ep, ho, r⟩ := hm
    exact ⟨o, es, ep, k _ o (Ne.symm hL) ho, r⟩
  · refine (I.hok b u e).stay (fun c v hc q => k c v ?_ q) (fun _ q => q) fun _ _ q => q
    rcases hc with z | z
    · rw [z]; exact nit b u e
    · exact nit c _ z
theorem Inv.tok (I : Inv X pins σ H s) (t : Nat) : Inv X pins σ H { s with toks := t } := I.un (h' := s.heap) (t' := t) Un.refl I.hok
/-- all objects kept -/
theorem Inv.kept {t' : Nat} (I : Inv X pins σ H s) (k : ∀ b u, s.heap.get? b = some u → h'.get? b = some u) : Inv X pins σ H { s with heap := h', toks := t' } := I.un (Un.kept k) (I.hok.kept k)
/-- a new object laid and tracked -/
theorem Inv.laid {a : Addr} {o : HO} {t' : Nat} (I : Inv X pins σ H s) (k : ∀ b u, s.heap.get? b = some u → h'.get? b = some u) (hp : s.heap.objs.size ≤ a) (new : ObjOk X.prog X.w (upd H a o) h' a o) :
    Inv X pins σ (upd H a o) { s with heap := h', toks := t' } := I.un (Un.laid k hp (I.hok.fresh hp)) (I.hok.laid k hp new)
/-- an object written -/
theorem Inv.write {x e : Addr} {o : HO} {t' : Nat} (I : Inv X pins σ H s) (mu : Mut (H x)) (he : e = x ∨ H e = some (.own x)) (k : ∀ b u, b ≠ e → s.heap.get? b = some u → h'.get? b = some u) (heo : ∃ u, h'.get? e = some u)
    (new : ObjOk X.prog X.w (upd H x o) h' x o) : Inv X pins σ (upd H x o) { s with heap := h', toks := t' } := I.un (Un.write mu he k heo) (I.hok.write mu he k heo new)
theorem Inv.pins_of {pins' : List (Addr × Obj)} (I : Inv X pins σ H s) (h : ∀ p ∈ pins', s.heap.get? p.1 = some p.2 ∧ H p.1 = none ∧ p.1 ≠ X.env.locals ∧ p.1 ∉ X.fs ∧ ∀ v, p.2.data ≠ .cell v) : Inv X pins' σ H s :=
  ⟨I.ok, I.os, I.bare, I.base, I.loc, I.cell, I.free, I.freeC, fun p hp => (List.mem_append.mp hp).elim (fun z => I.pin p (List.mem_append_left _ z)) (h p), I.hok, I.len⟩

theorem nodup_ix {N : List Str} (hN : N.Nodup) {i j : Nat} {x : Str} (a : N[i]? = some x) (b : N[j]? = some x) : i = j := by
  obtain ⟨h1, e1⟩ := List.getElem?_eq_some_iff.mp a
  obtain ⟨h2, e2⟩ := List.getElem?_eq_some_iff.mp b
  exact (List.getElem_inj hN).mp (e1.trans e2.symm)

/-- a name is stored; what changed -/
theorem store_ok2 {M : Model} {A : Around} {E : Value → Shared → Prop} {i : Nat} {x : Str} {v : V} {u : Value} {Q : Unit → Shared → Prop} (I : Inv X pins σ H s) (hN : X.N.Nodup) (hi : X.N[i]? = some x) (hx : Loc X.env.scope x) (r : RelV v u)
    (h : ∀ s', Inv X pins (σ.set i (some v)) H s' → (∃ a, Heap.SameBut a s.heap s'.heap ∧ (a = X.env.locals ∨ X.env.cells.lookup x = some a)) → Q () s') (hf : X.fn x = true ∨ X.env.scope.names.lookup x = some .local := by first | exact .inl rfl | exact .inr rfl | assumption) : wpAny M A (storeName X.env x u) Q E s := by
  obtain ⟨m, hn, hl⟩ := id I.loc
  have hcls : (X.env.scope.kind == .class || (X.env.scope.kind == .module && X.env.locals != X.env.globals)) = false := by rw [I.ok.kind]; rfl
  have hiσ : i < σ.length := by rw [I.len]; exact (List.getElem?_eq_some_iff.mp hi).1
  have cne := I.cne
  have tracked : ∀ {a : Addr} {h' : Heap}, (∃ o, s.heap.get? a = some o ∧ H a = none) → Heap.SameBut a s.heap h' → HOk X.prog X.w H h' := fun {a h'} ha hs b ob e => by
    obtain ⟨_, _, hfree⟩ := ha
    refine (I.hok b ob e).stay (fun c w' hc q => (hs.2 c ?_).trans q) (fun _ q => q) fun _ _ q => q
    rintro rfl
    rcases hc with rfl | hc
    · rw [hfree] at e; cases e
    · rw [hfree] at hc; cases hc
  rcases hx with hk | hk
  · refine wpAny_storeName_local hk hn (fun h' hn' hs => ?_) hcls
    obtain ⟨oL, _, _, hoL, _⟩ := id hn
    refine h _ ⟨I.ok, I.os, I.bare, ⟨fun b o e n hb hx => ?_, fun b o e n hb hx => ?_, I.base.free, fun b o e hx => ?_, I.base.tups, I.base.frzs, I.base.tbls⟩, ⟨_, hn', fun j y v' e1 e2 e3 => ?_⟩, fun y c e => ?_, I.free, I.freeC, fun p hp => ?_, tracked ⟨oL, hoL, I.free⟩ hs, by simpa using I.len⟩ ⟨_, hs, .inl rfl⟩
    · exact (hs.2 b (Nat.ne_of_lt (Nat.lt_of_lt_of_le (Heap.lt_size e) I.ok.above))).trans (I.base.keep b o e n hb hx)
    · obtain ⟨sl, e1⟩ := I.base.slot b o e n hb hx
      exact ⟨sl, (hs.2 b (Nat.ne_of_lt (Nat.lt_of_lt_of_le (Heap.lt_size e) I.ok.above))).trans e1⟩
    · obtain ⟨o', e1⟩ := I.base.there b o e hx
      exact ⟨o', (hs.2 b (Nat.ne_of_lt (Nat.lt_of_lt_of_le (Heap.lt_size e) I.ok.above))).trans e1⟩
    · by_cases hj : j = i
      · subst hj
        rw [hi] at e1; cases e1
        rw [List.getElem?_set_self hiσ] at e2
        cases e2
        exact ⟨u, r, .inl ⟨hk, by simp⟩⟩
      · rw [List.getElem?_set_ne (Ne.symm hj)] at e2
        obtain ⟨u', r', q⟩ := hl j y v' e1 e2 e3
        refine ⟨u', r', ?_⟩
        rcases q with ⟨k, e⟩ | ⟨k, c, e, z⟩
        · refine .inl ⟨k, ?_⟩
          have : y ≠ x := fun e => hj (nodup_ix hN e1 (e ▸ hi))
          simp [this, e]
        · exact .inr ⟨k, c, e, z.sameBut hs (cne y c e)⟩
    · obtain ⟨w', z⟩ := I.cell y c e
      exact ⟨w', z.sameBut hs (cne y c e)⟩
    · obtain ⟨e, n, ne, nf, d⟩ := I.pin p hp
      exact ⟨(hs.2 p.1 ne).trans e, n, ne, nf, d⟩
  · have hfn : X.fn x = true := by
      rcases hf with z | z
      · exact z
      · rw [z] at hk; cases hk
    obtain ⟨c, hc⟩ := I.ok.has x (.inl hk)
    obtain ⟨w', z⟩ := I.cell x c hc
    refine wpAny_storeName_cell I.ok.kind hk hc z (fun h' hc' hs => ?_)
    obtain ⟨oc, hoc, hocd⟩ := id z
    refine h { s with heap := h' } ⟨I.ok, I.os, I.bare, ⟨fun b o e n hb hx => ?_, fun b o e n hb hx => ?_, I.base.free, fun b o e hx => ?_, I.base.tups, I.base.frzs, I.base.tbls⟩, ⟨m, hn.sameBut hs (Ne.symm (cne x c hc)), fun j y v' e1 e2 e3 => ?_⟩, fun y c' e => ?_, I.free, I.freeC, fun p hp => ?_, tracked ⟨oc, hoc, I.freeC x c hc⟩ hs, by simpa using I.len⟩ ⟨c, hs, .inr hc⟩
    · exact (hs.2 b (Nat.ne_of_lt (Nat.lt_of_lt_of_le (Heap.lt_size e) (I.ok.cab x c hfn hc)))).trans (I.base.keep b o e n hb hx)
    · obtain ⟨sl, e1⟩ := I.base.slot b o e n hb hx
      exact ⟨sl, (hs.2 b (Nat.ne_of_lt (Nat.lt_of_lt_of_le (Heap.lt_size e) (I.ok.cab x c hfn hc)))).trans e1⟩
    · obtain ⟨o', e1⟩ := I.base.there b o e hx
      exact ⟨o', (hs.2 b (Nat.ne_of_lt (Nat.lt_of_lt_of_le (Heap.lt_size e) (I.ok.cab x c hfn hc)))).trans e1⟩
    · by_cases hj : j = i
      · subst hj
        rw [hi] at e1; cases e1
        rw [List.getElem?_set_self hiσ] at e2
        cases e2
        exact ⟨u, r, .inr ⟨.inl hk, c, hc, hc'⟩⟩
      · rw [List.getElem?_set_ne (Ne.symm hj)] at e2
        obtain ⟨u', r', q⟩ := hl j y v' e1 e2 e3
        refine ⟨u', r', ?_⟩
        rcases q with q | ⟨k, c', e, z'⟩
        · exact .inl q
        · refine .inr ⟨k, c', e, z'.sameBut hs ?_⟩
          rintro rfl
          exact hj (nodup_ix hN e1 (I.ok.inj _ _ _ e hc ▸ hi))
    · by_cases hcc : c' = c
      · subst hcc; exact ⟨_, hc'⟩
      · obtain ⟨w2, z2⟩ := I.cell y c' e
        exact ⟨w2, z2.sameBut hs hcc⟩
    · obtain ⟨e, n, ne, nf, d⟩ := I.pin p hp
      refine ⟨(hs.2 p.1 ?_).trans e, n, ne, nf, d⟩
      intro q
      rw [q, hoc] at e
      have q' : oc = p.2 := Option.some.inj e
      exact d w' (by rw [← q']; exact hocd)
theorem store_ok {M : Model} {A : Around} {E : Value → Shared → Prop} {i : Nat} {x : Str} {v : V} {u : Value} {Q : Unit → Shared → Prop} (I : Inv X pins σ H s) (hN : X.N.Nodup) (hi : X.N[i]? = some x) (hx : Loc X.env.scope x) (r : RelV v u)
    (h : ∀ s', Inv X pins (σ.set i (some v)) H s' → Q () s') (hf : X.fn x = true ∨ X.env.scope.names.lookup x = some .local := by first | exact .inl rfl | exact .inr rfl | assumption) : wpAny M A (storeName X.env x u) Q E s :=
  store_ok2 I hN hi hx r (fun s' I' _ => h s' I') hf
/-- behind a call or a block, the state as it is -/
theorem Inv.call' {s' : Shared} {ch : List Addr} (I : Inv X pins σ H s) (ho : s'.os = s.os) (u : Un (frs X.stack) ch H H' s.heap s'.heap) (hok : HOk X.prog X.w H' s'.heap) (hg : AllBare s'.gens)
    (hch : ∀ b ∈ ch, (b ∈ X.ex ∨ X.s₀.heap.objs.size ≤ b) ∧ b ≠ X.env.locals ∧ (∀ x c, X.env.cells.lookup x = some c → c ≠ b) ∧ ∀ p ∈ X.pn ++ pins, p.1 ≠ b) : Inv X pins σ H' s' := by
  obtain ⟨h', g', d', t', o'⟩ := s'
  have e : o' = s.os := ho
  subst e
  exact I.call (g' := g') (t' := t') (d' := d') u hok hg hch
end

/-! ### the judgements -/
/-- an exception: its class, its own dict's address (where it has one), the abstract heap behind it -/
abbrev XK := Value → Option Addr → Hp → Prop
abbrev St := List (Option V)
abbrev VK := V → Hp → Prop
/-- an expression's reading; a test's; an argument list's -/
abbrev TE := St → Hp → VK → Prop
abbrev TT := St → Hp → (Bool → Hp → Prop) → Prop
abbrev TA := St → Hp → (List V → Hp → Prop) → Prop
/-- what is wanted behind a statement -/
structure Ends where
  nx : St → Hp → Prop
  rt : VK
  bk : St → Hp → Prop := fun _ _ => False
  ct : St → Hp → Prop := fun _ _ => False
abbrev TS := Ends → St → Hp → Prop

def EP (X : Cx) (pins : List (Addr × Obj)) (σ : St) (Q : VK) (u : Value) (s' : Shared) : Prop := ∃ v H', Inv X pins σ H' s' ∧ RelV v u ∧ Q v H'
def TP (X : Cx) (pins : List (Addr × Obj)) (σ : St) (Q : Bool → Hp → Prop) (b : Bool) (s' : Shared) : Prop := ∃ H', Inv X pins σ H' s' ∧ Q b H'
def AP (X : Cx) (pins : List (Addr × Obj)) (σ : St) (Q : List V → Hp → Prop) (us : List Value) (s' : Shared) : Prop := ∃ vs H', Inv X pins σ H' s' ∧ Vals vs us ∧ Q vs H'
def SP (X : Cx) (pins : List (Addr × Obj)) (D : Ends) (f : Flow) (s' : Shared) : Prop :=
  match f with
  | .next => ∃ σ' H', Inv X pins σ' H' s' ∧ D.nx σ' H'
  | .brk => ∃ σ' H', Inv X pins σ' H' s' ∧ D.bk σ' H'
  | .cont => ∃ σ' H', Inv X pins σ' H' s' ∧ D.ct σ' H'
  | .ret u => ∃ v σ' H', Inv X pins σ' H' s' ∧ RelV v u ∧ D.rt v H'

def PE (X : Cx) (e : Expr) (t : TE) : Prop :=
  ∀ (pins : List (Addr × Obj)) (s : Shared) (σ : St) (H : Hp) (Q : VK), Inv X pins σ H s → t σ H Q → wpAny (model X.prog X.w) X.A (eval e X.env) (EP X pins σ Q) X.xe s
def PT (X : Cx) (e : Expr) (t : TT) : Prop :=
  ∀ (pins : List (Addr × Obj)) (s : Shared) (σ : St) (H : Hp) (Q : Bool → Hp → Prop), Inv X pins σ H s → t σ H Q → wpAny (model X.prog X.w) X.A (isTrue e X.env (eval e X.env)) (TP X pins σ Q) X.xe s
/-- a test whatever its 'whole' is (and, or) -/
def PW (X : Cx) (e : Expr) (t : TT) : Prop :=
  ∀ (whole : Sem Value) (pins : List (Addr × Obj)) (s : Shared) (σ : St) (H : Hp) (Q : Bool → Hp → Prop), Inv X pins σ H s → t σ H Q → wpAny (model X.prog X.w) X.A (isTrue e X.env whole) (TP X pins σ Q) X.xe s
theorem PW.pt {X : Cx} {e : Expr} {t : TT} (h : PW X e t) : PT X e t := h _
/-- an argument list (no star), from the left -/
def PA (X : Cx) (es : List Expr) (t : TA) : Prop :=
  ∀ (pos : Pos) (pins : List (Addr × Obj)) (s : Shared) (σ : St) (H : Hp) (Q : List V → Hp → Prop), Inv X pins σ H s → t σ H Q → wpAny (model X.prog X.w) X.A (spliced (backTo pos (starEach es X.env))) (AP X pins σ Q) X.xe s
def PS (X : Cx) (st : Stmt) (t : TS) : Prop :=
  ∀ (pins : List (Addr × Obj)) (s : Shared) (σ : St) (H : Hp) (D : Ends), Inv X pins σ H s → t D σ H → wpAny (model X.prog X.w) X.A (exec st X.env) (SP X pins D) X.xe s
def PSs (X : Cx) (st : List Stmt) (t : TS) : Prop :=
  ∀ (pins : List (Addr × Obj)) (s : Shared) (σ : St) (H : Hp) (D : Ends), Inv X pins σ H s → t D σ H → wpAny (model X.prog X.w) X.A (execs st X.env) (SP X pins D) X.xe s
/-- weaken the end -/
theorem thn {α : Type} {t : Sem α} {Q Q' : α → Shared → Prop} {M : Model} {A : Around} {E : Value → Shared → Prop} {s : Shared} (h : wpAny M A t Q E s) (hQ : ∀ a s, Q a s → Q' a s) : wpAny M A t Q' E s := wpAny_mono h hQ fun _ _ x => x
end L2

namespace L2
open PySem PySem.Spec PyProof.Rows
section
variable {X : Cx}

/-- two expressions in a row -/
theorem bin {a b : Expr} {ta tb : TE} (ha : PE X a ta) (hb : PE X b tb) {pins : List (Addr × Obj)} {s : Shared} {σ : St} {H : Hp} {R : V → V → Hp → Prop} (I : Inv X pins σ H s) (h : ta σ H fun x H1 => tb σ H1 fun y H2 => R x y H2)
    {α : Type} {Q : α → Shared → Prop} {f : Value → Value → Sem α}
    (hf : ∀ v u s2 x y H2, Inv X pins σ H2 s2 → RelV x v → RelV y u → R x y H2 → wpAny (model X.prog X.w) X.A (f v u) Q X.xe s2) :
    wpAny (model X.prog X.w) X.A (eval a X.env) (fun v s₁ => wpAny (model X.prog X.w) X.A (eval b X.env) (fun u s₂ => wpAny (model X.prog X.w) X.A (f v u) Q X.xe s₂) X.xe s₁) X.xe s := by
  refine thn (ha pins s σ H _ I h) fun v s1 ⟨x, H1, I1, r1, q1⟩ => ?_
  refine thn (hb pins s1 σ H1 _ I1 q1) fun u s2 ⟨y, H2, I2, r2, q2⟩ => ?_
  exact hf v u s2 x y H2 I2 r1 r2 q2

/-! ### names and constants -/
def tVar (i : Nat) : TE := fun σ H Q => ∃ v, σ[i]? = some (some v) ∧ Q v H
def tC (v : V) : TE := fun _ H Q => Q v H
theorem pe_var {i : Nat} {x : Str} {pos : Pos} (hN : X.N[i]? = some x) (hv : Vis X.env.scope x) (hd : (x == ("__debug__" : Str)) = false := by decide) (hcd : (x == ("__classdict__" : Str)) = false := by decide) : PE X (.Name x pos) (tVar i) := by
  intro pins s σ H Q I h
  obtain ⟨v, e, h⟩ := h
  obtain ⟨m, hn, hl⟩ := I.loc
  obtain ⟨u, r, l⟩ := hl i x v hN e hv
  have fin : EP X pins σ Q u s := ⟨v, H, I, r, h⟩
  rcases l with ⟨hk, hm⟩ | ⟨hk, c, hc, hcell⟩
  · exact wpAny_Name (wpAny_loadName_local I.ok.kind hk hn hm fin) hd
  · rcases hk with hk | hk
    · exact wpAny_Name (wpAny_loadName_cell I.ok.kind hk hc hcell fin) hd
    · exact wpAny_Name (wpAny_loadName_free I.ok.kind hk hc hcell fin hcd) hd
theorem pe_int {i j pos} : PE X (.Constant (.int i) j pos) (tC (.int i)) := fun _ _ _ H _ I h => wpAny_Constant_int ⟨.int i, H, I.tok _, ⟨_, rfl⟩, h⟩
theorem pe_bl {b j pos} : PE X (.Constant (.bool b) j pos) (tC (.bl b)) := fun _ _ _ H _ I h => Constant_bool ⟨.bl b, H, I, rfl, h⟩
theorem pe_non {j pos} : PE X (.Constant .none j pos) (tC .non) := fun _ _ _ H _ I h => Constant_none ⟨.non, H, I, rfl, h⟩
theorem pe_str {x j pos} : PE X (.Constant (.str x) j pos) (tC (.str x)) := fun _ _ _ H _ I h => Calls.Constant_str ⟨.str x, H, I.tok _, ⟨_, rfl⟩, h⟩

/-- a global name of the def -/
def Gl (X : Cx) (x : Str) : Prop := X.env.kindOf x = some .globalImplicit
theorem ld_glob {E : Value → Shared → Prop} {pins : List (Addr × Obj)} {s : Shared} {σ : St} {H : Hp} {x : Str} {u : Value} {pos : Pos} {Q : Value → Shared → Prop} (I : Inv X pins σ H s) (hg : Gl X x) (hm : X.mg x = some u) (h : Q u s)
    (hd : (x == ("__debug__" : Str)) = false := by decide) : wpAny (model X.prog X.w) X.A (eval (.Name x pos) X.env) Q E s :=
  Calls.Name_function_global I.ok.kind hg (Calls.loadGlobal_global (by rw [I.ok.glob]; exact I.mod.glob.keeps I.bk) hm h) hd
theorem ld_blt {E : Value → Shared → Prop} {pins : List (Addr × Obj)} {s : Shared} {σ : St} {H : Hp} {x : Str} {u : Value} {pos : Pos} {Q : Value → Shared → Prop} (I : Inv X pins σ H s) (hg : Gl X x) (hm : X.mg x = none) (hv : bootBuiltins x = some u) (h : Q u s)
    (hn : x ≠ "__name__" := by decide) (hd : (x == ("__debug__" : Str)) = false := by decide) : wpAny (model X.prog X.w) X.A (eval (.Name x pos) X.env) Q E s := by
  obtain ⟨mb, h1, h2⟩ := I.mod.blt
  exact Calls.Name_function_global I.ok.kind hg (Calls.loadGlobal_builtin (by rw [I.ok.glob]; exact I.mod.glob.keeps I.bk) hm (by rw [I.ok.blt]; exact h1.keeps I.bk) ((h2 x hn).trans hv) h) hd
/-- a module's constant, a class, a function, as a value -/
theorem pe_glob {x : Str} {v : V} {u : Value} {pos : Pos} (hg : Gl X x) (hm : X.mg x = some u) (r : RelV v u) (hd : (x == ("__debug__" : Str)) = false := by decide) : PE X (.Name x pos) (tC v) :=
  fun _ _ _ H _ I h => ld_glob I hg hm ⟨v, H, I, r, h⟩ hd
theorem pe_bltn {x : Str} {v : V} {u : Value} {pos : Pos} (hg : Gl X x) (hm : X.mg x = none) (hv : bootBuiltins x = some u) (r : RelV v u) (hn : x ≠ "__name__" := by decide) (hd : (x == ("__debug__" : Str)) = false := by decide) : PE X (.Name x pos) (tC v) :=
  fun _ _ _ H _ I h => ld_blt I hg hm hv ⟨v, H, I, r, h⟩ hn hd

/-! ### arithmetic -/
variable {a b : Expr} {ta tb : TE} {pos : Pos}

/-! ### comparisons -/
def PC (X : Cx) (op : CmpOp) (a b : Expr) (t : TE) : Prop :=
  ∀ (pins : List (Addr × Obj)) (s : Shared) (σ : St) (H : Hp) (Q : VK), Inv X pins σ H s → t σ H Q →
    wpAny (model X.prog X.w) X.A (eval a X.env) (fun v s₁ => wpAny (model X.prog X.w) X.A (eval b X.env) (fun u s₂ => wpAny (model X.prog X.w) X.A (compareOp op v u) (EP X pins σ Q) X.xe s₂) X.xe s₁) X.xe s
/-- a comparison as a value, as a test -/
def tB (t : TE) : TT := fun σ H Q => t σ H fun x H1 => ∃ c, x = .bl c ∧ Q c H1
theorem pt_cmp {op : CmpOp} {t : TE} (h : PC X op a b t) (h1 : behindInMarks op b = false := by first | exact nobehind _ (by decide) (by decide) | rfl) : PT X (.Compare a [op] [b] pos) (tB t) := by
  intro pins s σ H Q I hw
  refine wpAny_isTrue_Compare1 (thn (h pins s σ H _ I hw) fun v s1 h1 => thn h1 fun u s2 h2 => thn h2 fun c s3 ⟨x, H1, I1, r1, q1⟩ => ?_) h1
  obtain ⟨d, rfl, q⟩ := q1
  cases r1
  exact wpAny_truthy_bool ⟨H1, I1, q⟩
/-- an expression whose value is a bool, as a test -/
theorem pt_val {e : Expr} {t : TE} (h : PE X e t) (he : ∀ whole, isTrue e X.env whole = (do let v ← whole; standAt e.pos; holding [v] (truthy v)) := by intro _; rfl) : PT X e (tB t) := by
  intro pins s σ H Q I hw
  refine isTrue_plain (thn (h pins s σ H _ I hw) fun v s1 ⟨x, H1, I1, r1, q1⟩ => ?_) (he _)
  obtain ⟨d, rfl, q⟩ := q1
  cases r1
  exact wpAny_truthy_bool ⟨H1, I1, q⟩

/-! ### and, or, not -/
variable {tA tB' : TT} {rest : List Expr}
def tAnd (t u : TT) : TT := fun σ H Q => t σ H fun c H1 => if c = true then u σ H1 Q else Q false H1
def tOr (t u : TT) : TT := fun σ H Q => t σ H fun c H1 => if c = true then Q true H1 else u σ H1 Q
def tNot (t : TT) : TT := fun σ H Q => t σ H fun c H1 => Q (!c) H1
theorem pw_and1 (ha : PT X a tA) : PW X (.BoolOp .And [a] pos) tA := by
  intro wh pins s σ H Q I h
  refine isTrue_and (thn (ha pins s σ H Q I h) fun c s1 e => ?_)
  cases c with
  | true => exact isTrue_and_nil e
  | false => exact e
theorem pw_or1 (ha : PT X a tA) : PW X (.BoolOp .Or [a] pos) tA := by
  intro wh pins s σ H Q I h
  refine isTrue_or (thn (ha pins s σ H Q I h) fun c s1 e => ?_)
  cases c with
  | false => exact isTrue_or_nil e
  | true => exact e
theorem pw_and (ha : PT X a tA) (hb : PW X (.BoolOp .And (b :: rest) pos) tB') : PW X (.BoolOp .And (a :: b :: rest) pos) (tAnd tA tB') := by
  intro wh pins s σ H Q I h
  refine isTrue_and (thn (ha pins s σ H _ I h) fun c s1 ⟨H1, I1, q1⟩ => ?_)
  cases c with
  | true => exact hb wh pins s1 σ H1 Q I1 q1
  | false => exact ⟨H1, I1, q1⟩
theorem pw_or (ha : PT X a tA) (hb : PW X (.BoolOp .Or (b :: rest) pos) tB') : PW X (.BoolOp .Or (a :: b :: rest) pos) (tOr tA tB') := by
  intro wh pins s σ H Q I h
  refine isTrue_or (thn (ha pins s σ H _ I h) fun c s1 ⟨H1, I1, q1⟩ => ?_)
  cases c with
  | true => exact ⟨H1, I1, q1⟩
  | false => exact hb wh pins s1 σ H1 Q I1 q1
theorem pt_not (ha : PT X a tA) : PT X (.UnaryOp .Not a pos) (tNot tA) := by
  intro pins s σ H Q I h
  exact isTrue_not (ha pins s σ H (fun c H1 => Q (!c) H1) I h)
/-- .. as values (bools) -/
def tAndV (ta tb : TE) : TE := fun σ H Q => ta σ H fun x H1 => ∃ c, x = .bl c ∧ if c = true then tb σ H1 Q else Q (.bl false) H1
def tOrV (ta tb : TE) : TE := fun σ H Q => ta σ H fun x H1 => ∃ c, x = .bl c ∧ if c = true then Q (.bl true) H1 else tb σ H1 Q
def tNotV (ta : TE) : TE := fun σ H Q => ta σ H fun x H1 => ∃ c, x = .bl c ∧ Q (.bl (!c)) H1
theorem pe_one {op} {t : TE} (h : PE X a t) : PE X (.BoolOp op [a] pos) t := fun pins s σ H Q I hw => BoolOp_one (h pins s σ H Q I hw)
theorem pe_and (ha : PE X a ta) (hb : PE X (.BoolOp .And (b :: rest) pos) tb) : PE X (.BoolOp .And (a :: b :: rest) pos) (tAndV ta tb) := by
  intro pins s σ H Q I h
  refine BoolOp_and (thn (ha pins s σ H _ I h) fun v s1 ⟨x, H1, I1, r1, q1⟩ => ?_)
  obtain ⟨c, rfl, q1⟩ := q1
  cases r1
  refine wpAny_truthy_bool ?_
  cases c with
  | true => exact hb pins s1 σ H1 Q I1 q1
  | false => exact ⟨.bl false, H1, I1, rfl, q1⟩
theorem pe_or (ha : PE X a ta) (hb : PE X (.BoolOp .Or (b :: rest) pos) tb) : PE X (.BoolOp .Or (a :: b :: rest) pos) (tOrV ta tb) := by
  intro pins s σ H Q I h
  refine BoolOp_or (thn (ha pins s σ H _ I h) fun v s1 ⟨x, H1, I1, r1, q1⟩ => ?_)
  obtain ⟨c, rfl, q1⟩ := q1
  cases r1
  refine wpAny_truthy_bool ?_
  cases c with
  | false => exact hb pins s1 σ H1 Q I1 q1
  | true => exact ⟨.bl true, H1, I1, rfl, q1⟩
theorem pe_not (ha : PE X a ta) : PE X (.UnaryOp .Not a pos) (tNotV ta) := by
  intro pins s σ H Q I h
  refine UnaryOp_ (thn (ha pins s σ H _ I h) fun v s1 ⟨x, H1, I1, r1, q1⟩ => ?_)
  obtain ⟨c, rfl, q1⟩ := q1
  cases r1
  exact not_of (wpAny_truthy_bool ⟨.bl (!c), H1, I1, rfl, q1⟩)
/-- a if t else b -/
def tIf (t : TT) (ta tb : TE) : TE := fun σ H Q => t σ H fun c H1 => if c = true then ta σ H1 Q else tb σ H1 Q
theorem pe_ifExp {c : Expr} (hc : PT X c tA) (ha : PE X a ta) (hb : PE X b tb) : PE X (.IfExp c a b pos) (tIf tA ta tb) := by
  intro pins s σ H Q I h
  refine wpAny_IfExp (thn (hc pins s σ H _ I h) fun d s1 ⟨H1, I1, q1⟩ => ?_)
  cases d with
  | true => exact ha pins s1 σ H1 Q I1 q1
  | false => exact hb pins s1 σ H1 Q I1 q1
end
end L2

namespace L2
open PySem PySem.Spec PyProof.Rows

/-! ### a list, a tuple that is read: tracked, frozen, or an object of the module -/
def SqL (K : PySem.W.Frag) (H : Hp) (a : Addr) (xs : List V) : Prop :=
  Rd H a (.lst xs) ∨
    ∃ (o : Obj) (its : Array Value) (n : Nat), K.lookup a = some o ∧ o.cls = .type "list" ∧ o.dict = none ∧ o.data = .seq its n ∧ its.size ≤ sizeLine ∧ Vals xs its.toList
def SqT (K : PySem.W.Frag) (H : Hp) (a : Addr) (xs : List V) : Prop :=
  Rd H a (.tup xs) ∨
    ∃ (o : Obj) (its : Array Value) (n : Nat), K.lookup a = some o ∧ o.cls = .type "tuple" ∧ o.data = .seq its n ∧ its.size ≤ sizeLine ∧ Vals xs its.toList
def absV : Value → Option V
  | .none => some .non
  | .bool b => some (.bl b)
  | .int i _ => some (.int i)
  | .str x _ => some (.str x)
  | .bytes b _ => some (.byt b)
  | .float b _ => some (.flt b)
  | .ref a => some (.ref a)
  | .type n => some (.ty n)
  | _ => none
theorem RelV.abs {x : V} {u : Value} (r : RelV x u) : absV u = some x := by
  cases x with
  | non => cases r; rfl
  | bl _ => cases r; rfl
  | int _ => obtain ⟨t, rfl⟩ := r; rfl
  | str _ => obtain ⟨t, rfl⟩ := r; rfl
  | byt _ => obtain ⟨t, rfl⟩ := r; rfl
  | flt _ => obtain ⟨t, rfl⟩ := r; rfl
  | ref _ => cases r; rfl
  | ty _ => cases r; rfl
theorem RelV.inj {x y : V} {u : Value} (r : RelV x u) (q : RelV y u) : x = y := Option.some.inj (r.abs.symm.trans q.abs)
theorem Vals.inj : ∀ {xs ys : List V} {us : List Value}, Vals xs us → Vals ys us → xs = ys
  | _, _, _, .nil, .nil => rfl
  | _, _, _, .cons r t, .cons r' t' => by rw [r.inj r', Vals.inj t t']
section
variable {X : Cx} {pins : List (Addr × Obj)} {σ : St} {H : Hp} {s : Shared} {a : Addr} {xs ys : List V}
theorem SqL.of {K : PySem.W.Frag} (h : H a = some (.lst xs)) : SqL K H a xs := .inl (.inl h)
theorem SqT.of {K : PySem.W.Frag} (h : H a = some (.tup xs)) : SqT K H a xs := .inl (.inl h)
theorem Inv.list (I : Inv X pins σ H s) (h : SqL X.K H a xs) : ∃ its : List Value, Vals xs its ∧ PlainL s.heap a its.toArray ∧ xs.length ≤ sizeLine := by
  rcases h with h | ⟨o, its, n, hk, hc, hd, hs, hz, r⟩
  · obtain ⟨z, its, n, r, e⟩ := h.ok I.hok
    exact ⟨its, r, ⟨_, n, e, rfl, rfl, rfl⟩, z⟩
  · refine ⟨its.toList, r, ⟨o, n, I.kIn a o hk, hc, hd, by simpa using hs⟩, ?_⟩
    have e := r.length
    simp only [Array.length_toList] at e
    omega
theorem Inv.tuple (I : Inv X pins σ H s) (h : SqT X.K H a xs) : ∃ its : List Value, Vals xs its ∧ IsTup s.heap a its.toArray ∧ xs.length ≤ sizeLine := by
  rcases h with h | ⟨o, its, n, hk, hc, hs, hz, r⟩
  · obtain ⟨z, its, r, p⟩ := h.ok I.hok
    exact ⟨its, r, p, z⟩
  · refine ⟨its.toList, r, ⟨o, I.kIn a o hk, hc, n, by simpa using hs⟩, ?_⟩
    have e := r.length
    simp only [Array.length_toList] at e
    omega
theorem Inv.list_inj (I : Inv X pins σ H s) (h : SqL X.K H a xs) (h' : SqL X.K H a ys) : xs = ys := by
  obtain ⟨its, r, ⟨o, n, e, _, _, d⟩, _⟩ := I.list h
  obtain ⟨its', r', ⟨o', n', e', _, _, d'⟩, _⟩ := I.list h'
  rw [e] at e'; cases e'
  rw [d] at d'
  injection d' with d1 _
  have : its = its' := by simpa using congrArg Array.toList d1
  subst this
  exact r.inj r'
theorem Inv.tuple_inj (I : Inv X pins σ H s) (h : SqT X.K H a xs) (h' : SqT X.K H a ys) : xs = ys := by
  obtain ⟨its, r, ⟨o, e, _, n, d⟩, _⟩ := I.tuple h
  obtain ⟨its', r', ⟨o', e', _, n', d'⟩, _⟩ := I.tuple h'
  rw [e] at e'; cases e'
  rw [d] at d'
  injection d' with d1 _
  have : its = its' := by simpa using congrArg Array.toList d1
  subst this
  exact r.inj r'
end

/-! ### another wish about exceptions -/
abbrev Cx.wish (X : Cx) (E : Value → Shared → Prop) : Cx := { X with xe := E }
/-- no exception leaves -/
abbrev Cx.nox (X : Cx) : Cx := X.wish fun _ _ => False
theorem Cx.Ok.wish {X : Cx} (ok : X.Ok) (E : Value → Shared → Prop) : (X.wish E).Ok :=
  ⟨ok.mod, ok.kind, ok.glob, ok.blt, ok.above, ok.inj, ok.has, ok.cab, ok.hd, ok.frames, ok.stk, ok.exf, ok.bs, ok.bsz, ok.noex, ok.exfs, ok.funs, ok.frf⟩
theorem Cx.Ok.unwish {X : Cx} {E : Value → Shared → Prop} (ok : (X.wish E).Ok) : X.Ok :=
  ⟨ok.mod, ok.kind, ok.glob, ok.blt, ok.above, ok.inj, ok.has, ok.cab, ok.hd, ok.frames, ok.stk, ok.exf, ok.bs, ok.bsz, ok.noex, ok.exfs, ok.funs, ok.frf⟩
section
variable {X : Cx} {pins : List (Addr × Obj)} {σ : St} {H : Hp} {s : Shared} {E : Value → Shared → Prop}
theorem Inv.wish (I : Inv X pins σ H s) (E : Value → Shared → Prop) : Inv (X.wish E) pins σ H s := ⟨I.ok.wish E, I.os, I.bare, I.base, I.loc, I.cell, I.free, I.freeC, I.pin, I.hok, I.len⟩
theorem Inv.unwish (I : Inv (X.wish E) pins σ H s) : Inv X pins σ H s := ⟨I.ok.unwish, I.os, I.bare, I.base, I.loc, I.cell, I.free, I.freeC, I.pin, I.hok, I.len⟩
theorem SP.unwish {D : Ends} {f : Flow} {s' : Shared} (h : SP (X.wish E) pins D f s') : SP X pins D f s' := by
  cases f with
  | next => obtain ⟨σ', H', I, q⟩ := h; exact ⟨σ', H', I.unwish, q⟩
  | brk => obtain ⟨σ', H', I, q⟩ := h; exact ⟨σ', H', I.unwish, q⟩
  | cont => obtain ⟨σ', H', I, q⟩ := h; exact ⟨σ', H', I.unwish, q⟩
  | ret u => obtain ⟨v, σ', H', I, r, q⟩ := h; exact ⟨v, σ', H', I.unwish, r, q⟩
theorem PSs.nox {st : List Stmt} {t : TS} (h : PSs X.nox st t) : PSs X st t := fun pins s σ H D I hw =>
  wpAny_mono (h pins s σ H D (I.wish _) hw) (fun _ _ q => q.unwish) fun _ _ z => False.elim z
end

/-! ### blocks and small statements -/
section
variable {X : Cx} {st : Stmt} {rest : List Stmt} {t u : TS} {e : Expr} {te : TE} {pos : Pos}
def tNext : TS := fun D σ H => D.nx σ H
def tSeq (t u : TS) : TS := fun D σ H => t { D with nx := u D } σ H
theorem pss_nil : PSs X [] tNext := fun _ _ σ H _ I h => wpAny_execs_nil ⟨σ, H, I, h⟩
theorem pss_cons (h1 : PS X st t) (h2 : PSs X rest u) : PSs X (st :: rest) (tSeq t u) := by
  intro pins s σ H D I h
  refine wpAny_execs_cons (thn (h1 pins s σ H { D with nx := u D } I h) fun f s1 q => ?_)
  cases f with
  | next =>
    obtain ⟨σ', H', I', q⟩ := q
    exact h2 pins s1 σ' H' D I' q
  | ret v => exact q
  | brk => exact q
  | cont => exact q
theorem pss_one (h1 : PS X st t) : PSs X [st] t := by
  intro pins s σ H D I h
  refine wpAny_execs_cons (thn (h1 pins s σ H D I h) fun f s1 q => ?_)
  cases f with
  | next => exact wpAny_execs_nil q
  | ret v => exact q
  | brk => exact q
  | cont => exact q
/-- in a def's body nothing is shown -/
theorem Inv.quiet {pins : List (Addr × Obj)} {σ : St} {H : Hp} {s : Shared} (I : Inv X pins σ H s) : interactive X.env = false := by simp [interactive, I.ok.kind]
/-- an expression whose value is dropped -/
def tDrop (te : TE) : TS := fun D σ H => te σ H fun _ H1 => D.nx σ H1
theorem ps_expr (he : PE X e te) (hs : swapsWith e none pos.line X.env = pure false := by rfl) : PS X (.Expr e pos) (tDrop te) := by
  intro pins s σ H D I h
  exact wpAny_Expr_any (thn (he pins s σ H _ I h) fun v s1 ⟨x, H1, I1, r1, q1⟩ => ⟨σ, H1, I1, q1⟩) I.quiet hs
def tRet (te : TE) : TS := fun D σ H => te σ H D.rt
theorem ps_ret (he : PE X e te) : PS X (.Return (some e) pos) (tRet te) := by
  intro pins s σ H D I h
  exact wpAny_Return_some (thn (he pins s σ H _ I h) fun v s1 ⟨x, H1, I1, r1, q1⟩ => ⟨x, σ, H1, I1, r1, q1⟩)
def tIfS (c : TT) (t u : TS) : TS := fun D σ H => c σ H fun b H1 => if b = true then t D σ H1 else u D σ H1
theorem ps_if {c : Expr} {a b : List Stmt} {tc : TT} (hc : PT X c tc) (ha : PSs X a t) (hb : PSs X b u) : PS X (.If c a b pos) (tIfS tc t u) := by
  intro pins s σ H D I h
  refine wpAny_If (thn (hc pins s σ H _ I h) fun d s1 ⟨H1, I1, q1⟩ => ?_)
  cases d with
  | true => exact ha pins s1 σ H1 D I1 q1
  | false => exact hb pins s1 σ H1 D I1 q1
/-- code that the proof never comes to -/
def tNever : TS := fun _ _ _ => False
theorem ps_never : PS X st tNever := fun _ _ _ _ _ _ h => h.elim
end

/-! ### targets -/
abbrev TG := V → St → Hp → (St → Hp → Prop) → Prop
abbrev TGs := List V → St → Hp → (St → Hp → Prop) → Prop
def PG (X : Cx) (target : Expr) (t : TG) : Prop :=
  ∀ (pins : List (Addr × Obj)) (s : Shared) (σ : St) (H : Hp) (v : V) (u : Value) (Q : St → Hp → Prop), Inv X pins σ H s → RelV v u → t v σ H Q →
    wpAny (model X.prog X.w) X.A (assign target X.env u) (fun _ s' => ∃ σ' H', Inv X pins σ' H' s' ∧ Q σ' H') X.xe s
/-- several targets, one after another -/
def PGs (X : Cx) (ts : List Expr) (t : TGs) : Prop :=
  ∀ (pins : List (Addr × Obj)) (s : Shared) (σ : St) (H : Hp) (vs : List V) (us : List Value) (Q : St → Hp → Prop), Inv X pins σ H s → Vals vs us → t vs σ H Q →
    wpAny (model X.prog X.w) X.A (assignInOrder ((assignEach ts X.env).map (·.2)) us) (fun _ s' => ∃ σ' H', Inv X pins σ' H' s' ∧ Q σ' H') X.xe s
section
variable {X : Cx} {pos : Pos}
def gName (i : Nat) : TG := fun v σ H Q => Q (σ.set i (some v)) H
theorem pg_name {i : Nat} {x : Str} (hN : X.N.Nodup) (hi : X.N[i]? = some x) (hx : Loc X.env.scope x) (hf : X.fn x = true ∨ X.env.scope.names.lookup x = some .local := by first | exact .inl rfl | exact .inr rfl | assumption) : PG X (.Name x pos) (gName i) := by
  intro pins s σ H v u Q I r h
  exact wpAny_assign_Name (store_ok I hN hi hx r (fun s' I' => ⟨_, H, I', h⟩) hf)
def gNil : TGs := fun vs σ H Q => vs = [] ∧ Q σ H
def gCons (t : TG) (u : TGs) : TGs := fun vs σ H Q => ∃ v r, vs = v :: r ∧ t v σ H fun σ' H' => u r σ' H' Q
theorem pgs_nil : PGs X [] gNil := by
  intro pins s σ H vs us Q I r h
  obtain ⟨e, h⟩ := h
  subst e
  cases r
  exact assignInOrder_nil ⟨σ, H, I, h⟩
theorem pgs_cons {e : Expr} {es : List Expr} {t : TG} {u : TGs} (h1 : PG X e t) (h2 : PGs X es u)
    (hs : (assignEach (e :: es) X.env).map (·.2) = assign e X.env :: (assignEach es X.env).map (·.2) := by rfl) : PGs X (e :: es) (gCons t u) := by
  intro pins s σ H vs us Q I r h
  obtain ⟨v, vr, e1, h⟩ := h
  subst e1
  cases r with
  | cons r rr =>
    rw [hs]
    refine assignInOrder_cons (thn (h1 pins s σ H _ _ _ I r h) fun _ s1 ⟨σ1, H1, I1, q1⟩ => ?_)
    exact h2 pins s1 σ1 H1 _ _ Q I1 rr q1
/-- (a, b, ..) = a tuple of that length -/
def gTup (K : PySem.W.Frag) (n : Nat) (t : TGs) : TG := fun v σ H Q => ∃ a xs, v = .ref a ∧ SqT K H a xs ∧ xs.length = n ∧ t xs σ H Q
theorem pg_tup {es : List Expr} {k : Nat} {t : TGs} {n : Nat} (hc : X.calm = true) (h : PGs X es t)
    (hn : (assignEach es X.env).length = n := by rfl) (hst : (assignEach es X.env).findIdx? (·.1) = none := by rfl) : PG X (.Tuple es k pos) (gTup X.K n t) := by
  intro pins s σ H v u Q I r hw
  obtain ⟨a, xs, e1, hq, hl, hw⟩ := hw
  subst e1
  cases r
  obtain ⟨its, rv, ht, hz⟩ := I.tuple hq
  refine assign_Tuple_tuple (I.ok.hd hc) ht (by simp [hn, ← hl, rv.length]) hst fun h' hx => ?_
  have I1 : Inv X pins σ H { s with heap := h' } := I.kept (t' := s.toks) fun b o e => hx b o (Nat.ne_of_lt (Heap.lt_size e)) e
  exact h pins _ σ H xs _ Q I1 (by simpa using rv) hw
/-- target = value -/
def tAsg (te : TE) (g : TG) : TS := fun D σ H => te σ H fun x H1 => g x σ H1 D.nx
theorem ps_asg {tg e : Expr} {te : TE} {g : TG} (he : PE X e te) (hg : PG X tg g) (hs : swapsWithSole [tg] e pos.line X.env = pure false := by rfl) (hw : swappedStores [tg] e X.env = pure none := by rfl)
    (h1 : (assignEach [tg] X.env).map (·.2) = [assign tg X.env] := by rfl) : PS X (.Assign [tg] e pos) (tAsg te g) := by
  intro pins s σ H D I h
  refine wpAny_Assign_stores (thn (he pins s σ H _ I h) fun v s1 ⟨x, H1, I1, r1, q1⟩ => ?_) hs hw
  rw [h1]
  exact thn (hg pins s1 σ H1 x v _ I1 r1 q1) fun _ s2 q => q
/-- name = value -/
theorem ps_set {i : Nat} {x : Str} {e : Expr} {te : TE} {pos' : Pos} (hN : X.N.Nodup) (hi : X.N[i]? = some x) (hx : Loc X.env.scope x) (he : PE X e te) (hs : swapsWith e (some (.Name x pos')) pos.line X.env = pure false := by rfl) (hf : X.fn x = true ∨ X.env.scope.names.lookup x = some .local := by first | exact .inl rfl | exact .inr rfl | assumption) :
    PS X (.Assign [.Name x pos'] e pos) (tAsg te (gName i)) := by
  intro pins s σ H D I h
  refine wpAny_Assign_Name (thn (he pins s σ H _ I h) fun v s1 ⟨y, H1, I1, r1, q1⟩ => ?_) hs
  exact store_ok I1 hN hi hx r1 (fun s2 I2 => ⟨_, H1, I2, q1⟩) hf
/-- a, b = x, y with plain local names: stored from the right; the pair itself is not tracked (the opening rows as in PyProof/Rows/TupAssign.lean:23) -/
def tPar (i j : Nat) (ta : TA) : TS := fun D σ H => ta σ H fun vs H1 => ∃ v w, vs = [v, w] ∧ D.nx ((σ.set i (some v)).set j (some w)) H1
theorem ps_par {i j : Nat} {x y : Str} {a b : Expr} {ta : TA} {px py pt : Pos} {kt k2 pt2} (hc : X.calm = true) (hN : X.N.Nodup) (hi : X.N[i]? = some x) (hj : X.N[j]? = some y) (hij : i ≠ j)
    (hx : X.env.scope.names.lookup x = some .local) (hy : X.env.scope.names.lookup y = some .local) (ha : PA X [a, b] ta)
    (hw : swappedStores [.Tuple [.Name x px, .Name y py] kt pt] (.Tuple [a, b] k2 pt2) X.env = pure (some [x, y]))
    (hs : swapsWithSole [.Tuple [.Name x px, .Name y py] kt pt] (.Tuple [a, b] k2 pt2) pos.line X.env = pure false := by rfl) :
    PS X (.Assign [.Tuple [.Name x px, .Name y py] kt pt] (.Tuple [a, b] k2 pt2) pos) (tPar i j ta) := by
  intro pins s σ H D I h
  rw [exec_Assign_arm]
  refine wpAny_bind (wpAny_standAt ?_)
  rw [hs]
  refine wpAny_bind (wpAny_pure ?_)
  rw [if_neg (by decide)]
  refine wpAny_bind (Tuple_ (thn (ha _ pins s σ H _ I h) fun us s1 ⟨vs, H1, I1, r1, q1⟩ => ?_))
  obtain ⟨v, w, e1, q1⟩ := q1
  subst e1
  obtain ⟨u1, u2, rfl, rv, rw'⟩ : ∃ u1 u2, us = [u1, u2] ∧ RelV v u1 ∧ RelV w u2 := by
    cases r1 with
    | cons p q =>
      cases q with
      | cons p' q' =>
        cases q'
        exact ⟨_, _, rfl, p, p'⟩
  refine wpAny_newObj_type ?_ (by show 2 ≤ sizeLine; decide)
  have I2 : Inv X pins σ H1 { s1 with heap := s1.heap.push { cls := .type "tuple", data := .seq [u1, u2].toArray } } := I1.kept (t' := s1.toks) fun b o e => Heap.get?_push_of_some _ e
  rw [hw]
  refine wpAny_bind (wpAny_pure ?_)
  show wpAny (model X.prog X.w) X.A (do rule "assign.swapped-stores"; let items ← unpackItems (.ref s1.heap.objs.size) 2 none; assignInOrder [fun v => bindName X.env y v, fun v => bindName X.env x v] items.reverse; pure Flow.next) _ _ _
  refine wpAny_bind (wpAny_rule (wpAny_bind (unpackItems_tuple (items := #[u1, u2]) (I.ok.hd hc) (IsTup.new s1.heap _) fun h' hx' => ?_)))
  have I3 := I2.kept (h' := h') (t' := s1.toks) fun b o e => hx' b o (Nat.ne_of_lt (Heap.lt_size e)) e
  show wpAny _ _ (assignInOrder [fun v => bindName X.env y v, fun v => bindName X.env x v] [u2, u1] >>= fun _ => pure Flow.next) _ _ _
  refine wpAny_bind (assignInOrder_cons (wpAny_bindName (store_ok I3 hN hj (.inl hy) rw' (fun s2 I4 => ?_) (.inr hy))))
  refine assignInOrder_cons (wpAny_bindName (store_ok I4 hN hi (.inl hx) rv (fun s3 I5 => assignInOrder_nil (wpAny_pure ?_)) (.inr hx)))
  rw [List.set_comm _ _ (Ne.symm hij)] at I5
  exact ⟨_, H1, I5, q1⟩
end

/-! ### while -/
section
variable {X : Cx} {pos : Pos}
/-- the invariant W with its measure -/
def tWhile (c : TT) (tb : TS) : TS := fun D σ H => ∃ W : Nat → St → Hp → Prop, (∃ m, W m σ H) ∧ ∀ m σ H, W m σ H →
  c σ H fun b H1 => if b = true then ∃ N : St → Hp → Prop, (∀ σ' H', N σ' H' → ∃ m', m' < m ∧ W m' σ' H') ∧ tb { D with nx := N, ct := N, bk := D.nx } σ H1 else D.nx σ H1
theorem ps_while {c : Expr} {body : List Stmt} {tc : TT} {tb : TS} (hp : PassesOwn (model X.prog X.w) X.A X.env X.xe) (hc : PT X c tc) (hb : PSs X body tb) : PS X (.While c body [] pos) (tWhile tc tb) := by
  intro pins s σ H D I h
  obtain ⟨W, ⟨m0, w0⟩, turn⟩ := h
  refine wpAny_While (codeAny_whileLoop (fun n s' => ∃ σ' H', Inv X pins σ' H' s' ∧ W n σ' H') ?_ m0 ⟨σ, H, I, w0⟩)
  rintro n s1 ⟨σ1, H1, I1, w1⟩
  refine wpAny_passesOwn hp (thn (hc pins s1 σ1 H1 _ I1 (turn n σ1 H1 w1)) fun b s2 ⟨H2, I2, q2⟩ => ?_)
  cases b with
  | true =>
    obtain ⟨N, hN, q2⟩ := q2
    rw [if_pos rfl]
    refine wpAny_passesOwn hp (thn (hb pins s2 σ1 H2 _ I2 q2) fun f s3 q3 => ?_)
    cases f with
    | next =>
      obtain ⟨σ3, H3, I3, n3⟩ := q3
      obtain ⟨m', hm, w3⟩ := hN σ3 H3 n3
      exact ⟨m', hm, σ3, H3, I3, w3⟩
    | cont =>
      obtain ⟨σ3, H3, I3, n3⟩ := q3
      obtain ⟨m', hm, w3⟩ := hN σ3 H3 n3
      exact ⟨m', hm, σ3, H3, I3, w3⟩
    | brk => exact q3
    | ret v => exact q3
  | false =>
    rw [if_neg Bool.false_ne_true]
    exact wpAny_execs_nil ⟨σ1, H2, I2, q2⟩
end

/-! ### what a loop or a comprehension walks -/
/-- at turn i: it yields x (the heap may grow), or it stops -/
structure It where
  go : Nat → Hp → Prop
  yld : Nat → Hp → V → Hp → Prop
  stop : Nat → Hp → Prop
/-- the iterator's own objects may turn: they are not the frame's, not pinned, younger than the entry (or a comprehension's own) -/
def FpOk (X : Cx) (pins : List (Addr × Obj)) (H : Hp) (b : Addr) : Prop :=
  H b = none ∧ b ≠ X.env.locals ∧ b ∉ X.fs ∧ (b ∈ X.ex ∨ X.s₀.heap.objs.size ≤ b) ∧ (∀ x c, X.env.cells.lookup x = some c → c ≠ b) ∧ ∀ p ∈ X.pn ++ pins, p.1 ≠ b
theorem Inv.fpOk {X : Cx} {pins : List (Addr × Obj)} {σ : St} {H H' : Hp} {s : Shared} {b : Addr} (I : Inv X pins σ H s) (hb : s.heap.objs.size ≤ b) (hn : H' b = none) : FpOk X pins H' b := by
  refine ⟨hn, Nat.ne_of_gt (Nat.lt_of_lt_of_le I.lt hb), I.nofs hb, .inr (Nat.le_trans I.sz hb), fun x c e z => ?_, fun p hp z => ?_⟩
  · obtain ⟨v, q⟩ := I.cell x c e
    exact absurd (Nat.lt_of_lt_of_le q.lt (by rw [z]; exact hb)) (Nat.lt_irrefl _)
  · exact absurd (Nat.lt_of_lt_of_le (Heap.lt_size (I.pin p hp).1) (by rw [z]; exact hb)) (Nat.lt_irrefl _)
structure Turn (P : Program) (w : World) (K : PySem.W.Frag) (tg : Expr) (J : It) (fp : List Addr) (it : Addr) (tn : Nat → Heap → Prop) : Prop where
  mem : it ∈ fp
  obj : ∀ i h, tn i h → ∀ b ∈ fp, ∃ o, h.get? b = some o ∧ ∀ v, o.data ≠ .cell v
  keep : ∀ i h h', tn i h → (∀ b ∈ fp, ∀ o, h.get? b = some o → h'.get? b = some o) → tn i h'
  item : ∀ (X : Cx), X.prog = P → X.w = w → X.K = K → X.calm = true → ∀ (i : Nat) (pins : List (Addr × Obj)) (s : Shared) (σ : St) (H : Hp) (E : Value → Shared → Prop), Inv X pins σ H s → (∀ b ∈ fp, FpOk X pins H b) → tn i s.heap → J.go i H →
    wpAny (model P w) X.A (pyNext (.ref it)) (fun r s1 => ∃ u, r = some u ∧
      wpAny (model P w) X.A (letOwnedTupleGo tg (.ref it) u) (fun _ s2 => ∃ x H', Inv X pins σ H' s2 ∧ RelV x u ∧ J.yld i H x H' ∧ tn (i + 1) s2.heap ∧ ∀ b ∈ fp, H' b = none) E s1) E s
  done : ∀ (X : Cx), X.prog = P → X.w = w → X.K = K → X.calm = true → ∀ (i : Nat) (pins : List (Addr × Obj)) (s : Shared) (σ : St) (H : Hp) (E : Value → Shared → Prop), Inv X pins σ H s → (∀ b ∈ fp, FpOk X pins H b) → tn i s.heap → J.stop i H →
    wpAny (model P w) X.A (pyNext (.ref it)) (fun r s1 => r = none ∧ Inv X pins σ H s1) E s
  self : ∀ (A : Around) (i : Nat) (s : Shared) (Q : Value → Shared → Prop) (E : Value → Shared → Prop), tn i s.heap → Q (.ref it) s → wpAny (model P w) A (pyIter (.ref it)) Q E s
abbrev TI := St → Hp → (It → Hp → Prop) → Prop
/-- an iterator has come -/
def PIE (X : Cx) (pins : List (Addr × Obj)) (σ : St) (tg : Expr) (R : It → Hp → Prop) (itv : Value) (s2 : Shared) : Prop :=
  ∃ (it : Addr) (fp : List Addr) (tn : Nat → Heap → Prop) (J : It) (H' : Hp), itv = .ref it ∧ Inv X pins σ H' s2 ∧ Turn X.prog X.w X.K tg J fp it tn ∧ tn 0 s2.heap ∧ (∀ b ∈ fp, FpOk X pins H' b) ∧ R J H'
def PI (X : Cx) (tg iter : Expr) (wi : TI) : Prop :=
  ∀ (pins : List (Addr × Obj)) (s : Shared) (σ : St) (H : Hp) (R : It → Hp → Prop), Inv X pins σ H s → wi σ H R →
    wpAny (model X.prog X.w) X.A (eval iter X.env) (fun v s1 => wpAny (model X.prog X.w) X.A (pyIter v) (PIE X pins σ tg R) X.xe s1) X.xe s

/-- the step ahead of the store is nothing for an iterator that keeps no tuple -/
theorem go_of {M : Model} {A : Around} {E : Value → Shared → Prop} {s : Shared} {tg : Expr} {it : Addr} {u : Value} {o : Obj} {n : String} {vs : Array Value} {Q : Unit → Shared → Prop} (ho : s.heap.get? it = some o) (hc : o.cls = .type n) (hd : o.data = .fields vs)
    (hn : ["enumerate", "zip", "dict_itemiterator", "dict_reverseitemiterator", "odict_iterator", "itertools.zip_longest", "itertools.pairwise"].contains n = false) (hQ : Q () s) : wpAny M A (letOwnedTupleGo tg (.ref it) u) Q E s := by
  unfold letOwnedTupleGo
  cases tg <;> first
    | exact wpAny_pure hQ
    | (cases u <;> first
        | exact wpAny_pure hQ
        | (refine wpAny_bind (wpAny_load ho ?_)
           rw [hc, hd]
           show wpAny M A (if (["enumerate", "zip", "dict_itemiterator", "dict_reverseitemiterator", "odict_iterator", "itertools.zip_longest", "itertools.pairwise"].contains n && vs[0]? == some (rawInt _)) = true then _ else _) Q E s
           rw [if_neg (by intro h; rw [hn, Bool.false_and] at h; cases h)]
           exact wpAny_pure hQ))

/-- the list at a, as it stands at each turn (a loop may append to it) -/
def Itl (K : PySem.W.Frag) (a : Addr) : It :=
  ⟨fun i H => ∃ xs x, SqL K H a xs ∧ xs[i]? = some x, fun i H x H' => H' = H ∧ ∀ xs, SqL K H a xs → xs[i]? = some x, fun i H => ∃ xs, SqL K H a xs ∧ xs.length ≤ i⟩
def Itt (K : PySem.W.Frag) (a : Addr) : It :=
  ⟨fun i H => ∃ xs x, SqT K H a xs ∧ xs[i]? = some x, fun i H x H' => H' = H ∧ ∀ xs, SqT K H a xs → xs[i]? = some x, fun i H => ∃ xs, SqT K H a xs ∧ xs.length ≤ i⟩
/-- lo, lo + 1, .. (n of them) -/
def Itr (lo : Int) (n : Nat) : It := ⟨fun i _ => i < n, fun i H x H' => H' = H ∧ x = .int (lo + i), fun i _ => n ≤ i⟩
theorem turn_list {P : Program} {w : World} {K : PySem.W.Frag} {tg : Expr} (a it : Addr) : Turn P w K tg (Itl K a) [it] it (fun i h => h.IsListIter it a i) where
  mem := by simp
  obj := fun i h st b hb => by
    have e : b = it := by simpa using hb
    subst e
    obtain ⟨o, e, c, d⟩ := st
    exact ⟨o, e, fun v z => by rw [d] at z; cases z⟩
  keep := fun i h h' st k => st.at fun o e => k it (by simp) o e
  item := by
    intro X hP hw hK hc i pins s σ H E I hf st hg
    subst hP hw hK
    obtain ⟨xs, x, hq, hx⟩ := hg
    obtain ⟨its, rv, p, hz⟩ := I.list hq
    obtain ⟨u, hu, ru⟩ := rv.get hx
    obtain ⟨f0, f1, f2, f3, f4, f5⟩ := hf it (by simp)
    refine wpAny_pyNext_list_item st p.isList (x := u) (by simpa using hu) fun h' st' sb => ?_
    have I1 : Inv X pins σ H { s with heap := h' } := I.turned (t' := s.toks) (fun b o hb e => (sb.2 b hb).trans e) f0 f1 f3 f4 f5
    obtain ⟨o, e, c, d⟩ := id st'
    exact ⟨u, rfl, go_of (s := { s with heap := h' }) e c d (by decide) ⟨x, H, I1, ru, ⟨rfl, fun ys hy => by rw [I.list_inj hy hq]; exact hx⟩, st', fun b hb => (hf b hb).1⟩⟩
  done := by
    intro X hP hw hK hc i pins s σ H E I hf st hg
    subst hP hw hK
    obtain ⟨xs, hq, hx⟩ := hg
    obtain ⟨its, rv, p, hz⟩ := I.list hq
    obtain ⟨f0, f1, f2, f3, f4, f5⟩ := hf it (by simp)
    have hl := rv.length
    exact wpAny_pyNext_list_end (I.ok.hd hc) st p.isList (by simp; omega) fun h' eb => ⟨rfl, I.turned (t' := s.toks) (fun b o hb e => eb b o hb e) f0 f1 f3 f4 f5⟩
  self := fun _ _ _ _ _ st h => wpAny_pyIter_listiter st h
theorem turn_tuple {P : Program} {w : World} {K : PySem.W.Frag} {tg : Expr} (a it : Addr) : Turn P w K tg (Itt K a) [it] it (fun i h => h.IsTupleIter it a i) where
  mem := by simp
  obj := fun i h st b hb => by
    have e : b = it := by simpa using hb
    subst e
    obtain ⟨o, e, c, d⟩ := st
    exact ⟨o, e, fun v z => by rw [d] at z; cases z⟩
  keep := fun i h h' st k => st.at fun o e => k it (by simp) o e
  item := by
    intro X hP hw hK hc i pins s σ H E I hf st hg
    subst hP hw hK
    obtain ⟨xs, x, hq, hx⟩ := hg
    obtain ⟨its, rv, p, hz⟩ := I.tuple hq
    obtain ⟨u, hu, ru⟩ := rv.get hx
    obtain ⟨f0, f1, f2, f3, f4, f5⟩ := hf it (by simp)
    refine wpAny_pyNext_tuple_item st (show s.heap.IsTuple a its.toArray from p) (x := u) (by simpa using hu) fun h' st' sb => ?_
    have I1 : Inv X pins σ H { s with heap := h' } := I.turned (t' := s.toks) (fun b o hb e => (sb.2 b hb).trans e) f0 f1 f3 f4 f5
    obtain ⟨o, e, c, d⟩ := id st'
    exact ⟨u, rfl, go_of (s := { s with heap := h' }) e c d (by decide) ⟨x, H, I1, ru, ⟨rfl, fun ys hy => by rw [I.tuple_inj hy hq]; exact hx⟩, st', fun b hb => (hf b hb).1⟩⟩
  done := by
    intro X hP hw hK hc i pins s σ H E I hf st hg
    subst hP hw hK
    obtain ⟨xs, hq, hx⟩ := hg
    obtain ⟨its, rv, p, hz⟩ := I.tuple hq
    obtain ⟨f0, f1, f2, f3, f4, f5⟩ := hf it (by simp)
    have hl := rv.length
    exact wpAny_pyNext_tuple_end (I.ok.hd hc) st (show s.heap.IsTuple a its.toArray from p) (by simp; omega) fun h' eb => ⟨rfl, I.turned (t' := s.toks) (fun b o hb e => eb b o hb e) f0 f1 f3 f4 f5⟩
  self := fun _ _ _ _ _ st h => wpAny_pyIter_tupleiter st h
theorem turn_range {P : Program} {w : World} {K : PySem.W.Frag} {tg : Expr} (it : Addr) (lo : Int) (n : Nat) : Turn P w K tg (Itr lo n) [it] it (fun i h => IsRangeIter h it (lo + (i : Nat) * 1) ((n : Int) - (i : Nat)) 1) where
  mem := by simp
  obj := fun i h st b hb => by
    have e : b = it := by simpa using hb
    subst e
    exact ⟨_, st, fun v z => by
      have z' : Data.fields _ = Data.cell v := z
      cases z'⟩
  keep := fun i h h' st k => k it (by simp) _ st
  item := by
    intro X hP hw hK hc i pins s σ H E I hf st hg
    subst hP hw hK
    obtain ⟨f0, f1, f2, f3, f4, f5⟩ := hf it (by simp)
    have W := Walks.range (prog := X.prog) (w := X.w) (I.ok.hd hc) it lo 1 n
    refine W.item i s _ _ hg st fun v h' tk hv st' kk => ?_
    obtain ⟨t, rfl⟩ := hv
    have I1 : Inv X pins σ H { s with heap := h', toks := tk } := I.turned (fun b o hb e => kk b o (by simpa using hb) e) f0 f1 f3 f4 f5
    refine ⟨_, rfl, go_of (s := { s with heap := h', toks := tk }) (n := "range_iterator") st' rfl rfl (by decide) ⟨.int (lo + i), H, I1, ⟨t, ?_⟩, ⟨rfl, rfl⟩, st', fun b hb => (hf b hb).1⟩⟩
    rw [Int.mul_one]
  done := by
    intro X hP hw hK hc i pins s σ H E I hf st hg
    subst hP hw hK
    obtain ⟨f0, f1, f2, f3, f4, f5⟩ := hf it (by simp)
    exact wpAny_pyNext_range_end (I.ok.hd hc) st (by have : n ≤ i := hg; omega) fun h' eb => ⟨rfl, I.turned (t' := s.toks) (fun b o hb e => eb b o hb e) f0 f1 f3 f4 f5⟩
  self := fun _ _ _ _ _ st h => wpAny_pyIter_rangeiter st h
end L2

namespace L2
open PySem PySem.Spec PyProof.Rows
section
variable {X : Cx} {tg : Expr}
def iList (K : PySem.W.Frag) (tl : TE) : TI := fun σ H R => tl σ H fun x H1 => ∃ a, x = .ref a ∧ (∃ xs, SqL K H1 a xs) ∧ R (Itl K a) H1
def iTup (K : PySem.W.Frag) (tl : TE) : TI := fun σ H R => tl σ H fun x H1 => ∃ a, x = .ref a ∧ (∃ xs, SqT K H1 a xs) ∧ R (Itt K a) H1
theorem pi_list {l : Expr} {tl : TE} (hl : PE X l tl) : PI X tg l (iList X.K tl) := by
  intro pins s σ H R I h
  refine thn (hl pins s σ H _ I h) fun v s1 ⟨x, H1, I1, r1, q1⟩ => ?_
  obtain ⟨a, e, ⟨xs, hq⟩, q⟩ := q1
  subst e
  cases r1
  obtain ⟨its, rv, p, hz⟩ := I1.list hq
  refine wpAny_pyIter_list p.isList ?_
  refine ⟨s1.heap.objs.size, [s1.heap.objs.size], _, _, H1, rfl, I1.kept (t' := s1.toks) fun b o e => Heap.get?_push_of_some _ e, turn_list a _, ⟨_, Heap.get?_push_size _ rfl, rfl, rfl⟩, fun b hb => ?_, q⟩
  have e : b = s1.heap.objs.size := by simpa using hb
  subst e
  exact I1.fpOk (Nat.le_refl _) (I1.hok.fresh (Nat.le_refl _))
theorem pi_tup {l : Expr} {tl : TE} (hl : PE X l tl) : PI X tg l (iTup X.K tl) := by
  intro pins s σ H R I h
  refine thn (hl pins s σ H _ I h) fun v s1 ⟨x, H1, I1, r1, q1⟩ => ?_
  obtain ⟨a, e, ⟨xs, hq⟩, q⟩ := q1
  subst e
  cases r1
  obtain ⟨its, rv, p, hz⟩ := I1.tuple hq
  refine wpAny_pyIter_tuple (show s1.heap.IsTuple a its.toArray from p) ?_
  refine ⟨s1.heap.objs.size, [s1.heap.objs.size], _, _, H1, rfl, I1.kept (t' := s1.toks) fun b o e => Heap.get?_push_of_some _ e, turn_tuple a _, ⟨_, Heap.get?_push_size _ rfl, rfl, rfl⟩, fun b hb => ?_, q⟩
  have e : b = s1.heap.objs.size := by simpa using hb
  subst e
  exact I1.fpOk (Nat.le_refl _) (I1.hok.fresh (Nat.le_refl _))
/-- a range object just made, walked -/
theorem range_it {pins : List (Addr × Obj)} {σ : St} {H : Hp} {s : Shared} {R : It → Hp → Prop} {E : Value → Shared → Prop} {lo hi : Int} {t u v : Tok} {tk : Nat} (I : Inv X pins σ H s) (h1 : -(2 ^ 62) ≤ lo) (h2 : lo < 2 ^ 62) (h3 : -(2 ^ 62) ≤ hi) (h4 : hi < 2 ^ 62)
    (q : R (Itr lo (hi - lo).toNat) H) : wpAny (model X.prog X.w) X.A (pyIter (.ref s.heap.objs.size)) (PIE X pins σ tg R) E { s with heap := s.heap.push { cls := .type "range", data := .fields #[.int lo t, .int hi u, .int 1 v] }, toks := tk } := by
  refine wpAny_pyIter_range (IsRange.new ..) (small_one h1 h2 h3 h4) ?_
  have I1 : Inv X pins σ H { s with heap := s.heap.push { cls := .type "range", data := .fields #[.int lo t, .int hi u, .int 1 v] }, toks := tk } := I.kept fun b o e => Heap.get?_push_of_some _ e
  refine ⟨(s.heap.push { cls := .type "range", data := .fields #[.int lo t, .int hi u, .int 1 v] }).objs.size, [(s.heap.push { cls := .type "range", data := .fields #[.int lo t, .int hi u, .int 1 v] }).objs.size], _, _, H, rfl,
    I1.kept (t' := tk) fun b o e => Heap.get?_push_of_some _ e, turn_range _ lo (hi - lo).toNat, ?_, fun b hb => ?_, q⟩
  · have e1 : lo + ((0 : Nat) : Int) * 1 = lo := by simp
    have e2 : (((hi - lo).toNat : Nat) : Int) - ((0 : Nat) : Int) = Builtin.Range.rangeSize lo hi 1 := by rw [rangeSize_one]; split <;> omega
    show IsRangeIter _ _ (lo + ((0 : Nat) : Int) * 1) ((((hi - lo).toNat : Nat) : Int) - ((0 : Nat) : Int)) 1
    rw [e1, e2]
    exact Heap.get?_push_size _ rfl
  · have e : b = (s.heap.push { cls := .type "range", data := .fields #[.int lo t, .int hi u, .int 1 v] }).objs.size := by simpa using hb
    subst e
    exact I1.fpOk (Nat.le_refl _) (I1.hok.fresh (Nat.le_refl _))
def iRng1 (ta : TA) : TI := fun σ H R => ta σ H fun vs H1 => ∃ j : Int, vs = [.int j] ∧ -(2 ^ 62) ≤ j ∧ j < 2 ^ 62 ∧ R (Itr 0 j.toNat) H1
def iRng2 (ta : TA) : TI := fun σ H R => ta σ H fun vs H1 => ∃ i j : Int, vs = [.int i, .int j] ∧ (-(2 ^ 62) ≤ i ∧ i < 2 ^ 62 ∧ -(2 ^ 62) ≤ j ∧ j < 2 ^ 62) ∧ R (Itr i (j - i).toNat) H1
theorem pi_range1 {a : Expr} {ta : TA} {p pos : Pos} (hg : Gl X "range") (hm : X.mg "range" = none) (ha : PA X [a] ta) (hs : starEach [a] X.env = [(false, eval a X.env)] := by rfl) : PI X tg (.Call (.Name "range" p) [a] [] pos) (iRng1 ta) := by
  intro pins s σ H R I h
  refine Call_ (ld_blt I hg hm boot_range (PyProof.Rows.callWith_type1 (thn (ha pos pins s σ H _ I h) fun us s1 ⟨vs, H1, I1, r1, q1⟩ => ?_) hs rfl))
  obtain ⟨j, e, q1, q2, q⟩ := q1
  subst e
  cases r1 with
  | cons r rr =>
    cases rr
    obtain ⟨t, rfl⟩ := r
    exact call_range_1 (range_it I1 (by omega) (by omega) q1 q2 (by simpa using q))
theorem pi_range2 {a b : Expr} {ta : TA} {p pos : Pos} (hg : Gl X "range") (hm : X.mg "range" = none) (ha : PA X [a, b] ta) (hs : starEach [a, b] X.env = [(false, eval a X.env), (false, eval b X.env)] := by rfl) (hs2 : starEach [b] X.env = [(false, eval b X.env)] := by rfl) :
    PI X tg (.Call (.Name "range" p) [a, b] [] pos) (iRng2 ta) := by
  intro pins s σ H R I h
  refine Call_ (ld_blt I hg hm boot_range (PyProof.Rows.callWith_type1 (thn (ha pos pins s σ H _ I h) fun us s1 ⟨vs, H1, I1, r1, q1⟩ => ?_) (by rw [hs, hs2]) (by rw [hs2]; rfl)))
  obtain ⟨i, j, e, ⟨q1, q2, q3, q4⟩, q⟩ := q1
  subst e
  cases r1 with
  | cons r rr =>
    cases rr with
    | cons r' rr =>
      cases rr
      obtain ⟨t, rfl⟩ := r
      obtain ⟨t', rfl⟩ := r'
      exact call_range_2 (range_it I1 q1 q2 q3 q4 q)

/-! ### for -/
/-- W: the invariant by the turn and a measure; N: what the body is to reach -/
def tFor (wi : TI) (g : TG) (tb : TS) : TS := fun D σ H => wi σ H fun J H1 => ∃ W : Nat → Nat → St → Hp → Prop, (∃ m, W 0 m σ H1) ∧ ∀ i m σ H, W i m σ H →
  (J.stop i H ∧ D.nx σ H) ∨ (J.go i H ∧ ∃ N : St → Hp → Prop, (∀ σ' H', N σ' H' → ∃ m', m' < m ∧ W (i + 1) m' σ' H') ∧ ∀ x H', J.yld i H x H' → g x σ H' fun σ2 H2 => tb { D with nx := N, ct := N, bk := D.nx } σ2 H2)
/-- the records at fp as they stand -/
def pinsAt (fp : List Addr) (h : Heap) : List (Addr × Obj) := fp.filterMap fun b => (h.get? b).map fun o => (b, o)
theorem mem_pinsAt {fp : List Addr} {h : Heap} {b : Addr} {o : Obj} (hb : b ∈ fp) (e : h.get? b = some o) : (b, o) ∈ pinsAt fp h := List.mem_filterMap.mpr ⟨b, hb, by rw [e]; rfl⟩
theorem of_pinsAt {fp : List Addr} {h : Heap} {p : Addr × Obj} (hp : p ∈ pinsAt fp h) : p.1 ∈ fp ∧ h.get? p.1 = some p.2 := by
  obtain ⟨b, hb, e⟩ := List.mem_filterMap.mp hp
  cases q : h.get? b with
  | none => rw [q] at e; cases e
  | some o =>
    rw [q] at e
    have e' : (b, o) = p := Option.some.inj e
    subst e'
    exact ⟨hb, q⟩
theorem Inv.pinned {pins : List (Addr × Obj)} {σ : St} {H : Hp} {s : Shared} {fp : List Addr} (I : Inv X pins σ H s) (hf : ∀ b ∈ fp, FpOk X pins H b) (ho : ∀ b ∈ fp, ∃ o, s.heap.get? b = some o ∧ ∀ v, o.data ≠ .cell v) : Inv X (pins ++ pinsAt fp s.heap) σ H s :=
  I.pins_of fun p hp => (List.mem_append.mp hp).elim (fun z => I.pin p (List.mem_append_right _ z)) fun z => by
    obtain ⟨hb, e⟩ := of_pinsAt z
    obtain ⟨f0, f1, f2, _⟩ := hf p.1 hb
    obtain ⟨o, e', d⟩ := ho p.1 hb
    rw [e] at e'; cases e'
    exact ⟨e, f0, f1, f2, d⟩
theorem Inv.unpinned {pins pl : List (Addr × Obj)} {σ : St} {H : Hp} {s : Shared} (I : Inv X (pins ++ pl) σ H s) : Inv X pins σ H s := I.pins_of fun p hp => I.pin p (List.mem_append_right _ (List.mem_append_left _ hp))
theorem ps_for {iter : Expr} {body : List Stmt} {wi : TI} {g : TG} {tb : TS} {pos : Pos} (hp : PassesOwn (model X.prog X.w) X.A X.env X.xe) (hc : X.calm = true) (hi : PI X tg iter wi) (hg : PG X tg g) (hb : PSs X body tb)
    (hs : ∀ x, foldedSetIterable iter X.env x = pure x := by intro _; rfl) : PS X (.For tg iter body [] pos) (tFor wi g tb) := by
  intro pins s σ H D I h
  refine wpAny_For (thn (hi pins s σ H _ I h) fun v s1 h1 => thn h1 fun itv s2 h2 => ?_) hs
  obtain ⟨it, fp, tn, J, H2, e, I2, T, st2, f2, W, ⟨m0, w0⟩, turn⟩ := h2
  subst e
  -- what stays true of the iterator's objects through the loop
  have stat : ∀ {H' : Hp}, (∀ b ∈ fp, H' b = none) → ∀ b ∈ fp, FpOk X pins H' b := fun hn b hb => ⟨hn b hb, (f2 b hb).2⟩
  refine codeAny_forLoop_any (fun n s' => ∃ i σ' H', Inv X pins σ' H' s' ∧ tn i s'.heap ∧ (∀ b ∈ fp, H' b = none) ∧ W i n σ' H') ?_ m0 ⟨0, σ, H2, I2, st2, fun b hb => (f2 b hb).1, w0⟩
  rintro n s3 ⟨i, σ3, H3, I3, st3, fr3, w3⟩
  rcases turn i n σ3 H3 w3 with ⟨stop, qn⟩ | ⟨go, N, hN, step⟩
  · refine wpAny_passesOwn hp (thn (T.done X rfl rfl rfl hc i pins s3 σ3 H3 X.xe I3 (stat fr3) st3 stop) fun r s4 ⟨hr, I4⟩ => ?_)
    subst hr
    exact wpAny_execs_nil ⟨σ3, H3, I4, qn⟩
  · refine wpAny_passesOwn hp (thn (T.item X rfl rfl rfl hc i pins s3 σ3 H3 X.xe I3 (stat fr3) st3 go) fun r s4 ⟨u, hr, h4⟩ => ?_)
    subst hr
    refine wpAny_passesOwn hp (thn h4 fun _ s5 ⟨x, H5, I5, r5, y5, st5, fr5⟩ => ?_)
    have I5' := I5.pinned (stat fr5) (T.obj _ _ st5)
    refine wpAny_passesOwn hp (thn (hg _ s5 σ3 H5 x u _ I5' r5 (step x H5 y5)) fun _ s6 ⟨σ6, H6, I6, q6⟩ => ?_)
    refine wpAny_passesOwn hp (thn (hb _ s6 σ6 H6 _ I6 q6) fun f s7 q7 => ?_)
    have again : ∀ {σ7 : St} {H7 : Hp}, Inv X (pins ++ pinsAt fp s5.heap) σ7 H7 s7 → N σ7 H7 → ∃ m, m < n ∧ ∃ i σ' H', Inv X pins σ' H' s7 ∧ tn i s7.heap ∧ (∀ b ∈ fp, H' b = none) ∧ W i m σ' H' := fun {σ7 H7} I7 n7 => by
      obtain ⟨m', hm, w7⟩ := hN σ7 H7 n7
      refine ⟨m', hm, i + 1, σ7, H7, I7.unpinned, T.keep _ _ _ st5 fun b hb o e => (I7.pin (b, o) (List.mem_append_right _ (List.mem_append_right _ (mem_pinsAt hb e)))).1, fun b hb => ?_, w7⟩
      obtain ⟨o, e, d⟩ := T.obj _ _ st5 b hb
      exact (I7.pin (b, o) (List.mem_append_right _ (List.mem_append_right _ (mem_pinsAt hb e)))).2.1
    cases f with
    | next => obtain ⟨σ7, H7, I7, n7⟩ := q7; exact again I7 n7
    | cont => obtain ⟨σ7, H7, I7, n7⟩ := q7; exact again I7 n7
    | brk => obtain ⟨σ7, H7, I7, q7⟩ := q7; exact ⟨σ7, H7, I7.unpinned, q7⟩
    | ret v => obtain ⟨x7, σ7, H7, I7, r7, q7⟩ := q7; exact ⟨x7, σ7, H7, I7.unpinned, r7, q7⟩
end

/-! ### the forms one uses -/
/-- over a list that the body leaves as it is -/
theorem for_list {K : PySem.W.Frag} {a : Addr} {xs : List V} {g : TG} {tb : TS} {D : Ends} {σ : St} {H : Hp} (Pv : Nat → St → Hp → Prop) (h0 : Pv 0 σ H) (hl : ∀ i σ H, i ≤ xs.length → Pv i σ H → SqL K H a xs)
    (hs : ∀ i x σ H, xs[i]? = some x → Pv i σ H → g x σ H fun σ2 H2 => tb { D with nx := Pv (i + 1), ct := Pv (i + 1), bk := D.nx } σ2 H2) (hd : ∀ σ H, Pv xs.length σ H → D.nx σ H) :
    ∃ W : Nat → Nat → St → Hp → Prop, (∃ m, W 0 m σ H) ∧ ∀ i m σ H, W i m σ H →
      ((Itl K a).stop i H ∧ D.nx σ H) ∨ ((Itl K a).go i H ∧ ∃ N : St → Hp → Prop, (∀ σ' H', N σ' H' → ∃ m', m' < m ∧ W (i + 1) m' σ' H') ∧ ∀ x H', (Itl K a).yld i H x H' → g x σ H' fun σ2 H2 => tb { D with nx := N, ct := N, bk := D.nx } σ2 H2) := by
  refine ⟨fun i m σ H => m = xs.length - i ∧ i ≤ xs.length ∧ Pv i σ H, ⟨xs.length, by simp, Nat.zero_le _, h0⟩, ?_⟩
  rintro i m σ H ⟨rfl, hi, p⟩
  have q := hl i σ H hi p
  by_cases hlt : i < xs.length
  · refine .inr ⟨⟨xs, xs[i], q, by simp [hlt]⟩, Pv (i + 1), fun σ' H' p' => ⟨xs.length - (i + 1), by omega, rfl, hlt, p'⟩, fun x H' y => ?_⟩
    obtain ⟨e, y⟩ := y
    subst e
    exact hs i x σ _ (y xs q) p
  · have e : i = xs.length := by omega
    subst e
    exact .inl ⟨⟨xs, q, Nat.le_refl _⟩, hd σ H p⟩
theorem for_tup {K : PySem.W.Frag} {a : Addr} {xs : List V} {g : TG} {tb : TS} {D : Ends} {σ : St} {H : Hp} (Pv : Nat → St → Hp → Prop) (h0 : Pv 0 σ H) (hl : ∀ i σ H, i ≤ xs.length → Pv i σ H → SqT K H a xs)
    (hs : ∀ i x σ H, xs[i]? = some x → Pv i σ H → g x σ H fun σ2 H2 => tb { D with nx := Pv (i + 1), ct := Pv (i + 1), bk := D.nx } σ2 H2) (hd : ∀ σ H, Pv xs.length σ H → D.nx σ H) :
    ∃ W : Nat → Nat → St → Hp → Prop, (∃ m, W 0 m σ H) ∧ ∀ i m σ H, W i m σ H →
      ((Itt K a).stop i H ∧ D.nx σ H) ∨ ((Itt K a).go i H ∧ ∃ N : St → Hp → Prop, (∀ σ' H', N σ' H' → ∃ m', m' < m ∧ W (i + 1) m' σ' H') ∧ ∀ x H', (Itt K a).yld i H x H' → g x σ H' fun σ2 H2 => tb { D with nx := N, ct := N, bk := D.nx } σ2 H2) := by
  refine ⟨fun i m σ H => m = xs.length - i ∧ i ≤ xs.length ∧ Pv i σ H, ⟨xs.length, by simp, Nat.zero_le _, h0⟩, ?_⟩
  rintro i m σ H ⟨rfl, hi, p⟩
  have q := hl i σ H hi p
  by_cases hlt : i < xs.length
  · refine .inr ⟨⟨xs, xs[i], q, by simp [hlt]⟩, Pv (i + 1), fun σ' H' p' => ⟨xs.length - (i + 1), by omega, rfl, hlt, p'⟩, fun x H' y => ?_⟩
    obtain ⟨e, y⟩ := y
    subst e
    exact hs i x σ _ (y xs q) p
  · have e : i = xs.length := by omega
    subst e
    exact .inl ⟨⟨xs, q, Nat.le_refl _⟩, hd σ H p⟩
theorem for_range {lo : Int} {n : Nat} {g : TG} {tb : TS} {D : Ends} {σ : St} {H : Hp} (Pv : Nat → St → Hp → Prop) (h0 : Pv 0 σ H)
    (hs : ∀ i σ H, i < n → Pv i σ H → g (.int (lo + i)) σ H fun σ2 H2 => tb { D with nx := Pv (i + 1), ct := Pv (i + 1), bk := D.nx } σ2 H2) (hd : ∀ σ H, Pv n σ H → D.nx σ H) :
    ∃ W : Nat → Nat → St → Hp → Prop, (∃ m, W 0 m σ H) ∧ ∀ i m σ H, W i m σ H →
      ((Itr lo n).stop i H ∧ D.nx σ H) ∨ ((Itr lo n).go i H ∧ ∃ N : St → Hp → Prop, (∀ σ' H', N σ' H' → ∃ m', m' < m ∧ W (i + 1) m' σ' H') ∧ ∀ x H', (Itr lo n).yld i H x H' → g x σ H' fun σ2 H2 => tb { D with nx := N, ct := N, bk := D.nx } σ2 H2) := by
  refine ⟨fun i m σ H => m = n - i ∧ i ≤ n ∧ Pv i σ H, ⟨n, by simp, Nat.zero_le _, h0⟩, ?_⟩
  rintro i m σ H ⟨rfl, hi, p⟩
  by_cases hlt : i < n
  · refine .inr ⟨hlt, Pv (i + 1), fun σ' H' p' => ⟨n - (i + 1), by omega, rfl, hlt, p'⟩, fun x H' y => ?_⟩
    obtain ⟨e, y⟩ := y
    subst e y
    exact hs i σ _ hlt p
  · have e : i = n := by omega
    subst e
    exact .inl ⟨Nat.le_refl _, hd σ H p⟩
end L2

namespace L2
open PySem PySem.Spec PyProof.Rows

abbrev R2 := V → V → Hp → VK → Prop
/-- a two-place operation on values: f is binaryOp op, inplaceOp op or compareOp op -/
def OpR (X : Cx) (f : Value → Value → Sem Value) (r : R2) : Prop :=
  ∀ (pins : List (Addr × Obj)) (s : Shared) (σ : St) (H : Hp) (x y : V) (v u : Value) (Q : VK), Inv X pins σ H s → RelV x v → RelV y u → r x y H Q →
    wpAny (model X.prog X.w) X.A (f v u) (EP X pins σ Q) X.xe s
/-- a one-place operation -/
def UnR (X : Cx) (f : Value → Sem Value) (r : V → Hp → VK → Prop) : Prop :=
  ∀ (pins : List (Addr × Obj)) (s : Shared) (σ : St) (H : Hp) (x : V) (v : Value) (Q : VK), Inv X pins σ H s → RelV x v → r x H Q →
    wpAny (model X.prog X.w) X.A (f v) (EP X pins σ Q) X.xe s
/-- a call of a value that is known (a builtin, a type) with values -/
def CallR (X : Cx) (f : Value) (r : List V → Hp → VK → Prop) : Prop :=
  ∀ (pins : List (Addr × Obj)) (s : Shared) (σ : St) (H : Hp) (xs : List V) (us : List Value) (Q : VK), Inv X pins σ H s → Vals xs us → r xs H Q →
    wpAny (model X.prog X.w) X.A (call f us) (EP X pins σ Q) X.xe s
/-- a value's truth -/
def TruR (X : Cx) (r : V → Hp → (Bool → Hp → Prop) → Prop) : Prop :=
  ∀ (pins : List (Addr × Obj)) (s : Shared) (σ : St) (H : Hp) (x : V) (v : Value) (Q : Bool → Hp → Prop), Inv X pins σ H s → RelV x v → r x H Q →
    wpAny (model X.prog X.w) X.A (truthy v) (TP X pins σ Q) X.xe s

def tOp (r : R2) (ta tb : TE) : TE := fun σ H Q => ta σ H fun x H1 => tb σ H1 fun y H2 => r x y H2 Q
def tUn (r : V → Hp → VK → Prop) (ta : TE) : TE := fun σ H Q => ta σ H fun x H1 => r x H1 Q
/-- ints in, under C, and a value out -/
def rI (C : Int → Int → Prop) (g : Int → Int → V) : R2 := fun x y H Q => ∃ i j, x = .int i ∧ y = .int j ∧ C i j ∧ Q (g i j) H
def rI0 (g : Int → Int → V) : R2 := fun x y H Q => ∃ i j, x = .int i ∧ y = .int j ∧ Q (g i j) H
def rU (g : Int → V) : V → Hp → VK → Prop := fun x H Q => ∃ i, x = .int i ∧ Q (g i) H

section
variable {X : Cx} {a b c : Expr} {ta tb tc : TE} {pos : Pos}

theorem binT (ha : PE X a ta) (hb : PE X b tb) {pins : List (Addr × Obj)} {s : Shared} {σ : St} {H : Hp} {R : V → V → Hp → Prop} (I : Inv X pins σ H s)
    (h : ta σ H fun x H1 => tb σ H1 fun y H2 => R x y H2) {Q : Value → Shared → Prop} {f : Value → Value → Sem Value}
    (hf : ∀ v u s2 x y H2, Inv X pins σ H2 s2 → RelV x v → RelV y u → R x y H2 → wpAny (model X.prog X.w) X.A (f v u) Q X.xe s2) :
    wpAny (model X.prog X.w) X.A (eval a X.env) (fun v s₁ => wpAny (model X.prog X.w) X.A (eval b X.env) (fun u s₂ => wpAny (model X.prog X.w) X.A (f v u) Q X.xe s₂) X.xe s₁) X.xe s := by
  refine thn (ha pins s σ H _ I h) fun v s1 ⟨x, H1, I1, r1, q1⟩ => ?_
  refine thn (hb pins s1 σ H1 _ I1 q1) fun u s2 ⟨y, H2, I2, r2, q2⟩ => ?_
  exact hf v u s2 x y H2 I2 r1 r2 q2

theorem pe_op {op : Operator} {r : R2} (ho : OpR X (binaryOp op) r) (ha : PE X a ta) (hb : PE X b tb) : PE X (.BinOp a op b pos) (tOp r ta tb) := by
  intro pins s σ H Q I h
  exact wpAny_BinOp (binT ha hb I h fun v u s2 x y H2 I2 rx ry q => ho pins s2 σ H2 x y v u Q I2 rx ry q)
theorem pe_un {op : UnaryOp} {r : V → Hp → VK → Prop} (ho : UnR X (unaryOp op) r) (ha : PE X a ta) : PE X (.UnaryOp op a pos) (tUn r ta) := by
  intro pins s σ H Q I h
  exact UnaryOp_ (thn (ha pins s σ H _ I h) fun v s1 ⟨x, H1, I1, r1, q1⟩ => ho pins s1 σ H1 x v Q I1 r1 q1)

/-! ### ints -/
theorem opI {f : Value → Value → Sem Value} {C : Int → Int → Prop} {g : Int → Int → Int}
    (rule : ∀ (i j : Int) (t u : Tok) (s : Shared) (Q : Value → Shared → Prop) (E : Value → Shared → Prop), C i j → Q (.int (g i j) s.toks) { s with toks := s.toks + 1 } → wpAny (model X.prog X.w) X.A (f (.int i t) (.int j u)) Q E s) :
    OpR X f (rI C fun i j => .int (g i j)) := by
  intro pins s σ H x y v u Q I rx ry h
  obtain ⟨i, j, rfl, rfl, hc, q⟩ := h
  obtain ⟨t, rfl⟩ := rx
  obtain ⟨t', rfl⟩ := ry
  exact rule i j t t' s _ _ hc ⟨.int (g i j), H, I.tok _, ⟨_, rfl⟩, q⟩
theorem opI0 {f : Value → Value → Sem Value} {g : Int → Int → Int}
    (rule : ∀ (i j : Int) (t u : Tok) (s : Shared) (Q : Value → Shared → Prop) (E : Value → Shared → Prop), Q (.int (g i j) s.toks) { s with toks := s.toks + 1 } → wpAny (model X.prog X.w) X.A (f (.int i t) (.int j u)) Q E s) :
    OpR X f (rI0 fun i j => .int (g i j)) := by
  intro pins s σ H x y v u Q I rx ry h
  obtain ⟨i, j, rfl, rfl, q⟩ := h
  obtain ⟨t, rfl⟩ := rx
  obtain ⟨t', rfl⟩ := ry
  exact rule i j t t' s _ _ ⟨.int (g i j), H, I.tok _, ⟨_, rfl⟩, q⟩
theorem opB0 {f : Value → Value → Sem Value} {g : Int → Int → Bool}
    (rule : ∀ (i j : Int) (t u : Tok) (s : Shared) (Q : Value → Shared → Prop) (E : Value → Shared → Prop), Q (.bool (g i j)) s → wpAny (model X.prog X.w) X.A (f (.int i t) (.int j u)) Q E s) :
    OpR X f (rI0 fun i j => .bl (g i j)) := by
  intro pins s σ H x y v u Q I rx ry h
  obtain ⟨i, j, rfl, rfl, q⟩ := h
  obtain ⟨t, rfl⟩ := rx
  obtain ⟨t', rfl⟩ := ry
  exact rule i j t t' s _ _ ⟨.bl (g i j), H, I, rfl, q⟩

def CDiv (i j : Int) : Prop := 0 < j ∧ j < 1073741824
def CPow (i j : Int) : Prop := 0 ≤ j ∧ j ≤ 1000000 ∧ i.natAbs < 2 ^ 64

theorem op_add : OpR X (binaryOp .Add) (rI0 fun i j => .int (i + j)) := opI0 fun _ _ _ _ _ _ _ q => add_int q
theorem op_sub : OpR X (binaryOp .Sub) (rI0 fun i j => .int (i - j)) := opI0 fun _ _ _ _ _ _ _ q => sub_int q
/-- // by a positive divisor -/
theorem op_fdiv : OpR X (binaryOp .FloorDiv) (rI CDiv fun i j => .int (i / j)) := opI fun i j _ _ _ _ _ hc q => by
  have h1 : (0 : Int) < j := hc.1
  have h2 : j < 1073741824 := hc.2
  exact floordiv_int (by omega) (by rw [Int.fdiv_eq_ediv_of_nonneg i (by omega)]; exact q) (.inl (PyProof.noPylong_small (by omega)))
/-- % by a positive divisor of any size -/
theorem op_mod : OpR X (binaryOp .Mod) (rI (fun _ j => 0 < j) fun i j => .int (i % j)) := opI fun i j _ _ _ _ _ hc q => by
  have h1 : (0 : Int) < j := hc
  exact mod_int' (by omega) (by rw [Int.fmod_eq_emod_of_nonneg i (by omega)]; exact q)
theorem op_modN : OpR X (binaryOp .Mod) (rI (fun _ j => j ≠ 0) fun i j => .int (i.fmod j)) := opI fun _ _ _ _ _ _ _ hc q => mod_int' hc q
theorem op_pow : OpR X (binaryOp .Pow) (rI CPow fun i j => .int (i ^ j.toNat)) := opI fun _ _ _ _ _ _ _ hc q => pow_int_small hc.1 hc.2.1 hc.2.2 q


theorem unI {f : Value → Sem Value} {g : Int → Int}
    (rule : ∀ (i : Int) (t : Tok) (s : Shared) (Q : Value → Shared → Prop) (E : Value → Shared → Prop), Q (.int (g i) s.toks) { s with toks := s.toks + 1 } → wpAny (model X.prog X.w) X.A (f (.int i t)) Q E s) :
    UnR X f (rU fun i => .int (g i)) := by
  intro pins s σ H x v Q I rx h
  obtain ⟨i, rfl, q⟩ := h
  obtain ⟨t, rfl⟩ := rx
  exact rule i t s _ _ ⟨.int (g i), H, I.tok _, ⟨_, rfl⟩, q⟩
theorem un_neg : UnR X (unaryOp .USub) (rU fun i => .int (-i)) := unI fun _ _ _ _ _ q => neg_int q

/-! ### bools among ints: n += (a < b) -/
end

/-! ### comparisons -/
/-- the scalars that == tells apart as data does -/
def scal : V → V → Bool
  | .non, .non => true | .non, .int _ => true | .int _, .non => true | .non, .bl _ => true | .bl _, .non => true | .non, .str _ => true | .str _, .non => true
  | .int _, .int _ => true | .bl _, .bl _ => true | .str _, .str _ => true | .byt _, .byt _ => true
  | .int _, .str _ => true | .str _, .int _ => true | .bl _, .str _ => true | .str _, .bl _ => true
  | _, _ => false
def rEq : R2 := fun x y H Q => scal x y = true ∧ Q (.bl (decide (x = y))) H
def rNe : R2 := fun x y H Q => scal x y = true ∧ Q (.bl (!decide (x = y))) H

theorem dec_int {i j : Int} : decide (V.int i = V.int j) = (i == j) := by
  rw [Bool.eq_iff_iff]
  simp
theorem dec_bl {i j : Bool} : decide (V.bl i = V.bl j) = (i == j) := by
  rw [Bool.eq_iff_iff]
  simp
theorem dec_str {i j : Str} : decide (V.str i = V.str j) = (i == j) := by
  rw [Bool.eq_iff_iff]
  simp
theorem dec_byt {i j : Array UInt8} : decide (V.byt i = V.byt j) = (i.toList == j.toList) := by
  rw [Bool.eq_iff_iff]
  cases i
  cases j
  simp

section
variable {X : Cx} {a b c : Expr} {ta tb tc : TE} {pos : Pos}
theorem fin_bl {pins : List (Addr × Obj)} {σ : St} {H : Hp} {s : Shared} {Q : VK} {k k' : Bool} (I : Inv X pins σ H s) (q : Q (.bl k) H) (e : k = k') : EP X pins σ Q (.bool k') s := by
  subst e
  exact ⟨.bl k, H, I, rfl, q⟩
theorem op_eq : OpR X (compareOp .Eq) rEq := by
  intro pins s σ H x y v u Q I rx ry h
  obtain ⟨hs, q⟩ := h
  cases x with
  | non =>
    cases rx
    cases y with
    | non => cases ry; exact PySem.EqNone.eq_none_none (fin_bl I q (by simp))
    | bl j => cases ry; exact PySem.EqNone.eq_none_bool (fin_bl I q (by simp))
    | int j => obtain ⟨t', rfl⟩ := ry; exact PySem.EqNone.eq_none_int (fin_bl I q (by simp))
    | str j => obtain ⟨t', rfl⟩ := ry; exact PySem.EqNone.eq_none_str (fin_bl I q (by simp))
    | _ => exact absurd (show false = true from hs) Bool.false_ne_true
  | bl i =>
    cases rx
    cases y with
    | non => cases ry; exact PySem.EqNone.eq_bool_none (fin_bl I q (by simp))
    | bl j => cases ry; exact eq_bool (fin_bl I q dec_bl)
    | str j => obtain ⟨t', rfl⟩ := ry; exact PySem.EqMixed.eq_bool_str (fin_bl I q (by simp))
    | _ => exact absurd (show false = true from hs) Bool.false_ne_true
  | int i =>
    obtain ⟨t, rfl⟩ := rx
    cases y with
    | non => cases ry; exact PySem.EqNone.eq_int_none (fin_bl I q (by simp))
    | int j => obtain ⟨t', rfl⟩ := ry; exact eq_int (fin_bl I q dec_int)
    | str j => obtain ⟨t', rfl⟩ := ry; exact PySem.EqMixed.eq_int_str (fin_bl I q (by simp))
    | _ => exact absurd (show false = true from hs) Bool.false_ne_true
  | str i =>
    obtain ⟨t, rfl⟩ := rx
    cases y with
    | non => cases ry; exact PySem.EqNone.eq_str_none (fin_bl I q (by simp))
    | bl j => cases ry; exact PySem.EqMixed.eq_str_bool (fin_bl I q (by simp))
    | int j => obtain ⟨t', rfl⟩ := ry; exact PySem.EqMixed.eq_str_int (fin_bl I q (by simp))
    | str j => obtain ⟨t', rfl⟩ := ry; exact eq_str (fin_bl I q dec_str)
    | _ => exact absurd (show false = true from hs) Bool.false_ne_true
  | byt i =>
    obtain ⟨t, rfl⟩ := rx
    cases y with
    | byt j => obtain ⟨t', rfl⟩ := ry; exact PySem.W.eq_bytes (fin_bl I q dec_byt)
    | _ => exact absurd (show false = true from hs) Bool.false_ne_true
  | _ => cases y <;> exact absurd (show false = true from hs) Bool.false_ne_true
theorem op_ne : OpR X (compareOp .NotEq) rNe := by
  intro pins s σ H x y v u Q I rx ry h
  obtain ⟨hs, q⟩ := h
  cases x with
  | non =>
    cases rx
    cases y with
    | non => cases ry; exact PySem.EqNone.ne_none_none (fin_bl I q (by simp))
    | bl j => cases ry; exact PySem.EqNone.ne_none_bool (fin_bl I q (by simp))
    | int j => obtain ⟨t', rfl⟩ := ry; exact PySem.EqNone.ne_none_int (fin_bl I q (by simp))
    | str j => obtain ⟨t', rfl⟩ := ry; exact PySem.EqNone.ne_none_str (fin_bl I q (by simp))
    | _ => exact absurd (show false = true from hs) Bool.false_ne_true
  | bl i =>
    cases rx
    cases y with
    | non => cases ry; exact PySem.EqNone.ne_bool_none (fin_bl I q (by simp))
    | bl j => cases ry; exact ne_bool (fin_bl I q (congrArg not dec_bl))
    | str j => obtain ⟨t', rfl⟩ := ry; exact PySem.EqMixed.ne_bool_str (fin_bl I q (by simp))
    | _ => exact absurd (show false = true from hs) Bool.false_ne_true
  | int i =>
    obtain ⟨t, rfl⟩ := rx
    cases y with
    | non => cases ry; exact PySem.EqNone.ne_int_none (fin_bl I q (by simp))
    | int j => obtain ⟨t', rfl⟩ := ry; exact ne_int (fin_bl I q (congrArg not dec_int))
    | str j => obtain ⟨t', rfl⟩ := ry; exact PySem.EqMixed.ne_int_str (fin_bl I q (by simp))
    | _ => exact absurd (show false = true from hs) Bool.false_ne_true
  | str i =>
    obtain ⟨t, rfl⟩ := rx
    cases y with
    | non => cases ry; exact PySem.EqNone.ne_str_none (fin_bl I q (by simp))
    | bl j => cases ry; exact PySem.EqMixed.ne_str_bool (fin_bl I q (by simp))
    | int j => obtain ⟨t', rfl⟩ := ry; exact PySem.EqMixed.ne_str_int (fin_bl I q (by simp))
    | str j => obtain ⟨t', rfl⟩ := ry; exact ne_str (fin_bl I q (congrArg not dec_str))
    | _ => exact absurd (show false = true from hs) Bool.false_ne_true
  | byt i =>
    obtain ⟨t, rfl⟩ := rx
    cases y with
    | byt j => obtain ⟨t', rfl⟩ := ry; exact PySem.W.ne_bytes (fin_bl I q (congrArg not dec_byt))
    | _ => exact absurd (show false = true from hs) Bool.false_ne_true
  | _ => cases y <;> exact absurd (show false = true from hs) Bool.false_ne_true

theorem op_lt : OpR X (compareOp .Lt) (rI0 fun i j => .bl (decide (i < j))) := opB0 fun _ _ _ _ _ _ _ q => lt_int q
theorem op_le : OpR X (compareOp .LtE) (rI0 fun i j => .bl (decide (i ≤ j))) := opB0 fun _ _ _ _ _ _ _ q => le_int q
theorem op_gt : OpR X (compareOp .Gt) (rI0 fun i j => .bl (decide (j < i))) := opB0 fun _ _ _ _ _ _ _ q => gt_int q
theorem op_ge : OpR X (compareOp .GtE) (rI0 fun i j => .bl (decide (j ≤ i))) := opB0 fun _ _ _ _ _ _ _ q => ge_int q

/-- is None, is not None: the right side a value none -/
theorem op_isN : OpR X (compareOp .Is) (fun x y H Q => y = .non ∧ Q (.bl (decide (x = .non))) H) := by
  intro pins s σ H x y v u Q I rx ry h
  obtain ⟨rfl, q⟩ := h
  cases ry
  refine is_none_gen (fin_bl I q ?_)
  cases x <;> first
    | (cases rx; rfl)
    | (obtain ⟨t, rfl⟩ := rx; rfl)
theorem op_notN : OpR X (compareOp .IsNot) (fun x y H Q => y = .non ∧ Q (.bl (!decide (x = .non))) H) := by
  intro pins s σ H x y v u Q I rx ry h
  obtain ⟨rfl, q⟩ := h
  cases ry
  refine isnot_none_gen (fin_bl I q ?_)
  cases x <;> first
    | (cases rx; rfl)
    | (obtain ⟨t, rfl⟩ := rx; rfl)



theorem nomark (b : Expr) {op : CmpOp} (h : op ≠ .In := by decide) (h2 : op ≠ .NotIn := by decide) : behindInMarks op b = false := by
  have e1 : (op == CmpOp.In) = false := by cases op <;> first | rfl | exact absurd rfl h
  have e2 : (op == CmpOp.NotIn) = false := by cases op <;> first | rfl | exact absurd rfl h2
  cases b <;> simp [behindInMarks, e1, e2]
/-- a comparison as a value; hm: nomark b, or (for in, not in) by with_unfolding_all rfl -/
theorem pe_cmpR {op : CmpOp} {r : R2} (ho : OpR X (compareOp op) r) (ha : PE X a ta) (hb : PE X b tb) (hm : behindInMarks op b = false) : PE X (.Compare a [op] [b] pos) (tOp r ta tb) := by
  intro pins s σ H Q I h
  exact wpAny_Compare1 (binT ha hb I h fun v u s2 x y H2 I2 rx ry q => ho pins s2 σ H2 x y v u Q I2 rx ry q) hm
/-- a reading of a value as a test -/
def tTest (t : TE) : TT := fun σ H Q => t σ H fun x H' => ∃ k, x = .bl k ∧ Q k H'
theorem pt_cmpR {op : CmpOp} {r : R2} (ho : OpR X (compareOp op) r) (ha : PE X a ta) (hb : PE X b tb) (hm : behindInMarks op b = false) : PT X (.Compare a [op] [b] pos) (tTest (tOp r ta tb)) := by
  intro pins s σ H Q I h
  refine wpAny_isTrue_Compare1 (thn (ha pins s σ H _ I h) fun v s1 ⟨x, H1, I1, r1, q1⟩ => thn (hb pins s1 σ H1 _ I1 q1) fun u s2 ⟨y, H2, I2, r2, q2⟩ =>
    thn (ho pins s2 σ H2 x y v u _ I2 r1 r2 q2) fun c s3 ⟨z, H3, I3, r3, k, e, q3⟩ => ?_) hm
  subst e
  cases r3
  exact wpAny_truthy_bool ⟨H3, I3, q3⟩
/-- a op1 b op2 c -/
def tChain (r r' : R2) (ta tb tc : TE) : TE := fun σ H Q => ta σ H fun x H1 => tb σ H1 fun y H2 => r x y H2 fun z H3 => ∃ k, z = .bl k ∧
  (if k = true then tc σ H3 fun w' H4 => r' y w' H4 Q else Q (.bl false) H3)
theorem pt_chain {op op' : CmpOp} {r r' : R2} (ho : OpR X (compareOp op) r) (ho' : OpR X (compareOp op') r') (ha : PE X a ta) (hb : PE X b tb) (hc : PE X c tc)
    (hm : lastMarks [op, op'] [b, c] = false := by with_unfolding_all rfl) : PT X (.Compare a [op, op'] [b, c] pos) (tTest (tChain r r' ta tb tc)) := by
  intro pins s σ H Q I h
  refine isTrue_chain (thn (ha pins s σ H _ I h) fun v s1 ⟨x, H1, I1, r1, q1⟩ => test_link (thn (hb pins s1 σ H1 _ I1 q1) fun u s2 ⟨y, H2, I2, r2, q2⟩ =>
    thn (ho pins s2 σ H2 x y v u _ I2 r1 r2 q2) fun d s3 ⟨z, H3, I3, r3, k, e, q3⟩ => ?_)) hm
  subst e
  cases r3
  refine wpAny_truthy_bool ?_
  cases k with
  | false =>
    obtain ⟨k', e', q'⟩ := q3
    cases e'
    exact ite_ff ⟨H3, I3, q'⟩
  | true =>
    refine ite_tt (test_last (thn (hc pins s3 σ H3 _ I3 q3) fun w' s4 ⟨z', H4, I4, r4, q4⟩ => thn (ho' pins s4 σ H4 y z' u w' _ I4 r2 r4 q4) fun d' s5 ⟨z2, H5, I5, r5, k2, e2, q5⟩ => ?_))
    subst e2
    cases r5
    exact wpAny_truthy_bool ⟨H5, I5, q5⟩

/-! ### truth -/
/-- a value's truth by the abstract heap -/
def TruV (K : PySem.W.Frag) (x : V) (H : Hp) (k : Bool) : Prop :=
  match x with
  | .non => k = false
  | .bl b => k = b
  | .int i => k = (i != 0)
  | .str y => y.length ≤ sizeLine ∧ k = ((y.length : Int) != 0)
  | .byt y => y.size ≤ sizeLine ∧ k = ((y.size : Int) != 0)
  | .ref p => (∃ xs, SqL K H p xs ∧ k = !xs.isEmpty) ∨ (∃ xs, SqT K H p xs ∧ k = !xs.isEmpty) ∨ ∃ kvs, H p = some (.dK kvs) ∧ k = !kvs.isEmpty
  | _ => False
theorem isEmpty_kv {κ : Type} {kvs : List (κ × V)} {vs : List (κ × Value)} (r : KV kvs vs) : (!vs.isEmpty) = !kvs.isEmpty := by
  cases r <;> rfl
theorem isEmpty_of {xs : List V} {its : List Value} (r : Vals xs its) : (!its.toArray.isEmpty) = !xs.isEmpty := by
  cases r <;> simp
theorem line63 : (sizeLine : Nat) < 2 ^ 63 := by rw [sizeLine_eq]; decide
theorem tru_ok : TruR X (fun x H Q => ∃ k, TruV X.K x H k ∧ Q k H) := by
  intro pins s σ H x v Q I rx h
  obtain ⟨k, e, q⟩ := h
  have hl := line63
  have hs : sizeLine = 16777216 := sizeLine_eq
  cases x with
  | non =>
    cases rx
    have e' : k = false := e
    subst e'
    exact truthy_none ⟨H, I, q⟩
  | bl b =>
    cases rx
    have e' : k = b := e
    subst e'
    exact wpAny_truthy_bool ⟨H, I, q⟩
  | int i =>
    obtain ⟨t, rfl⟩ := rx
    have e' : k = (i != 0) := e
    subst e'
    exact PySem.P.truthy_int ⟨H, I, q⟩
  | str y =>
    obtain ⟨t, rfl⟩ := rx
    obtain ⟨hy, e'⟩ : y.length ≤ sizeLine ∧ k = ((y.length : Int) != 0) := e
    subst e'
    exact PySem.P.truthy_str (by omega) ⟨H, I.tok _, q⟩
  | byt y =>
    obtain ⟨t, rfl⟩ := rx
    obtain ⟨hy, e'⟩ : y.size ≤ sizeLine ∧ k = ((y.size : Int) != 0) := e
    subst e'
    exact PySem.W.truthy_bytes (by omega) ⟨H, I.tok _, q⟩
  | ref p =>
    cases rx
    have e' : (∃ xs, SqL X.K H p xs ∧ k = !xs.isEmpty) ∨ (∃ xs, SqT X.K H p xs ∧ k = !xs.isEmpty) ∨ ∃ kvs, H p = some (.dK kvs) ∧ k = !kvs.isEmpty := e
    rcases e' with ⟨xs, hx, e'⟩ | ⟨xs, hx, e'⟩ | ⟨kvs, hx, e'⟩
    · subst e'
      obtain ⟨its, r, pl, hz⟩ := I.list hx
      have hlen := r.length
      exact wpAny_truthy_list pl.isList (by simp only [List.size_toArray]; omega) ⟨H, I.tok _, by rw [isEmpty_of r]; exact q⟩
    · subst e'
      obtain ⟨its, r, pl, hz⟩ := I.tuple hx
      have hlen := r.length
      exact truthy_tuple pl (by simp only [List.size_toArray]; omega) ⟨H, I.tok _, by rw [isEmpty_of r]; exact q⟩
    · subst e'
      obtain ⟨hz, hS, vs, r, m⟩ : kvs.length ≤ sizeLine ∧ (p == sysModules) = false ∧ ∃ vs, KV kvs vs ∧ s.heap.DictOf (mixKind X.prog X.w) p vs := I.hok p _ hx
      have hlen : kvs.length = vs.length := Paired.length r
      exact wpAny_truthy_dict hS m (by omega) ⟨H, I.tok _, by rw [isEmpty_kv r]; exact q⟩
  | _ => exact (show False from e).elim
/-- any expression whose test is its value's truth (a name, a call, a subscript, a field ..: he by fun _ => rfl) -/
theorem pt_truth (ha : PE X a ta) (he : ∀ whole, isTrue a X.env whole = (do let v ← whole; standAt a.pos; holding [v] (truthy v))) :
    PT X a (fun σ H Q => ta σ H fun x H' => ∃ k, TruV X.K x H' k ∧ Q k H') := by
  intro pins s σ H Q I h
  exact isTrue_plain (thn (ha pins s σ H _ I h) fun v s1 ⟨x, H1, I1, r1, q1⟩ => tru_ok pins s1 σ H1 x v Q I1 r1 q1) (he _)

/-! ### strs and bytes -/


/-! ### scalar builtins, by CallR -/
theorem vals1 {x : V} {us : List Value} (r : Vals [x] us) : ∃ u, us = [u] ∧ RelV x u := by
  cases r with
  | cons r1 r2 => cases r2; exact ⟨_, rfl, r1⟩
theorem vals2 {x y : V} {us : List Value} (r : Vals [x, y] us) : ∃ u w', us = [u, w'] ∧ RelV x u ∧ RelV y w' := by
  cases r with
  | cons r1 r2 =>
    cases r2 with
    | cons r3 r4 => cases r4; exact ⟨_, _, rfl, r1, r3⟩
theorem call_abs : CallR X (.builtin "abs") (fun xs H Q => ∃ i, xs = [.int i] ∧ Q (.int (if i < 0 then -i else i)) H) := by
  intro pins s σ H xs us Q I r h
  obtain ⟨i, rfl, q⟩ := h
  obtain ⟨u, rfl, t, rfl⟩ := vals1 r
  exact call_abs_int fun u tk => ⟨.int (if i < 0 then -i else i), H, I.tok _, ⟨_, rfl⟩, q⟩
theorem call_int1 : CallR X (.type "int") (fun xs H Q => (∃ i, xs = [.int i] ∧ Q (.int i) H) ∨ ∃ k, xs = [.bl k] ∧ Q (.int (if k then 1 else 0)) H) := by
  intro pins s σ H xs us Q I r h
  rcases h with ⟨i, rfl, q⟩ | ⟨k, rfl, q⟩
  · obtain ⟨u, rfl, t, rfl⟩ := vals1 r
    exact call_int_int ⟨.int i, H, I, ⟨_, rfl⟩, q⟩
  · obtain ⟨u, rfl, r1⟩ := vals1 r
    cases r1
    exact call_int_bool ⟨.int (if k then 1 else 0), H, I.tok _, ⟨_, rfl⟩, q⟩
/-- len of a str, a bytes, a list, a tuple -/
def LenV (K : PySem.W.Frag) (x : V) (H : Hp) (n : Nat) : Prop :=
  match x with
  | .str y => y.length ≤ sizeLine ∧ n = y.length
  | .byt y => y.size ≤ sizeLine ∧ n = y.size
  | .ref p => (∃ xs, SqL K H p xs ∧ n = xs.length) ∨ ∃ xs, SqT K H p xs ∧ n = xs.length
  | _ => False
theorem call_len : CallR X (.builtin "len") (fun xs H Q => ∃ x n, xs = [x] ∧ LenV X.K x H n ∧ Q (.int n) H) := by
  intro pins s σ H xs us Q I r h
  obtain ⟨x, n, rfl, e, q⟩ := h
  obtain ⟨u, rfl, rx⟩ := vals1 r
  have hl := line63
  have hs : sizeLine = 16777216 := sizeLine_eq
  cases x with
  | str y =>
    obtain ⟨t, rfl⟩ := rx
    obtain ⟨hy, e'⟩ : y.length ≤ sizeLine ∧ n = y.length := e
    subst e'
    exact len_str (by omega) ⟨.int _, H, I.tok _, ⟨_, rfl⟩, q⟩
  | byt y =>
    obtain ⟨t, rfl⟩ := rx
    obtain ⟨hy, e'⟩ : y.size ≤ sizeLine ∧ n = y.size := e
    subst e'
    exact PySem.W.len_bytes (by omega) ⟨.int _, H, I.tok _, ⟨_, rfl⟩, q⟩
  | ref p =>
    cases rx
    have e' : (∃ xs, SqL X.K H p xs ∧ n = xs.length) ∨ ∃ xs, SqT X.K H p xs ∧ n = xs.length := e
    rcases e' with ⟨xs, hx, e'⟩ | ⟨xs, hx, e'⟩
    · subst e'
      obtain ⟨its, r', pl, hz⟩ := I.list hx
      have hlen := r'.length
      exact Calls.call_len_list pl.isList (by simp only [List.size_toArray]; omega) ⟨.int xs.length, H, I.tok _, ⟨_, by simp only [List.size_toArray]; rw [hlen]⟩, q⟩
    · subst e'
      obtain ⟨its, r', pl, hz⟩ := I.tuple hx
      have hlen := r'.length
      exact len_tuple pl (by simp only [List.size_toArray]; omega) ⟨.int xs.length, H, I.tok _, ⟨_, by simp only [List.size_toArray]; rw [hlen]⟩, q⟩
  | _ => exact (show False from e).elim
end
end L2

namespace L2
open PySem PySem.Spec PyProof.Rows

/-! ### an instance, its attributes a map -/
structure ObjM (h : Heap) (x dx C : Addr) (mA : Str → Option Value) : Prop where
  obj : h.get? x = some (PySem.W.instObj C dx)
  ns : h.Ns1 dx mA
  ne : dx ≠ x

theorem lookIn_ns {h : Heap} {dx : Addr} {mA : Str → Option Value} (n : h.Ns1 dx mA) : ∃ od, h.get? dx = some od ∧ ∀ name, PySem.W.lookIn name od = some (mA name) := by
  obtain ⟨o, es, ep, ho, hd, hk, _, hm⟩ := n
  refine ⟨o, ho, fun name => ?_⟩
  have e := hm name
  unfold nsFind findBy at e
  rw [← Array.find?_toList] at e
  unfold PySem.W.lookIn
  rw [hd]
  dsimp only
  split
  · rename_i y q
    rw [q] at e
    exact congrArg some e
  · rename_i q
    rw [q] at e
    have a : es.toList.any (·.refKey) = false := by
      rw [List.any_eq_false]
      intro y hy
      obtain ⟨z, t, hkey⟩ := hk y (Array.mem_toList_iff.mp hy)
      simp [DictEntry.refKey, hkey]
    have a' : ¬ es.toList.any (·.refKey) = true := by rw [a]; exact Bool.false_ne_true
    rw [if_neg a']
    exact congrArg some e

theorem ObjM.look {h : Heap} {x dx C : Addr} {mA : Str → Option Value} (I : ObjM h x dx C mA) : ∃ od, PySem.W.InstAt h x (PySem.W.instObj C dx) C (some od) ∧ ∀ name, PySem.W.lookIn name od = some (mA name) :=
  let ⟨od, ho, hl⟩ := lookIn_ns I.ns
  ⟨od, ⟨I.obj, rfl, rfl, ho⟩, hl⟩

section
variable {prog : Program} {w : World} {A : Around} {E : Value → Shared → Prop} {s : Shared} {K : PySem.W.Frag} {x dx C f : Addr} {mA : Str → Option Value} {name : Str} {v : Value}





end

/-! ### the attributes as a list of pairs -/
def putF (f : Str) (v : V) : List (Str × V) → List (Str × V)
  | [] => [(f, v)]
  | (g, x) :: r => if g = f then (g, v) :: r else (g, x) :: putF f v r
theorem lookup_putF (f g : Str) (v : V) : ∀ fs : List (Str × V), (putF f v fs).lookup g = if g = f then some v else fs.lookup g
  | [] => by
    show List.lookup g [(f, v)] = _
    by_cases h : g = f
    · have hb : (g == f) = true := beq_iff_eq.mpr h
      simp only [List.lookup, hb, if_pos h]
    · have hb : (g == f) = false := beq_eq_false_iff_ne.mpr h
      simp only [List.lookup, hb, if_neg h]
  | (k, x) :: r => by
    have ih := lookup_putF f g v r
    rw [show putF f v ((k, x) :: r) = (if k = f then (k, v) :: r else (k, x) :: putF f v r) from rfl]
    by_cases hk : k = f
    · rw [if_pos hk]
      by_cases h : g = k
      · have hb : (g == k) = true := beq_iff_eq.mpr h
        simp only [List.lookup, hb, if_pos (h.trans hk)]
      · have hb : (g == k) = false := beq_eq_false_iff_ne.mpr h
        simp only [List.lookup, hb, if_neg (fun e : g = f => h (e.trans hk.symm))]
    · rw [if_neg hk]
      by_cases h : g = k
      · have hb : (g == k) = true := beq_iff_eq.mpr h
        simp only [List.lookup, hb, if_neg (fun e : g = f => hk (h.symm.trans e))]
      · have hb : (g == k) = false := beq_eq_false_iff_ne.mpr h
        simp only [List.lookup, hb]
        exact ih
theorem keys_putF (f : Str) (v : V) : ∀ fs : List (Str × V), f ∈ (putF f v fs).map (·.1) ∧ ∀ g, g ∈ fs.map (·.1) → g ∈ (putF f v fs).map (·.1)
  | [] => ⟨by simp [putF], fun g h => by simp at h⟩
  | (k, x) :: r => by
    obtain ⟨i1, i2⟩ := keys_putF f v r
    rw [show putF f v ((k, x) :: r) = (if k = f then (k, v) :: r else (k, x) :: putF f v r) from rfl]
    by_cases hk : k = f
    · rw [if_pos hk]
      subst hk
      exact ⟨by simp, fun g h => by simpa using h⟩
    · rw [if_neg hk]
      refine ⟨?_, fun g h => ?_⟩
      · rw [List.map_cons]
        exact List.mem_cons_of_mem _ i1
      · rw [List.map_cons] at h ⊢
        rcases List.mem_cons.mp h with e | e
        · exact List.mem_cons.mpr (.inl e)
        · exact List.mem_cons_of_mem _ (i2 g e)
theorem length_putF (f : Str) (v : V) : ∀ fs : List (Str × V), (putF f v fs).length ≤ fs.length + 1
  | [] => by simp [putF]
  | (k, x) :: r => by
    have ih := length_putF f v r
    rw [show putF f v ((k, x) :: r) = (if k = f then (k, v) :: r else (k, x) :: putF f v r) from rfl]
    by_cases hk : k = f
    · rw [if_pos hk, List.length_cons, List.length_cons]; omega
    · rw [if_neg hk, List.length_cons, List.length_cons]; omega

theorem RelO.some_of {v : V} {o : Option Value} (r : RelO (some v) o) : ∃ u, o = some u ∧ RelV v u := by
  cases o with
  | none => exact (show False from r).elim
  | some u => exact ⟨u, rfl, r⟩
theorem handed_of {v : V} {u : Value} (r : RelV v u) : PySem.W.handedIn u = true := by
  cases v with
  | non => cases (show u = Value.none from r); rfl
  | bl b => cases (show u = Value.bool b from r); rfl
  | int i => obtain ⟨t, e⟩ := (show ∃ t, u = Value.int i t from r); cases e; rfl
  | str x => obtain ⟨t, e⟩ := (show ∃ t, u = Value.str x t from r); cases e; rfl
  | byt b => obtain ⟨t, e⟩ := (show ∃ t, u = Value.bytes b t from r); cases e; rfl
  | flt b => obtain ⟨t, e⟩ := (show ∃ t, u = Value.float b t from r); cases e; rfl
  | ref a => cases (show u = Value.ref a from r); rfl
  | ty n => cases (show u = Value.type n from r); rfl

section
variable {P : Program} {w : World} {H H' : Hp} {h h' : Heap} {a C dx : Addr} {fs fs' : List (Str × V)}
theorem ins_get (hok : HOk P w H h) (e : H a = some (.ins C dx fs)) : ∃ mA, ObjM h a dx C mA ∧ (∀ f, RelO (fs.lookup f) (mA f)) ∧ PySem.Within mA (fs.map (·.1)) ∧ fs.length ≤ 1000 ∧ H dx = some (.own a) := by
  obtain ⟨d, z, ne, ob, mA, n, r, q⟩ := (show ObjOk P w H h a (.ins C dx fs) from hok a _ e)
  exact ⟨mA, ⟨ob, n, ne⟩, r, q, z, d⟩
end

/-! ### what of the text a class must have -/
structure Cls (K : PySem.W.Frag) (C : Addr) : Prop where
  pg : PySem.W.plainGet K C Str.empty = true
  hd : PySem.W.hasDictIn K C = true
  po : PySem.W.plainOver K C = true
  sa : PySem.W.findIn K (.ref C) "__setattr__" = some (some (.builtin "object.__setattr__"))
theorem Cls.get {K : PySem.W.Frag} {C : Addr} (c : Cls K C) (f : Str) : PySem.W.plainGet K C f = true := c.pg
/-- no class of it has the name -/
def NoAttr (K : PySem.W.Frag) (C : Addr) (f : Str) : Prop := PySem.W.findIn K (.ref C) f = some none

section
variable {X : Cx} {pins : List (Addr × Obj)} {σ : St} {H : Hp} {s : Shared} {a C dx : Addr} {fs : List (Str × V)} {f : Str} {v : V} {A : Around} {E : Value → Shared → Prop}






/-- e.f where nothing but the object is asked: through attributeBase (super) and the last hold -/
theorem attr_of {prog : Program} {w : World} {env : Env} {e : Expr} {f : Str} {pos : Pos} {s : Shared} {Q : Value → Shared → Prop} (hb : attributeBase e f env (eval e env) = eval e env)
    (h : wpAny (model prog w) A (eval e env) (fun o s₁ => wpAny (model prog w) A (getAttr o f true) Q E s₁) E s) : wpAny (model prog w) A (eval (.Attribute e f pos) env) Q E s :=
  Attribute_any_ h (by rw [arm_eval_Attribute, hb])
end

/-! ### readings and rules -/

section
variable {X : Cx} {o e value : Expr} {f : Str} {pos pos' tpos : Pos} {ta tv : TE}

end

/-! ### isinstance -/
section
variable {X : Cx} {pins : List (Addr × Obj)} {σ : St} {H : Hp} {s : Shared} {A : Around} {E : Value → Shared → Prop} {Q : Value → Shared → Prop} {c : Value} {b : Bool}
/-- the type of a value, as the fragment's deciders take it; for an instance its class -/
inductive TyOf (K : PySem.W.Frag) (H : Hp) : V → Value → Prop where
  | non : TyOf K H .non (.type "NoneType")
  | bl (x : Bool) : TyOf K H (.bl x) (.type "bool")
  | int (i : Int) : TyOf K H (.int i) (.type "int")
  | str (x : Str) : TyOf K H (.str x) (.type "str")
  | flt (x : UInt64) : TyOf K H (.flt x) (.type "float")
  | lst {a : Addr} {xs : List V} (e : H a = some (.lst xs)) : TyOf K H (.ref a) (.type "list")
  | frz {a : Addr} {o : Obj} {xs : List V} (e : H a = some (.frz o (.lst xs))) : TyOf K H (.ref a) (.type "list")
  | tup {a : Addr} {xs : List V} (e : H a = some (.tup xs)) : TyOf K H (.ref a) (.type "tuple")
  | dK {a : Addr} {kvs : List (Key × V)} (e : H a = some (.dK kvs)) : TyOf K H (.ref a) (.type "dict")
  | dT {a : Addr} {kvs : List (List Key × V)} (e : H a = some (.dT kvs)) : TyOf K H (.ref a) (.type "dict")
  | ins {a C dx : Addr} {fs : List (Str × V)} (e : H a = some (.ins C dx fs)) (cl : Cls K C) (ha : PySem.W.findIn K (.ref C) "__class__" = some (some (.builtin "object.__class__")))
      (hn : PySem.W.specialIn K (.builtin "object.__class__") "__get__" = some (some (.builtin "getset_descriptor.__get__"))) (htk : PySem.W.takesIn K (.builtin "object.__class__") = some true)
      (hm : PySem.W.mroIn K C (.type "object") = some true) : TyOf K H (.ref a) (.ref C)
/-- isinstance(x, c) for one class c, a built-in or an own one: kitOne's answer -/
theorem isinst_ok {x : V} {u t : Value} (I : Inv X pins σ H s) (rx : RelV x u) (ty : TyOf X.K H x t) (e : PySem.W.kitOne X.K t c = some b) (h : ∀ tk, Q (.bool b) { s with toks := tk }) :
    wpAny (model X.prog X.w) A (call (.builtin "isinstance") [u, c]) Q E s := by
  cases ty with
  | non => cases (show u = Value.none from rx); exact PySem.W.kia_one PySem.W.kitx_none I.kIn True.intro e (fun z => nomatch z) h
  | bl y => cases (show u = Value.bool y from rx); exact PySem.W.kia_one PySem.W.kitx_bool I.kIn True.intro e (fun z => nomatch z) h
  | int i => obtain ⟨t, q⟩ := (show ∃ t, u = Value.int i t from rx); cases q; exact PySem.W.kia_one PySem.W.kitx_int I.kIn True.intro e (fun z => nomatch z) h
  | str y => obtain ⟨t, q⟩ := (show ∃ t, u = Value.str y t from rx); cases q; exact PySem.W.kia_one PySem.W.kitx_str I.kIn True.intro e (fun z => nomatch z) h
  | flt y => obtain ⟨t, q⟩ := (show ∃ t, u = Value.float y t from rx); cases q; exact PySem.W.kia_one PySem.W.kitx_float I.kIn True.intro e (fun z => nomatch z) h
  | @lst a xs ea =>
    cases (show u = Value.ref a from rx)
    obtain ⟨_, _, n, _, h1⟩ := (show ObjOk X.prog X.w H s.heap a (.lst xs) from I.hok a _ ea)
    exact PySem.W.kia_one PySem.W.kitx_list I.kIn ⟨_, h1, rfl⟩ e (fun z => nomatch z) h
  | @frz a ob xs ea =>
    cases (show u = Value.ref a from rx)
    obtain ⟨_, _, _, n, _, h1⟩ := (show ObjOk X.prog X.w H s.heap a (.frz ob (.lst xs)) from I.hok a _ ea)
    exact PySem.W.kia_one PySem.W.kitx_list I.kIn ⟨_, h1, rfl⟩ e (fun z => nomatch z) h
  | @tup a xs ea =>
    cases (show u = Value.ref a from rx)
    obtain ⟨_, _, _, p⟩ := (show ObjOk X.prog X.w H s.heap a (.tup xs) from I.hok a _ ea)
    obtain ⟨o, h1, h2, _⟩ := p
    exact PySem.W.kia_one PySem.W.kitx_tuple I.kIn ⟨o, h1, h2⟩ e (fun z => nomatch z) h
  | @dK a kvs ea =>
    cases (show u = Value.ref a from rx)
    obtain ⟨_, _, vs, _, p⟩ := (show ObjOk X.prog X.w H s.heap a (.dK kvs) from I.hok a _ ea)
    obtain ⟨o, es, ep, h1, h2, _⟩ := p
    exact PySem.W.kia_one PySem.W.kitx_dict I.kIn ⟨o, h1, h2.1⟩ e (fun z => nomatch z) h
  | @dT a kvs ea =>
    cases (show u = Value.ref a from rx)
    obtain ⟨_, _, xs, _, o, es, ep, h1, h2, _⟩ := (show ObjOk X.prog X.w H s.heap a (.dT kvs) from I.hok a _ ea)
    exact PySem.W.kia_one PySem.W.kitx_dict I.kIn ⟨o, h1, h2.1⟩ e (fun z => nomatch z) h
  | @ins a C dx fs ea cl ha hn htk hm =>
    cases (show u = Value.ref a from rx)
    obtain ⟨mA, O, _⟩ := ins_get I.hok ea
    obtain ⟨od, J, _⟩ := O.look
    exact PySem.W.kia_one (PySem.W.kitx_own (cl.get _) cl.hd ha hn htk hm) I.kIn J e (fun z => nomatch z) h
end
end L2

namespace L2
open PySem PySem.Spec PyProof.Rows

/-! ### room -/
structure Room (k : Nat) (A : Around) : Prop where
  hd : A.handled = none
  dp : A.depth + 3 * k + 5 < recursionLimit
  un : A.units + 16 * k + 200 < cLine
theorem Room.mono {j k : Nat} {A : Around} (r : Room k A) (h : j ≤ k) : Room j A := ⟨r.hd, by have := r.dp; omega, by have := r.un; omega⟩
theorem Room.deeper {k : Nat} {A : Around} (r : Room (k + 1) A) (env : Env) : Room k (A.deeper env) :=
  ⟨r.hd, by have := r.dp; show A.depth + 1 + 3 * k + 5 < _; omega, by have := r.un; show A.units + 3 + 16 * k + 200 < _; omega⟩
theorem Room.in1 {k : Nat} {A : Around} (r : Room (k + 1) A) : Room k A.in1 :=
  ⟨r.hd, by have := r.dp; show A.depth + 3 * k + 5 < _; omega, by have := r.un; show A.units + 1 + 16 * k + 200 < _; omega⟩
theorem make_depth {A : Around} {C : Addr} {us : List Value} {kw : List (Str × Value)} : (A.under (.builtin "type.__call__" ⟨.ref C :: us, kw⟩)).depth = A.depth + 1 := by
  first | rfl | simp [Around.under, Code.weight, Code.isCreation, Code.isGuard, Code.isCaller, Code.frames, Code.isFrame, guardIds]
theorem make_units {A : Around} {C : Addr} {us : List Value} {kw : List (Str × Value)} : (A.under (.builtin "type.__call__" ⟨.ref C :: us, kw⟩)).units = A.units + 1 := by
  first | rfl | simp [Around.under, Code.cUnits, Code.frames, Code.isFrame]
theorem Room.make {k : Nat} {A : Around} (r : Room (k + 1) A) (C : Addr) (us : List Value) (kw : List (Str × Value)) : Room k (A.under (.builtin "type.__call__" ⟨.ref C :: us, kw⟩)) :=
  ⟨r.hd, by have := r.dp; rw [make_depth]; omega, by have := r.un; rw [make_units]; omega⟩
theorem Room.depth {k : Nat} {A : Around} (r : Room k A) : A.depth < recursionLimit := by have := r.dp; omega
theorem Room.units {k : Nat} {A : Around} (r : Room k A) : A.units + 64 < cLine := by have := r.un; omega

/-! ### argument lists and displays -/
def tNil : TA := fun _ H Q => Q [] H
def tCons (ta : TE) (tr : TA) : TA := fun σ H Q => ta σ H fun x H1 => tr σ H1 fun xs H2 => Q (x :: xs) H2
section
variable {X : Cx} {e : Expr} {es : List Expr} {te : TE} {t : TA} {pos : Pos}
theorem pa_nil : PA X [] tNil := fun _ _ _ _ H Q I h => Calls.spliced_nil ⟨[], H, I, .nil, h⟩
theorem pa_cons (ha : PE X e te) (hr : PA X es t) (hs : starEach (e :: es) X.env = (false, eval e X.env) :: starEach es X.env := by rfl) : PA X (e :: es) (tCons te t) := by
  intro pos pins s σ H Q I h
  rw [hs]
  show wpAny _ _ (spliced ((false, eval e X.env) :: backTo pos (starEach es X.env))) _ _ s
  refine Calls.spliced_cons (thn (ha pins s σ H _ I h) fun u s1 ⟨x, H1, I1, r1, q1⟩ => ?_)
  exact thn (hr pos pins s1 σ H1 _ I1 q1) fun us s2 ⟨xs, H2, I2, r2, q2⟩ => ⟨x :: xs, H2, I2, .cons r1 r2, q2⟩

/-- a tuple, a list of written items -/
def tTup (t : TA) : TE := fun σ H Q => t σ H fun xs H1 => xs.length ≤ sizeLine ∧ ∀ p, H1 p = none → Q (.ref p) (upd H1 p (.tup xs))
def tLst (t : TA) : TE := fun σ H Q => t σ H fun xs H1 => xs.length ≤ sizeLine ∧ ∀ p, H1 p = none → Q (.ref p) (upd H1 p (.lst xs))
theorem pe_tup {x1} (h : PA X es t) : PE X (.Tuple es x1 pos) (tTup t) := by
  intro pins s σ H Q I hq
  refine wpAny_Tuple_spliced (thn (h pos pins s σ H _ I hq) fun us s1 ⟨xs, H1, I1, r, z, q⟩ => ⟨by rw [← r.length]; exact z, ?_⟩)
  have hf : H1 s1.heap.objs.size = none := I1.hok.fresh (Nat.le_refl _)
  refine ⟨.ref s1.heap.objs.size, upd H1 s1.heap.objs.size (.tup xs), I1.laid (t' := s1.toks) (fun b u e => Heap.get?_push_of_some _ e) (Nat.le_refl _) ?_, rfl, q _ hf⟩
  exact ⟨z, us, r, ⟨_, Heap.get?_push_size _ rfl, rfl, _, rfl⟩⟩
theorem pe_lst (h : PA X es t) : PE X (.List es pos) (tLst t) := by
  intro pins s σ H Q I hq
  refine wpAny_List_spliced (thn (h pos pins s σ H _ I hq) fun us s1 ⟨xs, H1, I1, r, z, q⟩ => ⟨by rw [← r.length]; exact z, ?_⟩)
  have hf : H1 s1.heap.objs.size = none := I1.hok.fresh (Nat.le_refl _)
  refine ⟨.ref s1.heap.objs.size, upd H1 s1.heap.objs.size (.lst xs), I1.laid (t' := s1.toks) (fun b u e => Heap.get?_push_of_some _ e) (Nat.le_refl _) ?_, rfl, q _ hf⟩
  exact ⟨z, us, 0, r, Heap.get?_push_size _ rfl⟩
end

/-! ### what a def promises -/
/-- a def's promise: the bound arguments in the parameters' order, the heap, the wanted end, the wanted exception -/
abbrev Sp := List V → Hp → VK → XK → Prop
/-- how an exception lies behind a call (file 08 gives it): the callers' frames, abstract heap and state ahead of the call, the wish, the exception, the state -/
abbrev CXT := List Env → Hp → Shared → XK → Value → Shared → Prop

/-- the state at a call -/
structure Env0 (P : Program) (w : World) (K : PySem.W.Frag) (mg : Str → Option Value) (base : Heap) (A : Around) (outer : List Env) (s : Shared) (H : Hp) : Prop where
  frames : A.frames = some outer
  mod : Mod K mg base
  bs : ∀ b o, base.get? b = some o → s.heap.get? b = some o ∧ H b = none
  bsz : base.objs.size ≤ s.heap.objs.size
  funs : s.heap.FunFrames base outer
  frf : ∀ b ∈ frs outer, H b = none
  hok : HOk P w H s.heap
  bare : AllBare s.gens
/-- a call's end -/
def CE (outer : List Env) (P : Program) (w : World) (H : Hp) (s : Shared) (Q : VK) (u : Value) (s' : Shared) : Prop :=
  ∃ v H', s'.os = s.os ∧ AllBare s'.gens ∧ Un (frs outer) [] H H' s.heap s'.heap ∧ HOk P w H' s'.heap ∧ RelV v u ∧ Q v H'
def CR (CX : CXT) (outer : List Env) (P : Program) (w : World) (H : Hp) (s : Shared) (Q : VK) (E : XK) (r : Result) (s' : Shared) : Prop :=
  match r with
  | .ok (.ret u) => CE outer P w H s Q u s'
  | .ok _ => False
  | .error e => CX outer H s E e s'
structure FnOk (P : Program) (w : World) (K : PySem.W.Frag) (mg : Str → Option Value) (base : Heap) (CX : CXT) (k : Nat) (f : Addr) (fd : FuncData) (ps : List Str) (sp : Sp) : Prop where
  len : ∀ vs H Q E, sp vs H Q E → vs.length = ps.length
  run : ∀ (A : Around) (outer : List Env) (s : Shared) (H : Hp) (args : Args) (us : List Value) (vs : List V) (Q : VK) (E : XK), Room k A → Env0 P w K mg base A outer s H → BindsTo s fd args (ps.zip us) → Vals vs us → sp vs H Q E →
    codeAny (model P w) A (.call (.ref f) args) (CR CX outer P w H s Q E) s

theorem Env0.make {P : Program} {w : World} {K : PySem.W.Frag} {mg : Str → Option Value} {base : Heap} {A : Around} {outer : List Env} {s : Shared} {H : Hp} (e : Env0 P w K mg base A outer s H) (C : Addr) (us : List Value) (kw : List (Str × Value)) :
    Env0 P w K mg base (A.under (.builtin "type.__call__" ⟨.ref C :: us, kw⟩)) outer s H := ⟨by first | exact e.frames | (simpa [Around.under, Code.envs, Code.isFrame, pushEnvs] using e.frames), e.mod, e.bs, e.bsz, e.funs, e.frf, e.hok, e.bare⟩

section
variable {X : Cx} {pins : List (Addr × Obj)} {σ : St} {H : Hp} {s s' : Shared}
/-- from a body: what a callee wants -/
theorem Inv.env0 (I : Inv X pins σ H s) : Env0 X.prog X.w X.K X.mg X.base X.A X.stack s H :=
  ⟨I.ok.frames, I.ok.mod, I.bs, Nat.le_trans I.ok.bsz I.sz, I.stack, I.stkFree, I.hok, I.bare⟩
/-- behind a call -/
theorem Inv.after {Q : VK} {u : Value} (I : Inv X pins σ H s) (h : CE X.stack X.prog X.w H s Q u s') : EP X pins σ Q u s' := by
  obtain ⟨v, H', os, bare, un, hok, r, q⟩ := h
  obtain ⟨hh, g, d, t, os'⟩ := s'
  obtain rfl : os' = s.os := os
  exact ⟨v, H', I.call (h' := hh) (g' := g) (d' := d) (t' := t) (ch := []) un hok bare (fun b z => absurd z (by simp)), r, q⟩
end

/-! ### calls -/
/-- f(..): the written arguments, then the defaults dvs; E: what is wanted of an exception -/
def tCall (sp : Sp) (dvs : List V) (E : XK) (t : TA) : TE := fun σ H Q => t σ H fun vs H1 => sp (vs ++ dvs) H1 Q E

/-- how the parameters are bound: us the positional arguments, kw the keywords' values by name, ds the defaults that fill up -/
def Binds (K : PySem.W.Frag) (fd : FuncData) (ps : List Str) (ds : List Value) : Prop :=
  ∀ (s : Shared) (us : List Value), K.In s.heap → (us ++ ds).length = ps.length → BindsTo s fd ⟨us, []⟩ (ps.zip (us ++ ds))
/-- every parameter is given -/
theorem Binds.all {K : PySem.W.Frag} {fd : FuncData} {ps : List Str} (h : ∀ us : List Value, us.length = ps.length → bindArgs fd ⟨us, []⟩ = pure (ps.zip us)) : Binds K fd ps [] := fun s us _ hl => by
  rw [List.append_nil] at hl ⊢
  exact .of_eq (h us hl)

/-- an exception of a callee reaches what this body wants of exceptions -/
def Passes (CX : CXT) (X : Cx) (E : XK) : Prop := ∀ (pins : List (Addr × Obj)) (σ : St) (H : Hp) (s : Shared) (e : Value) (s' : Shared), Inv X pins σ H s → CX X.stack H s E e s' → X.xe e s'

section
variable {X : Cx} {CX : CXT} {k : Nat} {f C : Addr} {fd : FuncData} {ps : List Str} {sp : Sp} {dvs : List V} {ds : List Value} {E : XK} {x m : Str} {p pos apos : Pos} {e o : Expr} {es : List Expr} {ta : TE} {t : TA}

/-- the callee runs -/
theorem run_fn {pins : List (Addr × Obj)} {σ : St} {H : Hp} {s : Shared} {Q : VK} {us : List Value} {vs : List V} (F : FnOk X.prog X.w X.K X.mg X.base CX k f fd ps sp) (hr : Room k X.A) (hb : Binds X.K fd ps ds) (hd : Vals dvs ds) (hx : Passes CX X E)
    (I : Inv X pins σ H s) (r : Vals vs us) (h : sp (vs ++ dvs) H Q E) : wpAny (model X.prog X.w) X.A (call (.ref f) us) (EP X pins σ Q) X.xe s := by
  have r2 : Vals (vs ++ dvs) (us ++ ds) := r.append hd
  have hl : (us ++ ds).length = ps.length := by rw [← r2.length]; exact F.len _ _ _ _ h
  refine wpAny_call (codeAny_mono (F.run X.A X.stack s H ⟨us, []⟩ (us ++ ds) (vs ++ dvs) Q E hr I.env0 (hb s us I.kIn hl) r2 h) fun r s' hq => ?_)
  cases r with
  | error e => exact hx pins σ H s e s' I hq
  | ok fl =>
    cases fl with
    | ret u => exact I.after hq
    | next => exact False.elim hq
    | brk => exact False.elim hq
    | cont => exact False.elim hq

theorem pe_call (F : FnOk X.prog X.w X.K X.mg X.base CX k f fd ps sp) (hr : Room k X.A) (hg : Gl X x) (hm : X.mg x = some (.ref f)) (hk : PySem.W.keepIn X.K (.ref f) = true) (hb : Binds X.K fd ps ds) (hd : Vals dvs ds) (hx : Passes CX X E)
    (ha : PA X (e :: es) t) (hdb : (x == ("__debug__" : Str)) = false := by decide) (he : starEach (e :: es) X.env = (false, eval e X.env) :: starEach es X.env := by rfl) (hpl : (backTo pos (starEach es X.env)).any (·.1) = false := by rfl) :
    PE X (.Call (.Name x p) (e :: es) [] pos) (tCall sp dvs E t) := by
  intro pins s σ H Q I h
  refine wpAny_Call_Name_kw (ld_glob I hg hm ?_ hdb)
  refine PySem.W.callWith_K (h₀ := X.base) I.ok.mod.kin hk (thn (ha pos pins s σ H _ I h) fun us s1 ⟨vs, H1, I1, r, q⟩ => ⟨I1.kIn, ?_⟩) he hpl
  exact run_fn F hr hb hd hx I1 r q



end

/-! ### keywords -/
section
variable {X : Cx} {CX : CXT} {k : Nat} {f C : Addr} {fd : FuncData} {ps ks : List Str} {sp : Sp} {E : XK} {x m : Str} {p pos apos kpos : Pos} {e o : Expr} {es : List Expr} {kws : List Keyword} {te ta : TE} {t tk : TA} {nm : Option Str}

variable {g : List Value → List Value → List Value} {gV : List V → List V → List V}
end

/-! ### a def's body keeps its promise -/
/-- names: the parameters first -/
structure FnScope (N P : List Str) (sc : Scope) : Prop where
  kind : sc.kind = .function
  co : sc.isCoroutine = false
  gen : sc.isGenerator = false
  nd : N.Nodup
  pre : N.take P.length = P
  par : ∀ x ∈ P, sc.names.lookup x = some .local ∨ sc.names.lookup x = some .cell
  nofree : ∀ y ∈ sc.names, y.2 ≠ .free

theorem bindL_out {kindOf : Str → Option NameKind} {x : Str} : ∀ {binds : List (Str × Value)} {m : Str → Option Value}, (∀ v, (x, v) ∉ binds) → bindL kindOf binds m x = m x
  | [], _, _ => rfl
  | (n, v) :: r, m, h => by
    unfold bindL
    rw [bindL_out fun w hw => h w (List.mem_cons_of_mem _ hw)]
    split
    · have : x ≠ n := by rintro rfl; exact h v List.mem_cons_self
      simp [this]
    · rfl
theorem bindC_out {kindOf : Str → Option NameKind} {x : Str} : ∀ {binds : List (Str × Value)} {m : Str → Option Value}, (∀ v, (x, v) ∉ binds) → bindC kindOf binds m x = m x
  | [], _, _ => rfl
  | (n, v) :: r, m, h => by
    unfold bindC
    rw [bindC_out fun w hw => h w (List.mem_cons_of_mem _ hw)]
    split
    · rfl
    · have : x ≠ n := by rintro rfl; exact h v List.mem_cons_self
      simp [this]
theorem bindL_get {kindOf : Str → Option NameKind} {x : Str} {v : Value} : ∀ {P : List Str} {vs : List Value} {i : Nat} {m : Str → Option Value}, P.Nodup → P[i]? = some x → vs[i]? = some v → kindOf x = some .local →
    bindL kindOf (P.zip vs) m x = some v
  | [], _, _, _, _, h, _, _ => by simp at h
  | _ :: _, [], _, _, _, _, h, _ => by simp at h
  | p :: P, w :: vs, 0, m, nd, h1, h2, hk => by
    simp at h1 h2; subst h1; subst h2
    show bindL kindOf ((p, w) :: P.zip vs) m p = _
    unfold bindL
    rw [bindL_out fun v hv => (List.nodup_cons.mp nd).1 (List.of_mem_zip hv).1, if_pos hk]
    simp
  | p :: P, w :: vs, i + 1, m, nd, h1, h2, hk => by
    show bindL kindOf ((p, w) :: P.zip vs) m x = _
    unfold bindL
    exact bindL_get (i := i) (List.nodup_cons.mp nd).2 (by simpa using h1) (by simpa using h2) hk
theorem bindC_get {kindOf : Str → Option NameKind} {x : Str} {v : Value} : ∀ {P : List Str} {vs : List Value} {i : Nat} {m : Str → Option Value}, P.Nodup → P[i]? = some x → vs[i]? = some v → kindOf x ≠ some .local →
    bindC kindOf (P.zip vs) m x = some v
  | [], _, _, _, _, h, _, _ => by simp at h
  | _ :: _, [], _, _, _, _, h, _ => by simp at h
  | p :: P, w :: vs, 0, m, nd, h1, h2, hk => by
    simp at h1 h2; subst h1; subst h2
    show bindC kindOf ((p, w) :: P.zip vs) m p = _
    unfold bindC
    rw [bindC_out fun v hv => (List.nodup_cons.mp nd).1 (List.of_mem_zip hv).1, if_neg hk]
    simp
  | p :: P, w :: vs, i + 1, m, nd, h1, h2, hk => by
    show bindC kindOf ((p, w) :: P.zip vs) m x = _
    unfold bindC
    exact bindC_get (i := i) (List.nodup_cons.mp nd).2 (by simpa using h1) (by simpa using h2) hk

/-- the names' values at the entry -/
def start (N : List Str) (vs : List V) : St := vs.map some ++ List.replicate (N.length - vs.length) none

/-- the context of a def's body, at its entry; an exception leaves the frame, then lies as CX says -/
def cxOf (CX : CXT) (P : Program) (w : World) (K : PySem.W.Frag) (mg : Str → Option Value) (base : Heap) (N : List Str) (qual : Str) (scope : Scope) (f : Addr) (cd : Value) (A : Around) (outer : List Env) (s : Shared) (H : Hp) (E : XK) : Cx where
  prog := P
  w := w
  K := K
  mg := mg
  base := base
  A := A.deeper (envOfC qual scope s.heap.objs.size f cd)
  N := N
  s₀ := s
  H₀ := H
  env := envOfC qual scope s.heap.objs.size f cd
  outer := outer
  stack := envOfC qual scope s.heap.objs.size f cd :: outer
  ex := []
  calm := true
  fn := fun _ => true
  pn := []
  xe := fun e s' => wpAny (model P w) (A.deeper (envOfC qual scope s.heap.objs.size f cd)) (leaving (envOfC qual scope s.heap.objs.size f cd) e) (fun _ s'' => CX outer H s E e s'') (fun e' s'' => CX outer H s E e' s'') s'

theorem cell_has {sc : Scope} {n : Nat} {x : Str} (h : sc.names.lookup x = some .cell) : ∃ c, (cellsFrom n sc.names []).lookup x = some c := by
  have q := PySem.W.cellsFrom_some sc.names n [] (.inl h)
  exact Option.isSome_iff_exists.mp q

theorem inv_start {CX : CXT} {P : Program} {w : World} {K : PySem.W.Frag} {mg : Str → Option Value} {base : Heap} {N ps : List Str} {qual : Str} {scope : Scope} {f : Addr} {cd : Value} {A : Around} {outer : List Env} {s s1 : Shared} {H : Hp} {E : XK} {us : List Value} {vs : List V}
    (S : FnScope N ps scope) (hd : A.handled = none) (e0 : Env0 P w K mg base A outer s H) (hl : vs.length = ps.length) (r : Vals vs us)
    (x : InCallC s s.heap.objs.size (bindL (envOfC qual scope s.heap.objs.size f cd).kindOf (ps.zip us) fun _ => none) (cellsFrom (s.heap.objs.size + 1) scope.names []) (bindC (envOfC qual scope s.heap.objs.size f cd).kindOf (ps.zip us) fun _ => none) s1) :
    Inv (cxOf CX P w K mg base N qual scope f cd A outer s H E) [] (start N vs) H s1 := by
  have hpl : ps.length ≤ N.length := by have := congrArg List.length S.pre; rw [List.length_take] at this; omega
  obtain ⟨h1, tk, rfl, hk⟩ := x.done
  have noA : ∀ b : Addr, b ∉ (cxOf CX P w K mg base N qual scope f cd A outer s H E).ex := fun b z => absurd (show b ∈ ([] : List Addr) from z) (by simp)
  refine ⟨⟨e0.mod, S.kind, rfl, rfl, Nat.le_refl _, fun y z c h1 h2 => ?_, fun y hy => ?_, fun y c _ h => ?_, fun _ => hd, Around.frames_deeper e0.frames, .inr ⟨rfl, rfl⟩, fun b z => absurd z (noA b), e0.bs, e0.bsz, fun b _ _ => noA b, fun b z => absurd z (noA b), e0.funs, e0.frf⟩,
    rfl, e0.bare, Un.kept hk, ⟨_, x.toInCall.ns, fun i y v h1 h2 h3 => ?_⟩, fun y c h => ⟨_, x.cell y c h⟩, e0.hok.fresh (Nat.le_refl _), fun y c h => ?_, fun p hp => absurd (show p ∈ ([] : List (Addr × Obj)) from hp) (by simp), e0.hok.kept hk, ?_⟩
  · exact name_of_addr x.apart (PySem.mem_of_lookup h1) (PySem.mem_of_lookup h2)
  · have hy : scope.names.lookup y = some .cell ∨ scope.names.lookup y = some .free := hy
    rcases hy with hy | hy
    · exact cell_has hy
    · exact absurd rfl (S.nofree _ (PySem.mem_of_lookup hy))
  · exact Nat.le_of_lt (x.above y c (PySem.mem_of_lookup h))
  · have hi : i < vs.length := by
      unfold start at h2
      by_cases hi : i < vs.length
      · exact hi
      · rw [List.getElem?_append_right (by simpa using hi)] at h2
        rw [List.getElem?_replicate] at h2
        split at h2 <;> cases h2
    have ha : vs[i]? = some v := by
      unfold start at h2
      rw [List.getElem?_append_left (by simpa using hi), List.getElem?_map] at h2
      cases e : vs[i]? with
      | none => rw [e] at h2; cases h2
      | some a => rw [e] at h2; cases h2; rfl
    obtain ⟨u, hu, rv⟩ := r.get ha
    have hp : ps[i]? = some y := by
      rw [← S.pre, List.getElem?_take_of_lt (by omega)]; exact h1
    have ndP : ps.Nodup := by rw [← S.pre]; exact S.nd.sublist (List.take_sublist _ _)
    refine ⟨u, rv, ?_⟩
    rcases S.par y (List.mem_of_getElem? hp) with k | k
    · exact .inl ⟨k, bindL_get ndP hp hu k⟩
    · obtain ⟨c, e⟩ := cell_has (n := s.heap.objs.size + 1) k
      refine .inr ⟨.inl k, c, e, ?_⟩
      have q := x.cell y c e
      rw [bindC_get ndP hp hu (by show scope.names.lookup y ≠ _; rw [k]; decide)] at q
      exact q
  · exact e0.hok.fresh (Nat.le_of_lt (x.above y c (PySem.mem_of_lookup h)))
  · unfold start
    show _ = N.length
    rw [List.length_append, List.length_map, List.length_replicate]
    omega

/-- THE RULE: a def (or a method) of the text, by its body. The body's reading t is chosen for each entry; it is run at the parameters' values -/
theorem fn_of {CX : CXT} {P : Program} {w : World} {K : PySem.W.Frag} {mg : Str → Option Value} {base : Heap} {k : Nat} {f : Addr} {name qual : Str} {params : Arguments} {body : List Stmt} {scope : Scope} {dV kV doc pm cdv ct oc : Value} {an od : Option Addr}
    {osl : Array (Option Value)} {N ps : List Str} {sp : Sp} (lk : K.lookup f = some ⟨oc, od, .func (PySem.W.fnOf name qual params body scope dV kV doc pm an cdv ct), osl⟩) (hcd : PySem.W.codeIn K cdv qual = true) (S : FnScope N ps scope)
    (len : ∀ vs H Q E, sp vs H Q E → vs.length = ps.length)
    (hbody : ∀ (A : Around) (outer : List Env) (s : Shared) (H : Hp) (vs : List V) (Q : VK) (E : XK), Room k (A.deeper (envOfC qual scope s.heap.objs.size f cdv)) → sp vs H Q E →
      ∃ t, PSs (cxOf CX P w K mg base N qual scope f cdv A outer s H E) body t ∧ t { nx := fun _ H' => Q .non H', rt := Q } (start N vs) H) :
    FnOk P w K mg base CX (k + 1) f (PySem.W.fnOf name qual params body scope dV kV doc pm an cdv ct) ps sp := by
  refine ⟨len, fun A outer s H args us vs Q E hr e0 hb r hsp => ?_⟩
  have hl := len _ _ _ _ hsp
  have KX : K.In s.heap := e0.mod.kin.keeps fun b o e => (e0.bs b o e).1
  have lim : s.heap.NoLimit := e0.mod.nolimit.keeps fun b o e => (e0.bs b o e).1
  have hkind : ∀ y ∈ ps.zip us, scope.names.lookup y.1 = some .local ∨ (scope.names.lookup y.1 = some .cell ∧ ((cellsFrom (s.heap.objs.size + 1) scope.names []).lookup y.1).isSome = true) := fun ⟨n, v⟩ hy => by
    rcases S.par n (List.of_mem_zip hy).1 with q | q
    · exact .inl q
    · exact .inr ⟨q, PySem.W.cellsFrom_some _ _ _ (.inl q)⟩
  refine codeAny_call_function hr.depth (KX _ _ lk) rfl S.co S.gen rfl (PySem.W.codeRec_of KX hcd) (hb _ _ _ _ ?_)
  refine wpAny_newFunctionEnv_cells S.kind hkind fun env he s1 x => ?_
  subst he
  refine ⟨lim.keeps x.toInCall.keep, codeAny_func ?_⟩
  obtain ⟨t, ht, hq⟩ := hbody A outer s H vs Q E (hr.deeper _) hsp
  have I : Inv (cxOf CX P w K mg base N qual scope f cdv A outer s H E) [] (start N vs) H s1 := inv_start S hr.hd e0 hl r x
  refine wpAny_mono (ht [] s1 (start N vs) H _ I hq) (fun fl s' hs => ?_) fun e s' hs => hs
  have fin : ∀ {σ' : St} {H' : Hp} {v : V} {u : Value}, Inv (cxOf CX P w K mg base N qual scope f cdv A outer s H E) [] σ' H' s' → RelV v u → Q v H' → CE outer P w H s Q u s' :=
    fun {σ' H' v u} J rv q => ⟨v, H', J.os, J.bare, J.base, J.hok, rv, q⟩
  cases fl with
  | ret u =>
    obtain ⟨v, σ', H', J, rv, q⟩ := hs
    exact fin J rv q
  | next =>
    obtain ⟨σ', H', J, q⟩ := hs
    exact fin (v := V.non) (u := Value.none) J rfl q
  | brk =>
    obtain ⟨_, _, _, q⟩ := hs
    exact False.elim q
  | cont =>
    obtain ⟨_, _, _, q⟩ := hs
    exact False.elim q
end L2

namespace L2
open PySem PySem.Spec PyProof.Rows
section
variable {X : Cx} {x : Str} {p pos : Pos} {e : Expr} {es : List Expr} {t : TA} {id T : String} {r : List V → Hp → VK → Prop}

def tCB (r : List V → Hp → VK → Prop) (t : TA) : TE := fun σ H Q => t σ H fun vs H1 => r vs H1 Q
/-- f(e, ..), f a built-in function -/
theorem pe_callB (hc : CallR X (.builtin id) r) (hg : Gl X x) (hm : X.mg x = none) (hv : bootBuiltins x = some (.builtin id)) (ha : PA X (e :: es) t) (hn : x ≠ "__name__" := by decide) (hdb : (x == ("__debug__" : Str)) = false := by decide)
    (he : starEach (e :: es) X.env = (false, eval e X.env) :: starEach es X.env := by rfl) (hpl : (backTo pos (starEach es X.env)).any (·.1) = false := by rfl) : PE X (.Call (.Name x p) (e :: es) [] pos) (tCB r t) := by
  intro pins s σ H Q I h
  refine wpAny_Call_Name_kw (ld_blt I hg hm hv ?_ hn hdb)
  exact PyProof.Rows.callWith_builtin1 (thn (ha pos pins s σ H _ I h) fun us s1 ⟨vs, H1, I1, r1, q1⟩ => hc pins s1 σ H1 vs us Q I1 r1 q1) he hpl
/-- T(e, ..), T a built-in type -/
theorem pe_callTy (hc : CallR X (.type T) r) (hg : Gl X x) (hm : X.mg x = none) (hv : bootBuiltins x = some (.type T)) (ha : PA X (e :: es) t) (hn : x ≠ "__name__" := by decide) (hdb : (x == ("__debug__" : Str)) = false := by decide)
    (he : starEach (e :: es) X.env = (false, eval e X.env) :: starEach es X.env := by rfl) (hpl : (backTo pos (starEach es X.env)).any (·.1) = false := by rfl) : PE X (.Call (.Name x p) (e :: es) [] pos) (tCB r t) := by
  intro pins s σ H Q I h
  refine wpAny_Call_Name_kw (ld_blt I hg hm hv ?_ hn hdb)
  exact PyProof.Rows.callWith_type1 (thn (ha pos pins s σ H _ I h) fun us s1 ⟨vs, H1, I1, r1, q1⟩ => hc pins s1 σ H1 vs us Q I1 r1 q1) he hpl
end
end L2

namespace HT
open PySem PyProof.Rows



section
open PySem.SeqAt
open PySem.AutoSeq1 (wpAny_loadPart')
open PySem.MeetsSeq PySem.MeetsSeq2 PySem.MeetsSeq3

end

section
variable {prog : Program} {w : World} {A : Around} {E : Value → Shared → Prop} {s : Shared}


/-- t + u, t not empty -/
theorem cat_tup {t b : Addr} {vs ws : List Value} {Q : Value → Shared → Prop} (ht : IsTup s.heap t vs.toArray) (hb : IsTup s.heap b ws.toArray) (hv : vs ≠ [])
    (h1 : ws = [] → Q (.ref t) s) (h2 : ws ≠ [] → Q (.ref s.heap.objs.size) { s with heap := s.heap.push { cls := .type "tuple", data := .seq (vs ++ ws).toArray } })
    (hsz : vs.length + ws.length ≤ sizeLine) : wpAny (model prog w) A (binaryOp .Add (.ref t) (.ref b)) Q E s := by
  obtain ⟨⟨cls, dd, data, sl⟩, ho, hc, n, hd⟩ := id ht
  obtain ⟨⟨cls2, dd2, data2, sl2⟩, ho2, hc2, n2, hd2⟩ := id hb
  simp only at hc hd hc2 hd2
  subst hc hd hc2 hd2
  have e : vs.toArray ++ ws.toArray = (vs ++ ws).toArray := by simp
  by_cases hw : ws = []
  · exact concat_meets ⟨_, ho, rfl⟩ ⟨_, ho2, rfl⟩ noFill_tuple_add seq_tuple_add PySem.F.slot_tuple_add PySem.F.entry_tuple_add (PySem.F.args_tuple_add_2 _ _)
      (tuple_addW1 t b vs.toArray ws.toArray n n2 dd dd2 sl sl2 (by simpa using hv) (by simp [hw])) ⟨ho, ho2, h1 hw⟩
  · refine concat_meets ⟨_, ho, rfl⟩ ⟨_, ho2, rfl⟩ noFill_tuple_add seq_tuple_add PySem.F.slot_tuple_add PySem.F.entry_tuple_add (PySem.F.args_tuple_add_2 _ _)
      (tuple_addW2 t b vs.toArray ws.toArray n n2 dd dd2 sl sl2 (by simpa using hv) (by simpa using hw) (by rw [List.size_toArray, List.size_toArray]; exact hsz)) ⟨ho, ho2, ?_⟩
    rw [e]
    exact h2 hw

/-! ### t[a:b], not the whole -/
/-- a slice's bound as a place among n (d where it is left out) -/
def sIx (n d : Nat) : Option Int → Nat
  | none => d
  | some v => if v < 0 then (v + (n : Int)).toNat else min v.toNat n
theorem sIx_none (n d : Nat) : sIx n d none = d := rfl
theorem sIx_nat (n d k : Nat) : sIx n d (some (k : Int)) = min k n := by
  show (if (k : Int) < 0 then ((k : Int) + (n : Int)).toNat else min (k : Int).toNat n) = min k n
  rw [if_neg (by omega), Int.toNat_natCast]
theorem sIx_le (n d : Nat) (hd : d ≤ n) (o : Option Int) : sIx n d o ≤ n := by
  cases o with
  | none => exact hd
  | some v =>
    show (if v < 0 then (v + (n : Int)).toNat else min v.toNat n) ≤ n
    by_cases hv : v < 0
    · rw [if_pos hv]; omega
    · rw [if_neg hv]; exact Nat.min_le_right _ _
theorem clip_eq (v : Int) (n d : Nat) : (if v < 0 then max (v + (n : Int)) 0 else min v (n : Int)) = ((sIx n d (some v) : Nat) : Int) := by
  show (if v < 0 then max (v + (n : Int)) 0 else min v (n : Int)) = (((if v < 0 then (v + (n : Int)).toNat else min v.toNat n) : Nat) : Int)
  by_cases hv : v < 0
  · simp only [if_pos hv]; omega
  · simp only [if_neg hv]; omega
theorem adjust_gen (lo hi : Option Int) (n : Nat) : Builtin.Slice.sliceAdjust lo hi 1 (n : Int) = (((sIx n 0 lo : Nat) : Int), ((sIx n n hi : Nat) : Int)) := by
  have h1 : ¬ ((1 : Int) < 0) := by omega
  unfold Builtin.Slice.sliceAdjust
  simp only [h1, if_false]
  refine Prod.ext ?_ ?_
  · cases lo with
    | none => rfl
    | some v => exact clip_eq v n 0
  · cases hi with
    | none => rfl
    | some v => exact clip_eq v n n
theorem places_gen (i j : Nat) : Builtin.Slice.slicePlaces (i : Int) (j : Int) 1 = j - i := by
  unfold Builtin.Slice.slicePlaces
  have h1 : (1 : Int) > 0 := by omega
  simp only [h1, if_true, Int.ediv_one]
  split <;> omega
theorem slicePart_ {v : Value} {o : Option Int} {Q : Option Int → Shared → Prop} (p : IsPart v o) (h : Q o s) : wpAny (model prog w) A (Builtin.Slice.slicePartIndex v) Q E s := by
  cases p with
  | none => exact slicePart_none h
  | int i t => exact slicePart_int h
theorem sliceApplied_gen {sl : Addr} {vl vu : Value} {lo hi : Option Int} {n : Nat} {Q : Int × Int × Nat → Shared → Prop} (hs : s.heap.IsSliceOf sl vl vu .none) (pl : IsPart vl lo) (pu : IsPart vu hi)
    (h : Q (((sIx n 0 lo : Nat) : Int), 1, sIx n n hi - sIx n 0 lo) s) : wpAny (model prog w) A (Builtin.Slice.sliceApplied (.ref sl) (pure (n : Int))) Q E s := by
  obtain ⟨os, hos, hcs, hds⟩ := id hs
  unfold Builtin.Slice.sliceApplied Builtin.Slice.sliceFields
  refine wpAny_bind (wpAny_bind (wpAny_field hos hds (x := vl) rfl (wpAny_bind (wpAny_field hos hds (x := vu) rfl (wpAny_bind (wpAny_field hos hds (x := .none) rfl (wpAny_pure ?_)))))))
  refine wpAny_bind (slicePart_none ?_)
  show wpAny _ _ (if ((1 : Int) == 0) = true then _ else _) _ _ s
  rw [if_neg (by decide)]
  refine wpAny_bind (slicePart_ pl (wpAny_bind (slicePart_ pu (wpAny_bind (wpAny_pure ?_)))))
  show wpAny _ _ (match Builtin.Slice.sliceAdjust lo hi 1 (n : Int) with | (lo, hi) => pure (lo, (1 : Int), Builtin.Slice.slicePlaces lo hi 1)) _ _ s
  rw [adjust_gen lo hi n]
  show wpAny _ _ (pure (((sIx n 0 lo : Nat) : Int), (1 : Int), Builtin.Slice.slicePlaces ((sIx n 0 lo : Nat) : Int) ((sIx n n hi : Nat) : Int) 1)) _ _ s
  rw [places_gen]
  exact wpAny_pure h
theorem pick_gen (xs : Array Value) (i k : Nat) : ((List.range k).filterMap fun (m : Nat) => xs[((i : Int) + (m : Int) * 1).toNat]?).toArray = ((xs.toList.drop i).take k).toArray := by
  have e : (fun (m : Nat) => xs[((i : Int) + (m : Int) * 1).toNat]?) = fun m => xs[i + m]? := by
    funext m
    have : ((i : Int) + (m : Int) * 1).toNat = i + m := by omega
    rw [this]
  rw [e]
  have := pick_run xs i k
  rw [List.filterMap_map] at this
  have e2 : ((fun x => xs[x]?) ∘ fun x => i + x) = fun m => xs[i + m]? := rfl
  rw [e2] at this
  rw [this]

theorem getItem_tuple_cut {t sl : Addr} {items : Array Value} {vl vu : Value} {lo hi : Option Int} {Q : Value → Shared → Prop} (ht : IsTup s.heap t items) (hs : s.heap.IsSliceOf sl vl vu .none) (pl : IsPart vl lo) (pu : IsPart vu hi)
    (hw : ¬ (sIx items.size 0 lo = 0 ∧ sIx items.size items.size hi = items.size))
    (h : Q (.ref s.heap.objs.size) { s with heap := s.heap.push { cls := .type "tuple", data := .seq ((items.toList.drop (sIx items.size 0 lo)).take (sIx items.size items.size hi - sIx items.size 0 lo)).toArray } })
    (hsz : items.size ≤ sizeLine) : wpAny (model prog w) A (getItem (.ref t) (.ref sl)) Q E s := by
  have htake : sizeOk (.seq ((items.toList.drop (sIx items.size 0 lo)).take (sIx items.size items.size hi - sIx items.size 0 lo)).toArray) := by
    show ((items.toList.drop (sIx items.size 0 lo)).take (sIx items.size items.size hi - sIx items.size 0 lo)).toArray.size ≤ sizeLine
    rw [List.size_toArray, List.length_take, List.length_drop, Array.length_toList]
    omega
  have hj : sIx items.size items.size hi ≤ items.size := sIx_le _ _ (Nat.le_refl _) hi
  obtain ⟨os, hos, hcs, hds⟩ := id hs
  have hTs : s.TypeIs (.ref sl) "slice" := ⟨os, hos, hcs⟩
  unfold getItem
  try with_reducible refine wpAny_holding ?_
  first | refine wpAny_bind (wpAny_pure ?_) | skip
  refine wpAny_bind (wpAny_sequenceKey ht.typeIs (by decide) ?_)
  refine wpAny_bind (wpAny_callSpecial?_slot (name := Str.ofString "__getitem__") ht.typeIs PyProof.Rows.slot_tuple_getitem
    (wpAny_call_entry PyProof.Rows.slot_tuple_getitem ht.typeIs entry_tuple_getitem ?_ (args_tuple_getitem _ _)))
  show wpAny _ _ (Builtin.Tuple.tupleItemsOf (.ref t) >>= _) _ _ s
  refine wpAny_bind (tupleItemsOf_ ht ?_)
  refine wpAny_bind (wpAny_typeOf hTs ?_)
  rw [if_pos (by decide)]
  refine wpAny_bind (sliceApplied_gen hs pl pu ?_)
  have hno : ¬ ((((sIx items.size 0 lo : Nat) : Int) == 0 && (1 : Int) == 1 && (sIx items.size items.size hi - sIx items.size 0 lo) == items.size) = true) := by
    intro q
    rw [Bool.and_eq_true, Bool.and_eq_true] at q
    have q1 : ((sIx items.size 0 lo : Nat) : Int) = 0 := eq_of_beq q.1.1
    have q2 : sIx items.size items.size hi - sIx items.size 0 lo = items.size := eq_of_beq q.2
    exact hw ⟨by omega, by omega⟩
  show wpAny _ _ (if (((sIx items.size 0 lo : Nat) : Int) == 0 && (1 : Int) == 1 && (sIx items.size items.size hi - sIx items.size 0 lo) == items.size) = true then _ else _) _ _ s
  rw [if_neg hno, pick_gen]
  first
    | exact wpAny_bind (m := Builtin.Tuple.tupleExact _) (wpAny_newObj_type (wpAny_pure ⟨_, rfl, wpAny_pure h⟩) htake)
    | exact wpAny_bind (m := Builtin.Tuple.tupleExact _) (wpAny_newObj_type (wpAny_bind (wpAny_pure (wpAny_pure ⟨_, rfl, wpAny_pure h⟩))) htake)
    | exact wpAny_bind (wpAny_bind (m := Builtin.Tuple.tupleExact _) (wpAny_newObj_type (wpAny_pure (wpAny_pure ⟨_, rfl, wpAny_pure h⟩)) htake))
    | exact wpAny_bind (wpAny_bind (m := Builtin.Tuple.tupleExact _) (wpAny_newObj_type (wpAny_pure ⟨_, rfl, wpAny_pure h⟩) htake))
end
end HT

namespace L2
open PySem PySem.Spec PyProof.Rows

/-! ### the parts of a slice -/
abbrev TO := St → Hp → (Option Int → Hp → Prop) → Prop
/-- a slice's part (left out, or an int) -/
def PO (X : Cx) (e : Option Expr) (t : TO) : Prop :=
  ∀ (pins : List (Addr × Obj)) (s : Shared) (σ : St) (H : Hp) (Q : Option Int → Hp → Prop), Inv X pins σ H s → t σ H Q →
    wpAny (model X.prog X.w) X.A (evalPart e X.env) (fun u s' => ∃ o H', Inv X pins σ H' s' ∧ IsPart u o ∧ Q o H') X.xe s
def tNoPart : TO := fun _ H Q => Q none H
def tPart (t : TE) : TO := fun σ H Q => t σ H fun x H1 => ∃ i, x = .int i ∧ Q (some i) H1


section
variable {X : Cx} {e : Expr} {te : TE} {lo hi : Option Expr} {tl th : TO} {pos p2 : Pos}

theorem po_none : PO X none tNoPart := by
  intro pins s σ H Q I h
  rw [evalPart_none]
  exact wpAny_pure ⟨none, H, I, .none, h⟩
theorem po_some (h : PE X e te) : PO X (some e) (tPart te) := by
  intro pins s σ H Q I hw
  rw [evalPart_some]
  refine thn (h pins s σ H _ I hw) fun u s1 ⟨x, H1, I1, r1, q1⟩ => ?_
  obtain ⟨i, rfl, q⟩ := q1
  obtain ⟨t, rfl⟩ := r1
  exact ⟨some i, H1, I1, .int i t, q⟩

/-- what a slice of a value is, by values: the slice object stands at sl -/
def SlR (X : Cx) (r : V → Option Int → Option Int → Hp → VK → Prop) : Prop :=
  ∀ (pins : List (Addr × Obj)) (s : Shared) (σ : St) (H : Hp) (x : V) (v vl vu : Value) (lo hi : Option Int) (sl : Addr) (Q : VK), Inv X pins σ H s → RelV x v → s.heap.IsSliceOf sl vl vu .none → IsPart vl lo → IsPart vu hi → r x lo hi H Q →
    ∃ T id, typeLookup (.type T) "__getitem__" = pure (some (.builtin id)) ∧ s.TypeIs v T ∧ wpAny (model X.prog X.w) X.A (getItem v (.ref sl)) (EP X pins σ Q) X.xe s
def tSl (r : V → Option Int → Option Int → Hp → VK → Prop) (te : TE) (tl th : TO) : TE := fun σ H Q => te σ H fun x H1 => tl σ H1 fun l H2 => th σ H2 fun u H3 => r x l u H3 Q
/-- a[lo:hi], any a -/
theorem pe_slice {r : V → Option Int → Option Int → Hp → VK → Prop} (hr : SlR X r) (he : PE X e te) (hl : PO X lo tl) (hu : PO X hi th) : PE X (.Subscript e (.Slice lo hi none p2) pos) (tSl r te tl th) := by
  intro pins s σ H Q I h
  refine Subscript_ (thn (he pins s σ H _ I h) fun v s1 ⟨x, H1, I1, r1, q1⟩ => ?_)
  refine wpAny_Slice (thn (hl pins s1 σ H1 _ I1 q1) fun vl s2 ⟨l, H2, I2, pl, q2⟩ => thn (hu pins s2 σ H2 _ I2 q2) fun vu s3 ⟨u, H3, I3, pu, q3⟩ => ?_)
  rw [evalPart_none]
  refine wpAny_pure ?_
  have I4 : Inv X pins σ H3 { s3 with heap := s3.heap.push { cls := .type "slice", data := .fields #[vl, vu, .none] } } := I3.kept (t' := s3.toks) fun b ob q => Heap.get?_push_of_some _ q
  obtain ⟨T, id, hT, ht, hg⟩ := hr pins { s3 with heap := s3.heap.push { cls := .type "slice", data := .fields #[vl, vu, .none] } } σ H3 x v vl vu l u s3.heap.objs.size Q I4 r1 (Heap.IsSliceOf.new ..) pl pu q3
  show wpAny (model X.prog X.w) X.A (subscriptTail e (.Slice lo hi none p2) v (.ref s3.heap.objs.size)) (EP X pins σ Q) X.xe { s3 with heap := s3.heap.push { cls := .type "slice", data := .fields #[vl, vu, .none] } }
  exact tail_any (ops := [.ref s3.heap.objs.size, v]) ht hT hg (by with_unfolding_all rfl)

/-- the items of xs[lo:hi] -/
def cutV (xs : List V) (lo hi : Option Int) : List V := (xs.drop (HT.sIx xs.length 0 lo)).take (HT.sIx xs.length xs.length hi - HT.sIx xs.length 0 lo)
theorem cutV_length (xs : List V) (lo hi : Option Int) : (cutV xs lo hi).length ≤ xs.length := by
  unfold cutV
  rw [List.length_take, List.length_drop]
  omega
/-- t[lo:hi], not the whole of it (the whole would be t itself) -/
def rSlT (K : PySem.W.Frag) : V → Option Int → Option Int → Hp → VK → Prop := fun x lo hi H Q => ∃ a xs, x = .ref a ∧ SqT K H a xs ∧
  ¬ (HT.sIx xs.length 0 lo = 0 ∧ HT.sIx xs.length xs.length hi = xs.length) ∧ ∀ p, H p = none → Q (.ref p) (upd H p (.tup (cutV xs lo hi)))
theorem sl_tup : SlR X (rSlT X.K) := by
  intro pins s σ H x v vl vu lo hi sl Q I rx hs pl pu h
  obtain ⟨a, xs, rfl, hx, hw, q⟩ := h
  cases rx
  obtain ⟨its, r, ht, hz⟩ := I.tuple hx
  have hlen : its.toArray.size = xs.length := by rw [List.size_toArray]; exact r.length.symm
  refine ⟨"tuple", _, PyProof.Rows.slot_tuple_getitem.lookup, ht.typeIs, ?_⟩
  refine HT.getItem_tuple_cut ht hs pl pu (by rw [hlen]; exact hw) ?_ (by rw [hlen]; exact hz)
  rw [hlen]
  refine ⟨.ref s.heap.objs.size, _, I.laid (t' := s.toks) (o := .tup (cutV xs lo hi)) (fun b ob q => Heap.get?_push_of_some _ q) (Nat.le_refl _) ?_, rfl, q _ (I.hok.fresh (Nat.le_refl _))⟩
  exact ⟨Nat.le_trans (cutV_length xs lo hi) hz, _, (r.drop (HT.sIx xs.length 0 lo)).take (HT.sIx xs.length xs.length hi - HT.sIx xs.length 0 lo), IsTup.new _ _⟩

/-! ### t < u, t + u -/
/-- t + u, t not empty: u empty gives t itself -/
def rCatT (K : PySem.W.Frag) : R2 := fun x y H Q => ∃ a b xs ys, x = .ref a ∧ y = .ref b ∧ SqT K H a xs ∧ SqT K H b ys ∧ xs ≠ [] ∧ xs.length + ys.length ≤ sizeLine ∧
  (ys = [] → Q (.ref a) H) ∧ (ys ≠ [] → ∀ p, H p = none → Q (.ref p) (upd H p (.tup (xs ++ ys))))
theorem Vals.nil_iff {xs : List V} {us : List Value} (r : Vals xs us) : us = [] ↔ xs = [] := by
  cases r with
  | nil => simp
  | cons _ _ => simp
theorem op_catT : OpR X (binaryOp .Add) (rCatT X.K) := by
  intro pins s σ H x y v u Q I rx ry h
  obtain ⟨a, b, xs, ys, rfl, rfl, ha, hb, hx, hz, q1, q2⟩ := h
  cases rx
  cases ry
  obtain ⟨its, r1, p1, _⟩ := I.tuple ha
  obtain ⟨its2, r2, p2, _⟩ := I.tuple hb
  refine HT.cat_tup p1 p2 (fun z => hx (r1.nil_iff.mp z)) (fun z => ⟨.ref a, H, I, rfl, q1 (r2.nil_iff.mp z)⟩) (fun z => ?_) (by rw [← r1.length, ← r2.length]; exact hz)
  refine ⟨.ref s.heap.objs.size, _, I.laid (t' := s.toks) (o := .tup (xs ++ ys)) (fun b ob q => Heap.get?_push_of_some _ q) (Nat.le_refl _) ?_, rfl, q2 (fun w => z (r2.nil_iff.mpr w)) _ (I.hok.fresh (Nat.le_refl _))⟩
  exact ⟨by rw [List.length_append]; exact hz, _, r1.append r2, IsTup.new _ _⟩
end
end L2

namespace L2
open PySem PySem.Spec PyProof.Rows

/-! ### places -/
/-- the place that an index of any sign means -/
def ixN (n : Nat) (i : Int) : Option Nat := if 0 ≤ i then (if i < n then some i.toNat else none) else if -(n : Int) ≤ i then some (i + n).toNat else none
def atI {α : Type} (xs : List α) (i : Int) : Option α := (ixN xs.length i).bind fun j => xs[j]?
theorem ixN_seq {n : Nat} {i : Int} {j : Nat} (h : ixN n i = some j) : seqIndex? i n = some j ∧ j < n ∧ -(n : Int) ≤ i ∧ i < n := by
  unfold ixN at h
  by_cases h0 : 0 ≤ i
  · rw [if_pos h0] at h
    by_cases h1 : i < n
    · rw [if_pos h1] at h
      have e : i.toNat = j := Option.some.inj h
      exact ⟨by rw [seqIndex_of h0 h1, e], by omega, by omega, h1⟩
    · rw [if_neg h1] at h; cases h
  · rw [if_neg h0] at h
    by_cases h1 : -(n : Int) ≤ i
    · rw [if_pos h1] at h
      have e : (i + n).toNat = j := Option.some.inj h
      exact ⟨by rw [seqIndex_neg (by omega) h1, e], by omega, h1, by omega⟩
    · rw [if_neg h1] at h; cases h
theorem atI_get {α : Type} {xs : List α} {i : Int} {v : α} (h : atI xs i = some v) : ∃ j, seqIndex? i xs.length = some j ∧ xs[j]? = some v ∧ j < xs.length ∧ -(xs.length : Int) ≤ i ∧ i < xs.length := by
  unfold atI at h
  cases e : ixN xs.length i with
  | none => rw [e] at h; cases h
  | some j =>
    rw [e] at h
    obtain ⟨h1, h2, h3, h4⟩ := ixN_seq e
    exact ⟨j, h1, h, h2, h3, h4⟩
theorem atI_nat {α : Type} {xs : List α} {j : Nat} {v : α} (h : xs[j]? = some v) : atI xs (j : Int) = some v := by
  have hj : j < xs.length := (List.getElem?_eq_some_iff.mp h).1
  have e : ixN xs.length (j : Int) = some j := by
    unfold ixN
    rw [if_pos (by omega), if_pos (by omega)]; simp
  unfold atI; rw [e]; exact h

/-! ### what may be subscripted -/
/-- what stands as an index of a plain subscript -/
def PlainIx (b : Expr) : Prop := ∀ o i, subscripted b false o i = operate [o, i] (getItem o i)
/-- a subscript by values -/
def IxR (X : Cx) (r : R2) : Prop :=
  ∀ (value slice : Expr) (pins : List (Addr × Obj)) (s : Shared) (σ : St) (H : Hp) (x y : V) (v u : Value) (Q : VK), Inv X pins σ H s → RelV x v → RelV y u → r x y H Q →
    subscripted slice false v u = operate [v, u] (getItem v u) → wpAny (model X.prog X.w) X.A (subscriptTail value slice v u) (EP X pins σ Q) X.xe s
/-- a call of a builtin's method by values: the receiver, the arguments -/
def MtR (X : Cx) (id : String) (r : V → List V → Hp → VK → Prop) : Prop :=
  ∀ (pins : List (Addr × Obj)) (s : Shared) (σ : St) (H : Hp) (x : V) (xs : List V) (v : Value) (us : List Value) (Q : VK), Inv X pins σ H s → RelV x v → Vals xs us → r x xs H Q →
    wpAny (model X.prog X.w) X.A (call (.builtin id) (v :: us)) (EP X pins σ Q) X.xe s
section
variable {X : Cx} {a b : Expr} {ta tb : TE} {pos : Pos}
/-- a[b] -/
theorem pe_ix {r : R2} (hr : IxR X r) (ha : PE X a ta) (hb : PE X b tb) (hs : PlainIx b) : PE X (.Subscript a b pos) (tOp r ta tb) := by
  intro pins s σ H Q I h
  exact Subscript_ (binT ha hb I h fun v u s2 x y H2 I2 rx ry q => hr a b pins s2 σ H2 x y v u Q I2 rx ry q (hs _ _))

def rIxL (K : PySem.W.Frag) : R2 := fun x y H Q => ∃ p xs i v, x = .ref p ∧ y = .int i ∧ SqL K H p xs ∧ atI xs i = some v ∧ Q v H
def rIxT (K : PySem.W.Frag) : R2 := fun x y H Q => ∃ p xs i v, x = .ref p ∧ y = .int i ∧ SqT K H p xs ∧ atI xs i = some v ∧ Q v H
theorem ix_list : IxR X (rIxL X.K) := by
  intro value slice pins s σ H x y v u Q I rx ry h hs
  obtain ⟨p, xs, i, z, rfl, rfl, hq, he, q⟩ := h
  cases rx
  obtain ⟨t, rfl⟩ := ry
  obtain ⟨its, r, pl, hz⟩ := I.list hq
  obtain ⟨j, h1, h2, h3, h4, h5⟩ := atI_get he
  obtain ⟨w, ew, rw'⟩ := r.get h2
  have hl := r.length
  have hn := line63
  have fin : EP X pins σ Q w s := ⟨z, H, I, rw', q⟩
  by_cases h0 : 0 ≤ i
  · have hj : i.toNat = j := by
      rw [seqIndex_of h0 h5] at h1
      exact Option.some.inj h1
    exact item_listR pl.isList h0 (by omega) (by rw [hj]; simpa using ew) fin hs
  · have hj : (i + (its.toArray.size : Int)).toNat = j := by
      rw [seqIndex_neg (by omega) h4] at h1
      rw [List.size_toArray, ← hl]
      exact Option.some.inj h1
    exact subscriptTail_builtinR (x := w) pl.isList.typeIs slot_list_getitem.lookup
      (wpAny_getItem_list_neg (Q := fun r s' => r = w ∧ EP X pins σ Q r s') pl.isList (by omega) (by rw [List.size_toArray] <;> omega) (by omega) (by rw [hj]; simpa using ew) ⟨rfl, fin⟩) hs
theorem ix_tup : IxR X (rIxT X.K) := by
  intro value slice pins s σ H x y v u Q I rx ry h hs
  obtain ⟨p, xs, i, z, rfl, rfl, hq, he, q⟩ := h
  cases rx
  obtain ⟨t, rfl⟩ := ry
  obtain ⟨its, r, pl, hz⟩ := I.tuple hq
  obtain ⟨j, h1, h2, h3, h4, h5⟩ := atI_get he
  obtain ⟨w, ew, rw'⟩ := r.get h2
  have hl := r.length
  have hn := line63
  have fin : EP X pins σ Q w s := ⟨z, H, I, rw', q⟩
  exact subscriptTail_builtinR (x := w) pl.typeIs slot_tuple_getitem.lookup
    (getItem_tuple (j := j) (Q := fun r s' => r = w ∧ EP X pins σ Q r s') pl (by omega) (by omega) (by rw [List.size_toArray, ← hl]; exact h1) (by simpa using ew) ⟨rfl, fin⟩) hs

/-! ### xs[i] = v, any sign -/

/-! ### slices -/
theorem slice_bounds (lo hi : Option Int) (n : Nat) : (sliceBounds lo hi none n).1 = ((HT.sIx n 0 lo : Nat) : Int) ∧ (sliceBounds lo hi none n).2.1 = ((HT.sIx n n hi : Nat) : Int) ∧ (sliceBounds lo hi none n).2.2 = 1 := by
  refine ⟨?_, ?_, rfl⟩
  · cases lo with
    | none => simp [sliceBounds, HT.sIx]
    | some i =>
      simp only [sliceBounds, HT.sIx, Option.getD_none, show (1 : Int) > 0 by decide, if_true]
      by_cases h : i < 0
      · simp only [h, if_true] <;> omega
      · simp only [h, if_false] <;> omega
  · cases hi with
    | none => simp [sliceBounds, HT.sIx]
    | some i =>
      simp only [sliceBounds, HT.sIx, Option.getD_none, show (1 : Int) > 0 by decide, if_true]
      by_cases h : i < 0
      · simp only [h, if_true] <;> omega
      · simp only [h, if_false] <;> omega
theorem slicePick_cut (its : List Value) (lo hi : Option Int) : slicePick its.toArray lo hi none = ((its.drop (HT.sIx its.length 0 lo)).take (HT.sIx its.length its.length hi - HT.sIx its.length 0 lo)).toArray := by
  obtain ⟨h1, h2, h3⟩ := slice_bounds lo hi its.toArray.size
  unfold slicePick
  rw [h1, h2, h3]
  simp only [sliceRange_one, pick_run, List.size_toArray] <;> rfl
/-- xs[lo:hi] of a list: a new list -/
def rSlL (K : PySem.W.Frag) : V → Option Int → Option Int → Hp → VK → Prop := fun x lo hi H Q => ∃ a xs, x = .ref a ∧ SqL K H a xs ∧ ∀ p, H p = none → Q (.ref p) (upd H p (.lst (cutV xs lo hi)))
theorem sl_list : SlR X (rSlL X.K) := by
  intro pins s σ H x v vl vu lo hi sl Q I rx hs pl pu h
  obtain ⟨a, xs, rfl, hx, q⟩ := h
  cases rx
  obtain ⟨its, r, ht, hz⟩ := I.list hx
  have hlen := r.length
  refine ⟨"list", _, slot_list_getitem.lookup, ht.isList.typeIs, ?_⟩
  refine wpAny_getItem_list_slice ht.isList hs pl pu .none (by simp) ?_ (by rw [List.size_toArray] <;> omega)
  rw [slicePick_cut, ← hlen]
  refine ⟨.ref s.heap.objs.size, _, I.laid (t' := s.toks) (o := .lst (cutV xs lo hi)) (fun b ob q => Heap.get?_push_of_some _ q) (Nat.le_refl _) ?_, rfl, q _ (I.hok.fresh (Nat.le_refl _))⟩
  exact ⟨Nat.le_trans (cutV_length xs lo hi) hz, _, 0, (r.drop (HT.sIx xs.length 0 lo)).take (HT.sIx xs.length xs.length hi - HT.sIx xs.length 0 lo), Heap.get?_push_size _ rfl⟩

/-! ### in, not in: flat items -/

/-! ### len, list(x), tuple(x) of any list or tuple that is read -/
theorem call_tuple_of : CallR X (.type "tuple") (fun xs H Q => ∃ p ys, xs = [.ref p] ∧ ((SqL X.K H p ys ∧ ∀ l, H l = none → Q (.ref l) (upd H l (.tup ys))) ∨ (SqT X.K H p ys ∧ Q (.ref p) H))) := by
  intro pins s σ H xs us Q I r h
  obtain ⟨p, ys, rfl, h⟩ := h
  obtain ⟨u, rfl, rx⟩ := vals1 r
  cases rx
  rcases h with ⟨hq, q⟩ | ⟨hq, q⟩
  · obtain ⟨its, r', pl, hz⟩ := I.list hq
    have hlen := r'.length
    refine call_tuple_list pl.isList (fun h' kp => ?_) (by simp only [List.size_toArray] <;> omega)
    have I1 : Inv X pins σ H { s with heap := h' } := I.kept (t' := s.toks) kp
    have I2 : Inv X pins σ (upd H h'.objs.size (.tup ys)) { s with heap := h'.push { cls := .type "tuple", data := .seq its.toArray } } :=
      I1.laid (t' := s.toks) (fun b o e => Heap.get?_push_of_some _ e) (Nat.le_refl _) (show ObjOk X.prog X.w _ _ _ (.tup ys) from ⟨hz, its, r', IsTup.new _ _⟩)
    exact ⟨.ref h'.objs.size, _, I2, rfl, q _ (I1.hok.fresh (Nat.le_refl _))⟩
  · obtain ⟨its, r', pl, hz⟩ := I.tuple hq
    exact call_tuple_same pl ⟨.ref p, H, I, rfl, q⟩

/-! ### the call of a builtin's method: o.m(..) -/
/-- the value is of that builtin type -/
def tyV (K : PySem.W.Frag) (T : String) (x : V) (H : Hp) : Prop := match x with
  | .str _ => T = "str"
  | .int _ => T = "int"
  | .ref p => (T = "list" ∧ ∃ xs, SqL K H p xs) ∨ (T = "tuple" ∧ ∃ o, K.lookup p = some o ∧ o.cls = .type "tuple" ∧ o.dict = none) ∨
      (T = "dict" ∧ ((∃ kvs, H p = some (.dK kvs)) ∨ ∃ kvs, H p = some (.dT kvs))) ∨ (T = "set" ∧ ∃ S n, H p = some (.set S n))
  | _ => False
theorem tyV_is {pins : List (Addr × Obj)} {σ : St} {H : Hp} {s : Shared} {T : String} {x : V} {v : Value} (I : Inv X pins σ H s) (r : RelV x v) (ty : tyV X.K T x H) :
    s.TypeIs v T ∧ ∀ a, v = .ref a → ∃ ob, s.heap.get? a = some ob ∧ ob.dict = none := by
  cases x with
  | str z =>
    obtain ⟨t, rfl⟩ := r
    cases (show T = "str" from ty)
    exact ⟨typeIs_str s z t, fun _ e => nomatch e⟩
  | int i =>
    obtain ⟨t, rfl⟩ := r
    cases (show T = "int" from ty)
    exact ⟨typeIs_int s i t, fun _ e => nomatch e⟩
  | ref p =>
    cases r
    rcases ty with ⟨rfl, xs, hq⟩ | ⟨rfl, o, hk, hc, hd⟩ | ⟨rfl, hk⟩ | ⟨rfl, S, n, hk⟩
    · obtain ⟨its, _, pl, _⟩ := I.list hq
      refine ⟨pl.isList.typeIs, fun a e => ?_⟩
      cases e
      obtain ⟨o, n, e, c, hd, _⟩ := pl
      exact ⟨o, e, hd⟩
    · refine ⟨⟨o, I.kIn p o hk, hc⟩, fun a e => ?_⟩
      cases e
      exact ⟨o, I.kIn _ o hk, hd⟩
    · have z : ∃ o, s.heap.get? p = some o ∧ o.ExactDict := by
        rcases hk with ⟨kvs, hk⟩ | ⟨kvs, hk⟩
        · obtain ⟨_, _, _, _, o, _, _, e, ex, _⟩ := I.hok p _ hk
          exact ⟨o, e, ex⟩
        · obtain ⟨_, _, _, _, o, _, _, e, ex, _⟩ := I.hok p _ hk
          exact ⟨o, e, ex⟩
      obtain ⟨o, e, ex⟩ := z
      refine ⟨⟨o, e, ex.1⟩, fun a e2 => ?_⟩
      cases e2
      exact ⟨o, e, ex.2.1⟩
    · obtain ⟨o, _, _, _, e, ex, _⟩ := I.hok p _ hk
      refine ⟨⟨o, e, ex.1⟩, fun a e2 => ?_⟩
      cases e2
      exact ⟨o, e, ex.2.1⟩
  | _ => exact False.elim ty
def tBM (K : PySem.W.Frag) (T : String) (r : V → List V → Hp → VK → Prop) (to : TE) (t : TA) : TE := fun σ H Q => to σ H fun x H1 => tyV K T x H1 ∧ t σ H1 fun xs H2 => r x xs H2 Q
variable {o e : Expr} {es : List Expr} {to : TE} {t : TA} {name : Str} {apos cpos : Pos} {T id : String} {r : V → List V → Hp → VK → Prop}
theorem pe_bm (pa : PlainAttrs T) (slot : Slot T name id) (hty : typeOf (.builtin id) = pure (.type "method_descriptor")) (hm : MtR X id r) (ho : PE X o to) (ha : PA X (e :: es) t)
    (hbase : attributeBase o name X.env (eval o X.env) = eval o X.env := by rfl)
    (hfew : ((backTo cpos (starEach (e :: es) X.env)).all (fun x => !x.1) && (backToKw cpos (keywordEach [] X.env)).all (fun x => x.1.isSome)
      && decide ((e :: es).length + ([] : List Keyword).length + (if ([] : List Keyword).isEmpty then 0 else 1) < 30)) = true := by rfl)
    (hline : (apos.endLine == cpos.line) = true := by rfl) (hs : starEach (e :: es) X.env = (false, eval e X.env) :: starEach es X.env := by rfl) (hplain : (backTo cpos (starEach es X.env)).any (·.1) = false := by rfl) :
    PE X (.Call (.Attribute o name apos) (e :: es) [] cpos) (tBM X.K T r to t) := by
  intro pins s σ H Q I h
  refine wpAny_Call_method_late hbase hfew hline rfl (thn (ho pins s σ H _ I h) fun v s1 ⟨x, H1, I1, r1, ty, q1⟩ => ?_)
  obtain ⟨h1, h2⟩ := tyV_is I1 r1 ty
  refine ⟨T, id, pa, slot, hty, h1, h2, ?_⟩
  have hA := ha cpos pins s1 σ H1 _ I1 q1
  rw [hs] at hA ⊢
  refine Calls.callWith_builtin (by show (false || (backTo cpos (starEach es X.env)).any (·.1)) = false; rw [hplain] <;> rfl) (Calls.evalArgs_plain ?_)
  exact thn hA fun us s2 ⟨vs, H2, I2, r2, q2⟩ => hm pins s2 σ H2 x vs v us Q I2 r1 r2 q2
/- xs.append(e), list.index on a module's tuple .. are MtR facts of 06m -/
end
end L2

namespace L2
open PySem PySem.Spec PyProof.Rows

def MtM (X : Cx) (id : String) (r : V → List V → Hp → VK → Prop) : Prop :=
  ∀ (pins : List (Addr × Obj)) (s : Shared) (σ : St) (H : Hp) (x : V) (xs : List V) (v : Value) (us : List Value) (Q : VK), Inv X pins σ H s → RelV x v → Vals xs us → r x xs H Q →
    wpAny (model X.prog X.w) X.A (call (.builtin id) (v :: us)) (EP X pins σ Q) X.xe s

/-! ### lists of values -/
theorem Vals.one : ∀ {x : V} {us : List Value}, Vals [x] us → ∃ u, us = [u] ∧ RelV x u
  | _, _, .cons r .nil => ⟨_, rfl, r⟩

section
variable {X : Cx} {pins : List (Addr × Obj)} {σ : St} {H : Hp} {s : Shared} {l b : Addr} {xs ys zs : List V}

/-! ### the two steps: a tracked list is rewritten, a new list is laid -/
theorem Inv.lset {its its' : List Value} {n : Nat} {f : Array Value → Array Value} {t' : Nat} (I : Inv X pins σ H s) (hH : H l = some (.lst xs))
    (e : s.heap.get? l = some { cls := .type "list", data := .seq its.toArray n }) (hf : f its.toArray = its'.toArray) (hv : Vals ys its') (hz : ys.length ≤ sizeLine) :
    Inv X pins σ (upd H l (.lst ys)) { s with heap := s.heap.update l (Obj.mapSeq f), toks := t' } := by
  have q := PySem.IsL.update e f
  rw [hf] at q
  refine I.write (x := l) (e := l) (by rw [hH]; exact trivial) (.inl rfl) (fun b' u hb hu => (Heap.get?_update_other s.heap (Obj.mapSeq f) (Ne.symm hb)).trans hu) ⟨_, q⟩ ?_
  exact ⟨hz, its', _, hv, q⟩
theorem Inv.lnew {its : List Value} {t' : Nat} (I : Inv X pins σ H s) (hv : Vals ys its) (hz : ys.length ≤ sizeLine) :
    Inv X pins σ (upd H s.heap.objs.size (.lst ys)) { s with heap := s.heap.push { cls := .type "list", data := .seq its.toArray }, toks := t' } :=
  I.laid (fun _ _ q => Heap.get?_push_of_some _ q) (Nat.le_refl _) ⟨hz, its, 0, hv, Heap.get?_push_size _ rfl⟩
theorem Inv.lstM (I : Inv X pins σ H s) (hH : H l = some (.lst xs)) : xs.length ≤ sizeLine ∧ ∃ (its : List Value) (n : Nat), Vals xs its ∧ xs.length = its.length ∧ s.heap.get? l = some { cls := .type "list", data := .seq its.toArray n } := by
  obtain ⟨z, its, n, r, e⟩ := I.hok l _ hH
  exact ⟨z, its, n, r, r.length, e⟩

theorem notLongL {n : Nat} (h : n ≤ sizeLine) : Builtin.List.listTooLong n = false := by
  unfold Builtin.List.listTooLong
  exact decide_eq_false (by omega)
end

section
variable {X : Cx}

/-! ### methods -/
def rAppend : V → List V → Hp → VK → Prop := fun x vs H Q => ∃ l xs y, x = .ref l ∧ vs = [y] ∧ H l = some (.lst xs) ∧ xs.length < sizeLine ∧ Q .non (upd H l (.lst (xs ++ [y])))
theorem mt_append : MtM X "list.append" rAppend := by
  intro pins s σ H x vs v us Q I rx rv h
  obtain ⟨l, xs, y, rfl, rfl, hH, hz, q⟩ := h
  cases rx
  obtain ⟨u, rfl, ru⟩ := rv.one
  obtain ⟨z, its, n, r, hl, e⟩ := I.lstM hH
  refine call_meets F.slot_list_append ⟨_, e, rfl⟩ F.entry_list_append (F.args_list_append_2 _ _) (PySem.list_append l its.toArray n u (by rw [List.size_toArray]; omega)) ⟨e, ?_⟩
  refine ⟨.non, _, I.lset (its' := its ++ [u]) hH e (by simp) (r.append (.cons ru .nil)) ?_, rfl, q⟩
  rw [List.length_append, List.length_singleton]
  omega

def rExtend : V → List V → Hp → VK → Prop := fun x vs H Q => ∃ l b xs zs, x = .ref l ∧ vs = [.ref b] ∧ H l = some (.lst xs) ∧ H b = some (.lst zs) ∧ xs.length + zs.length ≤ sizeLine ∧ Q .non (upd H l (.lst (xs ++ zs)))
theorem mt_extend : MtM X "list.extend" rExtend := by
  intro pins s σ H x vs v us Q I rx rv h
  obtain ⟨l, b, xs, zs, rfl, rfl, hH, hB, hz, q⟩ := h
  cases rx
  obtain ⟨u, rfl, ru⟩ := rv.one
  cases ru
  obtain ⟨z, its, n, r, hl, e⟩ := I.lstM hH
  obtain ⟨z2, its2, n2, r2, hl2, e2⟩ := I.lstM hB
  have hsz : its.toArray.size + its2.toArray.size ≤ sizeLine := by rw [List.size_toArray, List.size_toArray]; omega
  have hlong : ¬ (!its.toArray.isEmpty && Builtin.List.listTooLong (its.toArray.size + its2.toArray.size)) = true := by
    rw [notLongL hsz, Bool.and_false]
    exact Bool.false_ne_true
  refine call_meets F.slot_list_extend ⟨_, e, rfl⟩ F.entry_list_extend (F.args_list_extend_2 _ _)
    (AutoSeq1.list_extend_list_list_0 l its.toArray n b its2.toArray n2 hlong (by rw [List.size_toArray]; omega) (by omega)) ⟨e, e2, ?_⟩
  refine ⟨.non, _, I.lset (its' := its ++ its2) hH e (by simp) (r.append r2) ?_, rfl, q⟩
  rw [List.length_append]
  omega





/-! ### list + list, list += list, list * int -/

/-! ### del xs[i] -/
end

/-! ### xs[a:b] = ys -/
section
variable {prog : Program} {w : World} {A : Around} {E : Value → Shared → Prop} {s : Shared}
set_option maxRecDepth 100000 in
end

section
variable {X : Cx}
end
end L2

namespace Att
open PySem PySem.W PySem.Calls PyProof.Rows

/-! ### the script -/
theorem ints_of_wellAll {P : Params} {h : Heap} : ∀ (ns : List Int) (vs : List Value), WellAll P h vs (ns.map WData.int) → IntsAre vs ns := by
  intro ns
  induction ns with
  | nil =>
    intro vs w
    rw [List.map_nil] at w
    cases w
    exact .nil
  | cons n ns ih =>
    intro vs w
    rw [List.map_cons] at w
    cases w with
    | cons a b =>
      cases a
      exact .cons _ _ (ih _ b)

theorem script_of {l : OpenLaw} {n : Nat} (hn : l.most = some n) {P : Params} {h : Heap} {args : List WData} {vals : List Value}
    (hpre : l.row.toRowW.claim.pre args = true) (hwl : WellAll P h vals args) :
    ∃ a vs ns, vals = [Value.ref a] ∧ args = [WData.list (ns.map WData.int)] ∧ h.get? a = some { cls := .type "list", data := .seq vs.toArray } ∧ IntsAre vs ns ∧ ns.length ≤ n := by
  have hsh : WShape.hasAll [] args [.list .int] = true := (pre_splitW hpre).1
  have hc : l.pre.holds [] { args := args } = true := (pre_splitW hpre).2
  obtain ⟨d, r, rfl, h1, h2⟩ := hasAllW_cons hsh
  obtain rfl := hasAllW_nil h2
  obtain ⟨xs, rfl, h3⟩ := hasW_list h1
  obtain ⟨ns, rfl⟩ := items_int h3
  have hlen : ns.length ≤ n := by
    unfold OpenLaw.pre at hc
    have h4 : (WTm.not (.lt (.lit (.int (n : Int))) (.len (.arg 0)))).holds [] { args := [.list (ns.map .int)] } = true := by
      have h4 := (holds_andW hc).1
      rw [hn] at h4
      exact h4
    have h5 := condW_of h4 (w_not (w_lt w_lit (w_len_list (w_arg rfl))))
    rw [List.length_map] at h5
    refine Nat.le_of_not_lt fun q => ?_
    have q' : (n : Int) < ((ns.length : Nat) : Int) := by omega
    first
      | (rw [decide_eq_true q'] at h5; exact absurd h5 (by decide))
      | (simp at h5; omega)
  cases hwl with
  | cons w1 w2 =>
    cases w2
    cases w1 with
    | list ho hall => exact ⟨_, _, ns, rfl, rfl, ho, ints_of_wellAll ns _ hall, hlen⟩

theorem post_true (l : OpenLaw) (args : List WData) : l.row.toRowW.claim.post args (.bool true) args = true :=
  postW_of (r := l.row.toRowW) (X := (true == true))
    (show WShape.has [] (.bool true) .bool = true by first | rfl | decide | simp [WShape.has, WShape.arms, WShape.armsAll])
    (show (WTm.eq .res (.lit (.bool true))).value [] { args := args, res := some (.bool true), after := args } = some (.bool (true == true)) from w_eq_bool (w_res rfl) w_lit) rfl

/-! ### the attachment: holds_open's last premise (the goal 'hc' behind k_head) from a wpAny of the law's body -/



/-! ### rules over ANY heap (no ledger) from facts about the written part K: the library's own take a ledger (News) for what they write -/
section
variable {prog : Program} {w : World} {A : Around} {E : Value → Shared → Prop} {s : Shared} {K : Frag}





/-! the whole heap as the ledger: makes every rule that writes through a ledger a rule over any heap -/

end
end Att

namespace L2
open PySem PySem.Spec PyProof.Rows

theorem vals_ints : ∀ {vs : List Value} {ns : List Int}, IntsAre vs ns → Vals (ns.map V.int) vs
  | _, _, .nil => .nil
  | _, _, .cons n t h => .cons ⟨t, rfl⟩ (vals_ints h)


end L2

namespace L2
open PySem PySem.Spec PyProof.Rows

abbrev KOf {K : PySem.W.Frag} {h : Heap} (_ : K.In h) : PySem.W.Frag := K

end L2

/- THE LAST THEOREM (shape; LID, My.* are yours):
   My.Adr: a structure of the addresses that your layer names (classes, functions); My.Txt K t: a structure (Prop) of the equations over K;
   My.txt_mk : {K} {implicit addresses ..} (e1 : nsIn K mainGlobals "law" = some (some (.ref f))) (e2 : K.lookup f = some ⟨oc, od, .func (fnOf "law" "law" params body scope dV kV doc pm an cdv ct), sl⟩) (e3 : codeIn K cdv "law" = true) .. : ∃ t, My.Txt K t

set_option maxRecDepth 100000 in
set_option maxHeartbeats 0 in
theorem PySem.Challenge.cw_LID_holds : PySem.Challenge.rw_LID.Holds := by
  w_on; o_law; k_head; (case hw => w_witness2)
  k_fill
  refine L2.walk_of (l := PySem.Challenge.rw_LID) (n := 63) (k := 40) (x := "script") (CX := fun w => ..) (sp := fun _ => My.sp_law) rfl (by decide) rfl ⟨rfl, by decide, by decide⟩ (fun w h Y => PySem.W.kIn_of Y) ?F ?S ?C
  case F =>
    intro w mg fa h KX G hmg
    have T : ∃ t, My.Txt (L2.KOf KX) t := by
      dsimp only [L2.KOf]                          -- K must stand as «<heap const> w.params» for k_is
      refine' My.txt_mk ?e1 ?e2 ?e3 ..
      (case e1 => PySem.W.k_is)                    -- in the order: a name -> its address -> its object -> its parts
      (case e2 => PySem.W.k_is)
      ..
    obtain ⟨t, T⟩ := T
    have e0 := hmg.symm.trans (PySem.W.mg_of KX G T.law)
    cases e0                                       -- fa is the law's own address
    exact ⟨_, fun s u => .of_eq rfl, fun base kb nb => My.law_fn T kb nb⟩     -- if «.of_eq rfl» comes too early: refine' ⟨_, ?b, fun base kb nb => My.law_fn T kb nb⟩; exact fun s u => .of_eq rfl
  case S => exact fun w H a ns hl hO hS => ..
  case C => exact ..
(the tactic k_is has no namespace: write k_is) -/

/-! SHORT WORDS over the layer: a def of the text, its body, what a loop and a test want. -/
namespace L2
open PySem PySem.Spec PyProof.Rows

/-! ### the text by places -/
/-- the j-th statement of a class's body -/
def inClass (s : Stmt) (j : Nat) : Stmt := match s with
  | .ClassDef _ _ _ body _ _ _ _ _ _ _ => body.getD j (.Pass ⟨0, 0, 0, 0⟩)
  | _ => .Pass ⟨0, 0, 0, 0⟩
def defArgs (s : Stmt) : Arguments := match s with
  | .FunctionDef _ a _ _ _ _ _ _ _ _ => a
  | _ => { posonlyargs := [], args := [], vararg := none, kwonlyargs := [], kw_defaults := [], kwarg := none, defaults := [] }
def defBody (s : Stmt) : List Stmt := match s with
  | .FunctionDef _ _ b _ _ _ _ _ _ _ => b
  | _ => []
def defScope (s : Stmt) : Scope := match s with
  | .FunctionDef _ _ _ _ _ _ sc _ _ _ => sc
  | _ => { kind := .function, names := [], isGenerator := false, isCoroutine := false }

/-! ### no exception leaves a def -/
abbrev CX0 : CXT := fun _ _ _ _ _ _ => False
abbrev E0 : XK := fun _ _ _ => False
theorem pass0 {X : Cx} : Passes CX0 X E0 := fun _ _ _ _ _ _ _ h => h.elim

/-! ### a def (or method) of the text as it stands behind the top -/
structure Fun (K : PySem.W.Frag) (x qual : Str) (st : Stmt) (f : Addr) (fd : FuncData) : Prop where
  ex : ∃ (oc : Value) (od : Option Addr) (kV doc pm : Value) (an : Option Addr) (cdv ct : Value) (osl : Array (Option Value)),
    fd = PySem.W.fnOf x qual (defArgs st) (defBody st) (defScope st) .none kV doc pm an cdv ct ∧ K.lookup f = some ⟨oc, od, .func fd, osl⟩ ∧ PySem.W.codeIn K cdv qual = true
  kp : PySem.W.keepIn K (.ref f) = true
section
variable {P : Program} {w : World} {K : PySem.W.Frag} {mg : Str → Option Value} {base : Heap}
/-- THE RULE for a def: its body as a term of rules, and the reading of that term -/
theorem Fun.ok {x qual : Str} {st : Stmt} {f : Addr} {fd : FuncData} {N ps : List Str} {k : Nat} {sp : Sp} (F : Fun K x qual st f fd) (S : FnScope N ps (defScope st)) (len : ∀ vs H Q E, sp vs H Q E → vs.length = ps.length)
    (hbody : ∀ (cdv : Value) (A : Around) (outer : List Env) (s : Shared) (H : Hp) (vs : List V) (Q : VK) (E : XK), Room k (A.deeper (envOfC qual (defScope st) s.heap.objs.size f cdv)) → sp vs H Q E →
      ∃ t, PSs (cxOf CX0 P w K mg base N qual (defScope st) f cdv A outer s H E).nox (defBody st) t ∧ t { nx := fun _ H' => Q .non H', rt := Q } (start N vs) H) : FnOk P w K mg base CX0 (k + 1) f fd ps sp := by
  obtain ⟨oc, od, kV, doc, pm, an, cdv, ct, osl, rfl, lk, hcd⟩ := F.ex
  refine fn_of lk hcd S len fun A outer s H vs Q E hr hsp => ?_
  obtain ⟨t, h, q⟩ := hbody cdv A outer s H vs Q E hr hsp
  exact ⟨t, h.nox, q⟩
/-- how its arguments bind (no defaults): h is «fun _ _ _ _ _ _ us hl => match us, hl with | [_, _], _ => rfl», one _ a parameter -/
theorem Fun.binds {x qual : Str} {st : Stmt} {f : Addr} {fd : FuncData} {ps : List Str} (F : Fun K x qual st f fd)
    (h : ∀ (kV doc pm : Value) (an : Option Addr) (cdv ct : Value) (us : List Value), us.length = ps.length → bindArgs (PySem.W.fnOf x qual (defArgs st) (defBody st) (defScope st) .none kV doc pm an cdv ct) ⟨us, []⟩ = pure (ps.zip us)) : Binds K fd ps [] := by
  obtain ⟨oc, od, kV, doc, pm, an, cdv, ct, osl, rfl, lk, hcd⟩ := F.ex
  exact .all (h kV doc pm an cdv ct)
theorem fun_mk {x qual : Str} {st : Stmt} {f : Addr} {oc : Value} {od an : Option Addr} {osl : Array (Option Value)} {kV doc pm cdv ct : Value} (l : K.lookup f = some ⟨oc, od, .func (PySem.W.fnOf x qual (defArgs st) (defBody st) (defScope st) .none kV doc pm an cdv ct), osl⟩)
    (c : PySem.W.codeIn K cdv qual = true) (k : PySem.W.keepIn K (.ref f) = true) : Fun K x qual st f (PySem.W.fnOf x qual (defArgs st) (defBody st) (defScope st) .none kV doc pm an cdv ct) := ⟨⟨oc, od, kV, doc, pm, an, cdv, ct, osl, rfl, l, c⟩, k⟩
end
theorem hu_of {A : Around} {k : Nat} (hr : Room k A) : A.units + 1 < cLine := Nat.lt_of_le_of_lt (Nat.add_le_add_left (by decide : 1 ≤ 64) _) hr.units
theorem small1000 {n : Nat} (h : n ≤ 1000) : n < sizeLine := Nat.lt_of_le_of_lt h (by decide)

/-! ### expressions in short: the name that stands in the i-th slot -/
section
variable {X : Cx}
theorem pv (i : Nat) {x : Str} {pos : Pos} (hN : X.N[i]? = some x := by rfl) (hv : Vis X.env.scope x := by first | exact Or.inl rfl | exact Or.inr (Or.inl rfl) | exact Or.inr (Or.inr rfl)) (hd : (x == ("__debug__" : Str)) = false := by decide)
    (hcd : (x == ("__classdict__" : Str)) = false := by decide) : PE X (.Name x pos) (tVar i) := pe_var hN hv hd hcd
end

/-! ### tests -/
theorem iteF {A B : Prop} (h : B) : if false = true then A else B := by
  rw [if_neg Bool.false_ne_true]
  exact h
theorem iteT {A B : Prop} (h : A) : if true = true then A else B := by
  rw [if_pos rfl]
  exact h
theorem ite2 {c A B : Prop} [Decidable c] (h1 : c → A) (h2 : ¬ c → B) : if c then A else B := by
  by_cases h : c
  · rw [if_pos h]
    exact h1 h
  · rw [if_neg h]
    exact h2 h

/-! ### heaps -/
/-- all that was tracked is as it was -/
def Same (H H' : Hp) : Prop := ∀ b o, H b = some o → H' b = some o
theorem Same.refl (H : Hp) : Same H H := fun _ _ h => h
theorem Same.trans {H H1 H2 : Hp} (a : Same H H1) (b : Same H1 H2) : Same H H2 := fun c o h => b c o (a c o h)
theorem Same.free {H H' : Hp} (e : Same H H') {l : Addr} (h : H' l = Option.none) : H l = Option.none := by
  cases q : H l with
  | none => rfl
  | some o =>
    rw [e l o q] at h
    cases h

end L2

namespace L2
open PySem PySem.Spec PyProof.Rows

/-! ### lists of pairs as tables -/
section
variable {κ : Type} [DecidableEq κ]
def valV (kvs : List (κ × V)) (k : κ) : Option V := (kvs.find? fun kv => decide (kv.1 = k)).map (·.2)
/-- in its place, or at the end -/
def putK (kvs : List (κ × V)) (k : κ) (v : V) : List (κ × V) :=
  if (kvs.any fun kv => decide (kv.1 = k)) = true then kvs.map (fun kv => if kv.1 = k then (kv.1, v) else kv) else kvs ++ [(k, v)]

theorem valV_pos {p : κ × V} {r : List (κ × V)} {k : κ} (e : p.1 = k) : valV (p :: r) k = some p.2 := by simp [valV, List.find?_cons, e]
theorem valV_neg {p : κ × V} {r : List (κ × V)} {k : κ} (e : ¬ p.1 = k) : valV (p :: r) k = valV r k := by simp [valV, List.find?_cons, e]
theorem valV_any (k : κ) : ∀ kvs : List (κ × V), (kvs.any fun kv => decide (kv.1 = k)) = (valV kvs k).isSome
  | [] => rfl
  | p :: r => by
    rw [List.any_cons]
    by_cases e : p.1 = k
    · simp only [valV_pos e, decide_eq_true e, Bool.true_or, Option.isSome_some]
    · rw [valV_neg e, decide_eq_false e, Bool.false_or]; exact valV_any k r
theorem valV_snoc (k j : κ) (y : V) : ∀ kvs : List (κ × V), valV kvs k = none → valV (kvs ++ [(k, y)]) j = if j = k then some y else valV kvs j
  | [], _ => by
    by_cases e : k = j
    · rw [if_pos e.symm]; exact valV_pos (p := (k, y)) e
    · rw [if_neg (fun z => e z.symm)]; exact valV_neg (p := (k, y)) e
  | p :: r, hn => by
    rw [List.cons_append]
    have hk : ¬ p.1 = k := fun z => by rw [valV_pos z] at hn; cases hn
    rw [valV_neg hk] at hn
    have ih := valV_snoc k j y r hn
    by_cases e : p.1 = j
    · rw [valV_pos e, valV_pos e, if_neg (fun z => hk (e.trans z))]
    · rw [valV_neg e, valV_neg e, ih]
theorem length_putK (kvs : List (κ × V)) (k : κ) (v : V) : (putK kvs k v).length ≤ kvs.length + 1 := by
  unfold putK
  split
  · rw [List.length_map]; omega
  · rw [List.length_append, List.length_cons, List.length_nil]; omega

theorem RelO.isSome_eq {o : Option V} {u : Option Value} (r : RelO o u) : o.isSome = u.isSome := by
  cases o with
  | none => cases u with
    | none => rfl
    | some _ => exact (show False from r).elim
  | some _ => cases u with
    | none => exact (show False from r).elim
    | some _ => rfl

/-- raw tables of the same keys -/
theorem KV.val {kvs : List (κ × V)} {vs : List (κ × Value)} (r : KV kvs vs) (k : κ) : RelO (valV kvs k) (valueAt vs k) := by
  unfold KV at r
  induction r with
  | nil => exact True.intro
  | @cons p q ps qs h t ih =>
    obtain ⟨h1, h2⟩ := h
    by_cases e : p.1 = k
    · have e' : q.1 = k := h1.symm.trans e
      have b : valueAt (q :: qs) k = some q.2 := by simp [valueAt, List.find?_cons, e']
      rw [valV_pos e, b]; exact h2
    · have e' : ¬ q.1 = k := fun z => e (h1.trans z)
      have b : valueAt (q :: qs) k = valueAt qs k := by simp [valueAt, List.find?_cons, e']
      rw [valV_neg e, b]; exact ih
theorem KV.any {kvs : List (κ × V)} {vs : List (κ × Value)} (r : KV kvs vs) (k : κ) : (kvs.any fun kv => decide (kv.1 = k)) = vs.any fun kv => decide (kv.1 = k) := by
  unfold KV at r
  induction r with
  | nil => rfl
  | cons h t ih => rw [List.any_cons, List.any_cons, ih, h.1]
theorem KV.repl {kvs : List (κ × V)} {vs : List (κ × Value)} (r : KV kvs vs) (k : κ) {y : V} {u : Value} (ry : RelV y u) :
    KV (kvs.map fun kv => if kv.1 = k then (kv.1, y) else kv) (vs.map fun kv => if kv.1 = k then (kv.1, u) else kv) := by
  unfold KV at r ⊢
  induction r with
  | nil => exact .nil
  | @cons p q ps qs h t ih =>
    rw [List.map_cons, List.map_cons]
    refine .cons ?_ ih
    obtain ⟨h1, h2⟩ := h
    by_cases e : p.1 = k
    · rw [if_pos e, if_pos (h1.symm.trans e)]; exact ⟨h1, ry⟩
    · rw [if_neg e, if_neg (fun z => e (h1.trans z))]; exact ⟨h1, h2⟩
theorem KV.put {kvs : List (κ × V)} {vs : List (κ × Value)} (r : KV kvs vs) (k : κ) {y : V} {u : Value} (ry : RelV y u) : KV (putK kvs k y) (stored vs k u) := by
  unfold putK stored
  rw [r.any k]
  by_cases e : (vs.any fun kv => decide (kv.1 = k)) = true
  · rw [if_pos e, if_pos e]; exact r.repl k ry
  · rw [if_neg e, if_neg e]; exact Paired.snoc r ⟨rfl, ry⟩
theorem KV.length {kvs : List (κ × V)} {vs : List (κ × Value)} (r : KV kvs vs) : kvs.length = vs.length := Paired.length r
end


/-! ### a tracked dict, its keys ints and texts or tuples of these -/
theorem kV_is {P : Program} {w : World} {k : Key} {u : Value} (r : RelV (kV k) u) : (mixKind P w).is k u = true := by
  cases k with
  | inl i => obtain ⟨t, e⟩ := (show ∃ t, u = Value.int i t from r); subst e; exact mixKind_int P w i t
  | inr x => obtain ⟨t, e⟩ := (show ∃ t, u = Value.str x t from r); subst e; exact mixKind_str P w x t
theorem items_are {P : Program} {w : World} : ∀ {ks : List Key} {us : List Value}, Vals (ks.map kV) us → ItemsAre (mixKind P w) ks us
  | [], _, r => by rw [List.map_nil] at r; cases r; exact .nil
  | k :: ks, _, r => by
    rw [List.map_cons] at r
    cases r with
    | cons h t => exact .cons (kV_is h) (items_are t)

/-- raw entries of a dict with tuple keys -/
abbrev KT (H : Hp) : List (List Key × V) → List (List Key × Addr × Value) → Prop := Paired fun p q => p.1 = q.1 ∧ H q.2.1 = some (.tup (p.1.map kV)) ∧ RelV p.2 q.2.2
theorem KT.val {H : Hp} {kvs : List (List Key × V)} {xs : List (List Key × Addr × Value)} (r : KT H kvs xs) (k : List Key) : RelO (valV kvs k) ((atKey xs k).map (·.2)) := by
  induction r with
  | nil => exact True.intro
  | @cons p q ps qs h t ih =>
    obtain ⟨h1, _, h2⟩ := h
    by_cases e : p.1 = k
    · have e' : q.1 = k := h1.symm.trans e
      have b : atKey (q :: qs) k = some q.2 := by simp [atKey, List.find?_cons, e']
      rw [valV_pos e, b]; exact h2
    · have e' : ¬ q.1 = k := fun z => e (h1.trans z)
      have b : atKey (q :: qs) k = atKey qs k := by simp [atKey, List.find?_cons, e']
      rw [valV_neg e, b]; exact ih
theorem KT.repl {H : Hp} {kvs : List (List Key × V)} {xs : List (List Key × Addr × Value)} (r : KT H kvs xs) (k : List Key) {y : V} {u : Value} (ry : RelV y u) :
    KT H (kvs.map fun kv => if kv.1 = k then (kv.1, y) else kv) (xs.map (putAt k u)) := by
  induction r with
  | nil => exact .nil
  | @cons p q ps qs h t ih =>
    rw [List.map_cons, List.map_cons]
    refine .cons ?_ ih
    obtain ⟨h1, h2, h3⟩ := h
    unfold putAt
    by_cases e : p.1 = k
    · rw [if_pos e, if_pos (h1.symm.trans e)]; exact ⟨h1, h2, ry⟩
    · rw [if_neg e, if_neg (fun z => e (h1.trans z))]; exact ⟨h1, h2, h3⟩
theorem KT.put {H : Hp} {kvs : List (List Key × V)} {xs : List (List Key × Addr × Value)} (r : KT H kvs xs) (k : List Key) {b : Addr} {y : V} {u : Value} (hb : H b = some (.tup (k.map kV))) (ry : RelV y u) :
    KT H (putK kvs k y) (storedH xs k b u) := by
  have e : (kvs.any fun kv => decide (kv.1 = k)) = (atKey xs k).isSome := by
    rw [valV_any, (r.val k).isSome_eq, Option.isSome_map]
  unfold putK storedH
  rw [e]
  by_cases q : (atKey xs k).isSome = true
  · rw [if_pos q, if_pos q]; exact r.repl k ry
  · rw [if_neg q, if_neg q]; exact Paired.snoc r ⟨rfl, hb, ry⟩
theorem KT.keeps {H H' : Hp} {kvs : List (List Key × V)} {xs : List (List Key × Addr × Value)} (r : KT H kvs xs) (ht : ∀ b ys, H b = some (.tup ys) → H' b = some (.tup ys)) : KT H' kvs xs :=
  Paired.mapP r fun _ _ z => ⟨z.1, ht _ _ z.2.1, z.2.2⟩

section
variable {P : Program} {w : World} {H : Hp} {h : Heap} {a : Addr}
theorem rd_of {u : HO} (ok : HOk P w H h) (e : Rd H a u) : ObjOk P w H h a u := e.ok ok
theorem dk_rd {kvs : List (Key × V)} (ok : HOk P w H h) (e : Rd H a (.dK kvs)) : kvs.length ≤ sizeLine ∧ (a == sysModules) = false ∧ ∃ vs, KV kvs vs ∧ h.DictOf (mixKind P w) a vs :=
  show ObjOk P w H h a (.dK kvs) from rd_of ok e
theorem dk_of {kvs : List (Key × V)} (ok : HOk P w H h) (e : H a = some (.dK kvs)) : kvs.length ≤ sizeLine ∧ (a == sysModules) = false ∧ ∃ vs, KV kvs vs ∧ h.DictOf (mixKind P w) a vs := dk_rd ok (.inl e)
/-- a tracked tuple of ints and texts is a key -/
theorem key_of {ks : List Key} (ok : HOk P w H h) (e : H a = some (.tup (ks.map kV))) : (tupleKind (mixKind P w)).is h ks a := by
  obtain ⟨_, its, r, o, h1, h2, n, h3⟩ := (show ObjOk P w H h a (.tup (ks.map kV)) from ok a _ e)
  exact ⟨o, its.toArray, n, h1, h2, h3, by simpa using items_are r⟩
theorem dt_rd {kvs : List (List Key × V)} (ok : HOk P w H h) (e : Rd H a (.dT kvs)) : kvs.length ≤ sizeLine ∧ (a == sysModules) = false ∧
    ∃ xs, KT H kvs xs ∧ h.DictOfH (tupleKind (mixKind P w)) a xs := by
  obtain ⟨z, y, xs, r, o, es, ep, h1, h2, h3, h4, h5⟩ := (show ObjOk P w H h a (.dT kvs) from rd_of ok e)
  refine ⟨z, y, xs, r, o, es, ep, h1, h2, h3, h4, fun x hx => ?_, h5⟩
  have all : ∀ {l : List (List Key × V)} {m : List (List Key × Addr × Value)}, KT H l m → ∀ x ∈ m, (tupleKind (mixKind P w)).is h x.1 x.2.1 := by
    intro l m q
    induction q with
    | nil => intro x hx; exact nomatch hx
    | @cons p q ps qs hq t ih =>
      intro x hx
      rcases List.mem_cons.mp hx with e | hx
      · subst e
        exact key_of ok (by rw [← hq.1]; exact hq.2.1)
      · exact ih x hx
  exact all r x hx
theorem dt_of {kvs : List (List Key × V)} (ok : HOk P w H h) (e : H a = some (.dT kvs)) : kvs.length ≤ sizeLine ∧ (a == sysModules) = false ∧
    ∃ xs, KT H kvs xs ∧ h.DictOfH (tupleKind (mixKind P w)) a xs := dt_rd ok (.inl e)
end

/-- what the dict at a holds at the key y -/
def DGet (H : Hp) (a : Addr) (y : V) (r : Option V) : Prop :=
  (∃ kvs k, Rd H a (.dK kvs) ∧ y = kV k ∧ r = valV kvs k) ∨ ∃ kvs k b, Rd H a (.dT kvs) ∧ y = .ref b ∧ H b = some (.tup (k.map kV)) ∧ r = valV kvs k
/-- the heap behind a[y] = v -/
def DPut (H : Hp) (a : Addr) (y v : V) (H' : Hp) : Prop :=
  (∃ kvs k, H a = some (.dK kvs) ∧ y = kV k ∧ kvs.length < sizeLine ∧ H' = upd H a (.dK (putK kvs k v))) ∨
  ∃ kvs k b, H a = some (.dT kvs) ∧ y = .ref b ∧ H b = some (.tup (k.map kV)) ∧ kvs.length < sizeLine ∧ H' = upd H a (.dT (putK kvs k v))
theorem DGet.t {H : Hp} {a b : Addr} {kvs : List (List Key × V)} {k : List Key} (e : H a = some (.dT kvs)) (eb : H b = some (.tup (k.map kV))) : DGet H a (.ref b) (valV kvs k) := .inr ⟨kvs, k, b, .inl e, rfl, eb, rfl⟩
theorem DPut.t {H : Hp} {a b : Addr} {kvs : List (List Key × V)} {k : List Key} {v : V} (e : H a = some (.dT kvs)) (eb : H b = some (.tup (k.map kV))) (hl : kvs.length < sizeLine) :
    DPut H a (.ref b) v (upd H a (.dT (putK kvs k v))) := .inr ⟨kvs, k, b, e, rfl, eb, hl, rfl⟩


section
variable {X : Cx} {pins : List (Addr × Obj)} {σ : St} {H : Hp} {s : Shared} {a : Addr} {y v : V} {u r : Value} {o : Option V} {A : Around} {E : Value → Shared → Prop}

theorem Inv.big (I : Inv X pins σ H s) : sysModules < s.heap.objs.size := by
  have h : mainGlobals < s.heap.objs.size := (I.mod.glob.keeps I.bk).lt
  exact Nat.lt_trans (by decide) h

/-- d[y], there -/
theorem d_getItem {Q : Value → Shared → Prop} (hu : A.units + 1 < cLine) (I : Inv X pins σ H s) (g : DGet H a y (some v)) (ry : RelV y u) (h : ∀ w' s', Inv X pins σ H s' → RelV v w' → Q w' s') :
    wpAny (model X.prog X.w) A (getItem (.ref a) u) Q E s := by
  rcases g with ⟨kvs, k, e, ey, l⟩ | ⟨kvs, k, b, e, ey, eb, l⟩
  · subst ey
    obtain ⟨z, hd, vs, rel, dd⟩ := dk_rd I.hok e
    obtain ⟨w', hw, rw'⟩ := RelO.some_of (v := v) (o := valueAt vs k) (by rw [l]; exact rel.val k)
    exact wpAny_getItem_of (kV_is ry) dd.mapOf hw (h w' _ (I.tok _) rw')
  · subst ey
    cases (show u = Value.ref b from ry)
    obtain ⟨z, hd, xs, rel, dd⟩ := dt_rd I.hok e
    obtain ⟨w', hw, rw'⟩ := RelO.some_of (v := v) (o := (atKey xs k).map (·.2)) (by rw [l]; exact rel.val k)
    obtain ⟨p, hp, hp2⟩ := Option.map_eq_some_iff.mp hw
    refine wpAny_getItem_heap (tupleKind_room_in1 hu) (key_of I.hok eb) dd hp ?_
    rw [hp2]
    exact h w' _ (I.tok _) rw'
theorem d_notIn {Q : Value → Shared → Prop} (hu : A.units + 1 < cLine) (I : Inv X pins σ H s) (g : DGet H a y o) (ry : RelV y u) (h : ∀ s', Inv X pins σ H s' → Q (.bool (!o.isSome)) s') :
    wpAny (model X.prog X.w) A (compareOp .NotIn u (.ref a)) Q E s := by
  rcases g with ⟨kvs, k, e, ey, l⟩ | ⟨kvs, k, b, e, ey, eb, l⟩
  · subst ey
    obtain ⟨z, hd, vs, rel, dd⟩ := dk_rd I.hok e
    refine wpAny_notIn_of (kV_is ry) hd dd.mapOf ?_
    rw [← (rel.val k).isSome_eq, ← l]
    exact h _ (I.tok _)
  · subst ey
    cases (show u = Value.ref b from ry)
    obtain ⟨z, hd, xs, rel, dd⟩ := dt_rd I.hok e
    refine wpAny_notIn_heap (tupleKind_room_in1 hu) (key_of I.hok eb) hd dd ?_
    have q := (rel.val k).isSome_eq
    rw [Option.isSome_map] at q
    rw [← q, ← l]
    exact h _ (I.tok _)
/-- a dict's object is replaced -/
theorem d_write {h' : Heap} {t' : Nat} {ob : HO} (I : Inv X pins σ H s) (mu : Mut (H a)) (hs : Heap.SameBut a s.heap h') (he : ∃ q, h'.get? a = some q) (new : ObjOk X.prog X.w (upd H a ob) h' a ob) :
    Inv X pins σ (upd H a ob) { s with heap := h', toks := t' } :=
  I.write (x := a) (e := a) mu (.inl rfl) (fun b q hb z => (hs.2 b hb).trans z) he new
theorem dk_new {P : Program} {w : World} {H' : Hp} {h' : Heap} {kvs : List (Key × V)} {vs : List (Key × Value)} (z : kvs.length ≤ sizeLine) (hd : (a == sysModules) = false) (rel : KV kvs vs) (dd : h'.DictOf (mixKind P w) a vs) :
    ObjOk P w H' h' a (.dK kvs) := ⟨z, hd, vs, rel, dd⟩
/-- d[y] = v -/
theorem d_setItem {H' : Hp} {Q : Unit → Shared → Prop} (hu : A.units + 1 < cLine) (I : Inv X pins σ H s) (g : DPut H a y v H') (ry : RelV y u) (rv : RelV v r) (h : ∀ s', Inv X pins σ H' s' → Q () s') :
    wpAny (model X.prog X.w) A (setItem (.ref a) u r) Q E s := by
  rcases g with ⟨kvs, k, e, ey, l, eH⟩ | ⟨kvs, k, b, e, ey, eb, l, eH⟩
  · subst ey eH
    obtain ⟨z, hd, vs, rel, dd⟩ := dk_of I.hok e
    have hz : vs.length ≤ sizeLine := by rw [← rel.length]; exact z
    have hl : (putK kvs k v).length ≤ sizeLine := by have := length_putK kvs k v; omega
    refine wpAny_setItem_pairs (hsz := hz) (kV_is ry) dd fun h' dd' hs => h _ ?_
    have he : ∃ q, h'.get? a = some q := let ⟨q, _, _, hq, _⟩ := dd'; ⟨q, hq⟩
    exact d_write I (by rw [e]; exact True.intro) hs he (dk_new hl hd (rel.put k rv) dd')
  · subst ey eH
    cases (show u = Value.ref b from ry)
    obtain ⟨z, hd, xs, rel, dd⟩ := dt_of I.hok e
    have hz : xs.length ≤ sizeLine := by rw [← Paired.length rel]; exact z
    have hl : (putK kvs k v).length ≤ sizeLine := by have := length_putK kvs k v; omega
    refine wpAny_setItem_heap (hsz := hz) (tupleKind_room_in1 hu) (key_of I.hok eb) dd fun h' dd' hs => h _ ?_
    obtain ⟨q, es, ep, hq, h2, h3, h4, _, h5⟩ := dd'
    refine d_write I (by rw [e]; exact True.intro) hs ⟨q, hq⟩ ⟨hl, hd, _, (rel.put k eb rv).keeps fun c ys ec => ?_, q, es, ep, hq, h2, h3, h4, h5⟩
    rw [upd_ne (ne_of ec e (fun z => nomatch z))]
    exact ec
end

section
variable {X : Cx} {pins : List (Addr × Obj)} {σ : St} {H : Hp} {s : Shared} {a : Addr} {kvs : List (Key × V)} {k : Key} {u : Value} {A : Around} {E : Value → Shared → Prop}
end


/-! ### readings and rules -/
/-- the element of a subscription, not a slice -/
def NoSl (i : Expr) : Prop := ∀ ov iv, subscripted i false ov iv = operate [ov, iv] (getItem ov iv)
theorem subD_of {prog : Program} {w : World} {A : Around} {E : Value → Shared → Prop} {s : Shared} {env : Env} {value slice : Expr} {pos : Pos} {T id : String} {Q : Value → Shared → Prop}
    (hl : typeLookup (.type T) "__getitem__" = pure (some (.builtin id))) (hs : NoSl slice)
    (h : wpAny (model prog w) A (eval value env) (fun o s₁ => wpAny (model prog w) A (eval slice env) (fun i s₂ => s₂.TypeIs o T ∧ wpAny (model prog w) A (getItem o i) Q E s₂) E s₁) E s) :
    wpAny (model prog w) A (eval (.Subscript value slice pos) env) Q E s := by
  refine Subscript_ (wpAny_mono h (fun o s₁ h₁ => wpAny_mono h₁ (fun i s₂ h₂ => ?_) fun _ _ x => x) fun _ _ x => x)
  obtain ⟨hT, h₂⟩ := h₂
  unfold subscriptTail
  refine wpAny_bind ?_
  rw [getitemInPython_of_ne hT.not_modules]
  refine wpAny_bind (wpAny_specialOf hT hl ?_)
  have fin : wpAny (model prog w) A (subscripted slice false o i) (fun r s₃ => wpAny (model prog w) A (letTemporaryGo value o r >>= fun _ => pure r) Q E s₃) E s₂ := by
    rw [hs o i]
    exact wpAny_operating (wpAny_mono h₂ (fun r s₃ h₃ => wpAny_bind (wpAny_letTemporaryGo (wpAny_pure h₃))) fun _ _ x => x)
  first
    | exact wpAny_pure (wpAny_bind fin)
    | exact wpAny_bind (wpAny_pure (wpAny_bind fin))
    | exact wpAny_bind fin

theorem dict_typeIs {X : Cx} {pins : List (Addr × Obj)} {σ : St} {H : Hp} {s : Shared} {a : Addr} {y : V} {o : Option V} (I : Inv X pins σ H s) (g : DGet H a y o) : s.TypeIs (.ref a) "dict" := by
  rcases g with ⟨kvs, k, e, _, _⟩ | ⟨kvs, k, b, e, _, _, _⟩
  · obtain ⟨_, _, vs, _, dd⟩ := dk_rd I.hok e
    exact dd.typeIs
  · obtain ⟨_, _, xs, _, dd⟩ := dt_rd I.hok e
    exact dd.typeIs

/-- d[y] -/
def tDGet (td ty : TE) : TE := fun σ H Q => td σ H fun x H1 => ty σ H1 fun y H2 => ∃ a v, x = .ref a ∧ DGet H2 a y (some v) ∧ Q v H2
def tDNotIn (ty td : TE) : TE := fun σ H Q => ty σ H fun y H1 => td σ H1 fun x H2 => ∃ a o, x = .ref a ∧ DGet H2 a y o ∧ Q (.bl (!o.isSome)) H2
/-- d[y] = v -/
def sDPut (td ty tv : TE) : TS := fun D σ H => tv σ H fun v H1 => td σ H1 fun x H2 => ty σ H2 fun y H3 => ∃ a H4, x = .ref a ∧ DPut H3 a y v H4 ∧ D.nx σ H4

section
variable {X : Cx} {o i e value : Expr} {pos pos' tpos : Pos} {td ty tv : TE}
theorem pe_dget (hu : X.A.units + 1 < cLine) (ho : PE X o td) (hi : PE X i ty) (hs : NoSl i) : PE X (.Subscript o i pos) (tDGet td ty) := by
  intro pins s σ H Q I h
  refine subD_of PySem.F.slot_dict_getitem.lookup hs (thn (ho pins s σ H _ I h) fun u s1 ⟨x, H1, I1, rx, q1⟩ => thn (hi pins s1 σ H1 _ I1 q1) fun iv s2 ⟨y, H2, I2, ry, a, v, ex, g, q2⟩ => ?_)
  subst ex
  obtain rfl : u = Value.ref a := rx
  exact ⟨dict_typeIs I2 g, d_getItem hu I2 g ry fun w' s3 I3 rw' => ⟨v, H2, I3, rw', q2⟩⟩
theorem pc_dnotin (hu : X.A.units + 1 < cLine) (hi : PE X i ty) (ho : PE X o td) : PC X .NotIn i o (tDNotIn ty td) := by
  intro pins s σ H Q I h
  refine thn (hi pins s σ H _ I h) fun iv s1 ⟨y, H1, I1, ry, q1⟩ => thn (ho pins s1 σ H1 _ I1 q1) fun u s2 ⟨x, H2, I2, rx, a, ov, ex, g, q2⟩ => ?_
  subst ex
  obtain rfl : u = Value.ref a := rx
  exact d_notIn hu I2 g ry fun s3 I3 => ⟨.bl (!ov.isSome), H2, I3, rfl, q2⟩
theorem ps_dput (hu : X.A.units + 1 < cLine) (ho : PE X o td) (hi : PE X i ty) (hv : PE X value tv) (hs : swapsWith value (some (.Subscript o i pos')) pos.line X.env = pure false) :
    PS X (.Assign [.Subscript o i pos'] value pos) (sDPut td ty tv) := by
  intro pins s σ H D I h
  refine wpAny_Assign_Subscript (thn (hv pins s σ H _ I h) fun r s1 ⟨v, H1, I1, rv, q1⟩ => thn (ho pins s1 σ H1 _ I1 q1) fun u s2 ⟨x, H2, I2, rx, q2⟩ => thn (hi pins s2 σ H2 _ I2 q2) fun iv s3 ⟨y, H3, I3, ry, a, H4, ex, g, q3⟩ => ?_) hs
  subst ex
  obtain rfl : u = Value.ref a := rx
  exact d_setItem hu I3 g ry rv fun s4 I4 => ⟨σ, H4, I4, q3⟩
end


/-! ### displays -/
theorem dk_empty {P : Program} {w : World} {H : Hp} (h : Heap) (hb : sysModules < h.objs.size) : ObjOk P w H (h.push { cls := .type "dict", data := .dict #[] }) h.objs.size (.dK []) :=
  ⟨Nat.zero_le _, beq_eq_false_iff_ne.mpr (Ne.symm (Nat.ne_of_lt hb)), [], .nil, Heap.DictOf.new h⟩
theorem dt_empty {P : Program} {w : World} {H : Hp} (h : Heap) (hb : sysModules < h.objs.size) : ObjOk P w H (h.push { cls := .type "dict", data := .dict #[] }) h.objs.size (.dT []) :=
  ⟨Nat.zero_le _, beq_eq_false_iff_ne.mpr (Ne.symm (Nat.ne_of_lt hb)), [], .nil, _, #[], 0, Heap.get?_push_size _ rfl, ⟨rfl, rfl, rfl⟩, rfl, rfl, List.nodup_nil⟩
/-- {}, to be a dict of the kind that is wanted -/
def tDNewK : TE := fun _ H Q => ∀ p, H p = none → Q (.ref p) (upd H p (.dK []))
def tDNewT : TE := fun _ H Q => ∀ p, H p = none → Q (.ref p) (upd H p (.dT []))
section
variable {X : Cx} {pos : Pos}
theorem pe_dnewK : PE X (.Dict [] [] pos) tDNewK := fun pins s σ H Q I h =>
  wpAny_Dict_empty ⟨.ref s.heap.objs.size, _, I.laid (a := s.heap.objs.size) (o := .dK []) (t' := s.toks) (fun _ _ q => Heap.get?_push_of_some _ q) (Nat.le_refl _) (dk_empty s.heap I.big), rfl, h _ (I.hok.fresh (Nat.le_refl _))⟩
theorem pe_dnewT : PE X (.Dict [] [] pos) tDNewT := fun pins s σ H Q I h =>
  wpAny_Dict_empty ⟨.ref s.heap.objs.size, _, I.laid (a := s.heap.objs.size) (o := .dT []) (t' := s.toks) (fun _ _ q => Heap.get?_push_of_some _ q) (Nat.le_refl _) (dt_empty s.heap I.big), rfl, h _ (I.hok.fresh (Nat.le_refl _))⟩
end




/-! ### methods -/


section
variable {X : Cx} {pins : List (Addr × Obj)} {σ : St} {H : Hp} {s : Shared} {a : Addr} {y d : V} {u r : Value} {o : Option V} {A : Around} {E : Value → Shared → Prop}
end

section
variable {X : Cx} {o e f : Expr} {apos cpos : Pos} {td ty tx : TE}
end

/-! ### dict(d): a copy -/
section
variable {X : Cx} {pins : List (Addr × Obj)} {σ : St} {H : Hp} {s : Shared} {a : Addr} {kvs : List (Key × V)} {A : Around} {E : Value → Shared → Prop}
end


section
variable {X : Cx} {pins : List (Addr × Obj)} {σ : St} {H : Hp} {s : Shared} {a : Addr} {y : V} {u : Value} {A : Around} {E : Value → Shared → Prop}
end
end L2


set_option Elab.async false
set_option linter.all false
set_option maxRecDepth 100000
set_option maxHeartbeats 4000000
namespace L2
open PySem PySem.Spec PyProof.Rows

/-! ### a list comprehension: its block as a context of its own -/
/-- the context of the block: s, H the state behind the new list; fp the iterator's records -/
def cxComp (X : Cx) (scope : Scope) (cl : List (Str × Addr)) (N : List Str) (s : Shared) (H : Hp) (fp : List Addr) : Cx :=
  { prog := X.prog, w := X.w, K := X.K, mg := X.mg, base := X.base, A := X.A, N := N, s₀ := s, H₀ := H, env := compEnvC scope cl s.heap.objs.size X.env,
    outer := X.stack, stack := X.stack, ex := fp, fn := fun _ => false, calm := X.calm, pn := [], xe := fun _ _ => False }
/-- the names that the block sees: its own one, then those of the def at the places js -/
def cNames (X : Cx) (x : Str) (js : List Nat) : List Str := x :: js.map fun j => X.N.getD j ""
def cVals (js : List Nat) (σ : St) : St := js.map fun j => (σ[j]?).getD none
/-- each place holds a name that is a cell of the def's and free in the block -/
structure FreeAt (X : Cx) (scope : Scope) (js : List Nat) : Prop where
  all : ∀ j ∈ js, ∃ y, X.N[j]? = some y ∧ (X.env.kindOf y = some .cell ∨ X.env.kindOf y = some .free) ∧ (y, NameKind.free) ∈ scope.names ∧
    ((relabel scope X.env).names.lookup y = some .cell ∨ (relabel scope X.env).names.lookup y = some .free)
theorem fa_nil {X : Cx} {scope : Scope} : FreeAt X scope [] := ⟨fun _ h => nomatch h⟩
theorem fa_cons {X : Cx} {scope : Scope} {j : Nat} {js : List Nat} {y : Str} (h1 : X.N[j]? = some y) (h2 : X.env.kindOf y = some .cell ∨ X.env.kindOf y = some .free) (h3 : (y, NameKind.free) ∈ scope.names)
    (h4 : (relabel scope X.env).names.lookup y = some .cell ∨ (relabel scope X.env).names.lookup y = some .free) (r : FreeAt X scope js) : FreeAt X scope (j :: js) :=
  ⟨fun k hk => by
    rcases List.mem_cons.mp hk with e | e
    · subst e; exact ⟨y, h1, h2, h3, h4⟩
    · exact r.all k e⟩

theorem lookup_relabel {env : Env} : ∀ {names : List (Str × NameKind)} {y : Str} {k : NameKind},
    (names.map fun (n, k) => if (k == NameKind.free && env.scope.kind == .function && env.kindOf n == some .cell) then (n, NameKind.cell) else (n, k)).lookup y = some k →
    ∃ k', (y, k') ∈ names ∧ (k' = k ∨ (k = .cell ∧ k' = .free))
  | [], _, _, h => by simp at h
  | (n, k0) :: r, y, k, h => by
    by_cases hc : (k0 == NameKind.free && env.scope.kind == .function && env.kindOf n == some .cell) = true
    · rw [List.map_cons] at h
      dsimp only at h
      rw [if_pos hc] at h
      simp only [List.lookup_cons] at h
      have hf : k0 = .free := by
        rw [Bool.and_eq_true, Bool.and_eq_true] at hc
        exact beq_iff_eq.mp hc.1.1
      cases hx : y == n with
      | true =>
        rw [hx] at h
        have e := beq_iff_eq.mp hx
        subst e
        have e2 := Option.some.inj h
        exact ⟨k0, List.mem_cons_self, .inr ⟨e2.symm, hf⟩⟩
      | false =>
        rw [hx] at h
        obtain ⟨k', m, q⟩ := lookup_relabel h
        exact ⟨k', List.mem_cons_of_mem _ m, q⟩
    · rw [List.map_cons] at h
      dsimp only at h
      rw [if_neg hc] at h
      simp only [List.lookup_cons] at h
      cases hx : y == n with
      | true =>
        rw [hx] at h
        have e := beq_iff_eq.mp hx
        subst e
        have e2 := Option.some.inj h
        exact ⟨k0, List.mem_cons_self, .inl e2⟩
      | false =>
        rw [hx] at h
        obtain ⟨k', m, q⟩ := lookup_relabel h
        exact ⟨k', List.mem_cons_of_mem _ m, q⟩

section
variable {X : Cx} {pins : List (Addr × Obj)} {σ : St} {H : Hp} {s : Shared} {scope : Scope} {cl : List (Str × Addr)} {x : Str} {js : List Nat} {fp : List Addr}

theorem comp_ok (I : Inv X pins σ H s) (hk : scope.kind = .function) (hcell : ∀ y ∈ scope.names, y.2 ≠ .cell)
    (hcl1 : ∀ y c, cl.lookup y = some c → X.env.cells.lookup y = some c) (hcl2 : ∀ y, (y, NameKind.free) ∈ scope.names → ∃ c, cl.lookup y = some c)
    (hf : ∀ b ∈ fp, FpOk X pins H b) (hlt : ∀ b ∈ fp, b < s.heap.objs.size) : (cxComp X scope cl (cNames X x js) s H fp).Ok where
  mod := I.ok.mod
  kind := hk
  glob := I.ok.glob
  blt := I.ok.blt
  above := Nat.le_refl _
  inj := fun y z c h1 h2 => I.ok.inj y z c (hcl1 y c h1) (hcl1 z c h2)
  has := fun y hy => by
    have hy' : (relabel scope X.env).names.lookup y = some .cell ∨ (relabel scope X.env).names.lookup y = some .free := hy
    rcases hy' with h | h
    · obtain ⟨k', m, q⟩ := lookup_relabel h
      rcases q with q | ⟨_, q⟩
      · exact absurd q (hcell _ m)
      · subst q; exact hcl2 y m
    · obtain ⟨k', m, q⟩ := lookup_relabel h
      rcases q with q | ⟨q, _⟩
      · subst q; exact hcl2 y m
      · cases q
  cab := fun y c h _ => by cases h
  hd := I.ok.hd
  frames := I.ok.frames
  stk := .inl rfl
  exf := fun b hb => ⟨Nat.ne_of_lt (hlt b hb), fun y c h => (hf b hb).2.2.2.2.1 y c (hcl1 y c h)⟩
  bs := I.bs
  bsz := Nat.le_trans I.ok.bsz I.sz
  noex := fun b o e hb => by
    rcases (hf b hb).2.2.2.1 with z | z
    · exact I.ok.noex b o e z
    · exact absurd (Nat.lt_of_lt_of_le (Heap.lt_size e) (Nat.le_trans I.ok.bsz z)) (Nat.lt_irrefl _)
  exfs := fun b hb hz => (List.mem_cons.mp (I.stkSub b hz)).elim (hf b hb).2.1 (hf b hb).2.2.1
  funs := I.stack
  frf := I.stkFree

theorem comp_start {h₁ : Heap} {tk : Nat} (I : Inv X pins σ H s) (hk : scope.kind = .function) (hcell : ∀ y ∈ scope.names, y.2 ≠ .cell)
    (hcl1 : ∀ y c, cl.lookup y = some c → X.env.cells.lookup y = some c) (hcl2 : ∀ y, (y, NameKind.free) ∈ scope.names → ∃ c, cl.lookup y = some c) (hjs : FreeAt X scope js)
    (hf : ∀ b ∈ fp, FpOk X pins H b) (hlt : ∀ b ∈ fp, b < s.heap.objs.size) {m : Str → Option Value} (hn : h₁.Ns s.heap.objs.size m) (hkeep : ∀ b o, s.heap.get? b = some o → h₁.get? b = some o) :
    Inv (cxComp X scope cl (cNames X x js) s H fp) [] (none :: cVals js σ) H { s with heap := h₁, toks := tk } where
  ok := comp_ok I hk hcell hcl1 hcl2 hf hlt
  os := rfl
  bare := I.bare
  base := Un.kept hkeep
  loc := by
    refine ⟨m, hn, fun i y v h1 h2 h3 => ?_⟩
    cases i with
    | zero =>
      have z : (some none : Option (Option V)) = some (some v) := h2
      cases z
    | succ k =>
      have h1' : (js.map fun j => X.N.getD j "")[k]? = some y := h1
      have h2' : (js.map fun j => (σ[j]?).getD none)[k]? = some (some v) := h2
      rw [List.getElem?_map] at h1' h2'
      cases hj : js[k]? with
      | none => rw [hj] at h1'; cases h1'
      | some j =>
        rw [hj] at h1' h2'
        have e1 : X.N.getD j "" = y := Option.some.inj h1'
        have e2 : (σ[j]?).getD none = some v := Option.some.inj h2'
        obtain ⟨y', n1, n2, n3, n4⟩ := hjs.all j (List.mem_of_getElem? hj)
        have e3 : y' = y := by rw [← e1, List.getD_eq_getElem?_getD, n1]; rfl
        subst e3
        have e4 : σ[j]? = some (some v) := by
          cases q : σ[j]? with
          | none => rw [q] at e2; cases e2
          | some a => rw [q] at e2; exact congrArg some e2
        obtain ⟨m0, _, hl⟩ := I.loc
        obtain ⟨u, r, l⟩ := hl j y' v n1 e4 (n2.elim (fun z => Or.inr (Or.inl z)) fun z => Or.inr (Or.inr z))
        refine ⟨u, r, .inr ⟨n4, ?_⟩⟩
        rcases l with ⟨l, _⟩ | ⟨_, c, hc, hi⟩
        · exfalso
          rcases n2 with z | z <;> (rw [z] at l; cases l)
        · obtain ⟨c', hc'⟩ := hcl2 y' n3
          have e5 := hcl1 y' c' hc'
          rw [hc] at e5
          have e6 := Option.some.inj e5
          subst e6
          obtain ⟨o, ho, hd⟩ := hi
          exact ⟨c, hc', o, hkeep c o ho, hd⟩
  cell := fun y c h => by
    obtain ⟨v, o, ho, hd⟩ := I.cell y c (hcl1 y c h)
    exact ⟨v, o, hkeep c o ho, hd⟩
  free := I.hok.fresh (Nat.le_refl _)
  freeC := fun y c h => I.freeC y c (hcl1 y c h)
  pin := fun p hp => absurd (show p ∈ ([] : List (Addr × Obj)) from hp) (by simp)
  hok := I.hok.kept hkeep
  len := by
    show (none :: cVals js σ).length = (cNames X x js).length
    simp [cVals, cNames]
end

/-- the tests of a clause -/
def PIf (X : Cx) (ifs : List Expr) (t : TT) : Prop :=
  ∀ (pins : List (Addr × Obj)) (s : Shared) (σ : St) (H : Hp) (Q : Bool → Hp → Prop), Inv X pins σ H s → t σ H Q →
    wpAny (model X.prog X.w) X.A (forIn ifs true fun c r => if r = true then do let ok ← isTrue c X.env (eval c X.env); pure (ForInStep.yield ok) else pure (ForInStep.yield r)) (TP X pins σ Q) X.xe s
def tNoIf : TT := fun _ H Q => Q true H
theorem pif_nil {X : Cx} : PIf X [] tNoIf := fun _ _ _ H _ I h => wpAny_tests_nil ⟨H, I, h⟩
theorem pif_one {X : Cx} {c : Expr} {t : TT} (h : PT X c t) : PIf X [c] t := fun pins s σ H Q I q => wpAny_tests_one (h pins s σ H Q I q)

/-- [elt for x in iter if ..]: W an invariant by the turn and a measure; the list grows at D -/
def tComp (wi : TI) (tc : TT) (te : TE) (js : List Nat) : TE := fun σ H Q => wi σ H fun J H1 => ∀ D, H1 D = none →
  ∃ W : Nat → Nat → Hp → Prop, (∃ m, W 0 m (upd H1 D (.lst []))) ∧ ∀ i m H2, W i m H2 → (J.stop i H2 ∧ Q (.ref D) H2) ∨
    (J.go i H2 ∧ ∀ v H3, J.yld i H2 v H3 → tc (some v :: cVals js σ) H3 fun b H4 => if b = true then te (some v :: cVals js σ) H4 fun y H5 =>
      ∃ ys, H5 D = some (.lst ys) ∧ ys.length < sizeLine ∧ ∃ m', m' < m ∧ W (i + 1) m' (upd H5 D (.lst (ys ++ [y]))) else ∃ m', m' < m ∧ W (i + 1) m' H4)

section
variable {X : Cx} {elt iter : Expr} {x : Str} {px pos : Pos} {ifs : List Expr} {scope : Scope} {cl : List (Str × Addr)} {wi : TI} {tc : TT} {te : TE} {js : List Nat}

theorem comp_core {use : Option (Value → Sem Unit)} {Qv : Value → Shared → Prop} {pins : List (Addr × Obj)} {s : Shared} {σ : St} {H : Hp} {Q : VK}
    (hc : X.calm = true) (hi : PI X (.Name x px) iter wi) (hk : scope.kind = .function) (hcell : ∀ y ∈ scope.names, y.2 ≠ .cell) (hx : (relabel scope X.env).names.lookup x = some .local)
    (hcl1 : ∀ y c, cl.lookup y = some c → X.env.cells.lookup y = some c) (hcl2 : ∀ y, (y, NameKind.free) ∈ scope.names → ∃ c, cl.lookup y = some c) (hjs : FreeAt X scope js) (hnd : (cNames X x js).Nodup)
    (ht : ∀ s' H' fp, PIf (cxComp X scope cl (cNames X x js) s' H' fp) ifs tc) (he : ∀ s' H' fp, PE (cxComp X scope cl (cNames X x js) s' H' fp) elt te)
    (I : Inv X pins σ H s) (h : tComp wi tc te js σ H Q)
    (fin : ∀ (D C : Addr) (H' : Hp) (s' : Shared), Inv X pins σ H' s' → FpOk X pins H' C → (∃ m, s'.heap.Ns C m) → Q (.ref D) H' → compPost (model X.prog X.w) X.A X.xe use Qv (.ref D) C (.ok .next) s') :
    wpAny (model X.prog X.w) X.A (eval iter X.env) (fun xv s₁ => wpAny (model X.prog X.w) X.A (pyIter xv) (fun it s₂ => wpAny (model X.prog X.w) X.A (newList []) (fun acc s₃ =>
      wpAny (model X.prog X.w) X.A (newFunctionEnv scope X.env.globals cl [] X.env.qual none .none (some X.env)) (fun cenv s₄ =>
        codeAny (model X.prog X.w) X.A (.compStart (.ListComp elt [⟨.Name x px, iter, ifs, 0⟩] scope pos) 0 it acc { cenv with scope := relabel scope X.env })
          (compPost (model X.prog X.w) X.A X.xe use Qv acc cenv.locals) s₄) X.xe s₃) X.xe s₂) X.xe s₁) X.xe s := by
  refine thn (hi pins s σ H _ I h) fun v s1 h1 => thn h1 fun itv s2 h2 => ?_
  obtain ⟨it, fp, tn, J, H2, e, I2, T, st2, f2, hW⟩ := h2
  subst e
  obtain ⟨W, ⟨m0, w0⟩, turn⟩ := hW s2.heap.objs.size (I2.hok.fresh (Nat.le_refl _))
  have hlt2 : ∀ b ∈ fp, b < s2.heap.objs.size := fun b hb => let ⟨_, e, _⟩ := T.obj _ _ st2 b hb; Heap.lt_size e
  have I3 : Inv X pins σ (upd H2 s2.heap.objs.size (.lst [])) { s2 with heap := s2.heap.push { cls := .type "list", data := .seq ([] : List Value).toArray } } :=
    I2.lnew (t' := s2.toks) (its := []) .nil (Nat.zero_le _)
  refine wpAny_newObj_type ?_
  have k23 : ∀ b o, s2.heap.get? b = some o → (s2.heap.push { cls := .type "list", data := .seq ([] : List Value).toArray }).get? b = some o := fun b o e => Heap.get?_push_of_some _ e
  have sz3 : (s2.heap.push { cls := .type "list", data := .seq ([] : List Value).toArray }).objs.size = s2.heap.objs.size + 1 := Heap.size_push ..
  generalize hs3 : ({ s2 with heap := s2.heap.push { cls := .type "list", data := .seq ([] : List Value).toArray } } : Shared) = s3 at I3
  have hs3' : s3.heap = s2.heap.push { cls := .type "list", data := .seq ([] : List Value).toArray } := by rw [← hs3]
  have hlt3 : ∀ b ∈ fp, b < s3.heap.objs.size := fun b hb => by rw [hs3', sz3]; exact Nat.lt_succ_of_lt (hlt2 b hb)
  have f3 : ∀ b ∈ fp, FpOk X pins (upd H2 s2.heap.objs.size (.lst [])) b := fun b hb => ⟨by rw [upd_ne (Nat.ne_of_lt (hlt2 b hb))]; exact (f2 b hb).1, (f2 b hb).2⟩
  refine wpAny_newFunctionEnv hcell (by intro y hy; simp at hy) (fun h₁ hns hsb => ?_) hk
  have k34 : ∀ b o, s3.heap.get? b = some o → h₁.get? b = some o := fun b o e => hsb.extBut b o (Nat.ne_of_lt (Heap.lt_size e)) (Heap.get?_push_of_some _ e)
  have I4 := comp_start (x := x) (js := js) (tk := s3.toks + ([] : List (Str × Value)).length) I3 hk hcell hcl1 hcl2 hjs f3 hlt3 hns k34
  have st4 : tn 0 h₁ := T.keep 0 _ _ st2 fun b hb o e => k34 b o (by rw [hs3']; exact k23 b o e)
  -- the iterator's records stay what they are
  have stat : ∀ {H' : Hp}, (∀ b ∈ fp, H' b = none) → ∀ b ∈ fp, FpOk (cxComp X scope cl (cNames X x js) s3 (upd H2 s2.heap.objs.size (.lst [])) fp) [] H' b := fun hn b hb =>
    ⟨hn b hb, Nat.ne_of_lt (hlt3 b hb), fun hz => (List.mem_cons.mp (I3.stkSub b hz)).elim (f2 b hb).2.1 (f2 b hb).2.2.1, .inl hb, fun y c q => (f2 b hb).2.2.2.2.1 y c (hcl1 y c q), fun p hp => absurd (show p ∈ ([] : List (Addr × Obj)) from hp) (by simp)⟩
  have back : ∀ {σ' : St} {H' : Hp} {s' : Shared}, Inv (cxComp X scope cl (cNames X x js) s3 (upd H2 s2.heap.objs.size (.lst [])) fp) [] σ' H' s' → Inv X pins σ H' s' := fun {σ' H' s'} J' =>
    I3.call' (ch := fp) J'.os J'.base J'.hok J'.bare fun b hb => ⟨(f2 b hb).2.2.2.1, (f2 b hb).2.1, (f2 b hb).2.2.2.2.1, (f2 b hb).2.2.2.2.2⟩
  have loop : codeAny (model X.prog X.w) X.A (.compLoop (.ListComp elt [⟨.Name x px, iter, ifs, 0⟩] scope pos) 0 (.ref it) (.ref s2.heap.objs.size) (compEnvC scope cl s3.heap.objs.size X.env))
      (compPost (model X.prog X.w) X.A X.xe use Qv (.ref s2.heap.objs.size) s3.heap.objs.size) { s3 with heap := h₁, toks := s3.toks + ([] : List (Str × Value)).length } := by
    refine codeAny_compLoop_tests (fun n s' => ∃ i o H', Inv (cxComp X scope cl (cNames X x js) s3 (upd H2 s2.heap.objs.size (.lst [])) fp) [] (o :: cVals js σ) H' s' ∧ tn i s'.heap ∧ (∀ b ∈ fp, H' b = none) ∧ W i n H') ?_ m0
      ⟨0, none, _, I4, st4, fun b hb => (f3 b hb).1, w0⟩
    rintro n s5 ⟨i, o, H5, I5, st5, fr5, w5⟩
    rcases turn i n H5 w5 with ⟨stop, q⟩ | ⟨go, step⟩
    · refine thn (T.done (cxComp X scope cl (cNames X x js) s3 (upd H2 s2.heap.objs.size (.lst [])) fp) rfl rfl rfl hc i [] s5 _ H5 _ I5 (stat fr5) st5 stop) fun r s6 ⟨hr, I6⟩ => ?_
      subst hr
      exact fin _ _ H5 s6 (back I6) (I3.fpOk (Nat.le_refl _) I6.free) (let ⟨m, hm, _⟩ := I6.loc; ⟨m, hm⟩) q
    · refine thn (T.item (cxComp X scope cl (cNames X x js) s3 (upd H2 s2.heap.objs.size (.lst [])) fp) rfl rfl rfl hc i [] s5 _ H5 _ I5 (stat fr5) st5 go) fun r s6 ⟨u, hr, h6⟩ => ?_
      subst hr
      show wpAny _ _ (assign (.Name x px) _ u) _ _ s6
      intro Γ p hΓ
      have h6' := h6 Γ p hΓ
      obtain ⟨v, H6, I6, r6, y6, st6, fr6⟩ := h6'
      refine (?_ : wpAny _ _ _ _ _ s6) Γ p hΓ
      have I6' := I6.pinned (stat fr6) (T.obj _ _ st6)
      have hg : PG (cxComp X scope cl (cNames X x js) s3 (upd H2 s2.heap.objs.size (.lst [])) fp) (.Name x px) (gName 0) := pg_name (i := 0) hnd rfl (Or.inl hx) (.inr hx)
      refine wpAny_mono (hg _ s6 _ H6 v u (fun σ' H' => σ' = some v :: cVals js σ ∧ H' = H6) I6' r6 ⟨rfl, rfl⟩) (fun _ s7 q7 => ?_) (fun _ _ f => False.elim f)
      obtain ⟨σ7, H7, I7, e7, e8⟩ := q7
      subst e7 e8
      refine wpAny_mono (ht s3 _ fp _ s7 _ H7 _ I7 (step v H7 y6)) (fun ok s8 q8 => ?_) (fun _ _ f => False.elim f)
      obtain ⟨H8, I8, q8⟩ := q8
      have again : ∀ {s9 : Shared} {σ9 : St} {H9 : Hp} {m' : Nat}, Inv (cxComp X scope cl (cNames X x js) s3 (upd H2 s2.heap.objs.size (.lst [])) fp) ([] ++ pinsAt fp s6.heap) (some v :: cVals js σ) H9 s9 → m' < n → W (i + 1) m' H9 →
          ∃ m, m < n ∧ ∃ i o H', Inv (cxComp X scope cl (cNames X x js) s3 (upd H2 s2.heap.objs.size (.lst [])) fp) [] (o :: cVals js σ) H' s9 ∧ tn i s9.heap ∧ (∀ b ∈ fp, H' b = none) ∧ W i m H' := fun {s9 σ9 H9 m'} I9 hm w9 => by
        refine ⟨m', hm, i + 1, some v, H9, I9.unpinned, T.keep _ _ _ st6 fun b hb o e => (I9.pin (b, o) (List.mem_append_right _ (List.mem_append_right _ (mem_pinsAt hb e)))).1, fun b hb => ?_, w9⟩
        obtain ⟨o, e, d⟩ := T.obj _ _ st6 b hb
        exact (I9.pin (b, o) (List.mem_append_right _ (List.mem_append_right _ (mem_pinsAt hb e)))).2.1
      cases ok with
      | false =>
        rw [if_neg Bool.false_ne_true] at q8 ⊢
        obtain ⟨m', hm, w9⟩ := q8
        exact again (σ9 := []) I8 hm w9
      | true =>
        rw [if_pos rfl] at q8 ⊢
        refine wpAny_mono (he s3 _ fp _ s8 _ H8 _ I8 q8) (fun y s9 q9 => ?_) (fun _ _ f => False.elim f)
        obtain ⟨yv, H9, I9, r9, ys, hD, hl, m', hm, w9⟩ := q9
        refine wpAny_mono (mt_append (X := cxComp X scope cl (cNames X x js) s3 (upd H2 s2.heap.objs.size (.lst [])) fp) _ s9 _ H9 (.ref s2.heap.objs.size) [yv] (.ref s2.heap.objs.size) [y] (fun _ H' => H' = upd H9 s2.heap.objs.size (.lst (ys ++ [yv]))) I9 rfl (.cons r9 .nil) ⟨_, ys, yv, rfl, rfl, hD, hl, rfl⟩) (fun _ s10 q10 => ?_) (fun _ _ f => False.elim f)
        obtain ⟨_, H10, I10, _, e10⟩ := q10
        subst e10
        exact again (σ9 := []) I10 hm w9
  exact codeAny_compStart_list loop (T.self _ 0 _ _ _ st4 loop)

/-- the comprehension as an expression -/
theorem pe_comp (hc : X.calm = true) (hi : PI X (.Name x px) iter wi) (hk : scope.kind = .function) (hcell : ∀ y ∈ scope.names, y.2 ≠ .cell) (hnames : ∀ y ∈ scope.names, y.2 = .local → scope.names.lookup y.1 = some .local) (hx : (relabel scope X.env).names.lookup x = some .local)
    (hclos : closureFor scope X.env = pure cl) (hcl1 : ∀ y c, cl.lookup y = some c → X.env.cells.lookup y = some c) (hcl2 : ∀ y, (y, NameKind.free) ∈ scope.names → ∃ c, cl.lookup y = some c) (hjs : FreeAt X scope js) (hnd : (cNames X x js).Nodup)
    (ht : ∀ s' H' fp, PIf (cxComp X scope cl (cNames X x js) s' H' fp) ifs tc) (he : ∀ s' H' fp, PE (cxComp X scope cl (cNames X x js) s' H' fp) elt te)
    (hs : ∀ x, foldedSetIterable iter X.env x = pure x := by intro _; rfl) : PE X (.ListComp elt [⟨.Name x px, iter, ifs, 0⟩] scope pos) (tComp wi tc te js) := by
  intro pins s σ H Q I h
  rw [eval_ListComp]
  refine wpAny_comprehension_free (use := none) rfl hs hclos hk hnames (comp_core hc hi hk hcell hx hcl1 hcl2 hjs hnd ht he I h fun D C H' s' I' fC hC q => ?_)
  obtain ⟨m, hm⟩ := hC
  refine ⟨m, hm, fun h' sb => ?_⟩
  obtain ⟨f0, f1, f2, f3, f4, f5⟩ := fC
  exact ⟨.ref D, H', I'.turned (t' := s'.toks) (fun b o hb e => (sb.2 b hb).trans e) f0 f1 f3 f4 f5, rfl, q⟩

/-- y = [..] -/
def tAsgC (i : Nat) (te : TE) : TS := fun D σ H => te σ H fun v H1 => D.nx (σ.set i (some v)) H1
theorem ps_setC {y : Str} {i : Nat} {py spos : Pos} (hN : X.N.Nodup) (hy : X.N[i]? = some y) (hyl : Loc X.env.scope y) (hyf : X.fn y = true ∨ X.env.scope.names.lookup y = some .local)
    (hsw : swapsWith (.ListComp elt [⟨.Name x px, iter, ifs, 0⟩] scope pos) (some (.Name y py)) spos.line X.env = pure true)
    (hc : X.calm = true) (hi : PI X (.Name x px) iter wi) (hk : scope.kind = .function) (hcell : ∀ y ∈ scope.names, y.2 ≠ .cell) (hnames : ∀ y ∈ scope.names, y.2 = .local → scope.names.lookup y.1 = some .local) (hx : (relabel scope X.env).names.lookup x = some .local)
    (hclos : closureFor scope X.env = pure cl) (hcl1 : ∀ y c, cl.lookup y = some c → X.env.cells.lookup y = some c) (hcl2 : ∀ y, (y, NameKind.free) ∈ scope.names → ∃ c, cl.lookup y = some c) (hjs : FreeAt X scope js) (hnd : (cNames X x js).Nodup)
    (ht : ∀ s' H' fp, PIf (cxComp X scope cl (cNames X x js) s' H' fp) ifs tc) (he : ∀ s' H' fp, PE (cxComp X scope cl (cNames X x js) s' H' fp) elt te)
    (hs : ∀ x, foldedSetIterable iter X.env x = pure x := by intro _; rfl) :
    PS X (.Assign [.Name y py] (.ListComp elt [⟨.Name x px, iter, ifs, 0⟩] scope pos) spos) (tAsgC i (tComp wi tc te js)) := by
  intro pins s σ H D I h
  rw [exec_Assign_Name_used _ _ _ _ hsw]
  refine wpAny_bind (wpAny_standAt (wpAny_bind ?_))
  show wpAny _ _ (do let _ ← comprehension (.ListComp elt [⟨.Name x px, iter, ifs, 0⟩] scope pos) scope X.env _ (newList []) false (eval iter X.env) (some (assign (.Name y py) X.env))) _ _ s
  refine wpAny_bind (wpAny_mono (wpAny_comprehension_free (use := some (assign (.Name y py) X.env)) (Q := fun _ s' => SP X pins D .next s') rfl hs hclos hk hnames
    (comp_core hc hi hk hcell hx hcl1 hcl2 hjs hnd ht he I h fun D' C H' s' I' fC hC q => ?_)) (fun _ s' hq => wpAny_pure (wpAny_pure hq)) fun _ _ e => e)
  obtain ⟨m, o, es, ep, ho, hd, hr⟩ := hC
  obtain ⟨f0, f1, f2, f3, f4, f5⟩ := fC
  have Ip : Inv X (pins ++ [(C, o)]) σ H' s' := I'.pins_of fun p hp => (List.mem_append.mp hp).elim (fun z => I'.pin p (List.mem_append_right _ z)) fun z => by
    have e : p = (C, o) := by simpa using z
    subst e
    exact ⟨ho, f0, f1, f2, fun v z => by rw [hd] at z; cases z⟩
  have hg : PG X (.Name y py) (gName i) := pg_name hN hy hyl hyf
  refine thn (hg _ s' σ H' (.ref D') (.ref D') (fun σ' H'' => σ' = σ.set i (some (.ref D')) ∧ H'' = H') Ip rfl ⟨rfl, rfl⟩) fun _ s'' q'' => ?_
  obtain ⟨σ'', H'', I'', e1, e2⟩ := q''
  subst e1 e2
  have hp := (I''.pin (C, o) (by simp)).1
  refine ⟨m, ⟨o, es, ep, hp, hd, hr⟩, fun h' sb => ?_⟩
  exact ⟨_, _, (I''.unpinned).turned (t' := s''.toks) (fun b o hb e => (sb.2 b hb).trans e) f0 f1 f3 f4 f5, q⟩
end
end L2


set_option Elab.async false
set_option linter.all false
set_option maxRecDepth 100000
set_option maxHeartbeats 4000000
namespace L2
open PySem PySem.Spec PyProof.Rows

/-! ### a def of the text: where it stands, what it promises -/
/-- the def st stands at the top by the name x -/
structure TopDef (K : PySem.W.Frag) (mg : Str → Option Value) (x : Str) (st : Stmt) : Prop where
  ex : ∃ (f : Addr) (fd : FuncData), Fun K x x st f fd ∧ mg x = some (.ref f)
theorem top_mk {K : PySem.W.Frag} {h : Heap} {mg : Str → Option Value} {x : Str} {st : Stmt} {f : Addr} {oc kV doc pm cdv ct : Value} {od an : Option Addr} {osl : Array (Option Value)} (X : K.In h) (G : h.Ns mainGlobals mg)
    (a : PySem.W.nsIn K mainGlobals x = some (some (.ref f)))
    (l : K.lookup f = some ⟨oc, od, .func (PySem.W.fnOf x x (defArgs st) (defBody st) (defScope st) .none kV doc pm an cdv ct), osl⟩)
    (c : PySem.W.codeIn K cdv x = true) (k : PySem.W.keepIn K (.ref f) = true) : TopDef K mg x st :=
  ⟨_, _, fun_mk l c k, PySem.W.mg_of X G a⟩
/-- the def by the name x keeps sp, within n calls of one another -/
structure Def (P : Program) (w : World) (K : PySem.W.Frag) (mg : Str → Option Value) (base : Heap) (n : Nat) (x : Str) (ps : List Str) (sp : Sp) : Prop where
  ex : ∃ (f : Addr) (fd : FuncData), FnOk P w K mg base CX0 n f fd ps sp ∧ Binds K fd ps [] ∧ PySem.W.keepIn K (.ref f) = true ∧ mg x = some (.ref f)
section
variable {P : Program} {w : World} {K : PySem.W.Frag} {mg : Str → Option Value} {base : Heap}
theorem def_of {x : Str} {st : Stmt} {N ps : List Str} {k : Nat} {sp : Sp} (T : TopDef K mg x st) (S : FnScope N ps (defScope st))
    (bd : ∀ (kV doc pm : Value) (an : Option Addr) (cdv ct : Value) (us : List Value), us.length = ps.length → bindArgs (PySem.W.fnOf x x (defArgs st) (defBody st) (defScope st) .none kV doc pm an cdv ct) ⟨us, []⟩ = pure (ps.zip us))
    (len : ∀ vs H Q E, sp vs H Q E → vs.length = ps.length)
    (body : ∀ (f : Addr) (cdv : Value) (A : Around) (outer : List Env) (s : Shared) (H : Hp) (vs : List V) (Q : VK) (E : XK), Room k (A.deeper (envOfC x (defScope st) s.heap.objs.size f cdv)) → sp vs H Q E →
      ∃ t, PSs (cxOf CX0 P w K mg base N x (defScope st) f cdv A outer s H E).nox (defBody st) t ∧ t { nx := fun _ H' => Q .non H', rt := Q } (start N vs) H) :
    Def P w K mg base (k + 1) x ps sp := by
  obtain ⟨f, fd, F, m⟩ := T.ex
  exact ⟨f, fd, F.ok S len (body f), F.binds bd, F.kp, m⟩
end
section
variable {X : Cx} {n : Nat} {x : Str} {ps : List Str} {sp : Sp} {e a b : Expr} {es : List Expr} {t : TA} {ta tb : TE} {p pos : Pos}
/-- f(..) of such a def -/
theorem pe_def (D : Def X.prog X.w X.K X.mg X.base n x ps sp) (hr : Room n X.A) (hg : Gl X x) (ha : PA X (e :: es) t) (hdb : (x == ("__debug__" : Str)) = false := by decide)
    (he : starEach (e :: es) X.env = (false, eval e X.env) :: starEach es X.env := by rfl) (hpl : (backTo pos (starEach es X.env)).any (·.1) = false := by rfl) :
    PE X (.Call (.Name x p) (e :: es) [] pos) (tCall sp [] E0 t) := by
  obtain ⟨f, fd, F, b, kp, m⟩ := D.ex
  exact pe_call F hr hg m kp b .nil pass0 ha hdb he hpl

/-! ### ints of any size -/
theorem op_mulK : OpR X (binaryOp .Mult) (rI IntMulOk fun i j => .int (i * j)) := opI fun _ _ _ _ _ _ _ hc q => PyProof.Rows.mul_int q hc
def CDivK (_ j : Int) : Prop := j ≠ 0 ∧ j.natAbs.log2 < 9000
theorem op_fdivK : OpR X (binaryOp .FloorDiv) (rI CDivK fun i j => .int (i.fdiv j)) := opI fun _ _ _ _ _ _ _ hc q => PyProof.Rows.floordiv_int hc.1 q (.inl (PyProof.noPylong_of_log2 hc.2))

/-! ### isinstance(x, c) -/
theorem call_isi : CallR X (.builtin "isinstance") (fun xs H Q => ∃ (y : V) (c : V) (cv t : Value) (k : Bool), xs = [y, c] ∧ (∀ u, RelV c u → u = cv) ∧ TyOf X.K H y t ∧ PySem.W.kitOne X.K t cv = some k ∧ Q (.bl k) H) := by
  intro pins s σ H xs us Q I r h
  obtain ⟨y, c, cv, t, k, rfl, hc, ty, kt, q⟩ := h
  obtain ⟨u, w', rfl, r1, r2⟩ := vals2 r
  have e := hc _ r2
  subst e
  exact isinst_ok I r1 ty kt fun tk => ⟨.bl k, H, I.tok tk, rfl, q⟩
/-! ### sep.join(a list of texts) -/
end
end L2


set_option Elab.async false
set_option linter.all false
set_option maxRecDepth 100000
set_option maxHeartbeats 4000000
namespace L2
open PySem PySem.Spec PySem.Calls PyProof.Rows PySem.W PySem.Builtin.Getset_descriptor
/-- what the fragment says of an own class of exceptions, for isinstance -/
structure ExcCls (K : Frag) (D : Addr) : Prop where
  ga : findIn K (.ref D) "__getattribute__" = some (some (.builtin "BaseException.__getattribute__"))
  gt : findIn K (.ref D) "__getattr__" = some none
  cl : ∃ cd, clsIn K D = some cd
  ha : findIn K (.ref D) "__class__" = some (some (.builtin "object.__class__"))
  hn : specialIn K (.builtin "object.__class__") "__get__" = some (some (.builtin "getset_descriptor.__get__"))
  tk : takesIn K (.builtin "object.__class__") = some true
  hb : mroIn K D (.type "BaseException") = some true
  hm : mroIn K D (.type "object") = some true
section
variable {prog : Program} {w : World} {A : Around} {E : Value → Shared → Prop} {s : Shared} {K : Frag} {x D : Addr}
/-- an object of the class D, whatever else is in it -/
def OfCls (x D : Addr) (h : Heap) : Prop := ∃ ox, h.get? x = some ox ∧ ox.cls = .ref D
theorem OfCls.type {M : Model} {h : Heap} (I : OfCls x D h) : Looks M h (typeOf (.ref x)) (.ref D) := by
  obtain ⟨ox, a, b⟩ := I
  exact b ▸ (Looks.ld a).andThen .now
theorem exc_find {M : Model} {h : Heap} (c : ExcCls K D) (X : K.In h) :
    Looks M h (Builtin.ObjectAttr.find (.ref x) (.ref D) "__class__") (.bind (.builtin "getset_descriptor.__get__") (.builtin "object.__class__")) := by
  have l1 := looks_findIn (M := M) X c.ha
  have l2 := looks_specialIn (M := M) X c.hn
  have l3 := looks_takesIn (M := M) X c.tk
  have l4 : Looks M h (Builtin.ObjectAttr.dataDescriptor? (some (.builtin "object.__class__")) (some (.builtin "getset_descriptor.__get__"))) (some (.builtin "getset_descriptor.__get__", .builtin "object.__class__")) := l3.andThen .now
  exact l1.andThen (Looks.andThen (show Looks M h (Builtin.ObjectAttr.getOf (some (.builtin "object.__class__"))) _ from l2) (l4.andThen (Looks.tag .now)))
theorem exc_get {R : Result → Shared → Prop} {tp : Value} (c : ExcCls K D) (X : K.In s.heap) (I : OfCls x D s.heap) (h : R (.ok (.ret (.ref D))) s) :
    codeAny (model prog w) A (.call (.builtin "getset_descriptor.__get__") ⟨[.builtin "object.__class__", .ref x, tp], []⟩) R s := by
  obtain ⟨hh, g, dr, t, os⟩ := s
  have l0 := I.type (M := model prog w)
  have l1 := looks_mroIn (M := model prog w) X c.hm
  refine codeAny_call_builtin (KF.slot_gs).plain KF.entry_gs ?_
  refine (KF.slot_gs).check _ _ _ _ _ _ _ _ KF.type_class (KF.args_gs _ _ _) ?_
  unfold Builtin.«getset_descriptor.__get__» descrGet; rw [dga_obj]
  refine wpAny_bind (wpAny_pure ?_)
  unfold descrGetter descrCheckInstance descrNameAndClass isInstance; simp only [KF.owner_class]
  repeat lk
  refine ⟨Code.quiet_builtin _ (by decide +kernel), codeAny_builtin KF.entry_class ?_⟩; unfold Builtin.«object.__class__» shownTypeOf
  repeat lk
  exact h
theorem exc_class {Q : Option Value → Shared → Prop} (c : ExcCls K D) (X : K.In s.heap) (I : OfCls x D s.heap) (h : Q (some (.ref D)) { s with toks := s.toks + 1 }) :
    wpAny (model prog w) A (getAttr? (.ref x) "__class__") Q E s := by
  obtain ⟨hh, g, d, t, os⟩ := s
  have L0 := I.type (M := model prog w)
  have L1 := looks_findIn (M := model prog w) X c.ga
  have L2 := looks_findIn (M := model prog w) X c.gt
  have LB := looks_mroIn (M := model prog w) X c.hb
  have L3 := exc_find (M := model prog w) (x := x) c X
  unfold getAttr? getAttrBy? getAttrBy
  refine wpAny_bind (wpAny_mkText (wpAny_bind (wpAny_attempt (wpAny_holding (wpAny_bind (L0.at (wpAny_bind (L1.at ?_))))))))
  show wpAny _ _ (getAttrByItsOwn (.ref x) _ (.ref D) (.builtin "BaseException.__getattribute__") false false) _ _ _
  unfold getAttrByItsOwn
  show wpAny _ _ (typeLookup (.ref D) "__getattr__" >>= _) _ _ _
  refine wpAny_bind (L2.at ?_)
  refine wpAny_bind (wpAny_attempt (wpAny_holding ?_))
  show wpAny _ _ (boundAndCalled (.builtin "BaseException.__getattribute__") (.ref x) _) _ _ _
  unfold boundAndCalled
  have FB := (F.attrBase_ValueError).ga
  refine wpAny_bind (wpAny_of_eq (FB.bind (.ref x)) ?_)
  show wpAny _ _ (call (.builtin "BaseException.__getattribute__") [.ref x, _]) _ _ _
  refine wpAny_call (codeAny_call_builtin FB.plain F.entry_bexc_ga ?_)
  have kd : builtinKind "BaseException.__getattribute__" = some .slot := by decide +kernel
  have sp : splitId "BaseException.__getattribute__" = some ("BaseException", "__getattribute__") := by decide +kernel
  have ar := F.args_bexc_ga (.ref x) (.str "__class__" t)
  simp only [checkBuiltinCall, kd, sp]
  unfold isInstance
  refine wpAny_bind (wpAny_bind (L0.at (LB.at ?_)))
  rw [if_neg (by decide)]
  refine wpAny_of_eq ar ?_
  unfold Builtin.«object.__getattribute__»
  refine wpAny_bind (wpAny_pure (wpAny_bind (wpAny_pure (wpAny_bind (L0.at (wpAny_bind (L3.at ?_)))))))
  unfold Builtin.ObjectAttr.bindTo
  refine wpAny_bind (wpAny_holding (wpAny_call (exc_get (s := ⟨hh, g, d, t + 1, os⟩) c X I ?_)))
  refine wpAny_pure ?_
  exact handed_on rfl (wpAny_pure h)
theorem kitx_exc (c : ExcCls K D) : KitX K (.ref x) (.ref D) (OfCls x D) where
  ty := fun _ _ _ I => I.type
  it := fun _ _ X _ => by
    obtain ⟨cd, hcd⟩ := c.cl
    unfold clsIn at hcd
    split at hcd
    · rename_i c' d' cd' sl' ho
      intro A' Q' E' s' k q
      unfold isType loadHead
      exact wpAny_bind (wpAny_loadPart (k _ _ (X _ _ ho)) (wpAny_pure q))
    · cases hcd
  ne := fun h tp dd its n sl X htp => by
    obtain ⟨cd, hcd⟩ := c.cl
    refine Bool.eq_false_iff.mpr fun q => ?_
    have e : D = tp := Value.ref.inj (beq_iff_eq.mp q)
    subst e
    unfold clsIn at hcd
    split at hcd
    · rename_i c' d' cd' sl' ho
      have z := (X _ _ ho).symm.trans htp
      cases z
    · cases hcd
  ca := fun X I k => exc_class c X I k
end
end L2


set_option Elab.async false
set_option linter.all false
set_option maxRecDepth 100000
set_option maxHeartbeats 4000000
namespace L2
open PySem PySem.Spec PyProof.Rows
section
variable {P : Program} {w : World} {H : Hp} {h : Heap} {a : Addr} {o : HO}
theorem ObjOk.there (x : ObjOk P w H h a o) : ∃ ob, h.get? a = some ob := by
  cases o with
  | lst xs => obtain ⟨_, _, _, _, e⟩ := x; exact ⟨_, e⟩
  | tup xs => obtain ⟨_, _, _, ⟨_, e, _⟩⟩ := x; exact ⟨_, e⟩
  | dK kvs => obtain ⟨_, _, _, _, o, _, _, e, _⟩ := x; exact ⟨_, e⟩
  | dT kvs => obtain ⟨_, _, _, _, o, _, _, e, _⟩ := x; exact ⟨_, e⟩
  | set S n => obtain ⟨o, _, _, _, e, _⟩ := x; exact ⟨_, e⟩
  | ins C dx fs => obtain ⟨_, _, _, e, _⟩ := x; exact ⟨_, e⟩
  | own y => exact x
  | xd fs => obtain ⟨_, ⟨_, _, _, e, _⟩, _⟩ := x; exact ⟨_, e⟩
  | rng lo hi => obtain ⟨_, _, _, e⟩ := x; exact ⟨_, e⟩
  | frz ob u => obtain ⟨e, _⟩ := x; exact ⟨_, e⟩
  | tbl ps => exact ⟨_, (show h.get? a = some _ from x)⟩
  | met f y => exact ⟨_, (show h.get? a = some _ from x)⟩
  | ext φ => obtain ⟨_, e, _⟩ := x; exact e
end

/-! ### how an exception lies behind a call: ea the object, C its class; whatever is tracked, or stood ahead of the call, stands in B, which stays -/

/-! ### raise: the exception leaves the def -/
section
variable {P : Program} {w : World} {K : PySem.W.Frag} {mg : Str → Option Value} {base : Heap} {N : List Str} {qual : Str} {scope : Scope} {f : Addr} {cd : Value} {A : Around} {outer : List Env} {s : Shared} {H : Hp} {E : XK}
end
end L2


set_option Elab.async false
set_option linter.all false
set_option maxRecDepth 100000
set_option maxHeartbeats 4000000
namespace L2
open PySem PySem.Spec PyProof.Rows PySem.W

/-! ### raise X(..) of an own class without __init__ -/
abbrev bmV : List Value := [.type "ValueError", .type "Exception", .type "BaseException", .type "object"]

section
variable {P : Program} {w : World} {K : Frag} {mg : Str → Option Value} {base : Heap} {N : List Str} {qual : Str} {scope : Scope} {f : Addr} {cd : Value} {A : Around} {outer : List Env} {s : Shared} {H : Hp} {E : XK}
end

/-! ### a def that may raise -/

/-! ### except X -/
structure CatchCls (K : Frag) (D : Addr) : Prop where
  cl : ∃ cd, clsIn K D = some cd
  ty : typeIn K (.ref D) = some (.type "type")
  hb : mroIn K D (.type "BaseException") = some true
theorem exc_matches {M : Model} {A : Around} {E : Value → Shared → Prop} {s : Shared} {K : Frag} {e C D : Addr} {Q : Bool → Shared → Prop} (X : K.In s.heap) (I : OfCls e C s.heap) (c : CatchCls K D) {b : Bool} (hm : mroIn K C (.ref D) = some b) (hq : Q b s) :
    wpAny M A (excMatches (.ref e) (.ref D)) Q E s := by
  obtain ⟨hh, g, d, t, os⟩ := s
  have l0 := I.type (M := M)
  obtain ⟨ob, ho, hc⟩ := Option.map_eq_some_iff.mp c.ty
  have l1 : Looks M hh (typeOf (.ref D)) (.type "type") := hc ▸ (Looks.ld (X _ _ ho)).andThen .now
  have l2 : Looks M hh (isType (.ref D)) true := by
    obtain ⟨cd, hcd⟩ := c.cl
    unfold clsIn at hcd
    split at hcd
    · rename_i c' d' cd' sl' lo
      intro A' Q' E' s' k q
      unfold isType loadHead
      exact wpAny_bind (wpAny_loadPart (k _ _ (X _ _ lo)) (wpAny_pure q))
    · cases hcd
  have l3 := looks_mroIn (M := M) X c.hb
  have l4 := looks_mroIn (M := M) X hm
  have l5 : Looks M hh (isInstance (.ref D) (.type "tuple")) false := l1.andThen (Looks.of_pure tc_notTuple)
  have l6 : Looks M hh (isExcClass (.ref D)) true := l2.andThen (by exact l3)
  unfold excMatches
  refine wpAny_bind (l5.at ?_)
  rw [if_neg (by decide)]
  refine wpAny_bind (wpAny_pure ?_)
  simp only [List.forIn_cons, List.forIn_nil]
  refine wpAny_bind (wpAny_bind (wpAny_bind (l6.at ?_)))
  rw [if_neg (by decide)]
  refine wpAny_pure (wpAny_pure (wpAny_bind (l0.at (wpAny_bind (wpAny_bind (wpAny_bind (l4.at ?_)))))))
  cases b with
  | true => exact wpAny_pure (wpAny_pure (wpAny_pure hq))
  | false => exact wpAny_pure (wpAny_pure (wpAny_pure hq))
end L2


set_option Elab.async false
set_option linter.all false
set_option maxRecDepth 100000
set_option maxHeartbeats 4000000
namespace L2
open PySem PySem.Spec PyProof.Rows PySem.W

/-- the context of an except suite -/
def Cx.mark (X : Cx) (ea : Addr) : Cx := { X with A := X.A.mark (some (.ref ea)), calm := false }
section
variable {X : Cx} {pins : List (Addr × Obj)} {σ : St} {H H' : Hp} {s s' : Shared}
theorem Inv.mark (I : Inv X pins σ H s) (ea : Addr) : Inv (X.mark ea) pins σ H s :=
  ⟨⟨I.ok.mod, I.ok.kind, I.ok.glob, I.ok.blt, I.ok.above, I.ok.inj, I.ok.has, I.ok.cab, (fun z => by cases z), I.ok.frames, I.ok.stk, I.ok.exf, I.ok.bs, I.ok.bsz, I.ok.noex, I.ok.exfs, I.ok.funs, I.ok.frf⟩,
    I.os, I.bare, I.base, I.loc, I.cell, I.free, I.freeC, I.pin, I.hok, I.len⟩
theorem Inv.unmark {ea : Addr} (I : Inv (X.mark ea) pins σ H s) (ok : X.Ok) : Inv X pins σ H s :=
  ⟨ok, I.os, I.bare, I.base, I.loc, I.cell, I.free, I.freeC, I.pin, I.hok, I.len⟩
/-- an untracked object of ours is tracked from now on -/
theorem Inv.track {a : Addr} {φ : Heap → Prop} (I : Inv X pins σ H s) (n : H a = none) (new : X.s₀.heap.get? a = none) (hL : a ≠ X.env.locals) (hc : ∀ x c, X.env.cells.lookup x = some c → c ≠ a) (hp : ∀ p ∈ X.pn ++ pins, p.1 ≠ a)
    (p : φ s.heap) (there : ∃ o, s.heap.get? a = some o) (st : ∀ h1 h2 : Heap, φ h1 → (∀ o, h1.get? a = some o → h2.get? a = some o) → φ h2) : Inv X pins σ (upd H a (.ext φ)) s :=
  ⟨I.ok, I.os, I.bare, ⟨I.base.keep, I.base.slot, fun b o e z hx => by rw [upd_ne (fun q => by rw [q, new] at e; cases e)]; exact I.base.free b o e z hx, I.base.there,
      fun b xs e => by have q := I.base.tups b xs e; rw [upd_ne (ne_of_none q n)]; exact q, fun b o u e => by have q := I.base.frzs b o u e; rw [upd_ne (ne_of_none q n)]; exact q,
      fun b ps e => by obtain ⟨m, q⟩ := I.base.tbls b ps e; exact ⟨m, by rw [upd_ne (ne_of_none q n)]; exact q⟩⟩,
    I.loc, I.cell, by rw [upd_ne (Ne.symm hL)]; exact I.free, fun x c e => by rw [upd_ne (hc x c e)]; exact I.freeC x c e,
    fun q hq => by obtain ⟨a1, a2, a3⟩ := I.pin q hq; exact ⟨a1, by rw [upd_ne (hp q hq)]; exact a2, a3⟩,
    fun b u e => by
      by_cases hb : b = a
      · subst hb
        rw [upd_same] at e
        cases e
        exact ⟨p, there, st⟩
      · rw [upd_ne hb] at e
        exact (I.hok b u e).stay (fun _ _ _ z => z) (fun c z => by rw [upd_ne (ne_of_none z n)]; exact z) fun c xs z => by rw [upd_ne (ne_of_none z n)]; exact z,
    I.len⟩
/-- a name of the frame's is gone -/
theorem Inv.unname {i : Nat} {x : Str} {v : Option Value} {m : Str → Option Value} {h' : Heap} {tk : Nat} (I : Inv X pins σ H s) (hN : X.N.Nodup) (hi : X.N[i]? = some x)
    (hm : s.heap.Ns X.env.locals m) (hn : h'.Ns X.env.locals fun y => if y = x then v else m y) (hs : Heap.SameBut X.env.locals s.heap h') : Inv X pins (σ.set i none) H { s with heap := h', toks := tk } := by
  have old : ∀ b o, X.s₀.heap.get? b = some o → b ≠ X.env.locals := fun b o e => Nat.ne_of_lt (Nat.lt_of_lt_of_le (Heap.lt_size e) I.ok.above)
  have cellK : ∀ y c, X.env.cells.lookup y = some c → ∀ u, s.heap.IsCell c u → h'.IsCell c u := fun y c e u z => z.sameBut hs (I.cne y c e)
  refine ⟨I.ok, I.os, I.bare, ⟨fun b o e n hb hx => (hs.2 b (old b o e)).trans (I.base.keep b o e n hb hx), fun b o e n hb hx => ?_, I.base.free, fun b o e hx => ?_, I.base.tups, I.base.frzs, I.base.tbls⟩, ⟨_, hn, fun j y u e1 e2 e3 => ?_⟩,
    fun y c e => ?_, I.free, I.freeC, fun p hp => ?_, fun b u e => ?_, by simpa using I.len⟩
  · obtain ⟨sl, z⟩ := I.base.slot b o e n hb hx
    exact ⟨sl, (hs.2 b (old b o e)).trans z⟩
  · obtain ⟨o', z⟩ := I.base.there b o e hx
    exact ⟨o', (hs.2 b (old b o e)).trans z⟩
  · by_cases hj : j = i
    · subst hj
      have e4 : (σ.set j none)[j]? = some (some u) := e2
      by_cases hl : j < σ.length
      · rw [List.getElem?_set_self hl] at e4
        cases e4
      · rw [List.getElem?_eq_none (by rw [List.length_set]; omega)] at e4
        cases e4
    · have e4 : (σ.set i none)[j]? = some (some u) := e2
      rw [List.getElem?_set_ne (Ne.symm hj)] at e4
      obtain ⟨m0, hm0, hl⟩ := I.loc
      have em : m0 = m := by
        obtain ⟨o1, es1, ep1, g1, d1, _, r1⟩ := hm0
        obtain ⟨o2, es2, ep2, g2, d2, _, r2⟩ := hm
        rw [g1] at g2
        cases g2
        rw [d1] at d2
        cases d2
        funext z
        exact (r1 z).symm.trans (r2 z)
      subst em
      obtain ⟨u', r', q⟩ := hl j y u e1 e4 e3
      refine ⟨u', r', ?_⟩
      rcases q with ⟨k, e⟩ | ⟨k, c, e, z⟩
      · refine .inl ⟨k, ?_⟩
        have ne : y ≠ x := fun e => hj (nodup_ix hN e1 (e ▸ hi))
        show (if y = x then v else m0 y) = some u'
        rw [if_neg ne]
        exact e
      · exact .inr ⟨k, c, e, cellK y c e _ z⟩
  · obtain ⟨u, z⟩ := I.cell y c e
    exact ⟨u, cellK y c e u z⟩
  · obtain ⟨a1, a2, a3, a4⟩ := I.pin p hp
    exact ⟨(hs.2 _ a3).trans a1, a2, a3, a4⟩
  · have nl : ∀ c z, H c = some z → c ≠ X.env.locals := fun c z q e => by rw [e, I.free] at q; cases q
    exact (I.hok b u e).stay (fun c z hc q => (hs.2 c (hc.elim (fun k => by rw [k]; exact nl b u e) fun k => nl c _ k)).trans q) (fun _ z => z) fun _ _ z => z
/-- the frame again, at a heap in which B stays -/
theorem Inv.caught {ea : Addr} {C : Value} (I : Inv X pins σ H s) {t : Addr} {B : Heap} {h6 : Heap} {tk : Nat} (ho : s'.os = s.os) (hg : AllBare s'.gens) (un : Un (frs X.stack) [] H H' s.heap s'.heap) (hok : HOk X.prog X.w H' s'.heap)
    (cov : ∀ b o, s'.heap.get? b = some o → b ∉ frs X.stack → ((∃ u, H' b = some u) ∨ ∃ o', s.heap.get? b = some o') → B.get? b = some o) (st : B.StaysIn h6) (up : s'.heap.UpToSlots h6) : Inv X pins σ H' { s' with heap := h6, toks := tk } := by
  have fr := I.stack
  have frf : ∀ b u, H' b = some u → b ∉ frs X.stack := fun b u e z => by
    obtain ⟨_, o, e2, _⟩ := fr.mem z
    have q := un.free b o e2 (I.stkFree b z) (by simp)
    rw [e] at q; cases q
  have slotK : ∀ b o, s.heap.get? b = some o → b ∈ frs X.stack → ∃ sl, h6.get? b = some { o with slots := sl } := fun b o e hb => by
    obtain ⟨_, o', e2, nf⟩ := fr.mem hb
    have e3 : some o' = some o := e2.symm.trans e
    cases e3
    obtain ⟨sl, e4⟩ := un.slot b _ e (I.stkFree b hb) hb (by simp)
    obtain ⟨sl', e5⟩ := up b _ e4 nf
    exact ⟨sl', e5⟩
  have u6 : Un (frs X.stack) [] H H' s.heap h6 := by
    refine ⟨fun b o e n hb hx => st b o (cov b o (un.keep b o e n hb hx) hb (.inr ⟨o, e⟩)), fun b o e n hb hx => slotK b o e hb, un.free, fun b o e hx => ?_, un.tups, un.frzs, un.tbls⟩
    by_cases hb : b ∈ frs X.stack
    · obtain ⟨sl, z⟩ := slotK b o e hb
      exact ⟨_, z⟩
    · obtain ⟨o', z⟩ := un.there b o e hx
      exact ⟨o', st b o' (cov b o' z hb (.inr ⟨o, e⟩))⟩
  have k6 : HOk X.prog X.w H' h6 := fun b u e => (hok b u e).stay (fun c z hc q => by
    have tr : ∃ v, H' c = some v := hc.elim (fun k => ⟨u, by rw [k]; exact e⟩) fun k => ⟨_, k⟩
    obtain ⟨v, hv⟩ := tr
    exact st c z (cov c z q (frf c v hv) (.inl ⟨v, hv⟩))) (fun _ z => z) fun _ _ z => z
  exact I.call' (s' := { s' with heap := h6, toks := tk }) (ch := []) ho u6 k6 hg fun b hb => nomatch hb
end
end L2


set_option Elab.async false
set_option linter.all false
set_option maxRecDepth 100000
set_option maxHeartbeats 4000000
namespace L2
open PySem PySem.Spec PyProof.Rows PySem.W

/-! ### try: f(..) except Y as n: suite -/

/-! ### isinstance(an exception that was caught, c) -/
end L2


set_option Elab.async false
set_option linter.all false
set_option maxRecDepth 100000
set_option maxHeartbeats 4000000
namespace L2
open PySem PySem.Spec PyProof.Rows PySem.W
section
variable {X : Cx}
/-! ### == of two tuples of ints -/

/-! ### a, b = a list -/

/-! ### a comprehension's free names -/
theorem clo_aux {env : Env} : ∀ (names : List (Str × NameKind)) (acc : List (Str × Addr)), (∀ y, (y, NameKind.free) ∈ names → ∃ c, env.cells.lookup y = some c) →
    ∃ cl : List (Str × Addr), (forIn names acc (fun x r => match x with
        | (name, kind) => if (kind == NameKind.free) = true then do let a ← cellOf env name; pure (ForInStep.yield ((name, a) :: r)) else pure (ForInStep.yield r)) : Sem _) = pure cl ∧
      (∀ y c, cl.lookup y = some c → acc.lookup y = some c ∨ env.cells.lookup y = some c) ∧ (∀ y, (y, NameKind.free) ∈ names → ∃ c, cl.lookup y = some c) ∧ ∀ y, (∃ c, acc.lookup y = some c) → ∃ c, cl.lookup y = some c
  | [], acc, _ => ⟨acc, rfl, fun _ _ h => .inl h, (fun _ h => nomatch h), fun _ h => h⟩
  | (nm, kd) :: r, acc, h => by
    by_cases hk : kd = .free
    · subst hk
      obtain ⟨c, hc⟩ := h nm List.mem_cons_self
      obtain ⟨cl, e, p1, p2, p3⟩ := clo_aux r ((nm, c) :: acc) fun y hy => h y (List.mem_cons_of_mem _ hy)
      refine ⟨cl, ?_, fun y d hd => ?_, fun y hy => ?_, fun y hy => ?_⟩
      · rw [List.forIn_cons]
        have z : cellOf env nm = pure c := by unfold cellOf; rw [hc]
        simp only [z, beq_self_eq_true, if_true]
        exact e
      · rcases p1 y d hd with q | q
        · rw [List.lookup_cons] at q
          cases hy : y == nm with
          | true =>
            rw [hy] at q
            have e1 := beq_iff_eq.mp hy
            subst e1
            cases q
            exact .inr hc
          | false => rw [hy] at q; exact .inl q
        · exact .inr q
      · rcases List.mem_cons.mp hy with q | q
        · cases q
          exact p3 nm ⟨c, by rw [List.lookup_cons, beq_self_eq_true]⟩
        · exact p2 y q
      · obtain ⟨d, hd⟩ := hy
        refine p3 y ?_
        rw [List.lookup_cons]
        cases y == nm with
        | true => exact ⟨c, rfl⟩
        | false => exact ⟨d, hd⟩
    · obtain ⟨cl, e, p1, p2, p3⟩ := clo_aux r acc fun y hy => h y (List.mem_cons_of_mem _ hy)
      refine ⟨cl, ?_, p1, fun y hy => ?_, p3⟩
      · rw [List.forIn_cons]
        have z : (kd == NameKind.free) = false := by simpa using hk
        simp only [z, Bool.false_eq_true, if_false]
        exact e
      · rcases List.mem_cons.mp hy with q | q
        · cases q; exact absurd rfl hk
        · exact p2 y q
theorem clo_of {scope : Scope} {env : Env} (h : ∀ y, (y, NameKind.free) ∈ scope.names → ∃ c, env.cells.lookup y = some c) :
    ∃ cl, closureFor scope env = pure cl ∧ (∀ y c, cl.lookup y = some c → env.cells.lookup y = some c) ∧ ∀ y, (y, NameKind.free) ∈ scope.names → ∃ c, cl.lookup y = some c := by
  obtain ⟨cl, e, p1, p2, _⟩ := clo_aux (env := env) scope.names [] h
  refine ⟨cl, ?_, fun y c hc => (p1 y c hc).elim (fun z => by cases z) fun z => z, p2⟩
  unfold closureFor
  show (forIn scope.names [] _ >>= fun s => pure s) = pure cl
  rw [bind_pure]
  exact e
/-- what the block's free names ask: each is one of those at js -/
theorem free_of {scope : Scope} {js : List Nat} {pins : List (Addr × Obj)} {σ : St} {H : Hp} {s : Shared} (I : Inv X pins σ H s) (hf : ∀ y, (y, NameKind.free) ∈ scope.names → X.env.kindOf y = some .cell ∨ X.env.kindOf y = some .free) :
    ∀ y, (y, NameKind.free) ∈ scope.names → ∃ c, X.env.cells.lookup y = some c := fun y hy => I.ok.has y (hf y hy)
variable {elt iter : Expr} {x : Str} {px pos : Pos} {ifs : List Expr} {scope : Scope} {wi : TI} {tc : TT} {te : TE} {js : List Nat}
theorem pe_compF (hc : X.calm = true) (hi : PI X (.Name x px) iter wi) (hk : scope.kind = .function) (hcell : ∀ y ∈ scope.names, y.2 ≠ .cell) (hnames : ∀ y ∈ scope.names, y.2 = .local → scope.names.lookup y.1 = some .local) (hx : (relabel scope X.env).names.lookup x = some .local)
    (hf : ∀ p ∈ scope.names, p.2 = .free → X.env.kindOf p.1 = some .cell ∨ X.env.kindOf p.1 = some .free) (hjs : FreeAt X scope js) (hnd : (cNames X x js).Nodup)
    (ht : ∀ cl s' H' fp, PIf (cxComp X scope cl (cNames X x js) s' H' fp) ifs tc) (he : ∀ cl s' H' fp, PE (cxComp X scope cl (cNames X x js) s' H' fp) elt te)
    (hs : ∀ x, foldedSetIterable iter X.env x = pure x := by intro _; rfl) : PE X (.ListComp elt [⟨.Name x px, iter, ifs, 0⟩] scope pos) (tComp wi tc te js) := by
  intro pins s σ H Q I h
  obtain ⟨cl, e, p1, p2⟩ := clo_of (free_of (js := js) I fun y hy => hf (y, .free) hy rfl)
  exact pe_comp hc hi hk hcell hnames hx e p1 p2 hjs hnd (ht cl) (he cl) hs pins s σ H Q I h
theorem ps_setF {y : Str} {i : Nat} {py spos : Pos} (hN : X.N.Nodup) (hy : X.N[i]? = some y) (hyl : Loc X.env.scope y) (hyf : X.fn y = true ∨ X.env.scope.names.lookup y = some .local)
    (hsw : swapsWith (.ListComp elt [⟨.Name x px, iter, ifs, 0⟩] scope pos) (some (.Name y py)) spos.line X.env = pure true)
    (hc : X.calm = true) (hi : PI X (.Name x px) iter wi) (hk : scope.kind = .function) (hcell : ∀ y ∈ scope.names, y.2 ≠ .cell) (hnames : ∀ y ∈ scope.names, y.2 = .local → scope.names.lookup y.1 = some .local) (hx : (relabel scope X.env).names.lookup x = some .local)
    (hf : ∀ p ∈ scope.names, p.2 = .free → X.env.kindOf p.1 = some .cell ∨ X.env.kindOf p.1 = some .free) (hjs : FreeAt X scope js) (hnd : (cNames X x js).Nodup)
    (ht : ∀ cl s' H' fp, PIf (cxComp X scope cl (cNames X x js) s' H' fp) ifs tc) (he : ∀ cl s' H' fp, PE (cxComp X scope cl (cNames X x js) s' H' fp) elt te)
    (hs : ∀ x, foldedSetIterable iter X.env x = pure x := by intro _; rfl) :
    PS X (.Assign [.Name y py] (.ListComp elt [⟨.Name x px, iter, ifs, 0⟩] scope pos) spos) (tAsgC i (tComp wi tc te js)) := by
  intro pins s σ H D I h
  obtain ⟨cl, e, p1, p2⟩ := clo_of (free_of (js := js) I fun y hy => hf (y, .free) hy rfl)
  exact ps_setC hN hy hyl hyf hsw hc hi hk hcell hnames hx e p1 p2 hjs hnd (ht cl) (he cl) hs pins s σ H D I h
end
end L2


set_option Elab.async false
set_option maxRecDepth 100000
set_option maxHeartbeats 4000000
/-! ### the law's call, with the bound of its ints' bits -/
namespace L2
open PySem PySem.Spec PyProof.Rows PySem.W
theorem weight_mem : ∀ {ns : List Int} {n : Int}, n ∈ ns → WData.weight (.int n) ≤ WData.weightAll (ns.map WData.int)
  | [], _, h => nomatch h
  | m :: r, n, h => by
    show _ ≤ WData.weight (.int m) + 1 + WData.weightAll (r.map WData.int)
    rcases List.mem_cons.mp h with e | e
    · subst e; omega
    · have := weight_mem (ns := r) e
      omega
theorem bits_weight (n : Int) : Builtin.Int.intBits n = WData.weight (.int n) := by
  show _ = if n == 0 then 0 else n.natAbs.log2 + 1
  unfold Builtin.Int.intBits
  by_cases h : n = 0
  · subst h; rfl
  · simp [h]
theorem script_bits {ns : List Int} (h : WData.layableAll [.list (ns.map .int)] = true) : ∀ n ∈ ns, Builtin.Int.intBits n ≤ 1048576 := fun n hn => by
  have h1 : WData.layable (.list (ns.map .int)) = true := by
    simpa [WData.layableAll] using h
  have h2 : WData.weight (.list (ns.map .int)) ≤ 2 ^ 20 := by
    unfold WData.layable at h1
    rw [Bool.and_eq_true, Bool.and_eq_true] at h1
    exact of_decide_eq_true h1.2
  have h3 : WData.weightAll (ns.map WData.int) ≤ 2 ^ 20 := h2
  have h4 := weight_mem hn
  rw [bits_weight]
  omega
end L2


set_option Elab.async false
set_option linter.all false
set_option maxRecDepth 100000
set_option maxHeartbeats 4000000
namespace L2
open PySem PySem.Spec PyProof.Rows

/-! ### data in the heap: ints, truths, texts, None, and tuples of these -/
mutual
def Dat (K : PySem.W.Frag) (H : Hp) : PyData → V → Prop
  | .none, v => v = .non
  | .bool b, v => v = .bl b
  | .int i, v => v = .int i
  | .str x, v => v = .str x
  | .tuple ds, v => ∃ a xs, v = .ref a ∧ SqT K H a xs ∧ DatAll K H ds xs
  | .list _, _ => False
  | .dict _, _ => False
def DatAll (K : PySem.W.Frag) (H : Hp) : List PyData → List V → Prop
  | [], xs => xs = []
  | d :: ds, xs => ∃ x r, xs = x :: r ∧ Dat K H d x ∧ DatAll K H ds r
end
/-- tuples, and what is frozen, stay -/
structure Tst (H H' : Hp) : Prop where
  t : ∀ b xs, H b = some (.tup xs) → H' b = some (.tup xs)
  f : ∀ b o u, H b = some (.frz o u) → H' b = some (.frz o u)
theorem Tst.trans {H H1 H2 : Hp} (a : Tst H H1) (b : Tst H1 H2) : Tst H H2 := ⟨fun c xs h => b.t c xs (a.t c xs h), fun c o u h => b.f c o u (a.f c o u h)⟩
theorem Same.ts {H H' : Hp} (e : Same H H') : Tst H H' := ⟨fun b xs h => e b _ h, fun b o u h => e b _ h⟩
theorem ts_mut {H : Hp} {l : Addr} {xs : List V} {o : HO} (e : H l = some (.lst xs)) : Tst H (upd H l o) :=
  ⟨fun b ys h => by rw [upd_ne (ne_of h e (by intro z; cases z))]; exact h, fun b o u h => by rw [upd_ne (ne_of h e (by intro z; cases z))]; exact h⟩
theorem SqT.ts {K : PySem.W.Frag} {H H' : Hp} {a : Addr} {xs : List V} (h : SqT K H a xs) (e : Tst H H') : SqT K H' a xs := by
  rcases h with (h | ⟨o, h⟩) | h
  · exact .inl (.inl (e.t _ _ h))
  · exact .inl (.inr ⟨o, e.f _ _ _ h⟩)
  · exact .inr h
mutual
theorem Dat.ts {K : PySem.W.Frag} {H H' : Hp} (e : Tst H H') : ∀ {d : PyData} {v : V}, Dat K H d v → Dat K H' d v
  | .none, _, h => h
  | .bool _, _, h => h
  | .int _, _, h => h
  | .str _, _, h => h
  | .tuple _, _, ⟨a, xs, h1, h2, h3⟩ => ⟨a, xs, h1, h2.ts e, DatAll.ts e h3⟩
  | .list _, _, h => h
  | .dict _, _, h => h
theorem DatAll.ts {K : PySem.W.Frag} {H H' : Hp} (e : Tst H H') : ∀ {ds : List PyData} {xs : List V}, DatAll K H ds xs → DatAll K H' ds xs
  | [], _, h => h
  | _ :: _, _, ⟨x, r, h1, h2, h3⟩ => ⟨x, r, h1, Dat.ts e h2, DatAll.ts e h3⟩
end
theorem DatAll.len {K : PySem.W.Frag} {H : Hp} : ∀ {ds : List PyData} {xs : List V}, DatAll K H ds xs → xs.length = ds.length
  | [], _, h => by subst h; rfl
  | _ :: _, _, ⟨x, r, h1, _, h3⟩ => by subst h1; simp [h3.len]
theorem DatAll.get {K : PySem.W.Frag} {H : Hp} : ∀ {ds : List PyData} {xs : List V} {i : Nat} {d : PyData}, DatAll K H ds xs → ds[i]? = some d → ∃ x, xs[i]? = some x ∧ Dat K H d x
  | [], _, _, _, _, e => by cases e
  | _ :: _, _, 0, _, ⟨x, r, h1, h2, _⟩, e => by subst h1; cases e; exact ⟨x, rfl, h2⟩
  | _ :: _, _, i + 1, _, ⟨x, r, h1, _, h3⟩, e => by
    subst h1
    obtain ⟨y, e1, e2⟩ := h3.get (i := i) (by simpa using e)
    exact ⟨y, by simpa using e1, e2⟩
theorem DatAll.get' {K : PySem.W.Frag} {H : Hp} {ds : List PyData} {xs : List V} {i : Nat} {x : V} (h : DatAll K H ds xs) (e : xs[i]? = some x) : ∃ d, ds[i]? = some d ∧ Dat K H d x := by
  have hl := h.len
  have hi := (List.getElem?_eq_some_iff.mp e).1
  have hd : ds[i]? = some (ds[i]'(by omega)) := List.getElem?_eq_getElem (by omega)
  obtain ⟨y, e1, e2⟩ := h.get hd
  rw [e] at e1
  cases e1
  exact ⟨_, hd, e2⟩
theorem DatAll.append {K : PySem.W.Frag} {H : Hp} : ∀ {ds es : List PyData} {xs ys : List V}, DatAll K H ds xs → DatAll K H es ys → DatAll K H (ds ++ es) (xs ++ ys)
  | [], _, _, _, h, g => by subst h; exact g
  | _ :: _, _, _, _, ⟨x, r, h1, h2, h3⟩, g => by subst h1; exact ⟨x, _, rfl, h2, h3.append g⟩
theorem DatAll.snoc {K : PySem.W.Frag} {H : Hp} {ds : List PyData} {xs : List V} {d : PyData} {x : V} (h : DatAll K H ds xs) (g : Dat K H d x) : DatAll K H (ds ++ [d]) (xs ++ [x]) := h.append ⟨x, [], rfl, g, rfl⟩
mutual
theorem Dat.reads {X : Cx} {pins : List (Addr × Obj)} {σ : St} {H : Hp} {s : Shared} (I : Inv X pins σ H s) : ∀ (d : PyData) {v : V} {u : Value}, Dat X.K H d v → RelV v u → ∃ as, Reads s.heap u d as
  | .none, _, _, h, r => by
    cases (show _ = V.non from h)
    cases (show _ = Value.none from r)
    exact ⟨[], .none⟩
  | .bool b, _, _, h, r => by
    cases (show _ = V.bl b from h)
    cases (show _ = Value.bool b from r)
    exact ⟨[], .bool b⟩
  | .int i, _, _, h, r => by
    cases (show _ = V.int i from h)
    obtain ⟨t, q⟩ := (show ∃ t, _ = Value.int i t from r)
    cases q
    exact ⟨[], .int i t⟩
  | .str x, _, _, h, r => by
    cases (show _ = V.str x from h)
    obtain ⟨t, q⟩ := (show ∃ t, _ = Value.str x t from r)
    cases q
    exact ⟨[], .str x t⟩
  | .tuple ds, _, _, ⟨a, xs, h1, h2, h3⟩, r => by
    cases h1
    cases (show _ = Value.ref a from r)
    obtain ⟨its, rv, ⟨o, ho, hc, n, hd⟩, _⟩ := I.tuple h2
    obtain ⟨as, ra⟩ := DatAll.reads I ds h3 rv
    exact ⟨as, .tuple ho hc hd (by simpa using ra)⟩
  | .list _, _, _, h, _ => False.elim h
  | .dict _, _, _, h, _ => False.elim h
theorem DatAll.reads {X : Cx} {pins : List (Addr × Obj)} {σ : St} {H : Hp} {s : Shared} (I : Inv X pins σ H s) : ∀ (ds : List PyData) {xs : List V} {us : List Value}, DatAll X.K H ds xs → Vals xs us → ∃ as, ReadsAll s.heap us ds as
  | [], _, _, h, r => by
    cases (show _ = ([] : List V) from h)
    cases r
    exact ⟨[], .nil⟩
  | d :: ds, _, _, ⟨x, t, h1, h2, h3⟩, r => by
    cases h1
    cases r with
    | cons r1 r2 =>
      obtain ⟨as, a1⟩ := Dat.reads I d h2 r1
      obtain ⟨bs, b1⟩ := DatAll.reads I ds h3 r2
      exact ⟨as ++ bs, .cons a1 b1⟩
end
/-- such data, or a list of such data -/
def DatX (K : PySem.W.Frag) (H : Hp) (d : PyData) (v : V) : Prop := Dat K H d v ∨ ∃ ds a xs, d = .list ds ∧ v = .ref a ∧ SqL K H a xs ∧ DatAll K H ds xs
theorem DatX.reads {X : Cx} {pins : List (Addr × Obj)} {σ : St} {H : Hp} {s : Shared} {d : PyData} {v : V} {u : Value} (I : Inv X pins σ H s) (h : DatX X.K H d v) (r : RelV v u) : ∃ as, Reads s.heap u d as := by
  rcases h with h | ⟨ds, a, xs, rfl, rfl, h2, h3⟩
  · exact Dat.reads I d h r
  · cases (show _ = Value.ref a from r)
    obtain ⟨its, rv, ⟨o, n, ho, hc, _, hd⟩, _⟩ := I.list h2
    obtain ⟨as, ra⟩ := DatAll.reads I ds h3 rv
    exact ⟨a :: as, .list ho hc hd (by simpa using ra)⟩
section
variable {X : Cx}
def rEqD (K : PySem.W.Frag) : R2 := fun x y H Q => ∃ d e, DatX K H d x ∧ DatX K H e y ∧ SeqAt.shaped d = true ∧ SeqAt.shaped e = true ∧ Q (.bl (PyData.eqv d e)) H
theorem op_eqD (hu : X.A.units + 64 < cLine) : OpR X (compareOp .Eq) (rEqD X.K) := by
  intro pins s σ H x y v u Q I rx ry h
  obtain ⟨d, e, hd, he, sd, se, q⟩ := h
  obtain ⟨as, ra⟩ := hd.reads I rx
  obtain ⟨bs, rb⟩ := he.reads I ry
  exact eq_dataH ra rb sd se hu ⟨.bl _, H, I, rfl, q⟩
/-! ### isinstance of a tuple, a list that is read -/
theorem call_isiT : CallR X (.builtin "isinstance") (fun xs H Q => ∃ (a : Addr) (ys : List V) (c : V) (cv : Value) (k : Bool), xs = [.ref a, c] ∧ (∀ u, RelV c u → u = cv) ∧ SqT X.K H a ys ∧ PySem.W.kitOne X.K (.type "tuple") cv = some k ∧ Q (.bl k) H) := by
  intro pins s σ H xs us Q I r h
  obtain ⟨a, ys, c, cv, k, rfl, hc, hq, kt, q⟩ := h
  obtain ⟨u, w', rfl, r1, r2⟩ := vals2 r
  have e := hc _ r2
  subst e
  cases (show u = Value.ref a from r1)
  obtain ⟨its, rv, ⟨o, h1, h2, _⟩, _⟩ := I.tuple hq
  exact PySem.W.kia_one PySem.W.kitx_tuple I.kIn ⟨o, h1, h2⟩ kt (fun z => nomatch z) fun tk => ⟨.bl k, H, I.tok tk, rfl, q⟩
theorem call_isiL : CallR X (.builtin "isinstance") (fun xs H Q => ∃ (a : Addr) (ys : List V) (c : V) (cv : Value) (k : Bool), xs = [.ref a, c] ∧ (∀ u, RelV c u → u = cv) ∧ SqL X.K H a ys ∧ PySem.W.kitOne X.K (.type "list") cv = some k ∧ Q (.bl k) H) := by
  intro pins s σ H xs us Q I r h
  obtain ⟨a, ys, c, cv, k, rfl, hc, hq, kt, q⟩ := h
  obtain ⟨u, w', rfl, r1, r2⟩ := vals2 r
  have e := hc _ r2
  subst e
  cases (show u = Value.ref a from r1)
  obtain ⟨its, rv, ⟨o, n, h1, h2, _⟩, _⟩ := I.list hq
  exact PySem.W.kia_one PySem.W.kitx_list I.kIn ⟨o, h1, h2⟩ kt (fun z => nomatch z) fun tk => ⟨.bl k, H, I.tok tk, rfl, q⟩
/-! ### all, any of a list of truths -/
end
/-! ### the same, where the context's K is named (within a comprehension the reading may not name the context) -/
section
variable {X : Cx} {K : PySem.W.Frag}
end
/-! ### what such data say when they are compared -/
/-! ### a tuple, an int that stands at the top -/
structure TopTup (K : PySem.W.Frag) (mg : Str → Option Value) (x : Str) (ns : List Int) : Prop where
  ex : ∃ a, mg x = some (.ref a) ∧ ∀ H, SqT K H a (ns.map V.int)
theorem toptup_mk {K : PySem.W.Frag} {h : Heap} {mg : Str → Option Value} {x : Str} {a : Addr} {od : Option Addr} {its : Array Value} {n : Nat} {osl : Array (Option Value)} {ns : List Int} (X : K.In h) (G : h.Ns mainGlobals mg)
    (e : PySem.W.nsIn K mainGlobals x = some (some (.ref a))) (l : K.lookup a = some ⟨.type "tuple", od, .seq its n, osl⟩) (hz : its.size ≤ sizeLine) (v : Vals (ns.map V.int) its.toList) : TopTup K mg x ns :=
  ⟨a, PySem.W.mg_of X G e, fun _ => .inr ⟨_, its, n, l, rfl, rfl, hz, v⟩⟩
theorem topint_mk {K : PySem.W.Frag} {h : Heap} {mg : Str → Option Value} {x : Str} {v : Value} {n : Int} (X : K.In h) (G : h.Ns mainGlobals mg) (e : PySem.W.nsIn K mainGlobals x = some (some v)) (q : ∃ t, v = .int n t) : ∃ t, mg x = some (.int n t) := by
  obtain ⟨t, rfl⟩ := q
  exact ⟨t, PySem.W.mg_of X G e⟩
end L2


set_option Elab.async false
set_option linter.all false
set_option maxRecDepth 100000
set_option maxHeartbeats 4000000
namespace L2
open PySem PySem.Spec PyProof.Rows
/-! ### what is never come to -/
def tDead : TS := fun _ _ _ => False
theorem ps_dead {X : Cx} {s : Stmt} : PS X s tDead := fun _ _ _ _ _ _ h => h.elim
/-! ### sum of a list of ints -/
/-! ### TABLE.get(x) of a dict at a file's top -/
end L2


set_option Elab.async false
set_option linter.all false
set_option maxRecDepth 100000
set_option maxHeartbeats 4000000
namespace L2
open PySem PySem.Spec PyProof.Rows
section
variable {X : Cx} {pins : List (Addr × Obj)} {σ : St} {H H' : Hp} {s s' : Shared} {h' : Heap}
/-- several records of ours have turned -/
theorem Inv.turnedL {t' : Nat} {fp : List Addr} (I : Inv X pins σ H s) (kp : ∀ b o, b ∉ fp → s.heap.get? b = some o → h'.get? b = some o) (hf : ∀ b ∈ fp, FpOk X pins H b) : Inv X pins σ H { s with heap := h', toks := t' } := by
  have far : ∀ b u, H b = some u → b ∉ fp := fun b u e z => by
    have := (hf b z).1
    rw [e] at this; cases this
  refine I.step (ch := fp) (g' := s.gens) (d' := s.drawn) (fun b hb => ⟨(hf b hb).2.2.2.1, (hf b hb).2.1, (hf b hb).2.2.2.2.1, (hf b hb).2.2.2.2.2⟩) (fun b o _ _ hc e _ => kp b o hc e) (fun b o _ _ hc e _ => ⟨o.slots, kp b o hc e⟩) (fun _ _ _ _ n => n)
    (fun b o hc e => ⟨o, kp b o hc e⟩) (fun _ _ e => e) (fun _ _ _ e => e) (fun b ps e => ⟨#[], by rw [e]; simp⟩) (fun m hm => ?_) (fun b u e => ?_) I.bare
  · obtain ⟨o, es, ep, ho, r⟩ := hm
    exact ⟨o, es, ep, kp _ o (fun z => (hf _ z).2.1 rfl) ho, r⟩
  · exact (I.hok b u e).stay (fun c v hc q => kp c v (hc.elim (fun z => by rw [z]; exact far b u e) fun z => far c _ z) q) (fun _ q => q) fun _ _ q => q
/-- what lies there untracked is tracked from now on -/
theorem Inv.trackO {a : Addr} {o : HO} (I : Inv X pins σ H s) (n : H a = none) (new : X.s₀.heap.get? a = none) (hL : a ≠ X.env.locals) (hc : ∀ x c, X.env.cells.lookup x = some c → c ≠ a) (hp : ∀ p ∈ X.pn ++ pins, p.1 ≠ a)
    (p : ObjOk X.prog X.w (upd H a o) s.heap a o) : Inv X pins σ (upd H a o) s :=
  ⟨I.ok, I.os, I.bare, ⟨I.base.keep, I.base.slot, fun b o e z hx => by rw [upd_ne (fun q => by rw [q, new] at e; cases e)]; exact I.base.free b o e z hx, I.base.there,
      fun b xs e => by have q := I.base.tups b xs e; rw [upd_ne (ne_of_none q n)]; exact q, fun b o u e => by have q := I.base.frzs b o u e; rw [upd_ne (ne_of_none q n)]; exact q,
      fun b ps e => by obtain ⟨m, q⟩ := I.base.tbls b ps e; exact ⟨m, by rw [upd_ne (ne_of_none q n)]; exact q⟩⟩,
    I.loc, I.cell, by rw [upd_ne (Ne.symm hL)]; exact I.free, fun x c e => by rw [upd_ne (hc x c e)]; exact I.freeC x c e,
    fun q hq => by obtain ⟨a1, a2, a3⟩ := I.pin q hq; exact ⟨a1, by rw [upd_ne (hp q hq)]; exact a2, a3⟩,
    fun b u e => by
      by_cases hb : b = a
      · subst hb
        rw [upd_same] at e
        cases e
        exact p
      · rw [upd_ne hb] at e
        exact (I.hok b u e).stay (fun _ _ _ z => z) (fun c z => by rw [upd_ne (ne_of_none z n)]; exact z) fun c xs z => by rw [upd_ne (ne_of_none z n)]; exact z,
    I.len⟩
end

/-! ### what yields a new tuple at each turn -/
/-- src: what stands in the tuple of turn i -/
def ItT (go : Nat → Hp → Prop) (src : Nat → Hp → List V → Prop) (n : Nat → Hp → Prop) : It :=
  ⟨go, fun i H v H' => ∃ (T : Addr) (vs : List V), H T = none ∧ v = .ref T ∧ H' = upd H T (.tup vs) ∧ src i H vs, n⟩
/-- one turn, by the library's walk that yields tuples -/
theorem turn_item {X : Cx} {elts : List Expr} {kk : Nat} {tpos : Pos} {I₀ : Addr} {fp' wr fp : List Addr} {n : Nat} {Pt : Nat → Array Value → Prop} {St : Nat → Heap → Prop} {Mid : Nat → Addr → Heap → Prop} (W : WalksT X.prog X.w X.A I₀ fp' wr n Pt St Mid)
    {pins : List (Addr × Obj)} {s : Shared} {σ : L2.St} {H : Hp} {E : Value → Shared → Prop} {i : Nat} {vs : List V} {src : Nat → Hp → List V → Prop} {tn : Nat → Heap → Prop} (I : Inv X pins σ H s) (hf : ∀ b ∈ fp, FpOk X pins H b) (hob : ∀ b ∈ fp, ∃ o, s.heap.get? b = some o) (hw : ∀ b ∈ wr, b ∈ fp) (hi : i < n) (st : St i s.heap)
    (hv : ∀ vals, Pt i vals → Vals vs vals.toList) (hz : vs.length ≤ sizeLine) (hsrc : src i H vs) (htn : ∀ h, St (i + 1) h → tn (i + 1) h) {gop stp : Nat → Hp → Prop} :
    wpAny (model X.prog X.w) X.A (pyNext (.ref I₀)) (fun r s1 => ∃ u, r = some u ∧
      wpAny (model X.prog X.w) X.A (letOwnedTupleGo (.Tuple elts kk tpos) (.ref I₀) u) (fun _ s2 => ∃ x H', Inv X pins σ H' s2 ∧ RelV x u ∧ (ItT gop src stp).yld i H x H' ∧ tn (i + 1) s2.heap ∧ ∀ b ∈ fp, H' b = none) E s1) E s := by
  refine W.item i s _ _ hi st fun T vals h1 tk hP hT hTup hM kp => ?_
  refine ⟨.ref T, rfl, W.go elts kk tpos i T { s with heap := h1, toks := tk } _ _ hM fun h2 hst kp2 => ?_⟩
  have I1 : Inv X pins σ H { s with heap := h2, toks := tk } := I.turnedL (fun b o hb e => kp2 b o (fun z => hb (hw b z)) (kp b o (fun z => hb (hw b z)) e)) hf
  have nT : H T = none := I.hok.fresh hT
  have tup : h2.IsTuple T vals := by
    obtain ⟨o, e, r⟩ := hTup
    exact ⟨o, kp2 T o (W.apart i T h1 hM) e, r⟩
  have new : X.s₀.heap.get? T = none := by
    cases z : X.s₀.heap.get? T with
    | none => rfl
    | some o => exact absurd (Nat.lt_of_lt_of_le (Heap.lt_size z) (Nat.le_trans I.sz hT)) (Nat.lt_irrefl _)
  refine ⟨.ref T, upd H T (.tup vs), I1.trackO nT new (Nat.ne_of_gt (Nat.lt_of_lt_of_le I.lt hT)) (fun x c e z => ?_) (fun p hp z => ?_) ⟨hz, vals.toList, hv vals hP, (by rw [Array.toArray_toList]; exact tup)⟩, rfl, ⟨T, vs, nT, rfl, rfl, hsrc⟩, htn _ hst, fun b hb => ?_⟩
  · obtain ⟨v, o, ho, _⟩ := I.cell x c e
    exact absurd (Nat.lt_of_lt_of_le (Heap.lt_size ho) (by rw [z]; exact hT)) (Nat.lt_irrefl _)
  · exact absurd (Nat.lt_of_lt_of_le (Heap.lt_size (I.pin p hp).1) (by rw [z]; exact hT)) (Nat.lt_irrefl _)
  · have e0 := (hf b hb).1
    obtain ⟨o, ho⟩ := hob b hb
    have bT : b ≠ T := fun z => absurd (Nat.lt_of_lt_of_le (Heap.lt_size ho) (by rw [z]; exact hT)) (Nat.lt_irrefl _)
    rw [upd_ne bT]
    exact e0
/-! ### enumerate of a list -/
section
variable {X : Cx}
end
end L2


set_option Elab.async false
set_option linter.all false
set_option maxRecDepth 100000
set_option maxHeartbeats 4000000
namespace L2
open PySem PySem.Spec PyProof.Rows PySem.AutoSeq1
/-! ### enumerate of a tuple -/
abbrev titObj (t : Addr) : Obj := { cls := .type "tuple_iterator", data := .fields #[.ref t, .int 0 0] }
section
variable {prog : Program} {w : World} {A : Around} {E : Value → Shared → Prop} {s : Shared}
theorem nextOf_tup {it t : Addr} {i : Nat} {ys : Array Value} {x : Value} {Q : Value → Shared → Prop} (st : s.heap.IsTupleIter it t i) (tp : s.heap.IsTuple t ys) (e : ys[i]? = some x)
    (k : ∀ h', h'.IsTupleIter it t (i + 1) → Heap.SameBut it s.heap h' → Q x { s with heap := h' }) : wpAny (model prog w) A (Builtin.SmallTypes.nextOf (.ref it)) Q E s := by
  obtain ⟨ob, gb, cb, db⟩ := id st; obtain ⟨ot, gt, _, nt, dt⟩ := tp
  unfold Builtin.SmallTypes.nextOf; refine wpAny_bind (wpAny_callSpecial?_slot (name := Str.ofString "__next__") st.typeIs F.slot_tuple_iterator_next (wpAny_call_entry F.slot_tuple_iterator_next st.typeIs F.entry_tuple_iterator_next ?_ (F.args_tuple_iterator_next_1 _)))
  show wpAny _ _ (field (.ref it) 0 >>= _) _ _ s; refine wpAny_bind (wpAny_field gb db (x := .ref t) rfl ?_)
  show wpAny _ _ (if (Value.ref t == Value.none) = true then _ else _) _ _ s; rw [if_neg (show ¬ ((Value.ref t == Value.none) = true) from Bool.false_ne_true)]
  show wpAny _ _ (field (.ref it) 1 >>= _) _ _ s; refine wpAny_bind (wpAny_field gb db (x := .int i 0) rfl ?_)
  show wpAny _ _ (seqItems? (.ref t) >>= _) _ _ s; refine wpAny_bind (wpAny_seqItems gt dt ?_)
  simp only [Int.toNat_natCast, e]; refine wpAny_bind (wpAny_setField gb db (by simp) (wpAny_pure ⟨x, rfl, wpAny_pure (k _ ?_ (Heap.SameBut.update ..))⟩))
  exact ⟨_, Heap.get?_update_self _ gb (Obj.isFreed_of_fields (Obj.data_mapFields db _)), (Obj.cls_mapFields ..).trans cb, by rw [Obj.data_mapFields db]; simp [rawInt]⟩
theorem nextOf_tupEnd {it t : Addr} {i : Nat} {ys : Array Value} {Q : Value → Shared → Prop} (hd : A.handled = none) (st : s.heap.IsTupleIter it t i) (tp : s.heap.IsTuple t ys) (e : ys[i]? = none)
    (k : ∀ h' x, Heap.ExtBut it s.heap h' → (∃ o, h'.get? x = some o ∧ o.cls = .type "StopIteration") → E (.ref x) { s with heap := h' }) : wpAny (model prog w) A (Builtin.SmallTypes.nextOf (.ref it)) Q E s := by
  obtain ⟨ob, gb, cb, db⟩ := id st; obtain ⟨ot, gt, _, nt, dt⟩ := tp
  unfold Builtin.SmallTypes.nextOf; refine wpAny_bind (wpAny_callSpecial?_slot (name := Str.ofString "__next__") st.typeIs F.slot_tuple_iterator_next (wpAny_call_entry F.slot_tuple_iterator_next st.typeIs F.entry_tuple_iterator_next ?_ (F.args_tuple_iterator_next_1 _)))
  show wpAny _ _ (field (.ref it) 0 >>= _) _ _ s; refine wpAny_bind (wpAny_field gb db (x := .ref t) rfl ?_)
  show wpAny _ _ (if (Value.ref t == Value.none) = true then _ else _) _ _ s; rw [if_neg (show ¬ ((Value.ref t == Value.none) = true) from Bool.false_ne_true)]
  show wpAny _ _ (field (.ref it) 1 >>= _) _ _ s; refine wpAny_bind (wpAny_field gb db (x := .int i 0) rfl ?_)
  show wpAny _ _ (seqItems? (.ref t) >>= _) _ _ s; refine wpAny_bind (wpAny_seqItems gt dt ?_)
  simp only [Int.toNat_natCast, e]; refine wpAny_bind (wpAny_rule (wpAny_bind (wpAny_setField gb db (by simp) ?_)))
  show wpAny _ _ (newExc (.type "StopIteration") [] >>= _) _ _ _; refine wpAny_bind ?_; simp only [newExc, newTuple]
  refine wpAny_bind (wpAny_newObj_type ?_ (by size_fits)); refine wpAny_bind (m := firstArgMember _ _) (wpAny_of_eq (a := Value.none) (by first | rfl | (simp only [firstArgMember]; rfl)) ?_); refine wpAny_newObj_type ?_ (by size_fits)
  simp only [raiseNew]; refine wpAny_bind (wpAny_handled ?_); first | rw [show A.in1.handled = none from hd] | rw [hd]
  refine wpAny_bind (wpAny_pure (wpAny_throw ?_)); exact k _ _ (((Heap.SameBut.update ..).extBut.push _).push _) ⟨_, Heap.get?_push_size _ rfl, rfl⟩
theorem draws_tup (hd : A.handled = none) (it t : Addr) (ne : t ≠ it) (ys : Array Value) : Draws prog w A it [it, t] ys.size (fun i v => ys[i]? = some v) (fun i h => h.IsTupleIter it t i ∧ h.IsTuple t ys) where
  live := fun _ _ z => let ⟨o, q, _⟩ := z.1; ⟨o, q⟩
  frame := fun _ _ _ z kp => by
    obtain ⟨⟨o, q, r⟩, ⟨o', q', r'⟩⟩ := z
    exact ⟨⟨o, kp it (by simp) o q, r⟩, ⟨o', kp t (by simp) o' q', r'⟩⟩
  item := fun i s Q E hi z kq => by
    refine nextOf_tup z.1 z.2 (x := ys[i]) (by simp [hi]) fun h' z' sb => ?_
    exact kq _ h' s.toks (by simp [hi]) ⟨z', z.2.extBut sb.extBut ne⟩ sb
  done := fun s Q E z kq => nextOf_tupEnd hd z.1 z.2 (by simp) kq
theorem enum_newT (l : Addr) (ys : Array Value) (n : Nat) (dct : Option Addr) (sl : Array (Option Value)) : Meets (Builtin.«enumerate.__new__» ⟨[.type "enumerate", .ref l], []⟩) (fun _ R s => s.heap.get? l = some { cls := .type "tuple", dict := dct, data := .seq ys n, slots := sl } ∧
      R (.ok (.ret (.ref (s.heap.push (titObj l)).objs.size))) { s with heap := (s.heap.push (titObj l)).push { cls := .type "enumerate", data := .fields #[.none, .bool false, .ref s.heap.objs.size, rawInt 0, .none, .none] } }) :=
  .of_wp fun prog w A R s h => by
    obtain ⟨hp, g, d, tk, os⟩ := s; obtain ⟨hl, h⟩ := h; have su := sub_enumerate
    have tT : Heap.IsTuple (Shared.heap ⟨hp, g, d, tk, os⟩) l ys := ⟨_, hl, rfl, n, rfl⟩
    wp_walk using wpAny_loadPart' hl
    refine wpAny_stack_any fun st => wpAny_pure ?_; split
    · rename_i c _ _ _ _ _; cases (c == Value.type "enumerate")
      · wp_walk using wpAny_loadPart' hl, wpAny_pyIter_tuple tT
        exact ⟨_, rfl, h⟩
      · wp_walk using wpAny_loadPart' hl, wpAny_pyIter_tuple tT
        exact ⟨_, rfl, h⟩
    · wp_walk using wpAny_loadPart' hl, wpAny_pyIter_tuple tT
      exact ⟨_, rfl, h⟩
theorem call_enumT {l : Addr} {ys : Array Value} {Q : Value → Shared → Prop} (tT : s.heap.IsTuple l ys)
    (k : ∀ h', IsEnum h' (s.heap.objs.size + 1) s.heap.objs.size 0 .none → h'.IsTupleIter s.heap.objs.size l 0 → (∀ b o, s.heap.get? b = some o → h'.get? b = some o) → Q (.ref (s.heap.objs.size + 1)) { s with heap := h' }) : wpAny (model prog w) A (call (.type "enumerate") [.ref l]) Q E s := by
  obtain ⟨⟨c, dct, dt, sl⟩, hl, hc, n, hd⟩ := tT
  have hc' : c = .type "tuple" := hc
  have hd' : dt = .seq ys n := hd
  subst hc' hd'
  refine callType_new F.called_enumerate (by decide) (F.typeCall_enumerate_1 _) (F.newCall_enumerate_1 _) (fun obj => F.args_object_init_2 obj _) F.entry_enumerate_new (enum_newT l ys n dct sl) ⟨hl, ?_⟩
  have sz : (s.heap.push (titObj l)).objs.size = s.heap.objs.size + 1 := Heap.size_push ..
  show _ ∧ _; rw [sz]
  have en : IsEnum ((s.heap.push (titObj l)).push { cls := .type "enumerate", data := .fields #[.none, .bool false, .ref s.heap.objs.size, rawInt 0, .none, .none] }) (s.heap.objs.size + 1) s.heap.objs.size 0 .none := by
    have z := Heap.get?_push_size (s.heap.push (titObj l)) (o := { cls := .type "enumerate", data := .fields #[.none, .bool false, .ref s.heap.objs.size, rawInt 0, .none, .none] }) rfl
    rw [sz] at z; exact z
  exact ⟨⟨_, en, rfl⟩, k _ en ⟨_, Heap.get?_push_of_some _ (Heap.get?_push_size _ rfl), rfl, rfl⟩ fun b o x => Heap.get?_push_of_some _ (Heap.get?_push_of_some _ x)⟩
end
def srcET (K : PySem.W.Frag) (a : Addr) : Nat → Hp → List V → Prop := fun i H vs => ∃ x, vs = [.int i, x] ∧ ∀ xs, SqT K H a xs → xs[i]? = some x
def ItET (K : PySem.W.Frag) (a : Addr) : It := ItT (fun i H => ∃ xs x, SqT K H a xs ∧ xs[i]? = some x) (srcET K a) fun i H => ∃ xs, SqT K H a xs ∧ xs.length ≤ i
theorem isTup_ne {h : Heap} {a b : Addr} {its : Array Value} {o : Obj} {T : String} (l : h.IsTuple a its) (e : h.get? b = some o) (c : o.cls = .type T) (n : T ≠ "tuple") : a ≠ b := fun z => by
  obtain ⟨o', e', c', _⟩ := l
  rw [z, e] at e'
  cases e'
  rw [c] at c'
  exact n (Value.type.inj c')
theorem turn_enumT {P : Program} {w : World} {K : PySem.W.Frag} {elts : List Expr} {kk : Nat} {tpos : Pos} (a e it : Addr) (hei : e ≠ it) :
    Turn P w K (.Tuple elts kk tpos) (ItET K a) [e, it] e (fun i h => (∃ old, IsEnum h e it i old) ∧ h.IsTupleIter it a i) where
  mem := by simp
  obj := fun i h st b hb => by
    obtain ⟨⟨old, he⟩, o, ho, _, hd⟩ := st
    rcases List.mem_cons.mp hb with rfl | hb
    · exact ⟨_, he, fun v z => by cases z⟩
    · rw [List.mem_singleton.mp hb]
      exact ⟨o, ho, fun v z => by rw [hd] at z; cases z⟩
  keep := fun i h h' st k => by
    obtain ⟨⟨old, he⟩, o, ho, r⟩ := st
    exact ⟨⟨old, k e (by simp) _ he⟩, o, k it (by simp) o ho, r⟩
  item := by
    intro X hP hw hK hc i pins s σ H E I hf st hg
    subst hP hw hK
    obtain ⟨xs, x, hq, hx⟩ := hg
    obtain ⟨its, rv, p, hz⟩ := I.tuple hq
    obtain ⟨u, hu, ru⟩ := rv.get hx
    obtain ⟨⟨old, he⟩, hit⟩ := st
    have hL : s.heap.IsTuple a its.toArray := p
    have ne1 : a ≠ e := isTup_ne hL he rfl (by decide)
    have ne2 : a ≠ it := by
      obtain ⟨o, ho, hc', _⟩ := id hit
      exact isTup_ne hL ho hc' (by decide)
    have W := WalksT.enumerateD (A := X.A) (draws_tup (prog := X.prog) (w := X.w) (A := X.A.in1) (I.ok.hd hc) it a ne2 its.toArray) e hei (by simp; exact ⟨hei, Ne.symm ne1⟩) (by simp)
    refine turn_item (fp := [e, it]) (vs := [.int i, x]) (src := srcET X.K a) (tn := fun i h => (∃ old, IsEnum h e it i old) ∧ h.IsTupleIter it a i) W I hf (fun b hb => ?_) (fun b hb => hb) (by have := (List.getElem?_eq_some_iff.mp hu).1; simpa using this) ⟨⟨old, he⟩, hit, hL⟩ (fun vals hP => ?_) (by show 2 ≤ sizeLine; decide) ⟨x, rfl, fun ys hy => by rw [I.tuple_inj hy hq]; exact hx⟩ fun h st => ⟨?_, st.2.1⟩
    · rcases List.mem_cons.mp hb with rfl | hb
      · exact ⟨_, he⟩
      · rw [List.mem_singleton.mp hb]
        obtain ⟨o, ho, _⟩ := id hit
        exact ⟨o, ho⟩
    · obtain ⟨t, y, hy, rfl⟩ := hP
      have ey : y = u := by
        have : its[i]? = some y := by simpa using hy
        rw [hu] at this
        exact (Option.some.inj this).symm
      subst ey
      exact .cons ⟨t, rfl⟩ (.cons ru .nil)
    · obtain ⟨old', z⟩ := st.1
      exact ⟨old', z⟩
  done := by
    intro X hP hw hK hc i pins s σ H E I hf st hg
    subst hP hw hK
    obtain ⟨xs, hq, hx⟩ := hg
    obtain ⟨its, rv, p, hz⟩ := I.tuple hq
    obtain ⟨⟨old, he⟩, hit⟩ := st
    have hL : s.heap.IsTuple a its.toArray := p
    have hl := rv.length
    have ne2 : a ≠ it := by
      obtain ⟨o, ho, hc', _⟩ := id hit
      exact isTup_ne hL ho hc' (by decide)
    obtain ⟨f0, f1, f2, f3, f4, f5⟩ := hf it (by simp)
    have st2 : s.heap.IsTupleIter it a i := hit
    unfold pyNext
    have hT : s.TypeIs (.ref e) "enumerate" := ⟨_, he, rfl⟩
    refine wpAny_bind (wpAny_attempt (wpAny_callSpecial?_slot (name := Str.ofString "__next__") hT F.slot_enumerate_next (wpAny_call_entry F.slot_enumerate_next hT F.entry_enumerate_next ?_ (F.args_enumerate_next_1 _))))
    show wpAny _ _ (field (.ref e) 2 >>= _) _ _ _; refine wpAny_bind (wpAny_field he rfl (x := .ref it) rfl ?_)
    refine wpAny_bind (nextOf_tupEnd (I.ok.hd hc) st2 hL (by simp; omega) fun h' x eb ox => ?_); obtain ⟨o, ho, hoc⟩ := ox
    refine wpAny_bind (wpAny_isInstance (T := "StopIteration") (b := true) ⟨o, ho, hoc⟩ isSubtype_stop ?_); exact wpAny_pure ⟨rfl, I.turned (t' := s.toks) (fun b o hb e => eb b o hb e) f0 f1 f3 f4 f5⟩
  self := fun _ _ _ _ _ st h => by
    obtain ⟨⟨old, he⟩, _⟩ := st
    exact wpAny_pyIter_enum he h
section
variable {X : Cx}
def iEnumT (K : PySem.W.Frag) (tl : TE) : TI := fun σ H R => tl σ H fun x H1 => ∃ a, x = .ref a ∧ (∃ xs, SqT K H1 a xs) ∧ R (ItET K a) H1
theorem pi_enumT {elts : List Expr} {kk : Nat} {tpos p pos : Pos} {e : Expr} {te : TE} (hg : Gl X "enumerate") (hm : X.mg "enumerate" = none) (he : PE X e te)
    (hs : starEach [e] X.env = [(false, eval e X.env)] := by rfl) : PI X (.Tuple elts kk tpos) (.Call (.Name "enumerate" p) [e] [] pos) (iEnumT X.K te) := by
  intro pins s σ H R I h
  have b1 : bootBuiltins "enumerate" = some (.type "enumerate") := by decide +kernel
  refine wpAny_Call_Name_kw (ld_blt I hg hm b1 ?_ (by decide) (by decide))
  refine PyProof.Rows.callWith_type1 ?_ hs (by rfl)
  rw [hs]
  refine Calls.spliced_cons (thn (he pins s σ H _ I h) fun u s1 ⟨y, H1, I1, ry, a, ey, ⟨xs, hq⟩, q⟩ => ?_)
  subst ey
  have eu : u = Value.ref a := ry
  subst eu
  refine Calls.spliced_nil ?_
  obtain ⟨its, rv, pl, hz⟩ := I1.tuple hq
  refine call_enumT (show s1.heap.IsTuple a its.toArray from pl) fun h' e1 e2 kp => ?_
  have I2 : Inv X pins σ H1 { s1 with heap := h' } := I1.kept (t' := s1.toks) kp
  refine wpAny_pyIter_enum (s := { s1 with heap := h' }) e1 ?_
  refine ⟨_, [s1.heap.objs.size + 1, s1.heap.objs.size], _, ItET X.K a, H1, rfl, I2, turn_enumT a _ _ (Nat.ne_of_gt (Nat.lt_succ_self _)), ⟨⟨_, e1⟩, e2⟩, fun b hb => ?_, q⟩
  have nb : s1.heap.objs.size ≤ b := by
    rcases List.mem_cons.mp hb with rfl | hb
    · exact Nat.le_succ _
    · rw [List.mem_singleton.mp hb]; exact Nat.le_refl _
  exact I1.fpOk nb (I1.hok.fresh nb)
end
theorem for_enumT {K : PySem.W.Frag} {a : Addr} {xs : List V} {g : TG} {tb : TS} {D : Ends} {σ : St} {H : Hp} (Pv : Nat → St → Hp → Prop) (h0 : Pv 0 σ H) (hl : ∀ i σ H, i ≤ xs.length → Pv i σ H → SqT K H a xs)
    (hs : ∀ i x T σ H, xs[i]? = some x → Pv i σ H → H T = none → g (.ref T) σ (upd H T (.tup [.int i, x])) fun σ2 H2 => tb { D with nx := Pv (i + 1), ct := Pv (i + 1), bk := D.nx } σ2 H2) (hd : ∀ σ H, Pv xs.length σ H → D.nx σ H) :
    ∃ W : Nat → Nat → St → Hp → Prop, (∃ m, W 0 m σ H) ∧ ∀ i m σ H, W i m σ H →
      ((ItET K a).stop i H ∧ D.nx σ H) ∨ ((ItET K a).go i H ∧ ∃ N : St → Hp → Prop, (∀ σ' H', N σ' H' → ∃ m', m' < m ∧ W (i + 1) m' σ' H') ∧ ∀ x H', (ItET K a).yld i H x H' → g x σ H' fun σ2 H2 => tb { D with nx := N, ct := N, bk := D.nx } σ2 H2) := by
  refine ⟨fun i m σ H => m = xs.length - i ∧ i ≤ xs.length ∧ Pv i σ H, ⟨xs.length, by simp, Nat.zero_le _, h0⟩, ?_⟩
  rintro i m σ H ⟨rfl, hi, p⟩
  have q := hl i σ H hi p
  by_cases hlt : i < xs.length
  · refine .inr ⟨⟨xs, xs[i], q, by simp [hlt]⟩, Pv (i + 1), fun σ' H' p' => ⟨xs.length - (i + 1), by omega, rfl, hlt, p'⟩, fun x H' y => ?_⟩
    obtain ⟨T, vs, nT, rfl, rfl, x, rfl, hx⟩ := y
    exact hs i x T σ H (hx xs q) p nT
  · have e : i = xs.length := by omega
    subst e
    exact .inl ⟨⟨xs, q, Nat.le_refl _⟩, hd σ H p⟩
end L2


set_option Elab.async false
namespace Mine
namespace Lo
/-- the greatest common factor, as an int -/
def gc (a b : Int) : Int := (Int.gcd a b : Nat)
theorem gc_pos {a b : Int} (h : b ≠ 0) : 0 < gc a b := by
  have := Int.gcd_pos_of_ne_zero_right a h
  unfold gc; omega
theorem gc_zero {a : Int} (h : 0 ≤ a) : gc a 0 = a := by
  unfold gc; rw [Int.gcd_zero_right]; omega
theorem gc_natAbs (a b : Int) : gc a.natAbs b.natAbs = gc a b := by
  unfold gc Int.gcd; simp
theorem gc_turn (g l : Int) : gc l (g.fmod l) = gc g l := by
  unfold gc
  congr 1
  rw [Int.fmod_def]
  rw [Int.gcd_comm g l]
  have : g - l * g.fdiv l = g + l * (-(g.fdiv l)) := by rw [Int.mul_neg]; omega
  rw [this]
  exact Int.gcd_add_mul_left_right ..
theorem gc_dvd_left (a b : Int) : gc a b ∣ a := Int.gcd_dvd_left ..
theorem gc_dvd_right (a b : Int) : gc a b ∣ b := Int.gcd_dvd_right ..
/-- the factor with the bottom's sign -/
def sg (t b : Int) : Int := if b < 0 then -(gc t b) else gc t b
def lowT (t b : Int) : Int := t.fdiv (sg t b)
def lowB (t b : Int) : Int := b.fdiv (sg t b)
theorem sg_ne {t b : Int} (h : b ≠ 0) : sg t b ≠ 0 := by
  have := gc_pos (a := t) h
  unfold sg; split <;> omega
theorem sg_dvd_t (t b : Int) : sg t b ∣ t := by
  unfold sg; split
  · exact Int.neg_dvd.mpr (gc_dvd_left t b)
  · exact gc_dvd_left t b
theorem sg_dvd_b (t b : Int) : sg t b ∣ b := by
  unfold sg; split
  · exact Int.neg_dvd.mpr (gc_dvd_right t b)
  · exact gc_dvd_right t b
theorem lowT_eq (t b : Int) : sg t b * lowT t b = t := by
  unfold lowT
  rw [Int.fdiv_eq_ediv_of_dvd (sg_dvd_t t b)]
  exact Int.mul_ediv_cancel' (sg_dvd_t t b)
theorem lowB_eq (t b : Int) : sg t b * lowB t b = b := by
  unfold lowB
  rw [Int.fdiv_eq_ediv_of_dvd (sg_dvd_b t b)]
  exact Int.mul_ediv_cancel' (sg_dvd_b t b)
theorem lowB_pos {t b : Int} (h : b ≠ 0) : 0 < lowB t b := by
  have e := lowB_eq t b
  have g := gc_pos (a := t) h
  rcases Int.lt_trichotomy (lowB t b) 0 with q | q | q
  · exfalso
    by_cases c : b < 0
    · have s : sg t b = -(gc t b) := by unfold sg; rw [if_pos c]
      have s0 : sg t b < 0 := by omega
      have := Int.mul_pos_of_neg_of_neg s0 q
      omega
    · have s : sg t b = gc t b := by unfold sg; rw [if_neg c]
      have s0 : 0 < sg t b := by omega
      have := Int.mul_neg_of_pos_of_neg s0 q
      omega
  · rw [q] at e; simp at e; omega
  · exact q
theorem gc_mul (f t b : Int) : gc (f * t) (f * b) = f.natAbs * gc t b := by
  unfold gc
  rw [Int.gcd_mul_left]
  rfl
theorem sg_mul {f : Int} (hf : f ≠ 0) (t : Int) {b : Int} (hb : b ≠ 0) : sg (f * t) (f * b) = f * sg t b := by
  unfold sg
  rw [gc_mul]
  rcases (by omega : 0 < f ∨ f < 0) with p | n
  · have e : (f.natAbs : Int) = f := by omega
    rw [e]
    by_cases c : b < 0
    · rw [if_pos c, if_pos (Int.mul_neg_of_pos_of_neg p c), Int.mul_neg]
    · have := Int.mul_pos p (show 0 < b by omega)
      rw [if_neg c, if_neg (by omega)]
  · have e : (f.natAbs : Int) = -f := by omega
    rw [e]
    by_cases c : b < 0
    · have := Int.mul_pos_of_neg_of_neg n c
      rw [if_pos c, if_neg (by omega), Int.mul_neg, Int.neg_mul]
    · have := Int.mul_neg_of_neg_of_pos n (show 0 < b by omega)
      rw [if_neg c, if_pos (by omega), Int.neg_mul, Int.neg_neg]
theorem lowT_mul {f : Int} (hf : f ≠ 0) (t : Int) {b : Int} (hb : b ≠ 0) : lowT (f * t) (f * b) = lowT t b := by
  have h := lowT_eq (f * t) (f * b)
  rw [sg_mul hf t hb, Int.mul_assoc] at h
  have h2 := Int.eq_of_mul_eq_mul_left hf h
  have h3 := lowT_eq t b
  exact Int.eq_of_mul_eq_mul_left (sg_ne hb) (h2.trans h3.symm)
theorem lowB_mul {f : Int} (hf : f ≠ 0) (t : Int) {b : Int} (hb : b ≠ 0) : lowB (f * t) (f * b) = lowB t b := by
  have h := lowB_eq (f * t) (f * b)
  rw [sg_mul hf t hb, Int.mul_assoc] at h
  have h2 := Int.eq_of_mul_eq_mul_left hf h
  have h3 := lowB_eq t b
  exact Int.eq_of_mul_eq_mul_left (sg_ne hb) (h2.trans h3.symm)
/-- sizes -/
theorem natAbs_le_of_mul {s x n : Int} (hs : s ≠ 0) (e : s * x = n) : x.natAbs ≤ n.natAbs := by
  rw [← e, Int.natAbs_mul]
  have : 1 ≤ s.natAbs := by omega
  exact Nat.le_mul_of_pos_left _ this
theorem lowT_le {t b : Int} (hb : b ≠ 0) : (lowT t b).natAbs ≤ t.natAbs := natAbs_le_of_mul (sg_ne hb) (lowT_eq t b)
theorem lowB_le {t b : Int} (hb : b ≠ 0) : (lowB t b).natAbs ≤ b.natAbs := natAbs_le_of_mul (sg_ne hb) (lowB_eq t b)
theorem gc_le {t b : Int} (hb : b ≠ 0) : (gc t b).natAbs ≤ b.natAbs := by
  have h := Int.gcd_dvd_right (a := t) (b := b)
  have := Nat.le_of_dvd (by omega) (Int.natAbs_dvd_natAbs.mpr h)
  unfold gc; exact this
theorem sg_le {t b : Int} (hb : b ≠ 0) : (sg t b).natAbs ≤ b.natAbs := by
  have := gc_le (t := t) hb
  unfold sg; split <;> omega
/-- a fraction in lowest terms is its own -/
theorem low_own {p q : Int} (hq : 0 < q) (h : gc p q = 1) : lowT p q = p ∧ lowB p q = q := by
  have s : sg p q = 1 := by unfold sg; rw [if_neg (by omega), h]
  have h1 := lowT_eq p q
  have h2 := lowB_eq p q
  rw [s, Int.one_mul] at h1 h2
  exact ⟨h1, h2⟩
theorem sg_pos {t b : Int} (hb : 0 < b) : 0 < sg t b := by
  have := gc_pos (a := t) (b := b) (by omega)
  unfold sg; rw [if_neg (by omega)]; exact this
end Lo

/-! ### stretches and lines, as they are told -/
structure St4 where
  p : Int
  q : Int
  m : Int
  h : Int
  deriving DecidableEq
namespace Ln
/-! ### the stretch in which x lies -/
end Ln
end Mine


set_option Elab.async false
set_option linter.all false
set_option maxRecDepth 100000
set_option maxHeartbeats 4000000
namespace Mine
open PySem L2
/-! ### small numbers -/
def Sm (x : Int) : Prop := x.natAbs < 2 ^ 200
abbrev bits (x : Int) : Nat := Builtin.Int.intBits x
theorem bits_of {x : Int} {m : Nat} (h : x.natAbs < 2 ^ m) : bits x ≤ m := intBits_le_iff.mpr h
theorem mulS {a b : Int} (ha : Sm a) (hb : Sm b) : IntMulOk a b := IntMulOk.of_le (m := 200) (n := 200) (bits_of ha) (bits_of hb) (by decide)
theorem sm_of {x : Int} (h : x.natAbs ≤ 10 ^ 50) : Sm x := Nat.lt_of_le_of_lt h (by decide +kernel)
theorem div_ok {t x : Int} (h0 : x ≠ 0) (h : Sm x) : CDivK t x := ⟨h0, Nat.lt_of_lt_of_le ((Nat.log2_lt (by omega)).mpr h) (by decide)⟩
theorem abs_is (i : Int) : (if i < 0 then -i else i) = (i.natAbs : Int) := by split <;> omega
/-! ### items of the script -/
theorem at_script {ns : List Int} {i : Int} (h0 : 0 ≤ i) (h : i < (ns.length : Int)) : ∃ v : Int, atI (ns.map V.int) i = some (.int v) ∧ v ∈ ns := by
  have hi : i.toNat < ns.length := by omega
  have ek : i = ((i.toNat : Nat) : Int) := by omega
  have q : atI (ns.map V.int) ((i.toNat : Nat) : Int) = some (.int ns[i.toNat]) := atI_nat (by rw [List.getElem?_map, List.getElem?_eq_getElem hi] <;> rfl)
  rw [← ek] at q
  exact ⟨_, q, List.getElem_mem hi⟩
theorem at_of {xs : List V} {i : Int} {x : V} (h0 : 0 ≤ i) (h : xs[i.toNat]? = some x) : atI xs i = some x := by
  have ek : i = ((i.toNat : Nat) : Int) := by omega
  rw [ek]
  exact atI_nat h
/-- a script as the law has it: a list of at most 63 ints, each of at most 2 ** 20 bits; it is frozen -/
structure Scr (K : PySem.W.Frag) (H : Hp) (a : Addr) (ns : List Int) : Prop where
  sq : (∃ o, H a = some (.frz o (.lst (ns.map V.int)))) ∨ ∃ (o : Obj) (its : Array Value) (n : Nat), K.lookup a = some o ∧ o.cls = .type "list" ∧ o.dict = none ∧ o.data = .seq its n ∧ its.size ≤ sizeLine ∧ Vals (ns.map V.int) its.toList
  few : ns.length ≤ 63
  bit : ∀ n ∈ ns, bits n ≤ 1048576
theorem Scr.l {K : PySem.W.Frag} {H : Hp} {a : Addr} {ns : List Int} (S : Scr K H a ns) : SqL K H a (ns.map V.int) := S.sq.elim (fun h => .inl (.inr h)) .inr
theorem Scr.ts {K : PySem.W.Frag} {H H' : Hp} {a : Addr} {ns : List Int} (S : Scr K H a ns) (e : Tst H H') : Scr K H' a ns := ⟨S.sq.elim (fun ⟨o, h⟩ => .inl ⟨o, e.f _ _ _ h⟩) .inr, S.few, S.bit⟩
theorem same_new {H : Hp} {p : Addr} (h : H p = none) (o : HO) : Same H (upd H p o) := fun b u q => by rw [upd_ne (ne_of_none q h)]; exact q
/-- a change at what was not there at first -/
theorem same_mut {H H' : Hp} {l : Addr} (e : Same H H') (h : H l = none) (o : HO) : Same H (upd H' l o) := fun b u q => by rw [upd_ne (ne_of_none q h)]; exact e b u q
/-! ### fractions, stretches, lines as data -/
def frD (p q : Int) : PyData := .tuple [.int p, .int q]
def stD (s : St4) : PyData := .tuple [frD s.p s.q, .int s.m, .int s.h]
def lnD (L : List St4) : PyData := .tuple (L.map stD)
section
variable {K : PySem.W.Frag} {H H' : Hp} {a : Addr} {v e : V} {p q m h : Int} {s : St4} {L : List St4}
theorem fr_mk (g : SqT K H a [.int p, .int q]) : Dat K H (frD p q) (.ref a) := ⟨a, _, rfl, g, _, _, rfl, rfl, _, _, rfl, rfl, rfl⟩
theorem fr_el (g : Dat K H (frD p q) v) : ∃ a, v = .ref a ∧ SqT K H a [.int p, .int q] := by
  obtain ⟨a, xs, rfl, g, x, r, rfl, hx, y, t, rfl, hy, ht⟩ := g
  cases (show x = V.int p from hx)
  cases (show y = V.int q from hy)
  cases (show t = [] from ht)
  exact ⟨a, rfl, g⟩
theorem st_mk (g : SqT K H a [e, .int s.m, .int s.h]) (f : Dat K H (frD s.p s.q) e) : Dat K H (stD s) (.ref a) := ⟨a, _, rfl, g, _, _, rfl, f, _, _, rfl, rfl, _, _, rfl, rfl, rfl⟩
theorem st_el (g : Dat K H (stD s) v) : ∃ a e, v = .ref a ∧ SqT K H a [e, .int s.m, .int s.h] ∧ Dat K H (frD s.p s.q) e := by
  obtain ⟨a, xs, rfl, g, x, r, rfl, hx, y, t, rfl, hy, z, u, rfl, hz, hu⟩ := g
  cases (show y = V.int s.m from hy)
  cases (show z = V.int s.h from hz)
  cases (show u = [] from hu)
  exact ⟨a, x, rfl, g, hx⟩
theorem ln_el (g : Dat K H (lnD L) v) : ∃ a xs, v = .ref a ∧ SqT K H a xs ∧ DatAll K H (L.map stD) xs := g
theorem ln_at' {xs : List V} (g : DatAll K H (L.map stD) xs) {i : Nat} {x : V} (h : xs[i]? = some x) : ∃ s, L[i]? = some s ∧ Dat K H (stD s) x := by
  obtain ⟨d, e1, e2⟩ := g.get' h
  rw [List.getElem?_map] at e1
  cases z : L[i]? with
  | none => rw [z] at e1; cases e1
  | some s => rw [z] at e1; cases e1; exact ⟨s, rfl, e2⟩
theorem ln_len {xs : List V} (g : DatAll K H (L.map stD) xs) : xs.length = L.length := by rw [g.len, List.length_map]
end
mutual
theorem eqv_self : ∀ d : PyData, d.canLay0 = true → PyData.eqv d d = true
  | .none, _ => by simp [PyData.eqv]
  | .bool _, _ => by simp [PyData.eqv]
  | .int _, _ => by simp [PyData.eqv]
  | .str _, _ => by simp [PyData.eqv]
  | .list xs, h => by simp only [PyData.eqv]; exact eqvAll_self xs (by simpa [PyData.canLay0] using h)
  | .tuple xs, h => by simp only [PyData.eqv]; exact eqvAll_self xs (by simpa [PyData.canLay0] using h)
  | .dict _, h => by simp [PyData.canLay0] at h
theorem eqvAll_self : ∀ xs : List PyData, PyData.canLayAll0 xs = true → PyData.eqvAll xs xs = true
  | [], _ => by simp [PyData.eqvAll]
  | x :: xs, h => by
    have h' : x.canLay0 = true ∧ PyData.canLayAll0 xs = true := by simpa [PyData.canLayAll0] using h
    simp [PyData.eqvAll, eqv_self x h'.1, eqvAll_self xs h'.2]
end
theorem eqv_shaped {d : PyData} (h : SeqAt.shaped d = true) : PyData.eqv d d = true := eqv_self d (SeqAt.canLay_of_shaped h)
end Mine


set_option Elab.async false
set_option linter.all false
set_option maxRecDepth 100000
set_option maxHeartbeats 4000000
namespace L2
open PySem PySem.Spec PyProof.Rows
/-! ### zip of two lists -/
section
variable {X : Cx}
end
end L2


set_option Elab.async false
set_option linter.all false
set_option maxRecDepth 100000
set_option maxHeartbeats 4000000
namespace L2
open PySem PySem.Spec PyProof.Rows
/-! ### list.insert at a place that is not below nought -/
section
variable {X : Cx}
end
end L2


set_option Elab.async false
set_option linter.all false
set_option maxRecDepth 100000
set_option maxHeartbeats 4000000
namespace L2
open PySem PySem.Spec PyProof.Rows
/-! ### in and not in, of data in a list -/
section
variable {X : Cx}
end
end L2


set_option Elab.async false
set_option linter.all false
set_option maxRecDepth 100000
set_option maxHeartbeats 4000000
namespace L2
open PySem PySem.Spec PyProof.Rows
section
variable {X : Cx}
/-! ### l.index(x) of data -/
end
end L2


set_option Elab.async false
set_option linter.all false
set_option maxRecDepth 100000
set_option maxHeartbeats 4000000
namespace L2
open PySem PySem.Spec PyProof.Rows
variable {X : Cx}
/-! ### items without a star: by the constructor alone -/
def plainArg (e : Expr) : Bool := match e with
  | .Starred _ _ => false
  | _ => true
theorem star_plain {e : Expr} {es : List Expr} {env : Env} (h : plainArg e = true) : starEach (e :: es) env = (false, eval e env) :: starEach es env := by
  cases e <;> first | rfl | cases h
theorem paS {e : Expr} {es : List Expr} {te : TE} {t : TA} (ha : PE X e te) (hr : PA X es t) (h : plainArg e = true := by rfl) : PA X (e :: es) (tCons te t) := pa_cons ha hr (star_plain h)
end L2


set_option Elab.async false
set_option linter.all false
set_option maxRecDepth 100000
set_option maxHeartbeats 4000000
namespace L2
open PySem
/-- an own class of exceptions, above which others of one's own may stand, with an __init__ of its own -/
def XAt (h : Heap) (C : Addr) (bmB : List Value) (newId : String) (fI : Addr) : Prop :=
  ∃ nm qn N bs bm hd sn sub ab col dd k0 k1 k2 k3 k5 mN oI, h.get? C = some (excClassObj nm qn C N bs bm hd sn sub ab col dd k0 k1 k2 k3 k5 newId) ∧ h.Ns N mN ∧ mN "__init__" = some (.ref fI) ∧ OwnTail h bmB bm ∧ h.get? fI = some oI ∧ oI.cls = .type "function"
section
variable {prog : Program} {w : World} {A : Around} {E : Value → Shared → Prop} {h : Heap} {g : Array GenState} {d : Drawn} {t : Nat} {os : OsState}
variable {C fI : Addr} {bmB : List Value} {B newId initId : String}
/-- what the new exception and its tuple lie as -/
abbrev withTup (h : Heap) (us : List Value) : Heap := h.push { cls := .type "tuple", data := .seq us.toArray }
abbrev withExc (h : Heap) (C : Addr) (us : List Value) : Heap := (withTup h us).push { cls := .ref C, data := .fields #[.ref h.objs.size, .none, .none, .none, .bool false, .none] }
theorem withExc_keeps (us : List Value) {b : Addr} {o : Obj} (e : h.get? b = some o) : (withExc h C us).get? b = some o := Heap.get?_push_of_some _ (Heap.get?_push_of_some _ e)
theorem withExc_at (us : List Value) : (withExc h C us).get? (h.objs.size + 1) = some { cls := .ref C, data := .fields #[.ref h.objs.size, .none, .none, .none, .bool false, .none] } := by heap_get
theorem type_call_init (F : ExcBaseFacts B newId initId bmB) {us : List Value} {Q : Fin → Shared → Prop} (x : XAt h C bmB newId fI) (hz : us.length ≤ sizeLine)
    (hq : wpAny (model prog w) A (call (.ref fI) (.ref (h.objs.size + 1) :: us)) (fun r s' => r = .none ∧ Q (.done (.ret (.ref (h.objs.size + 1)))) s') E ⟨withExc h C us, g, d, t, os⟩) :
    wpAny (model prog w) A (Builtin.«type.__call__» ⟨.ref C :: us, []⟩) Q E ⟨h, g, d, t, os⟩ := by
  obtain ⟨nm, qn, N, bs, bm, hd, sn, sub, ab, col, dd, k0, k1, k2, k3, k5, mN, oI, hC, hn, hi, T, hfI, hfc⟩ := x
  have hself : (Value.ref C :: bm).contains (.ref C) = true := by simp
  have hC2 := withExc_keeps (C := C) us hC
  have hn2 : (withExc h C us).Ns N mN := hn.keeps fun b o e => withExc_keeps us e
  have T2 : OwnTail (withExc h C us) bmB bm := T.keeps fun b o e => withExc_keeps us e
  have he2 := withExc_at (h := h) (C := C) us
  repeat (first | with_reducible refine wpAny_loadPart_at hC ?_ | with_reducible refine wpAny_madeBy_exc hC ?_ | wp_step)
  refine codeAny_call_builtin_code (Code.quiet_builtin _ F.quiet) (wpAny_check_new_subT F T hC (codeAny_exc_new_subT F T hC ?_ hz))
  show wpAny _ _ _ _ _ _
  unfold isInstance
  repeat (first | with_reducible refine wpAny_loadPart_at he2 ?_ | (with_reducible refine wpAny_isSubtype_exc hC2 ?_; rw [hself]) | wp_step)
  show wpAny _ _ (typeLookup (.ref C) _) _ _ _
  refine wpAny_typeLookup_tail hC2 hn2 T2 F.mroIs F.init.lookup ?_
  rw [hi]
  refine wpAny_holding (wpAny_bind ?_)
  unfold bindSpecial
  refine wpAny_bind (wpAny_typeOf (T := "function") ⟨_, withExc_keeps us hfI, hfc⟩ ?_)
  rw [if_pos (by decide)]
  refine wpAny_pure (wpAny_bind (wpAny_mono hq (fun r s' z => ?_) fun _ _ z => z))
  obtain ⟨rfl, z⟩ := z
  wp_walk
  exact z
theorem call_init (F : ExcBaseFacts B newId initId bmB) {us : List Value} {Q : Value → Shared → Prop} (x : XAt h C bmB newId fI) (hz : us.length ≤ sizeLine)
    (hq : wpAny (model prog w) (A.under (.builtin "type.__call__" ⟨.ref C :: us, []⟩)) (call (.ref fI) (.ref (h.objs.size + 1) :: us)) (fun r s' => r = .none ∧ Q (.ref (h.objs.size + 1)) s') E ⟨withExc h C us, g, d, t, os⟩) :
    wpAny (model prog w) A (call (.ref C) us) Q E ⟨h, g, d, t, os⟩ := by
  obtain ⟨nm, qn, N, bs, bm, hd, sn, sub, ab, col, dd, k0, k1, k2, k3, k5, mN, oI, hC, r⟩ := id x
  have f1 := tc_lookup
  have f2 := tc_bind (.ref C)
  have hT : (⟨h, g, d, t, os⟩ : Shared).TypeIs (.ref C) "type" := ⟨_, hC, rfl⟩
  refine wpAny_call (codeAny_of_tree ?_)
  show wpAny _ _ (callAny (.ref C) _) _ _ _
  repeat (any_goals (first | assumption | with_reducible refine wpAny_loadPart_at hC ?_ | wp_step))
  exact ⟨rfl, codeAny_call_builtin_at (Code.quiet_builtin _ (by decide +kernel)) entry_typeCall (wpAny_check_type_call_sub hC (type_call_init F x hz hq))⟩
end
end L2


set_option Elab.async false
set_option linter.all false
set_option maxRecDepth 100000
set_option maxHeartbeats 4000000
namespace L2
open PySem
/-! ### an exception on its way, with its own dict: what is known of the object at e -/
def XTr (g base : Heap) (e : Addr) (cl : Value) (dc : Option Addr) (fl : Value) : Prop :=
  ∃ oe vs T oT ts, g.get? e = some oe ∧ (oe.cls = cl ∧ oe.dict = dc) ∧ oe.data = .fields vs ∧ vs[1]? = some (.ref T) ∧ base.get? T = none ∧ T ≠ e ∧ g.get? T = some oT ∧ oT.data = .fields ts ∧ ts[3]? = some fl
def XNote (base : Heap) (l : List Env) (e : Addr) (cl : Value) (dc : Option Addr) (fl : Value) (g g' : Heap) : Prop := base.StaysIn g' ∧ g'.FunFrames base l ∧ XTr g' base e cl dc fl ∧ g.UpToSlots g'
def XFly (base : Heap) (l : List Env) (e : Addr) (cl : Value) (dc : Option Addr) (fl : Value) (g : Heap) : Prop := base.StaysIn g ∧ base.get? e = none ∧ g.FunFrames base l ∧ XTr g base e cl dc fl
theorem no_record {g : Heap} {e b : Addr} {oe o : Obj} {vs : Array Value} (he : g.get? e = some oe) (hd : oe.data = .fields vs) (hb : g.get? b = some o) (n : ∀ ws, o.data ≠ .fields ws) : b ≠ e := fun z => by
  subst z
  rw [he] at hb
  cases hb
  exact n vs hd
theorem dict_mapFields (f : Array Value → Array Value) (o : Obj) : (Obj.mapFields f o).dict = o.dict := by
  obtain ⟨c, d, dt, sl⟩ := o
  cases dt <;> rfl
section
variable {M : Model} {A : Around} {E : Value → Shared → Prop} {s : Shared} {base : Heap} {env : Env} {outer l : List Env} {L e : Addr} {cl fl : Value} {dc : Option Addr} {Q : Unit → Shared → Prop}
/-- a new entry of the traceback is put at the exception's head -/
theorem entered {oe : Obj} {vs : Array Value} {hd0 : Value} {more : Bool} (hfr : A.frames = some (env :: outer)) (hl : s.heap.FunFrames base (env :: outer)) (hf : env.frame = some L)
    (he : s.heap.get? e = some oe) (kb : base.StaysIn s.heap) (en : base.get? e = none) (hd : oe.data = .fields vs) (z1 : 1 < vs.size) (k : ∀ g', XNote base (env :: outer) e oe.cls oe.dict (rawInt L) s.heap g' → Q () { s with heap := g' }) :
    wpAny M A (do let a ← frameOf env; let pl ← entryPlaceOf L more; let b ← EntryCells.newEntry hd0 a .none (rawInt L) .none pl; setField (.ref e) 1 b) Q E s := by
  have nf : e ∉ (env :: outer).filterMap (·.frame) := fun hm => by
    obtain ⟨_, o, ho, n⟩ := hl.mem hm
    exact no_record he hd ho n rfl
  refine wpAny_bind (wpAny_frameOf_fun hfr hl hf fun g1 sm => wpAny_bind (wpAny_entryPlaceOf fun pl hpl => ?_))
  unfold EntryCells.newEntry newFields
  refine wpAny_bind (wpAny_newObj_type ?_ (hpl.sizeOk5 _ _ _ _ _))
  have a1 : g1.get? e = some oe := (sm.2.1 e nf).trans he
  have b1 : base.StaysIn g1 := fun b o z => (sm.2.1 b fun hm => by rw [(hl.mem hm).1] at z; cases z).trans (kb b o z)
  have a2 := Heap.get?_push_of_some (h := g1) { cls := .type "traceback", dict := none, data := .fields ([hd0, .ref L, .none, rawInt L, .none] ++ (if pl.isEmpty then List.replicate 6 Value.none else pl)).toArray } a1
  refine wpAny_setField a2 hd z1 (k _ ?_)
  have ne : g1.objs.size ≠ e := Nat.ne_of_gt (Heap.lt_size a1)
  have d3 := Obj.data_mapFields hd (·.setIfInBounds 1 (Value.ref g1.objs.size))
  have a3 := Heap.get?_update_self (Obj.mapFields (·.setIfInBounds 1 (Value.ref g1.objs.size))) a2 (Obj.isFreed_of_fields d3)
  have t3 := (Heap.get?_update_other (g1.push { cls := .type "traceback", dict := none, data := .fields ([hd0, .ref L, .none, rawInt L, .none] ++ (if pl.isEmpty then List.replicate 6 Value.none else pl)).toArray })
    (Obj.mapFields (·.setIfInBounds 1 (Value.ref g1.objs.size))) (Ne.symm ne)).trans (Heap.get?_push_size g1 rfl)
  have stay : ∀ b o, b ≠ e → g1.get? b = some o → ((g1.push { cls := .type "traceback", dict := none, data := .fields ([hd0, .ref L, .none, rawInt L, .none] ++ (if pl.isEmpty then List.replicate 6 Value.none else pl)).toArray }).update e
      (Obj.mapFields (·.setIfInBounds 1 (Value.ref g1.objs.size)))).get? b = some o := fun b o z hb => by
    rw [Heap.get?_update_other _ _ (Ne.symm z)]
    exact Heap.get?_push_of_some _ hb
  refine ⟨fun b o z => stay b o (fun q => by rw [q, en] at z; cases z) (b1 b o z), hl.of_keeps fun b o hb n => ?_, ?_, fun b o hb n => ?_⟩
  · obtain ⟨sl, z⟩ := sm.2.2 b o hb
    exact ⟨_, stay b _ (no_record he hd hb n) z, rfl⟩
  · exact ⟨_, _, g1.objs.size, _, _, a3, ⟨Obj.cls_mapFields _ _, dict_mapFields _ _⟩, d3, by simp [z1], b1.fresh, ne, t3, rfl, by first | (simp; done) | (rcases hpl with rfl | ⟨_, _, _, _, _, _, _, rfl⟩ <;> simp)⟩
  · obtain ⟨sl, z⟩ := sm.2.2 b o hb
    exact ⟨sl, stay b _ (no_record he hd hb n) z⟩
/-- no frame holds the exception -/
theorem unheld (kb : base.StaysIn s.heap) (hl : s.heap.FunFrames base l) (ht : XTr s.heap base e cl dc fl) (k : ∀ g', XNote base l e cl dc .none s.heap g' → Q () { s with heap := g' }) : wpAny M A (setFlight (.ref e) none) Q E s := by
  obtain ⟨oe, vs, T, oT, ts, he, hc, hd, h1, nT, ne, hT, dT, h3⟩ := ht
  have z3 : 3 < ts.size := (Array.getElem?_eq_some_iff.mp h3).1
  have other : ∀ b, b ≠ T → (s.heap.update T (Obj.mapFields (·.setIfInBounds 3 ((none : Option Addr).elim Value.none fun f => rawInt f)))).get? b = s.heap.get? b := fun b z => Heap.get?_update_other _ _ (Ne.symm z)
  unfold setFlight
  refine wpAny_bind (wpAny_field he hd h1 ?_)
  rw [if_pos (show (Value.ref T != Value.none) = true by simp)]
  refine wpAny_setField hT dT z3 (k _ ⟨fun b o z => (other b fun q => by rw [q, nT] at z; cases z).trans (kb b o z), hl.of_keeps fun b o hb n => ⟨o, (other b (no_record hT dT hb n)).trans hb, rfl⟩, ?_, fun b o hb n => ⟨o.slots, (other b (no_record hT dT hb n)).trans hb⟩⟩)
  exact ⟨oe, vs, T, _, _, (other e (Ne.symm ne)).trans he, hc, hd, h1, nT, ne, Heap.get?_update_self _ hT (Obj.isFreed_of_fields (Obj.data_mapFields dT _)), Obj.data_mapFields dT _, by simp [z3]⟩
/-- the frame's entry, the first one -/
theorem noted_first {oe : Obj} {vs : Array Value} (hfr : A.frames = some (env :: outer)) (hl : s.heap.FunFrames base (env :: outer)) (hf : env.frame = some L) (he : s.heap.get? e = some oe) (kb : base.StaysIn s.heap) (en : base.get? e = none)
    (hd : oe.data = .fields vs) (h1 : vs[1]? = some .none) (k : ∀ g', XNote base (env :: outer) e oe.cls oe.dict (rawInt L) s.heap g' → Q () { s with heap := g' }) : wpAny M A (noteFrame (.ref e) env) Q E s := by
  unfold noteFrame
  simp only [hf]
  refine wpAny_bind (wpAny_field he hd h1 ?_)
  rw [if_neg (by decide)]
  exact entered hfr hl hf he kb en hd (Array.getElem?_eq_some_iff.mp h1).1 k
/-- .. a further one -/
theorem noted_next (hfr : A.frames = some (env :: outer)) (hl : s.heap.FunFrames base (env :: outer)) (hf : env.frame = some L) (ht : XTr s.heap base e cl dc .none) (kb : base.StaysIn s.heap) (en : base.get? e = none)
    (k : ∀ g', XNote base (env :: outer) e cl dc (rawInt L) s.heap g' → Q () { s with heap := g' }) : wpAny M A (noteFrame (.ref e) env) Q E s := by
  obtain ⟨oe, vs, T, oT, ts, he, ⟨rfl, rfl⟩, hd, h1, nT, ne, hT, dT, h3⟩ := ht
  unfold noteFrame
  simp only [hf]
  refine wpAny_bind (wpAny_field he hd h1 ?_)
  rw [if_pos (show (Value.ref T != Value.none) = true by simp)]
  refine wpAny_bind (wpAny_field hT dT h3 ?_)
  rw [if_neg (show ¬ ((Value.none == rawInt L) = true) by simp [rawInt])]
  refine wpAny_bind (wpAny_setField hT dT (Array.getElem?_eq_some_iff.mp h3).1 ?_)
  have other : ∀ b, b ≠ T → (s.heap.update T (Obj.mapFields (·.setIfInBounds 3 Value.none))).get? b = s.heap.get? b := fun b z => Heap.get?_update_other _ _ (Ne.symm z)
  refine entered hfr (hl.of_keeps fun b o hb n => ⟨o, (other b (no_record hT dT hb n)).trans hb, rfl⟩) hf ((other e (Ne.symm ne)).trans he) (fun b o z => (other b fun q => by rw [q, nT] at z; cases z).trans (kb b o z)) en hd (Array.getElem?_eq_some_iff.mp h1).1 fun g' x => k g' ?_
  exact ⟨x.1, x.2.1, x.2.2.1, fun b o hb n => x.2.2.2 b o ((other b (no_record hT dT hb n)).trans hb) n⟩
/-- the exception leaves the frame in which it was raised -/
theorem leaves_first {oe : Obj} {vs : Array Value} (hfr : A.frames = some (env :: outer)) (hl : s.heap.FunFrames base (env :: outer)) (hf : env.frame = some L) (he : s.heap.get? e = some oe) (kb : base.StaysIn s.heap) (en : base.get? e = none)
    (hd : oe.data = .fields vs) (h1 : vs[1]? = some .none) (k : ∀ g', XFly base outer e oe.cls oe.dict .none g' → s.heap.UpToSlots g' → Q () { s with heap := g' }) : wpAny M A (leaving env (.ref e)) Q E s := by
  unfold leaving
  refine wpAny_bind (noted_first hfr hl hf he kb en hd h1 fun g1 ⟨k1, k2, k3, k4⟩ => ?_)
  refine unheld (s := { s with heap := g1 }) k1 k2 k3 fun g2 ⟨j1, ⟨_, _, j2⟩, j3, j4⟩ => ?_
  exact k g2 ⟨j1, en, j2, j3⟩ (k4.trans j4)
/-- .. one through which it goes -/
theorem leaves_next (hfr : A.frames = some (env :: outer)) (hf : env.frame = some L) (x : XFly base (env :: outer) e cl dc .none s.heap) (k : ∀ g', XFly base outer e cl dc .none g' → s.heap.UpToSlots g' → Q () { s with heap := g' }) : wpAny M A (leaving env (.ref e)) Q E s := by
  obtain ⟨f1, f2, f3, f4⟩ := x
  unfold leaving
  refine wpAny_bind (noted_next hfr f3 hf f4 f1 f2 fun g1 ⟨k1, k2, k3, k4⟩ => ?_)
  refine unheld (s := { s with heap := g1 }) k1 k2 k3 fun g2 ⟨j1, ⟨_, _, j2⟩, j3, j4⟩ => ?_
  exact k g2 ⟨j1, f2, j2, j3⟩ (k4.trans j4)
/-- it is looked at by the frame that may catch it; it lands there -/
theorem looked (hfr : A.frames = some (env :: outer)) (hf : env.frame = some L) (x : XFly base (env :: outer) e cl dc .none s.heap) (k : ∀ g', XFly base (env :: outer) e cl dc (rawInt L) g' → s.heap.UpToSlots g' → Q () { s with heap := g' }) : wpAny M A (noteFrame (.ref e) env) Q E s := by
  obtain ⟨f1, f2, f3, f4⟩ := x
  exact noted_next hfr f3 hf f4 f1 f2 fun g1 ⟨k1, k2, k3, k4⟩ => k g1 ⟨k1, f2, k2, k3⟩ k4
theorem landed (x : XFly base l e cl dc fl s.heap) (k : ∀ g', XFly base l e cl dc .none g' → s.heap.UpToSlots g' → Q () { s with heap := g' }) : wpAny M A (setFlight (.ref e) none) Q E s := by
  obtain ⟨f1, f2, f3, f4⟩ := x
  exact unheld f1 f3 f4 fun g1 ⟨k1, k2, k3, k4⟩ => k g1 ⟨k1, f2, k2, k3⟩ k4
end
end L2


set_option Elab.async false
set_option linter.all false
set_option maxRecDepth 100000
set_option maxHeartbeats 4000000
namespace L2
open PySem PySem.Spec PySem.Calls PyProof.Rows PySem.W PySem.Builtin PySem.Builtin.ObjectAttr
/-- above the class stand own ones, then ValueError -/
def overV : List Value → Bool
  | [] => false
  | v :: r => (v :: r == bmV) || (match v with | .ref _ => overV r | _ => false)
theorem refuse_overV (self : Value) : ∀ {l : List Value}, overV l = true → refuseLoop self "__setattr__" l = pure ()
  | [], e => by cases e
  | v :: r, e => by
    rcases (Bool.or_eq_true _ _).mp e with z | z
    · rw [beq_iff_eq.mp z]
      exact PySem.F.store_ValueError.passes self
    · cases v with
      | ref c => rw [refuseLoop_ref]; exact refuse_overV self z
      | _ => cases z
/-- what the fragment says of such a class, for the fields of its exceptions -/
structure XFld (K : Frag) (C : Addr) : Prop where
  ex : ∃ cd, clsIn K C = some cd ∧ overV cd.mro = true ∧ cd.hasDict = true
  sa : findIn K (.ref C) "__setattr__" = some (some (.builtin "object.__setattr__"))
  ec : ExcCls K C
section
variable {prog : Program} {w : World} {A : Around} {s : Shared} {K : Frag} {x C : Addr} {ox : Obj} {od : Option Obj} {name : Str} {v : Value}
theorem x_osa {R : Result → Shared → Prop} {tk : Tok} (X : K.In s.heap) (c : XFld K C) (I : W.InstAt s.heap x ox C od) (ha : NoAttr K C name)
    (h : wpAny (model prog w) A.in1 (storeInOwnDict (.ref x) (.ref C) (.str name tk) name v false)
      (fun fin s' => match fin with | .done f => R (.ok f) s' | .again c' => c'.quiet = true ∧ codeAny (model prog w) A c' R s') (fun e s' => R (.error e) s') s) :
    codeAny (model prog w) A (.call (.builtin "object.__setattr__") ⟨[.ref x, .str name tk, v], []⟩) R s := by
  obtain ⟨cd, hc, ho, _⟩ := c.ex
  have SF := PySem.F.store_object
  have T := I.type (M := model prog w)
  have inst : Looks (model prog w) s.heap (isInstance (.ref x) (.type "object")) true := T.andThen (looks_mroIn X c.ec.hm)
  have mro : Looks (model prog w) s.heap (mroOf (.ref C)) cd.mro := (looks_clsIn X hc).andThen .now
  refine codeAny_call_builtin SF.slot.plain SF.entry (check_slot (M := model prog w) (s := s) (i := "object.__setattr__") (owner := "object") (n := "__setattr__") (self := .ref x) (rest := [.str name tk, v]) (kw := []) SF.kind SF.split inst (SF.args (.ref x) (.str name tk) v) ?_)
  rw [osa_eq, refuse_eq]
  refine wpAny_bind (wpAny_bind (T.here (wpAny_bind (mro.here ?_))))
  rw [refuse_overV _ ho]
  exact wpAny_pure (wpAny_bind (T.here (wpAny_bind ((looks_findIn X (show findIn K (.ref C) name = some none from ha)).here (wpAny_bind (wpAny_pure h))))))
/-- a field is put where there is a dict already -/
theorem x_put {E : Value → Shared → Prop} {dx : Addr} {mA : Str → Option Value} {ns : List Str} {Q : Unit → Shared → Prop} (X : K.In s.heap) (c : XFld K C) (hx : s.heap.get? x = some ox) (hcl : ox.cls = .ref C) (nc : notCls ox = true) (hd : ox.dict = some dx) (ne : dx ≠ x) (nsd : s.heap.Ns1 dx mA) (ha : NoAttr K C name)
    (hw : PySem.Within mA ns) (hsz : ns.length ≤ sizeLine) (h : ∀ h', h'.Ns1 dx (fun y => if y = name then some v else mA y) → Heap.SameBut dx s.heap h' → Q () { s with heap := h', toks := s.toks + 2 }) :
    wpAny (model prog w) A (setAttr (.ref x) name v) Q E s := by
  obtain ⟨ob, ho, _⟩ := lookIn_ns nsd
  have I : W.InstAt s.heap x ox C (some ob) := ⟨hx, hcl, nc, by rw [hd]; exact ho⟩
  refine set_plain X I c.sa (x_osa (s := { s with toks := s.toks + 1 }) X c I ha ?_)
  obtain ⟨cd, hc, _, hdd⟩ := c.ex
  obtain ⟨oc, odi, oda, osl⟩ := ox
  dsimp only at hcl hd
  subst hcl hd
  refine wpAny_bind (wpAny_pure (wpAny_bind (wpAny_bind (wpAny_loadPart hx (wpAny_bind (W.Looks.here (s := { s with toks := s.toks + 1 }) (looks_clsIn X hc) ?_))))))
  rw [hdd]
  refine wpAny_pure (a := some dx) (wpAny_bind (wpAny_pure (wpAny_bind ?_)))
  refine wpAny_nsSet1 (s := { s with toks := s.toks + 1 }) nsd fun h2 hn2 hs2 => ?_
  obtain ⟨oD, esD, epD, hoD, hdD, hcD⟩ := hn2.count (PySem.Within.cons name v hw)
  refine wpAny_bind (wpAny_lookBehind hoD (by rw [hdD]; exact pastItsLine_dict (Nat.le_trans hcD (by rw [List.length_cons]; omega))) ?_)
  exact wpAny_pure (h _ hn2 hs2)
/-- the first field: the dict is made -/
theorem x_put0 {E : Value → Shared → Prop} {Q : Unit → Shared → Prop} (X : K.In s.heap) (c : XFld K C) (hx : s.heap.get? x = some ox) (hcl : ox.cls = .ref C) (hdt : ∃ vs, ox.data = .fields vs) (hd : ox.dict = none) (ha : NoAttr K C name)
    (h : ∀ h', h'.get? x = some { ox with dict := some s.heap.objs.size } → h'.Ns1 s.heap.objs.size (fun y => if y = name then some v else none) → (∀ b o, b ≠ x → s.heap.get? b = some o → h'.get? b = some o) → Q () { s with heap := h', toks := s.toks + 2 }) :
    wpAny (model prog w) A (setAttr (.ref x) name v) Q E s := by
  obtain ⟨vs, hdt⟩ := hdt
  have I : W.InstAt s.heap x ox C none := ⟨hx, hcl, by unfold notCls; rw [hdt], by rw [hd]; exact True.intro⟩
  refine set_plain X I c.sa (x_osa (s := { s with toks := s.toks + 1 }) X c I ha ?_)
  obtain ⟨cd, hc, _, hdd⟩ := c.ex
  obtain ⟨oc, odi, oda, osl⟩ := ox
  dsimp only at hcl hd hdt
  subst hcl hd hdt
  have lt := Heap.lt_size hx
  have e1 : (s.heap.push { cls := .type "dict", data := .dict #[] }).get? x = some ⟨.ref C, none, .fields vs, osl⟩ := Heap.get?_push_of_some _ hx
  refine wpAny_bind (wpAny_pure (wpAny_bind (wpAny_bind (wpAny_loadPart hx (wpAny_bind (W.Looks.here (s := { s with toks := s.toks + 1 }) (looks_clsIn X hc) ?_))))))
  rw [hdd]
  have go : wpAny (model prog w) A.in1 (do let d ← alloc { cls := .type "dict", data := .dict #[] }; update x fun o => { o with dict := some d }; dictMade (.ref C) x d)
      (fun r s1 => ∃ h1, r = some s.heap.objs.size ∧ s1 = { s with heap := h1, toks := s.toks + 1 } ∧ h1.get? x = some ⟨.ref C, some s.heap.objs.size, .fields vs, osl⟩ ∧ h1.Ns s.heap.objs.size (fun _ => none) ∧ ∀ b o, b ≠ x → s.heap.get? b = some o → h1.get? b = some o) (fun _ _ => False) { s with toks := s.toks + 1 } := by
    refine wpAny_bind (wpAny_alloc' (wpAny_bind (wpAny_update' e1 (wpAny_pure ⟨_, rfl, rfl, ?_, ?_, ?_⟩))))
    · exact Heap.get?_update_self _ e1 rfl
    · exact ⟨_, #[], _, (Heap.get?_update_ne _ _ _ _ (Nat.ne_of_gt lt)).trans (Heap.get?_push_at rfl rfl), rfl, (fun e z => absurd z (by simp)), fun _ => rfl⟩
    · exact fun b o nb z => (Heap.get?_update_ne _ _ _ _ nb).trans (Heap.get?_push_of_some _ z)
  change wpAny (model prog w) A.in1 (do let d ← alloc { cls := .type "dict", data := .dict #[] }; update x fun o => { o with dict := some d }; dictMade (.ref C) x d) _ _ _
  refine wpAny_mono go (fun r s1 z => ?_) (fun _ _ z => z.elim)
  obtain ⟨h1, rfl, rfl, gx, gn, gk⟩ := z
  show wpAny _ _ (storeInDict s.heap.objs.size (.str name s.toks) name v) _ _ _
  unfold storeInDict newKeyGuard
  refine wpAny_bind (wpAny_pure (wpAny_bind (wpAny_nsSet1 (s := { s with heap := h1, toks := s.toks + 1 }) (Heap.Ns1.of_empty gn) fun h2 hn2 hs2 => ?_)))
  obtain ⟨oD, esD, epD, hoD, hdD, hcD⟩ := hn2.count (PySem.Within.cons name v PySem.Within.nil)
  refine wpAny_bind (wpAny_lookBehind hoD (by rw [hdD]; exact pastItsLine_dict (Nat.le_trans hcD (by rw [List.length_cons, List.length_nil, sizeLine_eq]; omega))) ?_)
  refine wpAny_pure (h _ ((hs2.2 x (Nat.ne_of_lt lt)).trans gx) hn2 fun b o nb z => (hs2.2 b (Nat.ne_of_lt (Heap.lt_size z))).trans (gk b o nb z))
end
end L2


set_option Elab.async false
set_option linter.all false
set_option maxRecDepth 100000
set_option maxHeartbeats 4000000
namespace L2
open PySem PySem.Spec PySem.Calls PyProof.Rows PySem.W
/-- an exception that was made and not yet raised: its class, its dict -/
def XNew (e C : Addr) (dc : Option Addr) (h : Heap) : Prop := ∃ t, h.get? e = some { cls := .ref C, dict := dc, data := .fields #[.ref t, .none, .none, .none, .bool false, .none] }
/-- the dict of an exception -/
def XDict (d : Addr) (fs : List (Str × V)) (h : Heap) : Prop := ∃ mA, h.Ns1 d mA ∧ (∀ f, RelO (fs.lookup f) (mA f)) ∧ PySem.Within mA (fs.map (·.1)) ∧ fs.length ≤ 100
/-- an exception that was caught -/
def XGot (e C : Addr) (dc : Option Addr) (h : Heap) : Prop := ∃ o vs, h.get? e = some o ∧ o.cls = .ref C ∧ o.dict = dc ∧ o.data = .fields vs
theorem XNew.stay {e C : Addr} {dc : Option Addr} {h1 h2 : Heap} (x : XNew e C dc h1) (k : ∀ o, h1.get? e = some o → h2.get? e = some o) : XNew e C dc h2 := let ⟨t, z⟩ := x; ⟨t, k _ z⟩
theorem XGot.stay {e C : Addr} {dc : Option Addr} {h1 h2 : Heap} (x : XGot e C dc h1) (k : ∀ o, h1.get? e = some o → h2.get? e = some o) : XGot e C dc h2 := let ⟨o, vs, z, r⟩ := x; ⟨o, vs, k _ z, r⟩
theorem XDict.stay {d : Addr} {fs : List (Str × V)} {h1 h2 : Heap} (x : XDict d fs h1) (k : ∀ o, h1.get? d = some o → h2.get? d = some o) : XDict d fs h2 := by
  obtain ⟨mA, ⟨od, es, ep, e, c⟩, r⟩ := x
  exact ⟨mA, ⟨od, es, ep, k _ e, c⟩, r⟩
theorem XDict.there {d : Addr} {fs : List (Str × V)} {h : Heap} (x : XDict d fs h) : ∃ o, h.get? d = some o := by
  obtain ⟨mA, ⟨od, es, ep, e, c⟩, r⟩ := x
  exact ⟨_, e⟩
section
variable {P : Program} {w : World} {H : Hp} {h : Heap} {e C d : Addr} {dc : Option Addr} {fs : List (Str × V)}
theorem xnew_ok (x : XNew e C dc h) : ObjOk P w H h e (.ext (XNew e C dc)) := ⟨x, let ⟨_, z⟩ := x; ⟨_, z⟩, fun _ _ a k => a.stay k⟩
theorem xdict_ok (x : XDict d fs h) : ObjOk P w H h d (.ext (XDict d fs)) := ⟨x, x.there, fun _ _ a k => a.stay k⟩
end
/-- the field put, as a map and as a list of pairs -/
theorem xdict_put {d : Addr} {fs : List (Str × V)} {h h' : Heap} {mA : Str → Option Value} {f : Str} {y : V} {u : Value} (r : ∀ g, RelO (fs.lookup g) (mA g)) (wi : PySem.Within mA (fs.map (·.1))) (z : fs.length < 100) (ry : RelV y u)
    (n : h'.Ns1 d (fun g => if g = f then some u else mA g)) : XDict d (putF f y fs) h' := by
  refine ⟨_, n, fun g => ?_, fun g hg => ?_, ?_⟩
  · show RelO ((putF f y fs).lookup g) (if g = f then some u else mA g)
    rw [lookup_putF]
    by_cases q : g = f
    · rw [if_pos q, if_pos q]; exact ry
    · rw [if_neg q, if_neg q]; exact r g
  · by_cases q : g = f
    · rw [q]; exact (keys_putF f y fs).1
    · exact (keys_putF f y fs).2 g (wi g fun z => hg (by show (if g = f then some u else mA g) = none; rw [if_neg q]; exact z))
  · have := length_putF f y fs
    omega
section
variable {X : Cx} {pins : List (Addr × Obj)} {σ : St} {H : Hp} {s : Shared} {a C d : Addr} {fs : List (Str × V)} {f : Str} {y : V} {u : Value} {A : Around} {E : Value → Shared → Prop} {Q : Unit → Shared → Prop}
theorem xset_ok (I : Inv X pins σ H s) (ea : H a = some (.ext (XNew a C (some d)))) (ed : H d = some (.ext (XDict d fs))) (ne : d ≠ a) (c : XFld X.K C) (n : NoAttr X.K C f) (hl : fs.length < 100) (ry : RelV y u)
    (h : ∀ s', Inv X pins σ (upd H d (.ext (XDict d (putF f y fs)))) s' → Q () s') : wpAny (model X.prog X.w) A (setAttr (.ref a) f u) Q E s := by
  obtain ⟨⟨t, gx⟩, _, _⟩ := (show ObjOk X.prog X.w H s.heap a (.ext (XNew a C (some d))) from I.hok a _ ea)
  obtain ⟨⟨mA, nsd, r, wi, _⟩, _, _⟩ := (show ObjOk X.prog X.w H s.heap d (.ext (XDict d fs)) from I.hok d _ ed)
  refine x_put I.kIn c gx rfl rfl rfl ne nsd n wi (by rw [List.length_map, sizeLine_eq]; omega) fun h' n' sb => h _ ?_
  have x' := xdict_put (d := d) (h := s.heap) r wi hl ry n'
  exact I.write (x := d) (e := d) (by rw [ed]; exact True.intro) (.inl rfl) (fun b q hb z => (sb.2 b hb).trans z) x'.there (xdict_ok x')
theorem xset0_ok (I : Inv X pins σ H s) (ea : H a = some (.ext (XNew a C none))) (c : XFld X.K C) (n : NoAttr X.K C f) (ry : RelV y u)
    (hL : ∀ b, s.heap.objs.size ≤ b → b ≠ X.env.locals ∧ (∀ x c, X.env.cells.lookup x = some c → c ≠ b) ∧ (∀ p ∈ X.pn ++ pins, p.1 ≠ b) ∧ X.s₀.heap.get? b = none)
    (h : ∀ s' b, H b = none → Inv X pins σ (upd (upd H a (.ext (XNew a C (some b)))) b (.ext (XDict b [(f, y)]))) s' → Q () s') : wpAny (model X.prog X.w) A (setAttr (.ref a) f u) Q E s := by
  obtain ⟨⟨t, gx⟩, _, _⟩ := (show ObjOk X.prog X.w H s.heap a (.ext (XNew a C none)) from I.hok a _ ea)
  refine x_put0 I.kIn c gx rfl ⟨_, rfl⟩ rfl n fun h' g' n' kp => ?_
  have fr : H s.heap.objs.size = none := I.hok.fresh (Nat.le_refl _)
  have ne : s.heap.objs.size ≠ a := fun z => by rw [z, ea] at fr; cases fr
  have x' : XDict s.heap.objs.size [(f, y)] h' := xdict_put (fs := []) (h := s.heap) (mA := fun _ => none) (fun _ => True.intro) (fun g z => absurd rfl z) (by decide) ry n'
  have I1 : Inv X pins σ (upd H a (.ext (XNew a C (some s.heap.objs.size)))) { s with heap := h', toks := s.toks + 2 } :=
    I.write (x := a) (e := a) (by rw [ea]; exact True.intro) (.inl rfl) (fun b q hb z => kp b q hb z) ⟨_, g'⟩ (xnew_ok ⟨t, g'⟩)
  obtain ⟨l1, l2, l3, l4⟩ := hL _ (Nat.le_refl _)
  exact h _ s.heap.objs.size fr (I1.track (by rw [upd_ne ne]; exact fr) l4 l1 l2 l3 x' x'.there fun _ _ z k => z.stay k)
end
/-- what is known of addresses above the heap -/
theorem Inv.above {X : Cx} {pins : List (Addr × Obj)} {σ : St} {H : Hp} {s : Shared} (I : Inv X pins σ H s) : ∀ b, s.heap.objs.size ≤ b → b ≠ X.env.locals ∧ (∀ x c, X.env.cells.lookup x = some c → c ≠ b) ∧ (∀ p ∈ X.pn ++ pins, p.1 ≠ b) ∧ X.s₀.heap.get? b = none := fun b hb => by
  have no : ∀ o, s.heap.get? b = some o → False := fun o z => absurd (Heap.lt_size z) (Nat.not_lt.mpr hb)
  refine ⟨fun z => ?_, fun x c k q => ?_, fun p hp q => ?_, ?_⟩
  · obtain ⟨mm, ⟨o, _, _, g, _⟩, _⟩ := I.loc
    rw [← z] at g
    exact no _ g
  · obtain ⟨v, o, g, _⟩ := I.cell x c k
    rw [q] at g
    exact no _ g
  · obtain ⟨g, _⟩ := I.pin p hp
    rw [q] at g
    exact no _ g
  · exact Heap.get?_none_of_le (Nat.le_trans I.sz hb)
/-! ### self.f = value, in the __init__ of an exception -/
def sFldX (K : Frag) (ta tv : TE) (f : Str) : TS := fun D σ H => tv σ H fun y H1 => ta σ H1 fun x H2 => ∃ a C, x = .ref a ∧ XFld K C ∧ NoAttr K C f ∧
  ((H2 a = some (.ext (XNew a C none)) ∧ ∀ d, H2 d = none → D.nx σ (upd (upd H2 a (.ext (XNew a C (some d)))) d (.ext (XDict d [(f, y)])))) ∨
   ∃ d fs, H2 a = some (.ext (XNew a C (some d))) ∧ H2 d = some (.ext (XDict d fs)) ∧ d ≠ a ∧ fs.length < 100 ∧ D.nx σ (upd H2 d (.ext (XDict d (putF f y fs)))))
theorem ps_fldX {X : Cx} {o value : Expr} {f : Str} {pos pos' : Pos} {ta tv : TE} (ha : PE X o ta) (hv : PE X value tv) (hs : swapsWith value (some (.Attribute o f pos')) pos.line X.env = pure false) : PS X (.Assign [.Attribute o f pos'] value pos) (sFldX X.K ta tv f) := by
  intro pins s σ H D I h
  refine plainObj_wpAny_Assign_Attribute (thn (hv pins s σ H _ I h) fun u s1 ⟨y, H1, I1, ry, q⟩ => thn (ha pins s1 σ H1 _ I1 q) fun ov s2 ⟨x, H2, I2, rx, a, C, ex, c, n, q2⟩ => ?_) hs
  subst ex
  cases (show ov = Value.ref a from rx)
  rcases q2 with ⟨ea, q2⟩ | ⟨d, fs, ea, ed, ne, l, q2⟩
  · exact xset0_ok I2 ea c n ry I2.above fun s3 b hb I3 => ⟨σ, _, I3, q2 b hb⟩
  · exact xset_ok I2 ea ed ne c n l ry fun s3 I3 => ⟨σ, _, I3, q2⟩
end L2


set_option Elab.async false
set_option linter.all false
set_option maxRecDepth 100000
set_option maxHeartbeats 4000000
namespace L2
open PySem PySem.Spec PySem.Calls PyProof.Rows PySem.W
/-! ### what the fragment says of a class of exceptions with an __init__ of its own -/
def excInI (K : Frag) (C : Addr) (bmB : List Value) (newId : String) (fI : Addr) : Bool := match K.lookup C with
  | some ⟨.type "type", _, .cls cl, sl⟩ => (match cl.mro, sl.toList with
    | .ref C1 :: bm, [_, _, _, _, some (.builtin i), _] => (C1 == C && i == newId && !cl.hasDel && tailIn K bmB bm) && (nsOkIn K cl.ns && nsIn K cl.ns "__init__" == some (some (.ref fI)) && isFn K (.ref fI))
    | _, _ => false)
  | _ => false
theorem ns_some_of {K : Frag} {h : Heap} {N : Addr} {m : Str → Option Value} {n : Str} {v : Value} (X : K.In h) (G : h.Ns N m) (q : nsIn K N n = some (some v)) : m n = some v := by
  obtain ⟨o, es, ep, ho, hd, _, hf⟩ := G
  unfold nsIn at q
  split at q
  · rename_i z
    have e := X _ _ z
    rw [ho] at e
    cases e
    cases hd
    split at q
    · rename_i en he
      cases q
      rw [← hf]
      unfold nsFind findBy
      rw [← Array.find?_toList, he]
      rfl
    · split at q <;> cases q
  · cases q
theorem xat_of {K : Frag} {h : Heap} {C fI : Addr} {bmB : List Value} {newId : String} (X : K.In h) (q : excInI K C bmB newId fI = true) : XAt h C bmB newId fI := by
  unfold excInI at q
  split at q
  · rename_i d0 c0 sl0 lk
    split at q
    · rename_i C1 bm1 j0 j1 j2 j3 n1 j5 em es
      simp only [Bool.not_eq_true', beq_iff_eq, Bool.and_eq_true] at q
      obtain ⟨⟨⟨⟨e1, e2⟩, nodel⟩, tl⟩, ⟨ok, ni⟩, fn⟩ := q
      subst e1 e2
      obtain ⟨nm1, bs1, mro1, ns1, qn1, hd1, sn1, sub1, ab1, col1, del1⟩ := c0
      dsimp only at em nodel ok ni
      subst em nodel
      have esl : sl0 = #[j0, j1, j2, j3, some (.builtin n1), j5] := by
        obtain ⟨l0⟩ := sl0
        simp only at es
        rw [es]
      subst esl
      have G : h.Ns ns1 (h.nsMap ns1) := .of_isNs (isNs_of_in X ok)
      obtain ⟨ob, ho, hc⟩ := Option.map_eq_some_iff.mp (show typeIn K (.ref fI) = some (.type "function") from beq_iff_eq.mp fn)
      exact ⟨_, _, _, _, _, _, _, _, _, _, _, _, _, _, _, _, _, ob, X _ _ lk, G, ns_some_of X G ni, tail_of_in X tl, X _ _ ho, hc⟩
    · cases q
  · cases q
/-! ### C(..) of such a class -/
section
variable {X : Cx} {k : Nat} {f C : Addr} {fd : FuncData} {ps : List Str} {sp : Sp} {x : Str} {p pos : Pos} {e : Expr} {es : List Expr} {t : TA}
theorem run_makeX0 {pins : List (Addr × Obj)} {σ : St} {H : Hp} {s : Shared} {R : Hp → Prop} {us : List Value} {vs : List V} (F : FnOk X.prog X.w X.K X.mg X.base CX0 k f fd ps sp) (xi : excInI X.K C bmV "ValueError.__new__" f = true) (hr : Room (k + 1) X.A) (hb : Binds X.K fd ps [])
    (I : Inv X pins σ H s) (r : Vals vs us) (hz : vs.length ≤ 1000) (q : sp (.ref (s.heap.objs.size + 1) :: vs) (upd H (s.heap.objs.size + 1) (.ext (XNew (s.heap.objs.size + 1) C none))) (fun v H2 => v = .non ∧ R H2) E0) : wpAny (model X.prog X.w) X.A (call (.ref C) us) (fun u s' => u = .ref (s.heap.objs.size + 1) ∧ ∃ H', Inv X pins σ H' s' ∧ R H') X.xe s := by
  have lz : us.length ≤ sizeLine := by rw [← r.length, sizeLine_eq]; omega
  have I1 : Inv X pins σ (upd H (s.heap.objs.size + 1) (.ext (XNew (s.heap.objs.size + 1) C none))) { s with heap := withExc s.heap C us, toks := s.toks } :=
    I.laid (fun b o z => withExc_keeps us z) (Nat.le_succ _) (xnew_ok ⟨_, withExc_at us⟩)
  have r1 : Vals (V.ref (s.heap.objs.size + 1) :: vs) (Value.ref (s.heap.objs.size + 1) :: us) := .cons rfl r
  have hl : (Value.ref (s.heap.objs.size + 1) :: us).length = ps.length := by rw [← r1.length]; exact F.len _ _ _ _ q
  have bnd := hb { s with heap := withExc s.heap C us, toks := s.toks } (Value.ref (s.heap.objs.size + 1) :: us) I1.kIn (by rw [List.append_nil]; exact hl)
  rw [List.append_nil] at bnd
  obtain ⟨hh, g, d, tk, os⟩ := s
  refine call_init PySem.F.excBase_ValueError (xat_of I.kIn xi) lz ?_
  refine wpAny_call (codeAny_mono (F.run _ X.stack _ _ ⟨_, []⟩ _ _ _ E0 (hr.make C us []) (I1.env0.make C us []) bnd r1 q) fun res s1 hq => ?_)
  cases res with
  | error ex => exact hq.elim
  | ok fl =>
    cases fl with
    | ret u =>
      obtain ⟨v, H2, I2, rv, ev, q2⟩ := I1.after hq
      subst ev
      exact ⟨rv, rfl, H2, I2, q2⟩
    | next => exact False.elim hq
    | brk => exact False.elim hq
    | cont => exact False.elim hq
end
/-! ### raise of an exception that was made -/
theorem x_raise {prog : Program} {w : World} {A : Around} {E : Value → Shared → Prop} {s : Shared} {env : Env} {ex : Expr} {pos : Pos} {Q : Flow → Shared → Prop} {C : Addr} {bmB : List Value} {newId : String} (hbase : bmB.contains (.type "BaseException") = true) (hh : A.handled = none)
    (h : wpAny (model prog w) A (eval ex env) (fun v s₁ => ∃ e dc, v = .ref e ∧ (∃ fI, XAt s₁.heap C bmB newId fI) ∧ XNew e C dc s₁.heap ∧ E (.ref e) s₁) E s) : wpAny (model prog w) A (exec (.Raise (some ex) none pos) env) Q E s := by
  rw [arm_exec_Raise]
  refine wpAny_bind (wpAny_standAt ?_)
  show wpAny _ _ (raiseStmt env (some (do let v ← eval ex env; standAt pos; pure v)) none) _ _ _
  unfold raiseStmt
  refine wpAny_bind (wpAny_bind (wpAny_mono h (fun v s1 z => wpAny_bind (wpAny_standAt (wpAny_pure ?_))) fun _ _ z => z))
  obtain ⟨e, dc, rfl, ⟨fI, nm, qn, N, bs, bm, hd, sn, sub, ab, col, dd, k0, k1, k2, k3, k5, mN, oI, gC, _, _, T, _, _⟩, ⟨t, ge⟩, hE⟩ := z
  have hcB : (Value.ref C :: bm).contains (.type "BaseException") = true := by rw [List.contains_cons, T.hasType hbase, Bool.or_true]
  obtain ⟨hp, g, d, tk, os⟩ := s1
  repeat (first | with_reducible refine wpAny_loadPart_at ge ?_ | with_reducible refine wpAny_loadPart_at gC ?_ | (with_reducible refine wpAny_isSubtype_exc gC ?_; rw [hcB]) | wp_step)
  exact wpAny_raiseNew_none hh hE
end L2


set_option Elab.async false
set_option linter.all false
set_option maxRecDepth 100000
set_option maxHeartbeats 4000000
namespace L2
open PySem PySem.Spec PySem.Calls PyProof.Rows PySem.W
/-- a is tracked no more -/
def del (a : Addr) (H : Hp) : Hp := fun b => if b = a then none else H b
theorem del_same {a : Addr} {H : Hp} : del a H a = none := if_pos rfl
theorem del_ne {a b : Addr} {H : Hp} (n : b ≠ a) : del a H b = H b := if_neg n
/-! ### how an exception lies behind a call: ea the object, C its class, dc its dict; whatever is tracked, or stood ahead of the call, stands in B, which stays -/
def FliesD (P : Program) (w : World) (outer : List Env) (H : Hp) (s : Shared) (ea : Addr) (C : Value) (dc : Option Addr) (H' : Hp) (s' : Shared) : Prop := ∃ (B : Heap),
  s'.os = s.os ∧ AllBare s'.gens ∧ Un (frs outer) [] H H' s.heap s'.heap ∧ HOk P w H' s'.heap ∧ XFly B outer ea C dc .none s'.heap ∧ H' ea = none ∧ s.heap.get? ea = none ∧
  ∀ b o, s'.heap.get? b = some o → b ∉ frs outer → ((∃ u, H' b = some u) ∨ ∃ o', s.heap.get? b = some o') → B.get? b = some o
def CXd (P : Program) (w : World) : CXT := fun outer H s E e s' => ∃ (ea : Addr) (C : Value) (dc : Option Addr) (H' : Hp), e = .ref ea ∧ FliesD P w outer H s ea C dc H' s' ∧ E C dc H'
section
variable {P : Program} {w : World} {K : PySem.W.Frag} {mg : Str → Option Value} {base : Heap} {N : List Str} {qual : Str} {scope : Scope} {f : Addr} {cd : Value} {A : Around} {outer : List Env} {s : Shared} {H : Hp} {E : XK}
/-- the one that was made here leaves the def -/
theorem leaves_made {pins : List (Addr × Obj)} {σ : St} {H1 : Hp} {s₂ : Shared} {ea C : Addr} {dc : Option Addr} (I : Inv (cxOf (CXd P w) P w K mg base N qual scope f cd A outer s H E) pins σ H1 s₂)
    (hx : H1 ea = some (.ext (XNew ea C dc))) (new : s.heap.get? ea = none) (q : E (.ref C) dc (del ea H1)) : (cxOf (CXd P w) P w K mg base N qual scope f cd A outer s H E).xe (.ref ea) s₂ := by
  have FR : ∀ b, b ∈ frs (envOfC qual scope s.heap.objs.size f cd :: outer) → b = s.heap.objs.size ∨ b ∈ frs outer := fun b z => List.mem_cons.mp (I.stkSub b z)
  have hin : ∀ en ∈ (envOfC qual scope s.heap.objs.size f cd :: outer), ∀ b, en.frame = some b → b ∈ ea :: frs (envOfC qual scope s.heap.objs.size f cd :: outer) := fun en he b hb => List.mem_cons_of_mem _ (List.mem_filterMap.mpr ⟨en, he, hb⟩)
  obtain ⟨⟨t, ge⟩, _, _⟩ := (show ObjOk P w H1 s₂.heap ea (.ext (XNew ea C dc)) from I.hok ea _ hx)
  show wpAny (model P w) (A.deeper (envOfC qual scope s.heap.objs.size f cd)) (leaving (envOfC qual scope s.heap.objs.size f cd) (.ref ea)) _ _ _
  refine leaves_first (base := PySem.W.hideAll s₂.heap (ea :: frs (envOfC qual scope s.heap.objs.size f cd :: outer))) I.ok.frames (PySem.W.funFrames_hide I.stack hin) rfl ge (fun b o z => PySem.W.of_hideAll _ z) (PySem.W.hideAll_none _ List.mem_cons_self) rfl rfl fun h'' fl up => ?_
  have trk : ∀ b u, H1 b = some u → b ∉ frs (envOfC qual scope s.heap.objs.size f cd :: outer) := fun b u e z => by
    have := I.stkFree b z
    rw [e] at this; cases this
  have keepB : ∀ b o, s₂.heap.get? b = some o → b ≠ ea → b ∉ frs (envOfC qual scope s.heap.objs.size f cd :: outer) → h''.get? b = some o := fun b o e z n =>
    fl.1 b o (PySem.W.hideAll_get _ e fun k => (List.mem_cons.mp k).elim z n)
  have neS : ∀ b o, s.heap.get? b = some o → b ≠ ea := fun b o e z => by rw [z, new] at e; cases e
  have notF : ∀ b o, s.heap.get? b = some o → b ∉ frs outer → b ∉ frs (envOfC qual scope s.heap.objs.size f cd :: outer) := fun b o e n z =>
    (FR b z).elim (fun z => absurd (Nat.lt_of_lt_of_le (Heap.lt_size e) I.ok.above) (by rw [z]; exact Nat.lt_irrefl _)) n
  have hthere : ∀ b o, s.heap.get? b = some o → ∃ o', s₂.heap.get? b = some o' := fun b o e => I.base.there b o e (fun z => nomatch z)
  have slotK : ∀ b o, s.heap.get? b = some o → b ∈ frs outer → ∃ sl, h''.get? b = some { o with slots := sl } := fun b o e hb => by
    obtain ⟨sl, e1⟩ := I.base.slot b o e (I.ok.frf b hb) hb (fun z => nomatch z)
    obtain ⟨_, o', e2, nf⟩ := I.ok.funs.mem hb
    have e3 : some o' = some o := e2.symm.trans e
    cases e3
    obtain ⟨sl', e4⟩ := up b _ e1 nf
    exact ⟨sl', e4⟩
  refine ⟨ea, .ref C, dc, del ea H1, rfl, ⟨_, I.os, I.bare, ⟨?_, ?_, ?_, ?_, ?_, ?_, ?_⟩, ?_, fl, del_same, new, ?_⟩, q⟩
  · exact fun b o e n hb z => keepB b o (I.base.keep b o e n hb z) (neS b o e) (notF b o e hb)
  · exact fun b o e n hb z => slotK b o e hb
  · exact fun b o e n z => by rw [del_ne (neS b o e)]; exact I.base.free b o e n z
  · intro b o e z
    by_cases hb : b ∈ frs outer
    · obtain ⟨sl, e1⟩ := slotK b o e hb
      exact ⟨_, e1⟩
    · obtain ⟨o', e1⟩ := hthere b o e
      exact ⟨o', keepB b o' e1 (neS b o e) (notF b o e hb)⟩
  · intro b xs e
    have z := I.base.tups b xs e
    rw [del_ne fun k => by rw [k, hx] at z; cases z]
    exact z
  · intro b o u e
    have z := I.base.frzs b o u e
    rw [del_ne fun k => by rw [k, hx] at z; cases z]
    exact z
  · intro b ps e
    obtain ⟨m, z⟩ := I.base.tbls b ps e
    exact ⟨m, by rw [del_ne fun k => by rw [k, hx] at z; cases z]; exact z⟩
  · intro b u e
    have nb : b ≠ ea := fun z => by rw [z, del_same] at e; cases e
    rw [del_ne nb] at e
    refine (I.hok b u e).stay (fun c v hc e' => ?_) (fun c z => ?_) fun c xs z => ?_
    · have tc : ∃ v', H1 c = some v' ∧ c ≠ ea := hc.elim (fun z => ⟨u, by rw [z]; exact e, by rw [z]; exact nb⟩) fun z => ⟨_, z, fun k => by rw [k, hx] at z; cases z⟩
      obtain ⟨v', z1, z2⟩ := tc
      exact keepB c v e' z2 (trk c v' z1)
    · rw [del_ne fun k => by rw [k, hx] at z; cases z]
      exact z
    · rw [del_ne fun k => by rw [k, hx] at z; cases z]
      exact z
  · intro b o e n hb
    have key : ∃ o2, s₂.heap.get? b = some o2 ∧ b ≠ ea ∧ b ∉ frs (envOfC qual scope s.heap.objs.size f cd :: outer) := by
      rcases hb with ⟨u, hu⟩ | ⟨o', ho⟩
      · have nb : b ≠ ea := fun z => by rw [z, del_same] at hu; cases hu
        rw [del_ne nb] at hu
        obtain ⟨ob, e2⟩ := (I.hok b u hu).there
        exact ⟨ob, e2, nb, trk b u hu⟩
      · obtain ⟨o2, e2⟩ := hthere b o' ho
        exact ⟨o2, e2, neS b o' ho, notF b o' ho n⟩
    obtain ⟨o2, e2, n1, n2⟩ := key
    have e3 := keepB b o2 e2 n1 n2
    rw [e] at e3
    cases e3
    exact PySem.W.hideAll_get _ e2 fun k => (List.mem_cons.mp k).elim n1 n2
/-! ### raise C(..) -/
end
end L2


set_option Elab.async false
set_option linter.all false
set_option maxRecDepth 100000
set_option maxHeartbeats 4000000
namespace L2
open PySem PySem.Spec PySem.Calls PyProof.Rows PySem.W PySem.Builtin.Getset_descriptor
theorem XFly.got {base g : Heap} {l : List Env} {e C : Addr} {fl : Value} {dc : Option Addr} (x : XFly base l e (.ref C) dc fl g) : XGot e C dc g := by
  obtain ⟨_, _, _, oe, vs, _, _, _, a, b, c, _⟩ := x
  exact ⟨oe, vs, a, b.1, b.2, c⟩
theorem XGot.of {e C : Addr} {dc : Option Addr} {h : Heap} (x : XGot e C dc h) : OfCls e C h := let ⟨o, _, a, b, _⟩ := x; ⟨o, a, b⟩
/-! ### a def that may raise an exception with fields -/
structure DefD (P : Program) (w : World) (K : Frag) (mg : Str → Option Value) (base : Heap) (n : Nat) (x : Str) (ps : List Str) (sp : Sp) : Prop where
  ex : ∃ (f : Addr) (fd : FuncData), FnOk P w K mg base (CXd P w) n f fd ps sp ∧ Binds K fd ps [] ∧ keepIn K (.ref f) = true ∧ mg x = some (.ref f)
theorem defd_of {P : Program} {w : World} {K : Frag} {mg : Str → Option Value} {base : Heap} {x : Str} {st : Stmt} {N ps : List Str} {k : Nat} {sp : Sp} (T : TopDef K mg x st) (S : FnScope N ps (defScope st))
    (bd : ∀ (kV doc pm : Value) (an : Option Addr) (cdv ct : Value) (us : List Value), us.length = ps.length → bindArgs (fnOf x x (defArgs st) (defBody st) (defScope st) .none kV doc pm an cdv ct) ⟨us, []⟩ = pure (ps.zip us))
    (len : ∀ vs H Q E, sp vs H Q E → vs.length = ps.length)
    (body : ∀ (f : Addr) (cdv : Value) (A : Around) (outer : List Env) (s : Shared) (H : Hp) (vs : List V) (Q : VK) (E : XK), Room k (A.deeper (envOfC x (defScope st) s.heap.objs.size f cdv)) → sp vs H Q E →
      ∃ t, PSs (cxOf (CXd P w) P w K mg base N x (defScope st) f cdv A outer s H E) (defBody st) t ∧ t { nx := fun _ H' => Q .non H', rt := Q } (start N vs) H) :
    DefD P w K mg base (k + 1) x ps sp := by
  obtain ⟨f, fd, F, m⟩ := T.ex
  obtain ⟨oc, od, kV, doc, pm, an, cdv, ct, osl, rfl, lk, hcd⟩ := id F.ex
  exact ⟨f, _, fn_of lk hcd S len fun A outer s H vs Q E hr h => body f cdv A outer s H vs Q E hr h, F.binds bd, F.kp, m⟩
section
variable {P : Program} {w : World} {K : PySem.W.Frag} {mg : Str → Option Value} {base : Heap} {N : List Str} {qual : Str} {scope : Scope} {f : Addr} {cd : Value} {A : Around} {outer : List Env} {s : Shared} {H : Hp} {E : XK}
/-- a callee's exception goes on through this def -/
theorem pass_on : Passes (CXd P w) (cxOf (CXd P w) P w K mg base N qual scope f cd A outer s H E) E := by
  intro pins σ H1 s1 e s' I hq
  obtain ⟨ea, C, dc, H2, rfl, ⟨B, ho, hgn, un, hok, fl, h0, h1, cov⟩, q⟩ := hq
  have hthere : ∀ b o, s.heap.get? b = some o → ∃ o', s1.heap.get? b = some o' := fun b o z => I.base.there b o z (fun z => nomatch z)
  show wpAny (model P w) (A.deeper (envOfC qual scope s.heap.objs.size f cd)) (leaving (envOfC qual scope s.heap.objs.size f cd) (.ref ea)) _ _ _
  refine leaves_next I.ok.frames rfl fl fun g fl2 up => ?_
  have I2 : Inv (cxOf (CXd P w) P w K mg base N qual scope f cd A outer s H E) pins σ H2 { s' with heap := g, toks := s'.toks } := I.caught (C := C) (ea := ea) (t := ea) ho hgn un hok cov fl2.1 up
  have new : s.heap.get? ea = none := by
    cases z : s.heap.get? ea with
    | none => rfl
    | some o => obtain ⟨o', e'⟩ := hthere ea o z; rw [h1] at e'; cases e'
  refine ⟨ea, C, dc, H2, rfl, ⟨B, I2.os, I2.bare, I2.base, I2.hok, fl2, h0, new, fun b o z n hb => ?_⟩, q⟩
  have nf : b ∉ frs (envOfC qual scope s.heap.objs.size f cd :: outer) := fun k => by
    rcases hb with ⟨u, hu⟩ | ⟨o', ho'⟩
    · have := I2.stkFree b k
      rw [hu] at this; cases this
    · exact (List.mem_cons.mp (I.stkSub b k)).elim (fun y => absurd (Nat.lt_of_lt_of_le (Heap.lt_size ho') I.ok.above) (by rw [y]; exact Nat.lt_irrefl _)) n
  have key : (∃ o1, s'.heap.get? b = some o1) ∧ ((∃ u, H2 b = some u) ∨ ∃ o', s1.heap.get? b = some o') := by
    rcases hb with ⟨u, hu⟩ | ⟨o', ho'⟩
    · exact ⟨(hok b u hu).there, .inl ⟨u, hu⟩⟩
    · obtain ⟨o2, e2⟩ := hthere b o' ho'
      exact ⟨un.there b o2 e2 (fun z => nomatch z), .inr ⟨o2, e2⟩⟩
  obtain ⟨⟨o1, e1⟩, k2⟩ := key
  have e2 := cov b o1 e1 nf k2
  have e3 := fl2.1 b o1 e2
  have e4 : some o = some o1 := z.symm.trans e3
  cases e4
  exact e2
theorem pe_defP {n : Nat} {x : Str} {ps : List Str} {sp : Sp} {e : Expr} {es : List Expr} {t : TA} {p pos : Pos} (D : DefD P w K mg base n x ps sp) (hr : Room n (cxOf (CXd P w) P w K mg base N qual scope f cd A outer s H E).A) (hg : Gl (cxOf (CXd P w) P w K mg base N qual scope f cd A outer s H E) x) (ha : PA (cxOf (CXd P w) P w K mg base N qual scope f cd A outer s H E) (e :: es) t)
    (hdb : (x == ("__debug__" : Str)) = false := by decide) (he : starEach (e :: es) (envOfC qual scope s.heap.objs.size f cd) = (false, eval e (envOfC qual scope s.heap.objs.size f cd)) :: starEach es (envOfC qual scope s.heap.objs.size f cd) := by rfl) (hpl : (backTo pos (starEach es (envOfC qual scope s.heap.objs.size f cd))).any (·.1) = false := by rfl) :
    PE (cxOf (CXd P w) P w K mg base N qual scope f cd A outer s H E) (.Call (.Name x p) (e :: es) [] pos) (tCall sp [] E t) := by
  obtain ⟨g, fd, F, b, kp, m⟩ := D.ex
  exact pe_call F hr hg m kp b .nil pass_on ha hdb he hpl
end
/-! ### e.f of an exception that was caught -/
theorem x_get {prog : Program} {w : World} {A : Around} {E : Value → Shared → Prop} {s : Shared} {K : Frag} {x C dx : Addr} {mA : Str → Option Value} {name : Str} {v : Value} {expr : Bool} {Q : Value → Shared → Prop} (X : K.In s.heap) (c : XFld K C) (g : XGot x C (some dx) s.heap) (n : s.heap.Ns1 dx mA) (ha : NoAttr K C name) (hv : mA name = some v) (hh : handedIn v = true) (h : Q v { s with toks := s.toks + 1 }) :
    wpAny (model prog w) A (getAttr (.ref x) name expr) Q E s := by
  obtain ⟨ox, vs, hx, hcl, hdx, hdt⟩ := g
  obtain ⟨od, ho, hl⟩ := lookIn_ns n
  have I : W.InstAt s.heap x ox C (some od) := ⟨hx, hcl, by unfold notCls; rw [hdt], by rw [hdx]; exact ho⟩
  obtain ⟨cd, hc, _, hdd⟩ := c.ex
  have hf : findObj K C (some od) name = some (.value v) := findObj_own (by unfold hasDictIn; rw [hc]; exact hdd) (show findIn K (.ref C) name = some none from ha) rfl (by rw [hl, hv])
  obtain ⟨hh', g, d, t, os⟩ := s
  have L0 := I.type (M := model prog w)
  have L1 := looks_findIn (M := model prog w) X c.ec.ga
  have L2 := looks_findIn (M := model prog w) X c.ec.gt
  have LB := looks_mroIn (M := model prog w) X c.ec.hb
  have L3 := looks_find (M := model prog w) X I hf
  unfold getAttr getAttrBy
  refine wpAny_bind (wpAny_mkText (wpAny_holding (wpAny_bind (L0.at (wpAny_bind (L1.at ?_))))))
  show wpAny _ _ (getAttrByItsOwn (.ref x) _ (.ref C) (.builtin "BaseException.__getattribute__") _ _) _ _ _
  unfold getAttrByItsOwn
  show wpAny _ _ (typeLookup (.ref C) "__getattr__" >>= _) _ _ _
  refine wpAny_bind (L2.at ?_)
  refine wpAny_bind (wpAny_attempt (wpAny_holding ?_))
  have FB := (F.attrBase_ValueError).ga
  have kd : builtinKind "BaseException.__getattribute__" = some .slot := by decide +kernel
  have spl : splitId "BaseException.__getattribute__" = some ("BaseException", "__getattribute__") := by decide +kernel
  have ar := F.args_bexc_ga (.ref x) (.str name t)
  rw [show callGetattribute (.ref x) (.str name t) (.builtin "BaseException.__getattribute__") expr = boundAndCalled (.builtin "BaseException.__getattribute__") (.ref x) (.str name t) by unfold callGetattribute; cases expr <;> rfl]
  unfold boundAndCalled
  refine wpAny_bind (wpAny_of_eq (FB.bind (.ref x)) ?_)
  show wpAny _ _ (call (.builtin "BaseException.__getattribute__") [.ref x, _]) _ _ _
  refine wpAny_call (codeAny_call_builtin FB.plain F.entry_bexc_ga ?_)
  simp only [checkBuiltinCall, kd, spl]
  unfold isInstance
  refine wpAny_bind (wpAny_bind (L0.at (LB.at ?_)))
  rw [if_neg (by decide)]
  refine wpAny_of_eq ar ?_
  unfold Builtin.«object.__getattribute__»
  refine wpAny_bind (wpAny_pure (wpAny_bind (wpAny_pure (wpAny_bind (L0.at (wpAny_bind (L3.at ?_)))))))
  refine wpAny_pure ?_
  exact handed_on hh h
section
variable {X : Cx}
def tFldG (K : Frag) (ta : TE) (f : Str) : TE := fun σ H Q => ta σ H fun x H1 => ∃ a C d fs v, x = .ref a ∧ H1 a = some (.ext (XGot a C (some d))) ∧ H1 d = some (.ext (XDict d fs)) ∧ XFld K C ∧ NoAttr K C f ∧ fs.lookup f = some v ∧ Q v H1
theorem pe_fldGK {K : Frag} {e : Expr} {f : Str} {pos : Pos} {ta : TE} (eK : X.K = K) (he : PE X e ta) (hb : attributeBase e f X.env (eval e X.env) = eval e X.env) : PE X (.Attribute e f pos) (tFldG K ta f) := by
  subst eK
  intro pins s σ H Q I h
  refine attr_of hb (thn (he pins s σ H _ I h) fun u s1 ⟨x, H1, I1, rx, a, C, d, fs, v, ex, ea, ed, c, n, l, q⟩ => ?_)
  subst ex
  cases (show u = Value.ref a from rx)
  obtain ⟨mA, nsd, r, _, _⟩ := (show ObjOk X.prog X.w H1 s1.heap d (.ext (XDict d fs)) from I1.hok d _ ed).1
  obtain ⟨u, hu, ru⟩ := RelO.some_of (v := v) (o := mA f) (by rw [← l]; exact r f)
  exact x_get I1.kIn c (show ObjOk X.prog X.w H1 s1.heap a (.ext (XGot a C (some d))) from I1.hok a _ ea).1 nsd n hu (handed_of ru) ⟨v, H1, I1.tok _, ru, q⟩
/-! ### isinstance(such an exception, c) -/
theorem call_isiGK {K : Frag} (eK : X.K = K) : CallR X (.builtin "isinstance") (fun xs H Q => ∃ (ea : Addr) (c : V) (cv : Value) (C : Addr) (dc : Option Addr) (k : Bool), xs = [.ref ea, c] ∧ (∀ u, RelV c u → u = cv) ∧ H ea = some (.ext (XGot ea C dc)) ∧ ExcCls K C ∧ kitOne K (.ref C) cv = some k ∧ Q (.bl k) H) := by
  subst eK
  intro pins s σ H xs us Q I r h
  obtain ⟨ea, c, cv, C, dc, k, rfl, hc, he, ec, kt, q⟩ := h
  obtain ⟨u, w', rfl, r1, r2⟩ := vals2 r
  have e := hc _ r2
  subst e
  cases (show u = Value.ref ea from r1)
  obtain ⟨p, _, _⟩ := (show ObjOk X.prog X.w H s.heap ea (.ext (XGot ea C dc)) from I.hok ea _ he)
  exact kia_one (kitx_exc ec) I.kIn p.of kt (fun z => nomatch z) fun tk => ⟨.bl k, H, I.tok tk, rfl, q⟩
theorem call_isiG : CallR X (.builtin "isinstance") (fun xs H Q => ∃ (ea : Addr) (c : V) (cv : Value) (C : Addr) (dc : Option Addr) (k : Bool), xs = [.ref ea, c] ∧ (∀ u, RelV c u → u = cv) ∧ H ea = some (.ext (XGot ea C dc)) ∧ ExcCls X.K C ∧ kitOne X.K (.ref C) cv = some k ∧ Q (.bl k) H) := call_isiGK rfl
end
/-! ### try: z = f(..) except Y as n: suite -/
def tTryG (K : Frag) (i j : Nat) (Dc : Addr) (sp : Sp) (ta : TA) (ts : TS) : TS := fun D σ H => ta σ H fun vs H1 => sp vs H1 (fun v H2 => D.nx (σ.set i (some v)) H2) fun C dc H2 => ∃ Cn, C = .ref Cn ∧ mroIn K Cn (.ref Dc) = some true ∧
  ∀ ea, H2 ea = none → ts { nx := fun σ' H3 => D.nx (σ'.set j none) H3, rt := D.rt, bk := fun σ' H3 => D.bk (σ'.set j none) H3, ct := fun σ' H3 => D.ct (σ'.set j none) H3 } (σ.set j (some (.ref ea))) (upd H2 ea (.ext (XGot ea Cn dc)))
theorem ps_tryG {X : Cx} {m i j : Nat} {x y z n : Str} {ps : List Str} {sp : Sp} {e : Expr} {es : List Expr} {ta : TA} {ts : TS} {p pos pos' pz np hpos tpos : Pos} {b₀ : Stmt} {suite : List Stmt} {Dc : Addr}
    (hxe : X.xe = fun _ _ => False) (hstk : X.stack = X.env :: X.outer) (hfr : X.env.frame = some X.env.locals) (hex : X.ex = [])
    (Df : DefD X.prog X.w X.K X.mg X.base m x ps sp) (hr : Room m X.A) (hg : Gl X x) (ha : PA X (e :: es) ta) (hgy : Gl X y) (hmy : X.mg y = some (.ref Dc)) (cc : CatchCls X.K Dc)
    (hN : X.N.Nodup) (hi : X.N[i]? = some z) (hlz : X.env.scope.names.lookup z = some .local) (hj : X.N[j]? = some n) (hl : X.env.scope.names.lookup n = some .local) (hs : ∀ ea, PSs (X.mark ea) (b₀ :: suite) ts)
    (hdb : (x == ("__debug__" : Str)) = false := by decide) (hdy : (y == ("__debug__" : Str)) = false := by decide) (he : starEach (e :: es) X.env = (false, eval e X.env) :: starEach es X.env := by rfl)
    (hpl : (backTo pos (starEach es X.env)).any (·.1) = false := by rfl) (hsw : swapsWith (.Call (.Name x p) (e :: es) [] pos) (some (.Name z pz)) pos'.line X.env = pure false := by rfl) :
    PS X (.Try [.Assign [.Name z pz] (.Call (.Name x p) (e :: es) [] pos) pos'] [.ExceptHandler (some (.Name y np)) (some n) (b₀ :: suite) hpos] [] [] tpos) (tTryG X.K i j Dc sp ta ts) := by
  intro pins s σ H D I h
  obtain ⟨f, fd, F, b, kp, mf⟩ := Df.ex
  refine wpAny_Try_except (wpAny_execs_cons (wpAny_Assign_Name ?_ hsw))
  refine wpAny_Call_Name_kw (ld_glob I hg mf ?_ hdb)
  refine callWith_K (h₀ := X.base) I.ok.mod.kin kp (wpAny_mono (ha pos pins s σ H _ I h) (fun us s1 z => ?_) (fun _ _ z => by rw [hxe] at z; exact z.elim)) he hpl
  obtain ⟨vs, H1, I1, r, q⟩ := z
  refine ⟨I1.kIn, ?_⟩
  have hlen : us.length = ps.length := by rw [← r.length]; exact F.len _ _ _ _ q
  have bnd : BindsTo s1 fd ⟨us, []⟩ (ps.zip us) := by
    have z := b s1 us I1.kIn (by rw [List.append_nil]; exact hlen)
    rw [List.append_nil] at z
    exact z
  refine wpAny_call (codeAny_mono (F.run X.A X.stack s1 H1 ⟨us, []⟩ us vs _ _ hr I1.env0 bnd r q) fun res s' hq => ?_)
  cases res with
  | ok fl =>
    cases fl with
    | ret u =>
      obtain ⟨v, H2, I2, rv, q2⟩ := I1.after hq
      exact store_ok I2 hN hi (.inl hlz) rv (fun s3 I3 => wpAny_execs_nil (wpAny_execs_nil ⟨_, H2, I3, q2⟩)) (.inr hlz)
    | next => exact False.elim hq
    | brk => exact False.elim hq
    | cont => exact False.elim hq
  | error ex =>
    obtain ⟨ea, C, dc, H2, rfl, ⟨B, ho, hgn, un, hok, fl, h0, h1, cov⟩, Cn, rfl, hm, q3⟩ := hq
    have hfrm : X.A.frames = some (X.env :: X.outer) := by rw [← hstk]; exact I.ok.frames
    rw [hstk] at fl
    refine looked (L := X.env.locals) hfrm hfr fl fun h4 held up4 => ?_
    refine landed (s := { s' with heap := h4 }) held fun h5 fl5 up5' => ?_
    have up5 := up4.trans up5'
    have I5 : Inv X pins σ H2 { s' with heap := h5 } := I1.caught (C := .ref Cn) (ea := ea) (t := ea) (tk := s'.toks) ho hgn un hok cov fl5.1 up5
    refine wpAny_handleBy_cons (codeAny_handlers_test (ld_glob (X := X.mark ea) (I5.mark ea) hgy hmy ?_ hdy)) (by intro z; cases z)
    refine exc_matches (K := X.K) I5.kIn fl5.got.of cc hm ?_
    show codeAny _ _ (.handlers (.ref ea) [.ExceptHandler none (some n) (b₀ :: suite) hpos] X.env) _ _
    refine codeAny_handlers_suite_as ?_
    refine landed (s := { s' with heap := h5 }) fl5 fun h6 fl6 up6 => ?_
    have I6 : Inv X pins σ H2 { s' with heap := h6 } := I1.caught (C := .ref Cn) (ea := ea) (t := ea) (tk := s'.toks) ho hgn un hok cov fl6.1 (up5.trans up6)
    have new : X.s₀.heap.get? ea = none := by
      cases z : X.s₀.heap.get? ea with
      | none => rfl
      | some o => obtain ⟨o', e'⟩ := I1.base.there ea o z (by rw [hex]; simp); rw [h1] at e'; cases e'
    have nl : ea ≠ X.env.locals := fun z => by
      obtain ⟨mm, ⟨o, _, _, g, _⟩, _⟩ := I1.loc
      rw [← z, h1] at g; cases g
    have nc : ∀ z c, X.env.cells.lookup z = some c → c ≠ ea := fun z c k q => by
      obtain ⟨v, o, g, _⟩ := I1.cell z c k
      rw [q, h1] at g; cases g
    have np' : ∀ z ∈ X.pn ++ pins, z.1 ≠ ea := fun z hz q => by
      obtain ⟨g, _⟩ := I1.pin z hz
      rw [q, h1] at g; cases g
    have I7 := I6.track (a := ea) (φ := XGot ea Cn dc) h0 new nl nc np' fl6.got (let ⟨o, _, z, _⟩ := fl6.got; ⟨o, z⟩) fun _ _ z k => z.stay k
    refine store_ok (X := X.mark ea) (I7.mark ea) hN hj (.inl hl) (v := .ref ea) rfl (fun s7 I8 => ?_) (.inr hl)
    refine wpAny_mono (hs ea pins s7 _ _ _ I8 (q3 ea h0)) (fun fl8 s8 q8 => ?_) (fun ee ss z => by
      have z' : X.xe ee ss := z
      rw [hxe] at z'
      exact z'.elim)
    have hcls : (X.env.scope.kind == .class || (X.env.scope.kind == .module && X.env.locals != X.env.globals)) = false := by rw [I.ok.kind]; rfl
    cases fl8 with
    | next =>
      obtain ⟨σ8, H8, J, n8⟩ := q8
      have J' := J.unmark I.ok
      obtain ⟨mm, hn, _⟩ := id J'.loc
      exact wpAny_nameGoes_keeps hl hn hcls fun h9 v9 hn9 hs9 => ⟨_, H8, J'.unname hN hj hn hn9 hs9, n8⟩
    | brk =>
      obtain ⟨σ8, H8, J, n8⟩ := q8
      have J' := J.unmark I.ok
      obtain ⟨mm, hn, _⟩ := id J'.loc
      exact wpAny_nameGoes_keeps hl hn hcls fun h9 v9 hn9 hs9 => ⟨_, H8, J'.unname hN hj hn hn9 hs9, n8⟩
    | cont =>
      obtain ⟨σ8, H8, J, n8⟩ := q8
      have J' := J.unmark I.ok
      obtain ⟨mm, hn, _⟩ := id J'.loc
      exact wpAny_nameGoes_keeps hl hn hcls fun h9 v9 hn9 hs9 => ⟨_, H8, J'.unname hN hj hn hn9 hs9, n8⟩
    | ret u =>
      obtain ⟨v, σ8, H8, J, rv, n8⟩ := q8
      have J' := J.unmark I.ok
      obtain ⟨mm, hn, _⟩ := id J'.loc
      exact wpAny_nameGoes_keeps hl hn hcls fun h9 v9 hn9 hs9 => ⟨v, _, H8, J'.unname hN hj hn hn9 hs9, rv, n8⟩
end L2


set_option Elab.async false
set_option linter.all false
set_option maxRecDepth 100000
set_option maxHeartbeats 4000000
namespace L2
open PySem PySem.Spec PySem.Calls PyProof.Rows PySem.W
/-! ### a function of the text, by its address -/
structure FunE (K : Frag) (x qual : Str) (st : Stmt) (f : Addr) : Prop where
  ex : ∃ fd : FuncData, Fun K x qual st f fd
theorem funE_mk {K : Frag} {x qual : Str} {st : Stmt} {f : Addr} {oc kV doc pm cdv ct : Value} {od an : Option Addr} {osl : Array (Option Value)} (l : K.lookup f = some ⟨oc, od, .func (fnOf x qual (defArgs st) (defBody st) (defScope st) .none kV doc pm an cdv ct), osl⟩)
    (c : codeIn K cdv qual = true) (k : keepIn K (.ref f) = true) : FunE K x qual st f := ⟨⟨_, fun_mk l c k⟩⟩
/-- the class's own facts in one -/
def xfldIn (K : Frag) (C : Addr) : Bool := (clsIn K C).any fun cd => overV cd.mro && cd.hasDict
theorem xfld_mk {K : Frag} {C : Addr} (a : xfldIn K C = true) (s : findIn K (.ref C) "__setattr__" = some (some (.builtin "object.__setattr__"))) (e : ExcCls K C) : XFld K C := by
  refine ⟨?_, s, e⟩
  unfold xfldIn at a
  cases h : clsIn K C with
  | none => rw [h] at a; cases a
  | some cd =>
    rw [h] at a
    have z : (overV cd.mro && cd.hasDict) = true := a
    exact ⟨cd, rfl, (Bool.and_eq_true_iff.mp z).1, (Bool.and_eq_true_iff.mp z).2⟩
/-! ### an exception with the fields word and at, or at alone -/
/-- what an __init__ that puts fields leaves: the exception, its dict with the fields -/
def Put (a C d : Addr) (fs : List (Str × V)) (H H' : Hp) : Prop := H d = none ∧ d ≠ a ∧ H' a = some (.ext (XNew a C (some d))) ∧ H' d = some (.ext (XDict d fs)) ∧ ∀ b, b ≠ a → b ≠ d → H' b = H b
theorem Put.del {a C d : Addr} {fs : List (Str × V)} {H H' : Hp} (n : H a = none) (p : Put a C d fs (upd H a (.ext (XNew a C none))) H') : del a H' = upd H d (.ext (XDict d fs)) ∧ H d = none := by
  obtain ⟨h1, h2, h3, h4, h5⟩ := p
  rw [upd_ne h2] at h1
  refine ⟨funext fun b => ?_, h1⟩
  by_cases z : b = a
  · subst z
    rw [del_same, upd_ne (Ne.symm h2)]
    exact n.symm
  · rw [del_ne z]
    by_cases y : b = d
    · subst y
      rw [upd_same]
      exact h4
    · rw [upd_ne y, h5 b z y, upd_ne z]
def spInit2 (C : Addr) (f g : Str) : Sp := fun vs H Q _ => ∃ a y z, vs = [.ref a, y, z] ∧ H a = some (.ext (XNew a C none)) ∧ ∀ d H', Put a C d [(f, y), (g, z)] H H' → Q .non H'
/-- a class of exceptions with two fields, by its name in the text -/
structure XC2 (P : Program) (w : World) (K : Frag) (mg : Str → Option Value) (base : Heap) (x : Str) (C : Addr) (f g : Str) : Prop where
  m : mg x = some (.ref C)
  kc : keepIn K (.ref C) = true
  ex : ∃ (fI : Addr) (fd : FuncData) (ps : List Str), FnOk P w K mg base CX0 1 fI fd ps (spInit2 C f g) ∧ Binds K fd ps [] ∧ excInI K C bmV "ValueError.__new__" fI = true
  fl : XFld K C
  n1 : NoAttr K C f
  n2 : NoAttr K C g
def tRaise2 (C : Addr) (f g : Str) (E : XK) (ta : TA) : TS := fun _ σ H => ta σ H fun vs H1 => ∃ y z, vs = [y, z] ∧ ∀ d, H1 d = none → E (.ref C) (some d) (upd H1 d (.ext (XDict d [(f, y), (g, z)])))
section
variable {P : Program} {w : World} {K : PySem.W.Frag} {mg : Str → Option Value} {base : Heap} {N : List Str} {qual : Str} {scope : Scope} {f : Addr} {cd : Value} {A : Around} {outer : List Env} {s : Shared} {H : Hp} {E : XK}
theorem ps_raise2 {C : Addr} {x f1 f2 : Str} {e₀ : Expr} {es : List Expr} {ta : TA} {np cpos pos : Pos} (c : XC2 P w K mg base x C f1 f2)
    (hr : Room 2 (cxOf (CXd P w) P w K mg base N qual scope f cd A outer s H E).A) (hg : Gl (cxOf (CXd P w) P w K mg base N qual scope f cd A outer s H E) x) (ha : PA (cxOf (CXd P w) P w K mg base N qual scope f cd A outer s H E) (e₀ :: es) ta)
    (hdb : (x == ("__debug__" : Str)) = false := by decide) (he : starEach (e₀ :: es) (envOfC qual scope s.heap.objs.size f cd) = (false, eval e₀ (envOfC qual scope s.heap.objs.size f cd)) :: starEach es (envOfC qual scope s.heap.objs.size f cd) := by rfl)
    (hpl : (backTo cpos (starEach es (envOfC qual scope s.heap.objs.size f cd))).any (·.1) = false := by rfl) :
    PS (cxOf (CXd P w) P w K mg base N qual scope f cd A outer s H E) (.Raise (some (.Call (.Name x np) (e₀ :: es) [] cpos)) none pos) (tRaise2 C f1 f2 E ta) := by
  obtain ⟨fI, fd, ps, F, b, xi⟩ := c.ex
  intro pins s₁ σ H1 D I h
  refine x_raise (C := C) (bmB := bmV) (newId := "ValueError.__new__") (by decide) (I.ok.hd rfl) ?_
  refine wpAny_Call_Name_kw (ld_glob I hg c.m ?_ hdb)
  refine callWith_K (h₀ := base) I.ok.mod.kin c.kc (thn (ha cpos pins s₁ σ H1 _ I h) fun us s2 ⟨vs, H2, I2, r, y, z, ev, q⟩ => ⟨I2.kIn, ?_⟩) he hpl
  subst ev
  have fr : H2 (s2.heap.objs.size + 1) = none := I2.hok.fresh (Nat.le_succ _)
  refine wpAny_mono (run_makeX0 (R := fun H3 => ∃ dc, H3 (s2.heap.objs.size + 1) = some (.ext (XNew (s2.heap.objs.size + 1) C dc)) ∧ E (.ref C) dc (del (s2.heap.objs.size + 1) H3)) F xi hr b I2 r (by show 2 ≤ 1000; decide) ⟨_, y, z, rfl, upd_same, fun d H3 p => ⟨rfl, some d, p.2.2.1, ?_⟩⟩) (fun v s3 t => ?_) fun _ _ t => t
  · obtain ⟨e1, e2⟩ := p.del fr
    rw [e1]
    exact q d e2
  · obtain ⟨rfl, H3, I3, dc, hx, hE⟩ := t
    have nw : s.heap.get? (s2.heap.objs.size + 1) = none := Heap.get?_none_of_le (Nat.le_trans I2.sz (Nat.le_succ _))
    exact ⟨_, dc, rfl, ⟨fI, xat_of I3.kIn xi⟩, (show ObjOk P w H3 s3.heap _ (.ext (XNew _ C dc)) from I3.hok _ _ hx).1, leaves_made I3 hx nw hE⟩
end
end L2


set_option Elab.async false
set_option linter.all false
set_option maxRecDepth 100000
set_option maxHeartbeats 4000000
namespace L2
open PySem PySem.Spec PySem.Calls PyProof.Rows PySem.W PySem.Builtin.Getset_descriptor
section
variable {P : Program} {w : World} {K : PySem.W.Frag} {mg : Str → Option Value} {base : Heap} {N : List Str} {qual : Str} {scope : Scope} {f : Addr} {cd : Value} {A : Around} {outer : List Env} {s : Shared} {H : Hp} {E : XK}
end
/-! ### try: f(..) except Y as n: suite -/
end L2


set_option Elab.async false
set_option linter.all false
set_option maxRecDepth 100000
set_option maxHeartbeats 4000000
namespace L2
open PySem PySem.Spec PySem.Calls PyProof.Rows PySem.W PySem.Builtin.Getset_descriptor
/-! ### an exception without fields is one whose dict is not asked for -/
/-! ### try: (if c: f(..) else: g(..)) except Y as n: suite -/
end L2


set_option Elab.async false
set_option linter.all false
set_option maxRecDepth 100000
set_option maxHeartbeats 4000000
namespace L2
open PySem PySem.Spec PySem.Calls PyProof.Rows PySem.W
/-! ### isinstance(an exception that was caught, (A, B, ..)) -/
end L2


set_option Elab.async false
set_option linter.all false
set_option maxRecDepth 100000
set_option maxHeartbeats 4000000
namespace L2
open PySem PySem.Spec PySem.Calls PyProof.Rows PySem.W PySem.Builtin.Getset_descriptor
/-! ### raise C(..) of a class without fields, where others have some -/
section
variable {P : Program} {w : World} {K : PySem.W.Frag} {mg : Str → Option Value} {base : Heap} {N : List Str} {qual : Str} {scope : Scope} {f : Addr} {cd : Value} {A : Around} {outer : List Env} {s : Shared} {H : Hp} {E : XK}
end
end L2


set_option Elab.async false
set_option linter.all false
set_option maxRecDepth 100000
set_option maxHeartbeats 4000000
namespace L2
open PySem PySem.Spec PySem.Calls PyProof.Rows PySem.W PySem.Builtin.Getset_descriptor
/-! ### try: f(..) except Y as n: suite except Y2 as n: suite2 -/
end L2


set_option Elab.async false
set_option linter.all false
set_option maxRecDepth 100000
set_option maxHeartbeats 4000000
namespace L2
open PySem PySem.Spec PyProof.Rows
/-! ### written things of constants and names, as deep as one likes, in one step -/
inductive Lt where
  | non | bl (b : Bool) | int (i : Int) | str (x : Str) | var (i : Nat) | tup (xs : List Lt) | lst (xs : List Lt) | dic
def visB (sc : Scope) (x : Str) : Bool := match sc.names.lookup x with
  | some .local => true
  | some .cell => true
  | some .free => true
  | _ => false
mutual
def litE (N : List Str) (sc : Scope) : Expr → Option Lt
  | .Constant .none _ _ => some .non
  | .Constant (.bool b) _ _ => some (.bl b)
  | .Constant (.int i) _ _ => some (.int i)
  | .Constant (.str x) _ _ => some (.str x)
  | .UnaryOp .USub (.Constant (.int i) _ _) _ => some (.int (-i))
  | .Name x _ => match N.idxOf? x with
    | some i => if visB sc x && !(x == ("__debug__" : Str)) && !(x == ("__classdict__" : Str)) then some (.var i) else none
    | none => none
  | .Tuple es _ _ => match litEs N sc es with
    | some xs => some (.tup xs)
    | none => none
  | .List es _ => match litEs N sc es with
    | some xs => some (.lst xs)
    | none => none
  | .Dict [] [] _ => some .dic
  | _ => none
def litEs (N : List Str) (sc : Scope) : List Expr → Option (List Lt)
  | [] => some []
  | e :: es => match litE N sc e, litEs N sc es with
    | some x, some xs => if plainArg e then some (x :: xs) else none
    | _, _ => none
end
mutual
def tLit : Lt → TE
  | .non => tC .non
  | .bl b => tC (.bl b)
  | .int i => tC (.int i)
  | .str x => tC (.str x)
  | .var i => tVar i
  | .tup xs => tTup (tLits xs)
  | .lst xs => tLst (tLits xs)
  | .dic => tDNewK
def tLits : List Lt → TA
  | [] => tNil
  | x :: xs => tCons (tLit x) (tLits xs)
end
mutual
def LtV (σ : St) (H : Hp) : Lt → V → Prop
  | .non, v => v = .non
  | .bl b, v => v = .bl b
  | .int i, v => v = .int i
  | .str x, v => v = .str x
  | .var i, v => σ[i]? = some (some v)
  | .tup xs, v => ∃ a us, v = .ref a ∧ H a = some (.tup us) ∧ LtVs σ H xs us
  | .lst xs, v => ∃ a us, v = .ref a ∧ H a = some (.lst us) ∧ LtVs σ H xs us
  | .dic, v => ∃ a, v = .ref a ∧ H a = some (.dK [])
def LtVs (σ : St) (H : Hp) : List Lt → List V → Prop
  | [], us => us = []
  | x :: xs, us => ∃ u r, us = u :: r ∧ LtV σ H x u ∧ LtVs σ H xs r
end
mutual
def ltVar (σ : St) : Lt → Bool
  | .var i => match σ[i]? with | some (some _) => true | _ => false
  | .tup xs => decide (xs.length ≤ 1000) && ltVars σ xs
  | .lst xs => decide (xs.length ≤ 1000) && ltVars σ xs
  | _ => true
def ltVars (σ : St) : List Lt → Bool
  | [] => true
  | x :: xs => ltVar σ x && ltVars σ xs
end
mutual
theorem LtV.same {σ : St} {H H' : Hp} (s : Same H H') : ∀ {l : Lt} {v : V}, LtV σ H l v → LtV σ H' l v
  | .non, _, h => h
  | .bl _, _, h => h
  | .int _, _, h => h
  | .str _, _, h => h
  | .var _, _, h => h
  | .tup _, _, ⟨a, us, h1, h2, h3⟩ => ⟨a, us, h1, s _ _ h2, LtVs.same s h3⟩
  | .lst _, _, ⟨a, us, h1, h2, h3⟩ => ⟨a, us, h1, s _ _ h2, LtVs.same s h3⟩
  | .dic, _, ⟨a, h1, h2⟩ => ⟨a, h1, s _ _ h2⟩
theorem LtVs.same {σ : St} {H H' : Hp} (s : Same H H') : ∀ {l : List Lt} {us : List V}, LtVs σ H l us → LtVs σ H' l us
  | [], _, h => h
  | _ :: _, _, ⟨u, r, h1, h2, h3⟩ => ⟨u, r, h1, LtV.same s h2, LtVs.same s h3⟩
end
theorem LtVs.len {σ : St} {H : Hp} : ∀ {l : List Lt} {us : List V}, LtVs σ H l us → us.length = l.length
  | [], _, h => by cases (show _ = ([] : List V) from h); rfl
  | _ :: _, _, ⟨u, r, h1, _, h3⟩ => by subst h1; simp [LtVs.len h3]
theorem sameNew {H : Hp} {p : Addr} (h : H p = none) (o : HO) : Same H (upd H p o) := fun b u z => by rw [upd_ne (ne_of_none z h)]; exact z
mutual
theorem lit_ok {σ : St} : ∀ (l : Lt) {H : Hp} {Q : VK}, ltVar σ l = true → (∀ v H', Same H H' → LtV σ H' l v → Q v H') → tLit l σ H Q
  | .non, H, Q, _, q => q _ _ (fun _ _ z => z) rfl
  | .bl _, H, Q, _, q => q _ _ (fun _ _ z => z) rfl
  | .int _, H, Q, _, q => q _ _ (fun _ _ z => z) rfl
  | .str _, H, Q, _, q => q _ _ (fun _ _ z => z) rfl
  | .var i, H, Q, h, q => by
    have h' : (match σ[i]? with | some (some _) => true | _ => false) = true := h
    cases e : σ[i]? with
    | none => rw [e] at h'; cases h'
    | some o =>
      cases o with
      | none => rw [e] at h'; cases h'
      | some v => exact ⟨v, e, q v H (fun _ _ z => z) e⟩
  | .tup xs, H, Q, h, q => by
    have h' : (decide (xs.length ≤ 1000) && ltVars σ xs) = true := h
    rw [Bool.and_eq_true] at h'
    refine lits_ok xs h'.2 fun us H1 s1 l1 => ⟨?_, fun p hp => ?_⟩
    · rw [l1.len]; exact Nat.le_trans (of_decide_eq_true h'.1) (by decide)
    · have s2 := sameNew hp (.tup us)
      exact q _ _ (fun b o z => s2 _ _ (s1 _ _ z)) ⟨p, us, rfl, upd_same, l1.same s2⟩
  | .lst xs, H, Q, h, q => by
    have h' : (decide (xs.length ≤ 1000) && ltVars σ xs) = true := h
    rw [Bool.and_eq_true] at h'
    refine lits_ok xs h'.2 fun us H1 s1 l1 => ⟨?_, fun p hp => ?_⟩
    · rw [l1.len]; exact Nat.le_trans (of_decide_eq_true h'.1) (by decide)
    · have s2 := sameNew hp (.lst us)
      exact q _ _ (fun b o z => s2 _ _ (s1 _ _ z)) ⟨p, us, rfl, upd_same, l1.same s2⟩
  | .dic, H, Q, _, q => fun p hp => q _ _ (sameNew hp _) ⟨p, rfl, upd_same⟩
theorem lits_ok {σ : St} : ∀ (l : List Lt) {H : Hp} {Q : List V → Hp → Prop}, ltVars σ l = true → (∀ us H', Same H H' → LtVs σ H' l us → Q us H') → tLits l σ H Q
  | [], H, Q, _, q => q [] H (fun _ _ z => z) rfl
  | x :: xs, H, Q, h, q => by
    have h' : (ltVar σ x && ltVars σ xs) = true := h
    rw [Bool.and_eq_true] at h'
    refine lit_ok x h'.1 fun v H1 s1 l1 => lits_ok xs h'.2 fun us H2 s2 l2 => ?_
    exact q _ _ (fun b o z => s2 _ _ (s1 _ _ z)) ⟨v, us, rfl, l1.same s2, l2⟩
end
section
variable {X : Cx}
theorem idxOf_at {N : List Str} {x : Str} {i : Nat} (h : N.idxOf? x = some i) : N[i]? = some x := by
  have := List.of_findIdx?_eq_some (p := fun y => y == x) (xs := N) h
  cases e : N[i]? with
  | none => rw [e] at this; cases this
  | some y =>
    rw [e] at this
    have : (y == x) = true := this
    rw [beq_iff_eq] at this
    rw [this]
theorem vis_of {sc : Scope} {x : Str} (h : visB sc x = true) : Vis sc x := by
  unfold visB at h
  unfold Vis
  cases e : sc.names.lookup x with
  | none => rw [e] at h; cases h
  | some k =>
    rw [e] at h
    cases k with
    | «local» => exact .inl rfl
    | cell => exact .inr (.inl rfl)
    | free => exact .inr (.inr rfl)
    | globalExplicit => cases h
    | globalImplicit => cases h
mutual
theorem pe_litN {N : List Str} {sc : Scope} (eN : X.N = N) (es : X.env.scope = sc) : ∀ (e : Expr) {l : Lt}, litE N sc e = some l → PE X e (tLit l) := fun e l h => by
  cases e with
  | Constant c k p =>
    cases c with
    | none => cases h; exact pe_non
    | bool b => cases h; exact pe_bl
    | int i => cases h; exact pe_int
    | str x => cases h; exact pe_str
    | _ => cases h
  | UnaryOp o a p =>
    cases o with
    | USub =>
      cases a with
      | Constant c k q =>
        cases c with
        | int i =>
          cases h
          intro pins s σ H Q I q
          exact pe_un un_neg pe_int pins s σ H Q I ⟨i, rfl, q⟩
        | _ => cases h
      | _ => cases h
    | _ => cases h
  | Name x p =>
    unfold litE at h
    cases z : N.idxOf? x with
    | none => rw [z] at h; cases h
    | some i =>
      rw [z] at h
      dsimp only at h
      by_cases c : (visB sc x && !(x == ("__debug__" : Str)) && !(x == ("__classdict__" : Str))) = true
      · rw [if_pos c] at h
        cases h
        rw [Bool.and_eq_true, Bool.and_eq_true] at c
        exact pe_var (by rw [eN]; exact idxOf_at z) (by rw [es]; exact vis_of c.1.1) (by simpa using c.1.2) (by simpa using c.2)
      · rw [if_neg c] at h; cases h
  | Tuple xs c p =>
    unfold litE at h
    cases z : litEs N sc xs with
    | none => rw [z] at h; cases h
    | some ls => rw [z] at h; cases h; exact pe_tup (pa_lits eN es xs z)
  | List xs p =>
    unfold litE at h
    cases z : litEs N sc xs with
    | none => rw [z] at h; cases h
    | some ls => rw [z] at h; cases h; exact pe_lst (pa_lits eN es xs z)
  | Dict ks vs p =>
    cases ks with
    | nil =>
      cases vs with
      | nil => cases h; exact pe_dnewK
      | cons _ _ => cases h
    | cons _ _ => cases h
  | _ => cases h
theorem pa_lits {N : List Str} {sc : Scope} (eN : X.N = N) (es : X.env.scope = sc) : ∀ (xs : List Expr) {ls : List Lt}, litEs N sc xs = some ls → PA X xs (tLits ls)
  | [], ls, h => by cases h; exact pa_nil
  | e :: r, ls, h => by
    unfold litEs at h
    cases z1 : litE N sc e with
    | none => rw [z1] at h; cases h
    | some x =>
      cases z2 : litEs N sc r with
      | none => rw [z1, z2] at h; cases h
      | some ys =>
        rw [z1, z2] at h
        dsimp only at h
        by_cases c : plainArg e = true
        · rw [if_pos c] at h
          cases h
          exact paS (pe_litN eN es e z1) (pa_lits eN es r z2) c
        · rw [if_neg c] at h; cases h
end
/-- statements that no elaborator looks into -/
structure Hold (X : Cx) (ss : List Stmt) (t : TS) : Prop where
  h : PSs X ss t
theorem pss_consH {st : Stmt} {rest : List Stmt} {t u : TS} (h1 : PS X st t) (h2 : Hold X rest u) : PSs X (st :: rest) (tSeq t u) := pss_cons h1 h2.h
end
end L2


set_option Elab.async false
set_option linter.all false
set_option maxRecDepth 100000
set_option maxHeartbeats 4000000
namespace L2
open PySem PySem.Spec PyProof.Rows
section
variable {X : Cx}
/-! ### two lists of the same things, or of unlike lengths -/
def noFlt : V → Bool
  | .flt _ => false
  | .byt _ => false
  | _ => true
def rSam (K : PySem.W.Frag) (neg : Bool) : R2 := fun x y H Q => ∃ a b xs ys, x = .ref a ∧ y = .ref b ∧ SqL K H a xs ∧ SqL K H b ys ∧ ((xs = ys ∧ (∀ v ∈ xs, noFlt v = true) ∧ Q (.bl (!neg)) H) ∨ (xs.length ≠ ys.length ∧ Q (.bl neg) H))
theorem eqAt_rel {A : Around} {s : Shared} {v : V} {u u' : Value} (h : noFlt v = true) (r : RelV v u) (r' : RelV v u') : PySem.SeqAt.EqAt A s u u' true := by
  cases v with
  | non => cases (show u = Value.none from r); cases (show u' = Value.none from r'); exact PySem.SeqAt.EqAt.same _
  | bl b => cases (show u = Value.bool b from r); cases (show u' = Value.bool b from r'); exact PySem.SeqAt.EqAt.same _
  | int i =>
    obtain ⟨t, rfl⟩ := (show ∃ t, u = Value.int i t from r)
    obtain ⟨t', rfl⟩ := (show ∃ t, u' = Value.int i t from r')
    have := PySem.SeqAt.EqAt.int_int (A := A) (s := s) i t i t'
    rwa [beq_self_eq_true] at this
  | str x =>
    obtain ⟨t, rfl⟩ := (show ∃ t, u = Value.str x t from r)
    obtain ⟨t', rfl⟩ := (show ∃ t, u' = Value.str x t from r')
    have := PySem.SeqAt.EqAt.str_str (A := A) (s := s) x t x t'
    rwa [beq_self_eq_true] at this
  | byt b => cases h
  | flt b => cases h
  | ref a => cases (show u = Value.ref a from r); cases (show u' = Value.ref a from r'); exact PySem.SeqAt.EqAt.same _
  | ty n => cases (show u = Value.type n from r); cases (show u' = Value.type n from r'); exact PySem.SeqAt.EqAt.same _
theorem sam_items {A : Around} {s : Shared} {xs : List V} {us ws : List Value} (h : ∀ v ∈ xs, noFlt v = true) (r : Vals xs us) (r' : Vals xs ws) : ∀ j (h1 : j < us.toArray.size) (h2 : j < ws.toArray.size), PySem.SeqAt.EqAt A s us.toArray[j] ws.toArray[j] true := by
  intro j h1 h2
  have l1 := r.length
  have h1' : j < us.length := by simpa using h1
  have hj : j < xs.length := by omega
  obtain ⟨u, e1, e2⟩ := r.get (List.getElem?_eq_getElem hj)
  obtain ⟨u', e3, e4⟩ := r'.get (List.getElem?_eq_getElem hj)
  have e5 : us.toArray[j] = u := by
    obtain ⟨_, z⟩ := List.getElem?_eq_some_iff.mp e1
    simpa using z
  have e6 : ws.toArray[j] = u' := by
    obtain ⟨_, z⟩ := List.getElem?_eq_some_iff.mp e3
    simpa using z
  rw [e5, e6]
  exact eqAt_rel (h _ (List.getElem_mem hj)) e2 e4
theorem all_true (n : Nat) : (List.range n).all (fun _ => true) = true := by
  rw [List.all_eq_true]
  exact fun _ _ => rfl
theorem op_samEq (hu : X.A.units + 64 < cLine) : OpR X (compareOp .Eq) (rSam X.K false) := by
  intro pins s σ H x y v u Q I rx ry h
  obtain ⟨a, b, xs, ys, rfl, rfl, ha, hb, q⟩ := h
  cases (show v = Value.ref a from rx)
  cases (show u = Value.ref b from ry)
  obtain ⟨us, ru, ⟨o, n, ho, hc, _, hd⟩, _⟩ := I.list ha
  obtain ⟨ws, rw_, ⟨o', n', ho', hc', _, hd'⟩, _⟩ := I.list hb
  have l1 : s.heap.IsList a us.toArray := ⟨o, ho, hc, n, hd⟩
  have l2 : s.heap.IsList b ws.toArray := ⟨o', ho', hc', n', hd'⟩
  have n1 := ru.length
  have n2 := rw_.length
  rcases q with ⟨rfl, hv, q⟩ | ⟨ne, q⟩
  · have z := PySem.SeqAt.RcAt.lists (A := X.A) (s := s) (e := fun _ => true) l1 l2 (by simp; omega) (by omega) (sam_items hv ru rw_)
    rw [all_true] at z
    exact z _ _ _ _ ⟨.bl true, H, I, rfl, q⟩
  · have z := PySem.SeqAt.RcAt.lists_lengths (A := X.A) (s := s) l1 l2 (by simp; omega) (by omega)
    exact z _ _ _ _ ⟨.bl false, H, I, rfl, q⟩
theorem op_samNe (hu : X.A.units + 64 < cLine) : OpR X (compareOp .NotEq) (rSam X.K true) := by
  intro pins s σ H x y v u Q I rx ry h
  obtain ⟨a, b, xs, ys, rfl, rfl, ha, hb, q⟩ := h
  cases (show v = Value.ref a from rx)
  cases (show u = Value.ref b from ry)
  obtain ⟨us, ru, ⟨o, n, ho, hc, _, hd⟩, _⟩ := I.list ha
  obtain ⟨ws, rw_, ⟨o', n', ho', hc', _, hd'⟩, _⟩ := I.list hb
  have l1 : s.heap.IsList a us.toArray := ⟨o, ho, hc, n, hd⟩
  have l2 : s.heap.IsList b ws.toArray := ⟨o', ho', hc', n', hd'⟩
  have n1 := ru.length
  have n2 := rw_.length
  rcases q with ⟨rfl, hv, q⟩ | ⟨ne, q⟩
  · have z := PySem.SeqAt.RcNeAt.lists (A := X.A) (s := s) (e := fun _ => true) l1 l2 (by simp; omega) (by omega) (sam_items hv ru rw_)
    rw [all_true] at z
    exact z _ _ _ _ ⟨.bl false, H, I, rfl, q⟩
  · have z := PySem.SeqAt.RcNeAt.lists_lengths (A := X.A) (s := s) l1 l2 (by simp; omega) (by omega)
    exact z _ _ _ _ ⟨.bl true, H, I, rfl, q⟩
end
end L2


set_option Elab.async false
set_option linter.all false
set_option maxRecDepth 100000
set_option maxHeartbeats 4000000
namespace L2
open PySem PySem.Spec PyProof.Rows
/-! ### list(reversed(a list)) -/
section
variable {prog : Program} {w : World} {A : Around} {E : Value → Shared → Prop} {s : Shared} {R : Result → Shared → Prop} {l it S : Addr} {items : Array Value}
end
end L2


set_option Elab.async false
set_option linter.all false
set_option maxRecDepth 100000
set_option maxHeartbeats 4000000
namespace L2
open PySem PySem.Spec PyProof.Rows
/-! ### a method of whatever class the object is of -/
section
variable {X : Cx} {o e : Expr} {es : List Expr} {ta te : TE} {t : TA} {m x : Str} {k : Nat} {p pos apos p2 pos2 : Pos} {C : Addr}
/-! ### C(), no __init__ of its own -/
/-! ### list(reversed(e)) -/
/-! ### != of two lists of texts -/
end
end L2


set_option Elab.async false
set_option linter.all false
set_option maxRecDepth 100000
set_option maxHeartbeats 4000000
namespace Mine
open PySem
/-! ### sayings as trees -/
inductive W5 where
  | more | less | greater | lesser | leads
def W5.str : W5 → Str
  | .more => "more" | .less => "less" | .greater => "greater" | .lesser => "lesser" | .leads => "leads"
inductive Tr where
  | never | always | lp | lq
  | no (t : Tr)
  | fold (w : W5) (a b : Tr)
/-! ### a text is of one tree -/
/-! ### worths, putting in, the parts in their order -/
end Mine


set_option Elab.async false
set_option linter.all false
set_option maxRecDepth 100000
set_option maxHeartbeats 4000000
namespace Mine
open PySem L2
/-! ### what stands in the heap -/
/-- tuples and instances stay -/
def fixO : HO → Bool
  | .tup _ => true
  | .ins _ _ _ => true
  | .own _ => true
  | .frz _ _ => true
  | _ => false
def Kp (H H' : Hp) : Prop := ∀ b o, H b = some o → fixO o = true → H' b = some o
theorem Kp.of {H H' : Hp} (e : Same H H') : Kp H H' := fun b o h _ => e b o h
theorem kp_mut {H : Hp} {l : Addr} {o u : HO} (h : H l = some o) (f : fixO o = false) : Kp H (upd H l u) := fun b z hb fz => by
  rw [upd_ne (ne_of hb h fun e => by rw [e, f] at fz; cases fz)]
  exact hb
theorem kit_same {K : PySem.W.Frag} {t : Value} : PySem.W.kitOne K t t = some true := by unfold PySem.W.kitOne; rw [if_pos (beq_self_eq_true t)]
/-- all but c stays -/
def SB (c : V) (H H' : Hp) : Prop := ∀ b o, H b = some o → V.ref b ≠ c → H' b = some o
theorem SB.trans {c : V} {H H1 H2 : Hp} (a : SB c H H1) (b : SB c H1 H2) : SB c H H2 := fun d o h n => b d o (a d o h n) n
theorem SB.of {c : V} {H H' : Hp} (e : Same H H') : SB c H H' := fun b o h _ => e b o h
theorem sb_upd {a : Addr} (H : Hp) (u : HO) : SB (.ref a) H (upd H a u) := fun b o h n => by
  rw [upd_ne fun z => n (by rw [z])]
  exact h
/-- the law's tuples -/
inductive Tu (H : Hp) : Addr → Tr → Prop where
  | never {a} : H a = some (.tup [.str "never"]) → Tu H a .never
  | always {a} : H a = some (.tup [.str "always"]) → Tu H a .always
  | lp {a} : H a = some (.tup [.str "p"]) → Tu H a .lp
  | lq {a} : H a = some (.tup [.str "q"]) → Tu H a .lq
  | no {a b t} : H a = some (.tup [.str "not", .ref b]) → Tu H b t → Tu H a (.no t)
  | fold {a b d w x y} : H a = some (.tup [.str (W5.str w), .ref b, .ref d]) → Tu H b x → Tu H d y → Tu H a (.fold w x y)
/-- the program's classes -/
structure CCs where
  (ne al le no mo ls gr lr ld : Addr)
def CCs.fold (c : CCs) : W5 → Addr
  | .more => c.mo | .less => c.ls | .greater => c.gr | .lesser => c.lr | .leads => c.ld
def fName (x : V) : List (Str × V) := [("name", x)]
def fPart (x : V) : List (Str × V) := [("part", x)]
def fTwo (x y : V) : List (Str × V) := [("one", x), ("other", y)]
inductive Ob (c : CCs) (H : Hp) : Addr → Tr → Prop where
  | never {a dx} : H a = some (.ins c.ne dx []) → Ob c H a .never
  | always {a dx} : H a = some (.ins c.al dx []) → Ob c H a .always
  | lp {a dx} : H a = some (.ins c.le dx (fName (.str "p"))) → Ob c H a .lp
  | lq {a dx} : H a = some (.ins c.le dx (fName (.str "q"))) → Ob c H a .lq
  | no {a dx b t} : H a = some (.ins c.no dx (fPart (.ref b))) → Ob c H b t → Ob c H a (.no t)
  | fold {a dx b d w x y} : H a = some (.ins (c.fold w) dx (fTwo (.ref b) (.ref d))) → Ob c H b x → Ob c H d y → Ob c H a (.fold w x y)
/-- things one by one -/
inductive All2 {α β : Type} (R : α → β → Prop) : List α → List β → Prop where
  | nil : All2 R [] []
  | cons {a b as bs} : R a b → All2 R as bs → All2 R (a :: as) (b :: bs)
theorem All2.app {α β : Type} {R : α → β → Prop} {as cs : List α} {bs ds : List β} (h : All2 R as bs) (k : All2 R cs ds) : All2 R (as ++ cs) (bs ++ ds) := by
  induction h with
  | nil => exact k
  | cons r _ ih => exact .cons r ih
theorem All2.len {α β : Type} {R : α → β → Prop} {as : List α} {bs : List β} (h : All2 R as bs) : as.length = bs.length := by
  induction h with
  | nil => rfl
  | cons _ _ ih => rw [List.length_cons, List.length_cons, ih]
theorem All2.get {α β : Type} {R : α → β → Prop} {as : List α} {bs : List β} (h : All2 R as bs) : ∀ (i : Nat) (a : α), as[i]? = some a → ∃ b, bs[i]? = some b ∧ R a b := by
  induction h with
  | nil => intro i a z; cases z
  | cons r _ ih =>
    intro i x z
    cases i with
    | zero => cases z; exact ⟨_, rfl, r⟩
    | succ i => exact ih i x z
/-- a piece: a word or a saying -/
inductive Pc where
  | w (x : Str)
  | t (t : Tr)
inductive PcV (c : CCs) (H : Hp) : V → Pc → Prop where
  | w (x : Str) : PcV c H (.str x) (.w x)
  | t {a : Addr} {t : Tr} : Ob c H a t → PcV c H (.ref a) (.t t)
end Mine

namespace L2
open PySem PySem.Spec PyProof.Rows
section
variable {P : Program} {w : World} {K : PySem.W.Frag} {mg : Str → Option Value} {base : Heap}
end
section
variable {X : Cx} {x : Str} {C : Addr} {k : Nat} {ps : List Str} {sp : Sp} {e : Expr} {es : List Expr} {t : TA} {p pos : Pos}
end
end L2
namespace Mine
open PySem L2
/-! ### the classes -/
/-! ### promises -/
end Mine

namespace Mine
open PySem L2

end Mine
namespace Mine
open PySem L2
end Mine


set_option Elab.async false
set_option linter.all false
set_option maxRecDepth 100000
set_option maxHeartbeats 4000000
namespace Mine
open PySem L2
/-! ### promises of the law's own defs -/
end Mine
namespace L2
open PySem PySem.Spec PyProof.Rows
/-! ### t[lo:hi], also the whole -/
namespace HT
variable {prog : Program} {w : World} {A : Around} {E : Value → Shared → Prop} {s : Shared}
theorem item_whole {t sl : Addr} {items : Array Value} {vl vu : Value} {lo hi : Option Int} {Q : Value → Shared → Prop} (ht : IsTup s.heap t items) (hs : s.heap.IsSliceOf sl vl vu .none) (pl : IsPart vl lo) (pu : IsPart vu hi)
    (h0 : _root_.HT.sIx items.size 0 lo = 0) (h1 : _root_.HT.sIx items.size items.size hi = items.size) (h : Q (.ref t) s) : wpAny (model prog w) A (getItem (.ref t) (.ref sl)) Q E s := by
  obtain ⟨os, hos, hcs, hds⟩ := id hs
  have hTs : s.TypeIs (.ref sl) "slice" := ⟨os, hos, hcs⟩
  unfold getItem
  try with_reducible refine wpAny_holding ?_
  first | refine wpAny_bind (wpAny_pure ?_) | skip
  refine wpAny_bind (wpAny_sequenceKey ht.typeIs (by decide) ?_)
  refine wpAny_bind (wpAny_callSpecial?_slot (name := Str.ofString "__getitem__") ht.typeIs PyProof.Rows.slot_tuple_getitem
    (wpAny_call_entry PyProof.Rows.slot_tuple_getitem ht.typeIs PyProof.Rows.entry_tuple_getitem ?_ (PyProof.Rows.args_tuple_getitem _ _)))
  show wpAny _ _ (Builtin.Tuple.tupleItemsOf (.ref t) >>= _) _ _ s
  refine wpAny_bind (PyProof.Rows.tupleItemsOf_ ht ?_)
  refine wpAny_bind (wpAny_typeOf hTs ?_)
  rw [if_pos (by decide)]
  refine wpAny_bind (_root_.HT.sliceApplied_gen hs pl pu ?_)
  have yes : (((_root_.HT.sIx items.size 0 lo : Nat) : Int) == 0 && (1 : Int) == 1 && (_root_.HT.sIx items.size items.size hi - _root_.HT.sIx items.size 0 lo) == items.size) = true := by rw [h0, h1]; simp
  show wpAny _ _ (if (((_root_.HT.sIx items.size 0 lo : Nat) : Int) == 0 && (1 : Int) == 1 && (_root_.HT.sIx items.size items.size hi - _root_.HT.sIx items.size 0 lo) == items.size) = true then _ else _) _ _ s
  rw [if_pos yes]
  unfold Builtin.Tuple.tupleIsExact
  refine wpAny_bind (wpAny_bind (wpAny_typeOf ht.typeIs (wpAny_pure ?_)))
  rw [if_pos (by decide)]
  exact wpAny_bind (wpAny_rule (wpAny_pure ⟨_, rfl, wpAny_pure h⟩))
end HT
section
variable {X : Cx}
def rSlA (K : PySem.W.Frag) : V → Option Int → Option Int → Hp → VK → Prop := fun x lo hi H Q => ∃ (a : Addr) (xs : List V), x = .ref a ∧ SqT K H a xs ∧ (_root_.HT.sIx xs.length 0 lo = 0 → _root_.HT.sIx xs.length xs.length hi = xs.length → Q (.ref a) H) ∧
  (¬ (_root_.HT.sIx xs.length 0 lo = 0 ∧ _root_.HT.sIx xs.length xs.length hi = xs.length) → ∀ p, H p = none → Q (.ref p) (upd H p (.tup (cutV xs lo hi))))
theorem sl_tupA : SlR X (rSlA X.K) := by
  intro pins s σ H x v vl vu lo hi sl Q I rx hs pl pu h
  obtain ⟨a, xs, rfl, hx, q1, q2⟩ := h
  by_cases hw : _root_.HT.sIx xs.length 0 lo = 0 ∧ _root_.HT.sIx xs.length xs.length hi = xs.length
  · cases rx
    obtain ⟨its, r, ht, hz⟩ := I.tuple hx
    have hlen : its.toArray.size = xs.length := by rw [List.size_toArray]; exact r.length.symm
    refine ⟨"tuple", _, PyProof.Rows.slot_tuple_getitem.lookup, ht.typeIs, ?_⟩
    exact HT.item_whole ht hs pl pu (by rw [hlen]; exact hw.1) (by rw [hlen]; exact hw.2) ⟨.ref a, H, I, rfl, q1 hw.1 hw.2⟩
  · exact sl_tup pins s σ H (.ref a) v vl vu lo hi sl Q I rx hs pl pu ⟨a, xs, rfl, hx, hw, q2 hw⟩
end
end L2
namespace Mine
open PySem L2
end Mine
namespace Mine
open PySem L2
end Mine
namespace Mine
open PySem L2
end Mine
namespace Mine
open PySem L2
theorem tNoIf_go {σ : St} {H : Hp} {A B : Hp → Prop} (h : A H) : tNoIf σ H fun b H4 => if b = true then A H4 else B H4 := by
  show if true = true then A H else B H
  rw [if_pos rfl]
  exact h
end Mine
namespace L2
open PySem PySem.Spec PyProof.Rows
end L2
namespace Mine
open PySem L2
/-! ### comprehensions without a test -/
theorem comp_from {wi : TI} {tc : TT} {te : TE} {js : List Nat} {σ : St} {H : Hp} {Q : VK} (h : wi σ H fun J H1 => tComp (fun _ H R => R J H) tc te js σ H1 Q) : tComp wi tc te js σ H Q := h
theorem comp_list {K : PySem.W.Frag} {wi : TI} {te : TE} {js : List Nat} {σ : St} {H0 : Hp} {Q : VK} {xs : List V} (Src : Addr → Hp → Prop) (hwi : ∀ R : It → Hp → Prop, (∀ l H, Src l H → R (Itl K l) H) → wi σ H0 R) (hsrc : ∀ l H, Src l H → H l = some (.lst xs)) (hx : xs.length ≤ 1000)
    (Pv : Addr → Addr → Nat → List V → Hp → Prop) (h0 : ∀ l H D, Src l H → H D = none → Pv l D 0 [] (upd H D (.lst [])))
    (hs : ∀ l D i v ys H', xs[i]? = some v → l ≠ D → H' l = some (.lst xs) → H' D = some (.lst ys) → Pv l D i ys H' → ∀ N : VK, (∀ y H'', H'' l = some (.lst xs) → H'' D = some (.lst ys) → Pv l D (i + 1) (ys ++ [y]) (upd H'' D (.lst (ys ++ [y]))) → N y H'') → te (some v :: cVals js σ) H' N)
    (hd : ∀ l D ys H', H' l = some (.lst xs) → H' D = some (.lst ys) → Pv l D xs.length ys H' → Q (.ref D) H') : tComp wi tNoIf te js σ H0 Q := by
  refine hwi _ fun l H src => ?_
  intro D hD
  have e := hsrc l H src
  have nl : l ≠ D := ne_of_none e hD
  refine ⟨fun i m H' => m = xs.length - i ∧ i ≤ xs.length ∧ H' l = some (.lst xs) ∧ ∃ ys, ys.length = i ∧ H' D = some (.lst ys) ∧ Pv l D i ys H', ⟨xs.length, rfl, Nat.zero_le _, by rw [upd_ne nl]; exact e, [], rfl, upd_same, h0 l H D src hD⟩, ?_⟩
  rintro i m H2 ⟨rfl, hi, e2, ys, hy, eD, p⟩
  by_cases hlt : i < xs.length
  · refine .inr ⟨⟨xs, xs[i], SqL.of e2, by simp [hlt]⟩, fun v H3 y => ?_⟩
    obtain ⟨eh, y⟩ := y
    subst eh
    refine tNoIf_go ?_
    refine hs l D i v ys _ (y xs (SqL.of e2)) nl e2 eD p _ fun y H5 z1 z2 z3 => ?_
    exact ⟨ys, z2, Nat.lt_of_le_of_lt (show ys.length ≤ 1000 by omega) (by decide), xs.length - (i + 1), by omega, rfl, hlt, by rw [upd_ne nl]; exact z1, ys ++ [y], by rw [List.length_append, hy]; rfl, upd_same, z3⟩
  · have ei : i = xs.length := by omega
    subst ei
    exact .inl ⟨⟨xs, SqL.of e2, Nat.le_refl _⟩, hd l D ys H2 e2 eD p⟩
theorem comp_tup {K : PySem.W.Frag} {wi : TI} {te : TE} {js : List Nat} {σ : St} {H0 : Hp} {Q : VK} {xs : List V} (Src : Addr → Hp → Prop) (hwi : ∀ R : It → Hp → Prop, (∀ l H, Src l H → R (Itt K l) H) → wi σ H0 R) (hsrc : ∀ l H, Src l H → H l = some (.tup xs)) (hx : xs.length ≤ 1000)
    (Pv : Addr → Addr → Nat → List V → Hp → Prop) (h0 : ∀ l H D, Src l H → H D = none → Pv l D 0 [] (upd H D (.lst [])))
    (hs : ∀ l D i v ys H', xs[i]? = some v → l ≠ D → H' l = some (.tup xs) → H' D = some (.lst ys) → Pv l D i ys H' → ∀ N : VK, (∀ y H'', H'' l = some (.tup xs) → H'' D = some (.lst ys) → Pv l D (i + 1) (ys ++ [y]) (upd H'' D (.lst (ys ++ [y]))) → N y H'') → te (some v :: cVals js σ) H' N)
    (hd : ∀ l D ys H', H' l = some (.tup xs) → H' D = some (.lst ys) → Pv l D xs.length ys H' → Q (.ref D) H') : tComp wi tNoIf te js σ H0 Q := by
  refine hwi _ fun l H src => ?_
  intro D hD
  have e := hsrc l H src
  have nl : l ≠ D := ne_of_none e hD
  refine ⟨fun i m H' => m = xs.length - i ∧ i ≤ xs.length ∧ H' l = some (.tup xs) ∧ ∃ ys, ys.length = i ∧ H' D = some (.lst ys) ∧ Pv l D i ys H', ⟨xs.length, rfl, Nat.zero_le _, by rw [upd_ne nl]; exact e, [], rfl, upd_same, h0 l H D src hD⟩, ?_⟩
  rintro i m H2 ⟨rfl, hi, e2, ys, hy, eD, p⟩
  by_cases hlt : i < xs.length
  · refine .inr ⟨⟨xs, xs[i], SqT.of e2, by simp [hlt]⟩, fun v H3 y => ?_⟩
    obtain ⟨eh, y⟩ := y
    subst eh
    refine tNoIf_go ?_
    refine hs l D i v ys _ (y xs (SqT.of e2)) nl e2 eD p _ fun y H5 z1 z2 z3 => ?_
    exact ⟨ys, z2, Nat.lt_of_le_of_lt (show ys.length ≤ 1000 by omega) (by decide), xs.length - (i + 1), by omega, rfl, hlt, by rw [upd_ne nl]; exact z1, ys ++ [y], by rw [List.length_append, hy]; rfl, upd_same, z3⟩
  · have ei : i = xs.length := by omega
    subst ei
    exact .inl ⟨⟨xs, SqT.of e2, Nat.le_refl _⟩, hd l D ys H2 e2 eD p⟩
theorem comp_mapT {α : Type} {K : PySem.W.Frag} {wi : TI} {te : TE} {js : List Nat} {σ : St} {H : Hp} {Q : VK} {xs : List V} {ts : List α} {R : Hp → V → α → Prop} (g : α → V) (hR : ∀ H H' v t, Same H H' → R H v t → R H' v t) (Src : Addr → Hp → Prop)
    (hwi : ∀ R : It → Hp → Prop, (∀ l H, Src l H → R (Itt K l) H) → wi σ H R) (hsrc : ∀ l H', Src l H' → H' l = some (.tup xs) ∧ Same H H') (hx : xs.length ≤ 1000) (o : All2 (R H) xs ts)
    (hs : ∀ v t H' (N : VK), t ∈ ts → R H' v t → (∀ H'', Same H' H'' → N (g t) H'') → te (some v :: cVals js σ) H' N) (hd : ∀ D H', Same H H' → H D = none → H' D = some (.lst (ts.map g)) → Q (.ref D) H') : tComp wi tNoIf te js σ H Q := by
  refine comp_tup Src hwi (fun l H src => (hsrc l H src).1) hx (fun l D i ys H' => H D = none ∧ Same H H' ∧ ys = (ts.take i).map g) (fun l H' D src hD => ⟨(hsrc l H' src).2.free hD, (hsrc l H' src).2.trans (same_new hD _), rfl⟩) (fun l D i v ys H' hv nl el eD h N hN => ?_) (fun l D ys H' el eD h => ?_)
  · obtain ⟨hD, sm, rfl⟩ := h
    obtain ⟨t, ht, hr⟩ := o.get i v hv
    refine hs v t H' N (List.mem_of_getElem? ht) (hR _ _ _ _ sm hr) fun H'' s2 => hN _ _ (s2 _ _ el) (s2 _ _ eD) ⟨hD, fun d u z => ?_, ?_⟩
    · rw [upd_ne (ne_of_none z hD)]
      exact s2 _ _ (sm _ _ z)
    · rw [List.take_add_one, ht, List.map_append]
      rfl
  · obtain ⟨hD, sm, rfl⟩ := h
    refine hd D H' sm hD ?_
    rw [o.len, List.take_length] at eD
    exact eD

end Mine
namespace Mine
open PySem L2
end Mine


set_option Elab.async false
set_option linter.all false
set_option maxRecDepth 100000
set_option maxHeartbeats 4000000
namespace L2
open PySem PySem.Spec PyProof.Rows
end L2
namespace Mine
open PySem L2
/-! ### a comprehension over range, without a test -/
theorem comp_range {wi : TI} {te : TE} {js : List Nat} {σ : St} {H0 : Hp} {Q : VK} {lo : Int} {n : Nat} (Src : Hp → Prop) (hwi : ∀ R : It → Hp → Prop, (∀ H, Src H → R (Itr lo n) H) → wi σ H0 R) (hx : n ≤ 1000)
    (Pv : Addr → Nat → List V → Hp → Prop) (h0 : ∀ H D, Src H → H D = none → Pv D 0 [] (upd H D (.lst [])))
    (hs : ∀ D i ys H', i < n → H' D = some (.lst ys) → Pv D i ys H' → ∀ N : VK, (∀ y H'', H'' D = some (.lst ys) → Pv D (i + 1) (ys ++ [y]) (upd H'' D (.lst (ys ++ [y]))) → N y H'') → te (some (.int (lo + i)) :: cVals js σ) H' N)
    (hd : ∀ D ys H', H' D = some (.lst ys) → Pv D n ys H' → Q (.ref D) H') : tComp wi tNoIf te js σ H0 Q := by
  refine hwi _ fun H src => ?_
  intro D hD
  refine ⟨fun i m H' => m = n - i ∧ i ≤ n ∧ ∃ ys, ys.length = i ∧ H' D = some (.lst ys) ∧ Pv D i ys H', ⟨n, rfl, Nat.zero_le _, [], rfl, upd_same, h0 H D src hD⟩, ?_⟩
  rintro i m H2 ⟨rfl, hi, ys, hy, eD, p⟩
  by_cases hlt : i < n
  · refine .inr ⟨hlt, fun v H3 y => ?_⟩
    obtain ⟨eh, ev⟩ := y
    subst eh ev
    refine tNoIf_go ?_
    refine hs D i ys _ hlt eD p _ fun y H5 z2 z3 => ?_
    exact ⟨ys, z2, Nat.lt_of_le_of_lt (show ys.length ≤ 1000 by omega) (by decide), n - (i + 1), by omega, rfl, hlt, ys ++ [y], by rw [List.length_append, hy]; rfl, upd_same, z3⟩
  · have ei : i = n := by omega
    subst ei
    exact .inl ⟨Nat.le_refl _, hd D ys H2 eD p⟩
theorem All2.mem {α : Type} {R R' : V → α → Prop} {us : List V} {ts : List α} (h : All2 R us ts) (k : ∀ v ∈ us, ∀ t, R v t → R' v t) : All2 R' us ts := by
  induction h with
  | nil => exact .nil
  | cons r _ ih => exact .cons (k _ List.mem_cons_self _ r) (ih fun v hv => k v (List.mem_cons_of_mem _ hv))
/-- one that makes something new of each number, all that stood stays -/
theorem comp_rangeM {wi : TI} {te : TE} {js : List Nat} {σ : St} {H : Hp} {Q : VK} {lo : Int} {n : Nat} (R : Hp → V → Nat → Prop) (hR : ∀ D H H' v i, SB (.ref D) H H' → v ≠ .ref D → R H v i → R H' v i) (Src : Hp → Prop) (hwi : ∀ R : It → Hp → Prop, (∀ H, Src H → R (Itr lo n) H) → wi σ H R) (hsrc : ∀ H', Src H' → Same H H') (hx : n ≤ 1000)
    (hs : ∀ i H' (N : VK), i < n → Same H H' → (∀ v H'', Same H' H'' → (∀ a, v = .ref a → H' a = none) → R H'' v i → N v H'') → te (some (.int (lo + i)) :: cVals js σ) H' N)
    (hd : ∀ D ys H', Same H H' → H D = none → H' D = some (.lst ys) → All2 (R H') ys (List.range n) → Q (.ref D) H') : tComp wi tNoIf te js σ H Q := by
  refine comp_range Src hwi hx (fun D i ys H' => H D = none ∧ Same H H' ∧ (∀ v ∈ ys, v ≠ .ref D) ∧ All2 (R H') ys (List.range i)) (fun H' D src hD => ⟨(hsrc H' src).free hD, (hsrc H' src).trans (same_new hD _), (fun _ z => nomatch z), .nil⟩) (fun D i ys H' hi eD h N hN => ?_) (fun D ys H' eD h => hd D ys H' h.2.1 h.1 eD h.2.2.2)
  obtain ⟨hD, sm, nD, al⟩ := h
  refine hs i H' N hi sm fun v H'' s2 fr r => ?_
  have eD2 := s2 _ _ eD
  have nv : v ≠ .ref D := fun z => by have := fr D z; rw [eD] at this; cases this
  have sb1 : SB (.ref D) H' (upd H'' D (.lst (ys ++ [v]))) := (SB.of s2).trans (sb_upd _ _)
  refine hN v H'' eD2 ⟨hD, same_mut (sm.trans s2) hD _, fun u hu => ?_, ?_⟩
  · rcases List.mem_append.mp hu with hu | hu
    · exact nD u hu
    · rw [List.mem_singleton.mp hu]; exact nv
  · rw [List.range_succ]
    exact (al.mem fun u hu t ru => hR D _ _ _ _ sb1 (nD u hu) ru).app (.cons (hR D _ _ _ _ (sb_upd _ _) nv r) .nil)
end Mine


set_option Elab.async false
set_option linter.all false
set_option maxRecDepth 100000
set_option maxHeartbeats 4000000
namespace Mine
open PySem L2
/-- a comprehension over a list that makes something new of each item, all that stood stays -/
theorem comp_listM {α : Type} {K : PySem.W.Frag} {wi : TI} {te : TE} {js : List Nat} {σ : St} {H : Hp} {Q : VK} {xs : List V} {ts : List α} {R0 R : Hp → V → α → Prop} (hR0 : ∀ H H' v t, Same H H' → R0 H v t → R0 H' v t) (hR : ∀ D H H' v t, SB (.ref D) H H' → v ≠ .ref D → R H v t → R H' v t) (Src : Addr → Hp → Prop)
    (hwi : ∀ R : It → Hp → Prop, (∀ l H, Src l H → R (Itl K l) H) → wi σ H R) (hsrc : ∀ l H', Src l H' → H' l = some (.lst xs) ∧ Same H H') (hx : xs.length ≤ 1000) (o : All2 (R0 H) xs ts)
    (hs : ∀ v t H' (N : VK), t ∈ ts → Same H H' → R0 H' v t → (∀ v' H'', Same H' H'' → (∀ a, v' = .ref a → H' a = none) → R H'' v' t → N v' H'') → te (some v :: cVals js σ) H' N)
    (hd : ∀ D ys H', Same H H' → H D = none → H' D = some (.lst ys) → All2 (R H') ys ts → Q (.ref D) H') : tComp wi tNoIf te js σ H Q := by
  refine comp_list Src hwi (fun l H src => (hsrc l H src).1) hx (fun l D i ys H' => H D = none ∧ Same H H' ∧ (∀ v ∈ ys, v ≠ .ref D) ∧ All2 (R H') ys (ts.take i)) (fun l H' D src hD => ⟨(hsrc l H' src).2.free hD, (hsrc l H' src).2.trans (same_new hD _), (fun _ z => nomatch z), .nil⟩) (fun l D i v ys H' hv nl el eD h N hN => ?_) (fun l D ys H' el eD h => ?_)
  · obtain ⟨hD, sm, nD, al⟩ := h
    obtain ⟨t, ht, hr⟩ := o.get i v hv
    refine hs v t H' N (List.mem_of_getElem? ht) sm (hR0 _ _ _ _ sm hr) fun v' H'' s2 fr r => ?_
    have eD2 := s2 _ _ eD
    have nv : v' ≠ .ref D := fun z => by have := fr D z; rw [eD] at this; cases this
    have sb1 : SB (.ref D) H' (upd H'' D (.lst (ys ++ [v']))) := (SB.of s2).trans (sb_upd _ _)
    refine hN _ _ (s2 _ _ el) eD2 ⟨hD, same_mut (sm.trans s2) hD _, fun u hu => ?_, ?_⟩
    · rcases List.mem_append.mp hu with hu | hu
      · exact nD u hu
      · rw [List.mem_singleton.mp hu]; exact nv
    · rw [List.take_succ, ht]
      exact (al.mem fun u hu t ru => hR D _ _ _ _ sb1 (nD u hu) ru).app (.cons (hR D _ _ _ _ (sb_upd _ _) nv r) .nil)
  · obtain ⟨hD, sm, nD, al⟩ := h
    refine hd D ys H' sm hD eD ?_
    rwa [o.len, List.take_length] at al
end Mine


set_option Elab.async false
set_option linter.all false
set_option maxRecDepth 100000
set_option maxHeartbeats 4000000
namespace L2
open PySem PySem.Spec PyProof.Rows
/-! ### for x in a dict whose keys are tuples: the dict is known to its object (frozen) from there on -/
section
variable {prog : Program} {w : World} {A : Around} {E : Value → Shared → Prop} {s : Shared}
/-- the dict object with its entries -/
structure EsAt (h : Heap) (d : Addr) (es : Array DictEntry) (ep : Nat) : Prop where
  ex : ∃ o, h.get? d = some o ∧ o.ExactDict ∧ o.data = .dict es ep
theorem EsAt.ty {d : Addr} {es : Array DictEntry} {ep : Nat} (x : EsAt s.heap d es ep) : s.TypeIs (.ref d) "dict" := by
  obtain ⟨o, ho, hc, _⟩ := x.ex
  exact ⟨o, ho, hc.1⟩
theorem es_iter {d : Addr} {es : Array DictEntry} {ep : Nat} {Q : Value → Shared → Prop} (hd : (d == sysModules) = false) (x : EsAt s.heap d es ep)
    (q : Q (.ref s.heap.objs.size) { s with heap := s.heap.push { cls := .type "dict_keyiterator", data := .fields #[.ref d, .int 0 0, .int es.size 0, .int ep 0] } }) : wpAny (model prog w) A (pyIter (.ref d)) Q E s := by
  have ty := x.ty
  obtain ⟨o, ho, hc, dat⟩ := x.ex
  refine wpAny_pyIter_slot ty F.slot_dict_iter (wpAny_call_entry F.slot_dict_iter ty F.entry_dict_iter ?_ (F.args_dict_iter_1 _))
  show wpAny _ _ (Builtin.Dict.dictSlotNone _ _ >>= _) _ _ s
  unfold Builtin.Dict.dictSlotNone
  refine wpAny_bind (wpAny_bind (wpAny_notOrdered_dict ty (wpAny_pure ?_)))
  have no : ¬ ((d == sysModules) = true) := by rw [hd]; exact Bool.false_ne_true
  show wpAny _ _ (Builtin.Dict.showsAll d >>= _) _ _ s
  unfold Builtin.Dict.showsAll
  rw [if_neg no]
  refine wpAny_bind (wpAny_pure (wpAny_bind (wpAny_dictEntries ho dat (wpAny_bind (wpAny_dictEpoch ho dat (wpAny_bind (wpAny_newObj_type (wpAny_pure ⟨_, rfl, "dict_keyiterator", _, ⟨_, Heap.get?_push_size _ rfl, rfl⟩, F.slot_dict_keyiterator_next.lookup, ?_⟩))))))))
  simpa [rawInt] using q
/-- the iterator's next: the entry at its place, or none -/
theorem es_next {it d : Addr} {i ep : Nat} {es : Array DictEntry} {Q : Option Value → Shared → Prop} (hh : A.handled = none) (k : s.heap.IsKeyIter it d i es.size ep) (x : EsAt s.heap d es ep)
    (q1 : ∀ e h', es[i]? = some e → h'.IsKeyIter it d (i + 1) es.size ep → Heap.SameBut it s.heap h' → Q (some e.key) { s with heap := h' })
    (q2 : ∀ h', es[i]? = none → Heap.ExtBut it s.heap h' → Q none { s with heap := h' }) : wpAny (model prog w) A (pyNext (.ref it)) Q E s := by
  have ty := k.typeIs
  obtain ⟨io, hio, ic, idt⟩ := id k
  obtain ⟨o, ho, hc, dat⟩ := x.ex
  unfold pyNext
  refine wpAny_bind (wpAny_attempt (wpAny_callSpecial?_slot (name := Str.ofString "__next__") ty F.slot_dict_keyiterator_next (wpAny_call_entry F.slot_dict_keyiterator_next ty F.entry_dict_keyiterator_next ?_ (F.args_dict_keyiterator_next_1 _))))
  have own : Builtin.Dict_items.ownsTuple "dict_keyiterator" = false := by decide
  have nn : ¬ ((Value.ref d == Value.none) = true) := Bool.false_ne_true
  have i0 : ¬ ((i : Int) < 0) := by omega
  -- its place
  refine wpAny_bind (wpAny_pure (wpAny_bind (wpAny_bind ?_)))
  refine wpAny_bind (wpAny_typeNameOfWhole_keyiter ty (wpAny_pure (wpAny_bind (wpAny_fieldsOf hio idt ?_))))
  simp only [own, Bool.false_eq_true, if_false]
  show wpAny _ _ (if (Value.ref d == Value.none) = true then _ else _) _ _ s
  rw [if_neg nn]
  refine wpAny_bind (wpAny_pure (wpAny_bind (wpAny_dictEntries ho dat ?_)))
  rw [if_neg (by simp)]
  refine wpAny_bind (wpAny_pure (wpAny_bind (wpAny_dictEpoch ho dat ?_)))
  rw [if_neg (by simp)]
  refine wpAny_pure ?_
  cases e : es[i]? with
  | some en =>
    simp only [i0, if_false, Int.toNat_natCast, e]
    refine wpAny_bind (wpAny_bind (wpAny_typeNameOfWhole_keyiter ty (wpAny_pure (wpAny_bind (wpAny_isOneOf_keyiter ty ?_)))))
    show wpAny _ _ (setField (.ref it) 1 (rawInt ((i : Int) + 1)) >>= _) _ _ s
    refine wpAny_bind (wpAny_setField hio idt (by simp) ?_)
    have k' : (s.heap.update it (Obj.mapFields (·.setIfInBounds 1 (rawInt ((i : Int) + 1))))).IsKeyIter it d (i + 1) es.size ep :=
      ⟨_, Heap.get?_update_self _ hio (Obj.isFreed_of_fields (Obj.data_mapFields idt _)), (Obj.cls_mapFields ..).trans ic, by rw [Obj.data_mapFields idt]; simp [rawInt]⟩
    refine wpAny_bind (wpAny_holding (wpAny_bind (wpAny_isOneOf_keyiter (s := { s with heap := s.heap.update it (Obj.mapFields (·.setIfInBounds 1 (rawInt ((i : Int) + 1)))) }) k'.typeIs ?_)))
    show wpAny _ _ (pure en.key) _ _ _
    exact wpAny_pure (wpAny_pure ⟨_, rfl, wpAny_pure (q1 en _ e k' (Heap.SameBut.update ..))⟩)
  | none =>
    simp only [i0, if_false, Int.toNat_natCast, e]
    refine wpAny_bind (wpAny_bind (wpAny_typeNameOfWhole_keyiter ty (wpAny_pure ?_)))
    show wpAny _ _ (setField (.ref it) 0 .none >>= _) _ _ s
    refine wpAny_bind (wpAny_setField hio idt (by simp) ?_)
    show wpAny _ _ (newExc (.type "StopIteration") [] >>= _) _ _ _
    refine wpAny_bind ?_
    simp only [newExc, newTuple]
    refine wpAny_bind (wpAny_newObj_type ?_ (by size_fits))
    refine wpAny_bind (m := firstArgMember _ _) (wpAny_of_eq (a := Value.none) (by rfl) ?_)
    refine wpAny_newObj_type ?_ (by size_fits)
    simp only [raiseNew]
    refine wpAny_bind (wpAny_handled ?_)
    rw [show A.in1.handled = none from hh]
    refine wpAny_bind (wpAny_pure (wpAny_throw ?_))
    refine wpAny_bind (wpAny_isInstance (T := "StopIteration") (b := true) ⟨_, Heap.get?_push_size _ rfl, rfl⟩ isSubtype_stop ?_)
    exact wpAny_pure (q2 _ e (((Heap.SameBut.update ..).extBut.push _).push _))
end
theorem paired_at {α β : Type} {R : α → β → Prop} : ∀ {as : List α} {bs : List β}, Paired R as bs → as.length = bs.length ∧ ∀ (i : Nat) (b : β), bs[i]? = some b → ∃ a, as[i]? = some a ∧ R a b
  | _, _, .nil => ⟨rfl, fun i b h => by simp at h⟩
  | _, _, .cons r t => by
    obtain ⟨l, k⟩ := paired_at t
    refine ⟨by simp [l], fun i b h => ?_⟩
    cases i with
    | zero => cases h; exact ⟨_, rfl, r⟩
    | succ i => simpa using k i b (by simpa using h)
/-- the keys of the dict at d, one by one -/
def Itd (d : Addr) (o : Obj) (kvs : List (List Key × V)) : It :=
  ⟨fun i H => H d = some (.frz o (.dT kvs)) ∧ i < kvs.length, fun i H x H' => H' = H ∧ ∃ b k v, kvs[i]? = some (k, v) ∧ x = .ref b ∧ H b = some (.tup (k.map kV)), fun i H => H d = some (.frz o (.dT kvs)) ∧ kvs.length ≤ i⟩
theorem es_of {P : Program} {w : World} {H : Hp} {h : Heap} {d : Addr} {o : Obj} {kvs : List (List Key × V)} {es : Array DictEntry} {ep : Nat} (dat : o.data = .dict es ep) (ok : HOk P w H h) (e : H d = some (.frz o (.dT kvs))) :
    EsAt h d es ep ∧ es.size = kvs.length ∧ ∀ (i : Nat) (en : DictEntry), es[i]? = some en → ∃ (b : Addr) (k : List Key) (v : V), kvs[i]? = some (k, v) ∧ en.key = Value.ref b ∧ H b = some (.tup (k.map kV)) := by
  obtain ⟨e1, _, _, xs, pr, o', es', ep', e2, exd, dat', el, _⟩ := (show ObjOk P w H h d (.frz o (.dT kvs)) from ok d _ e)
  rw [e1] at e2
  cases e2
  rw [dat] at dat'
  cases dat'
  obtain ⟨l, at_⟩ := paired_at pr
  refine ⟨⟨o, e1, exd, dat⟩, ?_, fun i en he => ?_⟩
  · rw [← Array.length_toList, el, List.length_map, l]
  · have he' : es.toList[i]? = some en := by rw [Array.getElem?_toList]; exact he
    rw [el, List.getElem?_map] at he'
    cases ex : xs[i]? with
    | none => rw [ex] at he'; cases he'
    | some x =>
      rw [ex] at he'
      cases he'
      obtain ⟨⟨k, v⟩, ea, r1, r2, _⟩ := at_ i x ex
      exact ⟨x.2.1, k, v, ea, rfl, r2⟩
theorem turn_dict {P : Program} {w : World} {K : PySem.W.Frag} {tg : Expr} (d it : Addr) (o : Obj) (kvs : List (List Key × V)) {es : Array DictEntry} {ep : Nat} (dat : o.data = .dict es ep) : Turn P w K tg (Itd d o kvs) [it] it (fun i h => h.IsKeyIter it d i es.size ep) where
  mem := by simp
  obj := fun i h st b hb => by
    have e : b = it := by simpa using hb
    subst e
    obtain ⟨o, e, c, d⟩ := st
    exact ⟨o, e, fun v z => by rw [d] at z; cases z⟩
  keep := fun i h h' st k => st.at fun o e => k it (by simp) o e
  item := by
    intro X hP hw hK hc i pins s σ H E I hf st hg
    subst hP hw hK
    obtain ⟨hd, hi⟩ := hg
    obtain ⟨x, hs, kk⟩ := es_of dat I.hok hd
    obtain ⟨f0, f1, f2, f3, f4, f5⟩ := hf it (by simp)
    refine es_next (I.ok.hd hc) st x (fun en h' he k' sb => ?_) (fun h' hn _ => ?_)
    · obtain ⟨b, k, v, e1, e2, e3⟩ := kk i en he
      rw [e2]
      have I1 : Inv X pins σ H { s with heap := h' } := I.turned (t' := s.toks) (fun b o hb e => (sb.2 b hb).trans e) f0 f1 f3 f4 f5
      obtain ⟨io, e, c, dd⟩ := id k'
      exact ⟨_, rfl, go_of (s := { s with heap := h' }) e c dd (by decide) ⟨.ref b, H, I1, rfl, ⟨rfl, b, k, v, e1, rfl, e3⟩, k', fun b hb => (hf b hb).1⟩⟩
    · have : es.size ≤ i := by simpa using hn
      omega
  done := by
    intro X hP hw hK hc i pins s σ H E I hf st hg
    subst hP hw hK
    obtain ⟨hd, hi⟩ := hg
    obtain ⟨x, hs, kk⟩ := es_of dat I.hok hd
    obtain ⟨f0, f1, f2, f3, f4, f5⟩ := hf it (by simp)
    refine es_next (I.ok.hd hc) st x (fun en h' he _ _ => ?_) (fun h' hn eb => ⟨rfl, I.turned (t' := s.toks) (fun b o hb e => eb b o hb e) f0 f1 f3 f4 f5⟩)
    have : i < es.size := (Array.getElem?_eq_some_iff.mp he).1
    omega
  self := fun _ _ _ _ _ st h => wpAny_pyIter_keyiter st h
section
variable {X : Cx} {tg : Expr}
def iDict (tl : TE) : TI := fun σ H R => tl σ H fun x H1 => ∃ d kvs, x = .ref d ∧ Rd H1 d (.dT kvs) ∧ ∀ o, (∀ o', H1 d = some (.frz o' (.dT kvs)) → o' = o) → R (Itd d o kvs) (upd H1 d (.frz o (.dT kvs)))
theorem pi_dict {l : Expr} {tl : TE} (hl : PE X l tl) : PI X tg l (iDict tl) := by
  intro pins s σ H R I h
  refine thn (hl pins s σ H _ I h) fun v s1 ⟨x, H1, I1, rx, d, kvs, ex, rd, q⟩ => ?_
  subst ex
  have ev : v = Value.ref d := rx
  subst ev
  obtain ⟨sz, nd, xs, pr, o, es, ep, ho, exd, dat, el, nod⟩ := (show ObjOk X.prog X.w H1 s1.heap d (.dT kvs) from rd.ok I1.hok)
  have same : ∀ o', H1 d = some (.frz o' (.dT kvs)) → o' = o := fun o' z => by
    obtain ⟨e1, _⟩ := (show ObjOk X.prog X.w H1 s1.heap d (.frz o' (.dT kvs)) from I1.hok d _ z)
    rw [e1] at ho
    exact Option.some.inj ho
  have I2 : Inv X pins σ (upd H1 d (.frz o (.dT kvs))) s1 := by
    rcases rd with rd | ⟨o', rd⟩
    · have nt : ∀ b ys, H1 b = some (.tup ys) → upd H1 d (.frz o (.dT kvs)) b = some (.tup ys) := fun b ys hb => by
        rw [upd_ne (fun z => by rw [z, rd] at hb; cases hb)]; exact hb
      exact I1.write (h' := s1.heap) (t' := s1.toks) (e := d) (by rw [rd]; trivial) (.inl rfl) (fun b u _ z => z) ⟨o, ho⟩ ⟨ho, sz, nd, xs, Paired.mapP pr fun _ _ z => ⟨z.1, nt _ _ z.2.1, z.2.2⟩, o, es, ep, ho, exd, dat, el, nod⟩
    · obtain ⟨e1, _⟩ := (show ObjOk X.prog X.w H1 s1.heap d (.frz o' (.dT kvs)) from I1.hok d _ rd)
      rw [e1] at ho
      cases ho
      have : upd H1 d (.frz o (.dT kvs)) = H1 := by
        funext b
        unfold upd
        by_cases z : b = d
        · rw [if_pos z, z, rd]
        · rw [if_neg z]
      rw [this]
      exact I1
  refine es_iter nd ⟨o, ho, exd, dat⟩ ?_
  have I3 := I2.kept (t' := s1.toks) (h' := s1.heap.push { cls := .type "dict_keyiterator", data := .fields #[.ref d, .int 0 0, .int es.size 0, .int ep 0] }) fun b o e => Heap.get?_push_of_some _ e
  refine ⟨_, [s1.heap.objs.size], _, Itd d o kvs, _, rfl, I3, turn_dict d _ o kvs dat, ⟨_, Heap.get?_push_size _ rfl, rfl, rfl⟩, fun b hb => ?_, q o same⟩
  have e : b = s1.heap.objs.size := by simpa using hb
  subst e
  exact I2.fpOk (Nat.le_refl _) (I2.hok.fresh (Nat.le_refl _))
end
end L2


set_option Elab.async false
set_option linter.all false
set_option maxRecDepth 100000
set_option maxHeartbeats 4000000
namespace Mine
open PySem L2
/-- a comprehension with a test over the keys of a dict (frozen at H) -/
theorem comp_dict {tc : TT} {te : TE} {js : List Nat} {σ : St} {H : Hp} {Q : VK} {d : Addr} {o : Obj} {kvs : List (List Key × V)} (p : List Key × V → Bool) (g : List Key × V → V) (e : H d = some (.frz o (.dT kvs))) (hx : kvs.length ≤ 1000)
    (ht : ∀ (i : Nat) (kv : List Key × V) (b : Addr) H' (N : Bool → Hp → Prop), kvs[i]? = some kv → Same H H' → H' b = some (.tup (kv.1.map kV)) → (∀ H'', Same H' H'' → N (p kv) H'') → tc (some (.ref b) :: cVals js σ) H' N)
    (hs : ∀ (i : Nat) (kv : List Key × V) (b : Addr) H' (N : VK), kvs[i]? = some kv → p kv = true → Same H H' → H' b = some (.tup (kv.1.map kV)) → (∀ H'', Same H' H'' → N (g kv) H'') → te (some (.ref b) :: cVals js σ) H' N)
    (hd : ∀ D H', Same H H' → H D = none → H' D = some (.lst ((kvs.filter p).map g)) → Q (.ref D) H') : tComp (fun _ H R => R (Itd d o kvs) H) tc te js σ H Q := by
  intro D hD
  have s0 := same_new hD (.lst [])
  refine ⟨fun i m H' => m = kvs.length - i ∧ i ≤ kvs.length ∧ Same H H' ∧ H' D = some (.lst (((kvs.take i).filter p).map g)), ⟨kvs.length, rfl, Nat.zero_le _, s0, upd_same⟩, ?_⟩
  rintro i m H2 ⟨rfl, hi, s2, eD⟩
  have e2 := s2 _ _ e
  by_cases hlt : i < kvs.length
  · refine .inr ⟨⟨e2, hlt⟩, fun x H3 y => ?_⟩
    obtain ⟨eh, b, k, v, hv, rfl, eb⟩ := y
    subst eh
    have tk : kvs.take (i + 1) = kvs.take i ++ [(k, v)] := by rw [List.take_add_one, hv]; rfl
    have hln : ((kvs.take i).filter p).length ≤ i := Nat.le_trans (List.length_filter_le _ _) (by rw [List.length_take]; omega)
    refine ht i (k, v) b _ _ hv s2 eb fun H4 s4 => ?_
    by_cases hp : p (k, v) = true
    · rw [if_pos hp]
      refine hs i (k, v) b H4 _ hv hp (s2.trans s4) (s4 _ _ eb) fun H5 s5 => ?_
      have e5 := s5 _ _ (s4 _ _ eD)
      refine ⟨_, e5, by rw [List.length_map]; exact Nat.lt_of_le_of_lt (show _ ≤ 1000 by omega) (by decide), kvs.length - (i + 1), by omega, rfl, hlt, same_mut ((s2.trans s4).trans s5) hD _, ?_⟩
      rw [upd_same, tk, List.filter_append, List.filter_cons_of_pos hp, List.map_append]
      rfl
    · rw [if_neg hp]
      refine ⟨kvs.length - (i + 1), by omega, rfl, hlt, s2.trans s4, ?_⟩
      rw [tk, List.filter_append, List.filter_cons_of_neg hp, List.map_append]
      have z := s4 _ _ eD
      simpa using z
  · have ei : i = kvs.length := by omega
    subst ei
    rw [List.take_length] at eD
    exact .inl ⟨⟨e2, Nat.le_refl _⟩, hd D H2 s2 hD eD⟩
end Mine


set_option Elab.async false
set_option linter.all false
set_option maxRecDepth 100000
set_option maxHeartbeats 4000000
namespace L2
open PySem PySem.Spec PyProof.Rows
/-! ### arguments that are written numbers or tuples: what starEach says of them is told once -/
section
variable {X : Cx} {es fs : List Expr} {t : TA} {te : TE} {k j : Nat} {p : Pos} {i : Int}
end
end L2


set_option Elab.async false
set_option linter.all false
set_option maxRecDepth 100000
set_option maxHeartbeats 4000000
namespace L2
open PySem PySem.Spec PyProof.Rows
/-! ### the rules once more, their results in structures: so that nested terms are quick -/
section
variable {X : Cx} {e f a b : Expr} {es fs : List Expr} {t : TA} {te ta tb : TE} {k j : Nat} {p pos : Pos} {i : Int} {x : Str}
end
end L2


set_option Elab.async false
set_option linter.all false
set_option maxRecDepth 100000
set_option maxHeartbeats 4000000
namespace L2
open PySem PySem.Spec PyProof.Rows
end L2


set_option Elab.async false
set_option linter.all false
set_option maxRecDepth 100000
set_option maxHeartbeats 4000000
namespace L2
open PySem PySem.Spec PyProof.Rows
end L2


set_option Elab.async false
set_option linter.all false
set_option maxRecDepth 100000
set_option maxHeartbeats 4000000
namespace L2
open PySem PySem.Spec PyProof.Rows
section
variable {P : Program} {w : World} {A : Around} {E : Value → Shared → Prop} {s : Shared}
end
end L2


set_option Elab.async false
set_option linter.all false
set_option maxRecDepth 100000
set_option maxHeartbeats 4000000
namespace L2
open PySem PySem.Spec PyProof.Rows
section
variable {P : Program} {w : World} {A : Around} {E : Value → Shared → Prop} {s : Shared}
end
end L2


set_option Elab.async false
set_option linter.all false
set_option maxRecDepth 100000
set_option maxHeartbeats 4000000
namespace L2
open PySem PySem.Spec PyProof.Rows
section
variable {P : Program} {w : World} {A : Around} {E : Value → Shared → Prop} {s : Shared}
end
end L2


set_option Elab.async false
set_option linter.all false
set_option maxRecDepth 100000
set_option maxHeartbeats 4000000
namespace L2
open PySem PySem.Spec PyProof.Rows
section
variable {M : Model} {A : Around} {E : Value → Shared → Prop} {s : Shared}
end
end L2


set_option Elab.async false
set_option linter.all false
set_option maxRecDepth 100000
set_option maxHeartbeats 4000000
namespace L2
open PySem PySem.Spec PyProof.Rows
section
variable {P : Program} {w : World} {A : Around} {E : Value → Shared → Prop} {s : Shared}
end
end L2


set_option Elab.async false
set_option linter.all false
set_option maxRecDepth 100000
set_option maxHeartbeats 4000000
namespace L2
open PySem PySem.Spec PyProof.Rows
section
variable {P : Program} {w : World} {A : Around} {E : Value → Shared → Prop} {s : Shared}
end
end L2


set_option Elab.async false
set_option linter.all false
set_option maxRecDepth 100000
set_option maxHeartbeats 4000000
namespace L2
open PySem PySem.Spec PyProof.Rows
section
variable {P : Program} {w : World} {A : Around} {E : Value → Shared → Prop} {s : Shared}
end
end L2


set_option Elab.async false
set_option linter.all false
set_option maxRecDepth 100000
set_option maxHeartbeats 4000000
namespace L2
open PySem PySem.Spec PyProof.Rows
/-! ### what list(dict), sorted(dict, ..) collect -/
theorem es_walk {prog : Program} {w : World} {A : Around} (hh : A.handled = none) (I d : Addr) (nd : d ≠ I) (es : Array DictEntry) (ep : Nat) :
    Walks prog w A I [I, d] [I] es.size (fun i v => ∃ e, es[i]? = some e ∧ v = e.key) (fun i h => h.IsKeyIter I d i es.size ep ∧ EsAt h d es ep) where
  sub := fun b hb => by simp at hb; simp [hb]
  frame := fun i h h' st k => by
    obtain ⟨k1, ⟨o, ho, r⟩⟩ := st
    exact ⟨k1.at fun o e => k I (by simp) o e, ⟨o, k d (by simp) o ho, r⟩⟩
  item := fun i s Q E hi st k => by
    refine es_next hh st.1 st.2 (fun e h' he ki sb => ?_) (fun h' he _ => ?_)
    · obtain ⟨o, ho, r⟩ := st.2.ex
      exact k e.key h' s.toks ⟨e, he, rfl⟩ ⟨ki, ⟨o, sb.extBut d o nd ho, r⟩⟩ fun b o hb e => sb.extBut b o (fun z => hb (by simp [z])) e
    · rw [Array.getElem?_eq_getElem hi] at he
      cases he
  done := fun s Q E st k => by
    refine es_next hh st.1 st.2 (fun e h' he _ _ => ?_) (fun h' he eb => ?_)
    · have := (Array.getElem?_eq_some_iff.mp he).1
      exact absurd this (Nat.lt_irrefl _)
    · exact k h' s.toks fun b o hb e => eb b o (fun z => hb (by simp [z])) e
  self := fun i s Q E st k => wpAny_pyIter_keyiter st.1 k
section
variable {P : Program} {w : World} {A : Around} {E : Value → Shared → Prop} {s : Shared}
theorem hint_dict {r : Addr} {Q : Bool → Shared → Prop} (hT : s.TypeIs (.ref r) "dict") (h : Q false s) : wpAny (model P w) A (Builtin.List.listLengthHint (.ref r)) Q E s := by
  unfold Builtin.List.listLengthHint
  refine wpAny_bind (wpAny_specialOf hT PySem.F.slot_dict_len.lookup ?_)
  generalize hid : ("dict.__len__" : String) = id0
  wp_delta
  rw [show splitId id0 = some ("dict", "__len__") from by subst hid; decide +kernel]
  subst hid
  refine wpAny_bind (wpAny_isInstance (T := "dict") (b := true) hT (by rw [isSubtype_type]; kernel_rfl) ?_)
  refine wpAny_ite_split (fun hab => absurd hab (by decide)) (fun _ => ?_)
  refine wpAny_ite_split (fun _ => ?_) (fun hab => absurd (by decide +kernel) hab)
  refine wpAny_bind (wpAny_typeOf hT ?_)
  exact wpAny_pure h
theorem es_extend {S L : Addr} {es : Array DictEntry} {ep : Nat} {R : Result → Shared → Prop} {res : Value} {c₀ : Nat} (hm : (S == sysModules) = false) (x : EsAt s.heap S es ep) (hh : A.handled = none) (few : es.size ≤ 60) (nL : L ≠ S) (hL : s.heap.get? L = some { cls := .type "list", data := .seq #[] c₀ })
    (hR : ∀ h' tk vs c', (∀ b o, b ≠ L → s.heap.get? b = some o → h'.get? b = some o) → h'.get? L = some { cls := .type "list", dict := none, data := .seq vs c', slots := #[] } → vs.toList = es.toList.map (·.key) → R (.ok (.ret res)) { s with heap := h', toks := tk }) :
    wpAny (model P w) A.in1 (Builtin.List.listExtendWith (.ref L) (.ref S) res)
      (fun fin s' => match fin with | .done f => R (.ok f) s' | .again c' => c'.quiet = true ∧ codeAny (model P w) A c' R s') (fun e s' => R (.error e) s') s := by
  have ty := x.ty
  obtain ⟨o, ho, hx, hd⟩ := id x.ex
  have lL := Heap.lt_size hL
  have lS := Heap.lt_size ho
  unfold Builtin.List.listExtendWith
  refine wpAny_bind (wpAny_typeOf (T := "dict") ty ?_)
  have h1 : Builtin.List.listSameRef (.ref L) (.ref S) = false := by simp [Builtin.List.listSameRef, nL]
  have h2 : (Value.type "dict" == Value.type "list") = false := by decide
  have h3 : (Value.type "dict" == Value.type "tuple") = false := by decide
  simp only [h1, h2, h3, Bool.or_false, Bool.false_eq_true, if_false]
  refine wpAny_bind (es_iter hm x ?_)
  generalize hh1 : s.heap.push { cls := .type "dict_keyiterator", data := .fields #[.ref S, .int 0 0, .int es.size 0, .int ep 0] } = h1
  generalize hI : s.heap.objs.size = I
  have kk : ∀ b o, s.heap.get? b = some o → h1.get? b = some o := fun b o e => by rw [← hh1]; exact Heap.get?_push_of_some _ e
  have sI : s.heap.objs.size ≤ I := by rw [hI]; exact Nat.le_refl _
  have nS : S ≠ I := Nat.ne_of_lt (Nat.lt_of_lt_of_le lS sI)
  have W := fun (A' : Around) (hh : A'.handled = none) => es_walk (prog := P) (w := w) (A := A') hh I S nS es ep
  have st : h1.IsKeyIter I S 0 es.size ep ∧ EsAt h1 S es ep := ⟨⟨_, by rw [← hh1, ← hI]; exact Heap.get?_push_size _ rfl, rfl, rfl⟩, ⟨o, kk _ _ ho, hx, hd⟩⟩
  have hL1 := kk _ _ hL
  have nI : L ≠ I := Nat.ne_of_lt (Nat.lt_of_lt_of_le lL sI)
  have Lf : L ∉ [I, S] := fun hb => by simp at hb; rcases hb with z | z; exact nI z; exact nL z
  have key : ∀ (h : Heap) (c₁ tk : Nat), (h.IsKeyIter I S 0 es.size ep ∧ EsAt h S es ep) → (∀ b o, b ≠ L → s.heap.get? b = some o → h.get? b = some o) →
      h.get? L = some { cls := .type "list", data := .seq #[] c₁ } → codeAny (model P w) A (.builtin "list.extend.loop" ⟨[.ref L, .ref I, res], []⟩) R { s with heap := h, toks := tk } := by
    intro h c₁ tk hst hk hS₁
    refine codeAny_extend_loopS (W A.in1 hh).toS (by rw [sizeLine_eq]; omega) L Lf res es.size 0 _ #[] c₁ rfl (Nat.zero_le _) hst hS₁ (ItemsOf.nil _) fun s' acc' c' hm hS' hacc => ?_
    rw [Moved.eq_with hm]
    have ea : acc'.toList = es.toList.map (·.key) := by
      apply List.ext_getElem
      · simp [hacc.1]
      · intro i i1 i2
        obtain ⟨e, oe, ve⟩ := hacc.2 i acc'[i] (by simp at i1 ⊢)
        obtain ⟨h0, he⟩ := Array.getElem?_eq_some_iff.mp oe
        simp [he, ve]
    refine hR s'.heap s'.toks acc' c' (fun b o hb e => hm.heap b o (fun hmem => ?_) (hk b o hb e)) hS' ea
    rcases List.mem_cons.mp hmem with e' | hmem
    · exact hb e'
    · have := Heap.lt_size e
      rw [List.mem_singleton.mp hmem] at this
      exact Nat.not_le_of_lt this sI
  refine wpAny_bind (wpAny_holding (hint_dict (s := { s with heap := h1 }) ⟨o, kk _ _ ho, hx.1⟩ ?_))
  refine wpAny_ite_split (fun _ => ?_) (fun _ => wpAny_pure ⟨plainId_quiet PySem.F.plain_extend_loop _, key _ c₀ _ st (fun b o _ e => kk b o e) hL1⟩)
  refine wpAny_bind (wpAny_rule ?_)
  refine wpAny_bind ?_
  show wpAny _ _ (updateSeq L (·.push .none) >>= fun _ => updateSeq L (·.pop)) _ _ _
  refine wpAny_bind (wpAny_updateSeq hL1 rfl ?_)
  have hS₂ := Heap.get?_update_self (Obj.mapSeq (·.push Value.none)) hL1 rfl
  refine wpAny_updateSeq (hz := by seq_fits) hS₂ rfl ?_
  have hS₃ := Heap.get?_update_self (Obj.mapSeq (·.pop)) hS₂ rfl
  refine wpAny_pure ⟨plainId_quiet PySem.F.plain_extend_loop _, key _ _ _ ?_ (fun b o hb e => ?_) hS₃⟩
  · refine (W A.in1 hh).frame 0 _ _ st fun b hb o e => ?_
    have hbS : b ≠ L := fun h => Lf (h ▸ hb)
    exact (Heap.get?_update_other _ _ (Ne.symm hbS)).trans ((Heap.get?_update_other _ _ (Ne.symm hbS)).trans e)
  · exact (Heap.get?_update_other _ _ (Ne.symm hb)).trans ((Heap.get?_update_other _ _ (Ne.symm hb)).trans (kk b o e))
theorem es_collect {S : Addr} {es : Array DictEntry} {ep : Nat} {R : List Value → Shared → Prop} (hm : (S == sysModules) = false) (x : EsAt s.heap S es ep) (hh : A.handled = none) (few : es.size ≤ 60)
    (h : ∀ h' tk, (∀ b o, s.heap.get? b = some o → h'.get? b = some o) → s.heap.objs.size ≤ h'.objs.size → R (es.toList.map (·.key)) { s with heap := h', toks := tk }) :
    wpAny (model P w) A (collect (.ref S)) R E s := by
  have lt : S < s.heap.objs.size := by obtain ⟨o, ho, _⟩ := x.ex; exact Heap.lt_size ho
  unfold collect
  refine wpAny_bind (wpAny_runValue (codeAny_builtin entry_proto_collect' ?_))
  rw [Around.under_plainId PySem.F.plain_proto_collect _]
  show wpAny _ A.in1 (newList [] >>= fun l => again (.builtin "list.__iadd__" ⟨[l, .ref S], []⟩)) _ _ s
  refine wpAny_bind (wpAny_newObj_type ?_)
  refine wpAny_pure ⟨plainId_quiet PySem.F.plain_list_iadd _, codeAny_builtin entry_list_iadd' ?_⟩
  rw [Around.under_plainId PySem.F.plain_list_iadd _]
  have hS₁ : (s.heap.push { cls := .type "list", data := .seq ([] : List Value).toArray }).get? s.heap.objs.size = some { cls := .type "list", data := .seq #[] } := Heap.get?_push_size _ rfl
  show wpAny _ A.in1 (Builtin.List.listExtendWith (.ref s.heap.objs.size) (.ref S) (.ref s.heap.objs.size)) _ _ _
  have x1 : EsAt (s.heap.push { cls := .type "list", data := .seq ([] : List Value).toArray }) S es ep := by
    obtain ⟨o, ho, r⟩ := x.ex
    exact ⟨o, Heap.get?_push_of_some _ ho, r⟩
  have key := es_extend (P := P) (w := w) (A := A) (s := { s with heap := s.heap.push { cls := .type "list", data := .seq ([] : List Value).toArray } }) (L := s.heap.objs.size) (res := .ref s.heap.objs.size)
    (R := fun (q : Result) (s' : Shared) => ∃ (h' : Heap) (tk : Nat) (acc' : Array Value) (c' : Nat), q = .ok (.ret (.ref s.heap.objs.size)) ∧ s' = { s with heap := h', toks := tk } ∧
      (∀ b o, s.heap.get? b = some o → h'.get? b = some o) ∧ h'.get? s.heap.objs.size = some { cls := .type "list", dict := none, data := .seq acc' c', slots := #[] } ∧ acc'.toList = es.toList.map (·.key))
    hm x1 hh few (Nat.ne_of_gt lt) hS₁
    (fun h' tk vs c' hk hS' a1 => ⟨h', tk, vs, c', rfl, rfl, fun b o e => hk b o (Nat.ne_of_lt (Heap.lt_size e)) (Heap.get?_push_of_some _ e), hS', a1⟩)
  refine wpAny_mono key (fun fin s' y => ?_) fun e s' y => ?_
  · cases fin with
    | done f =>
      obtain ⟨h', tk, acc', c', e, rfl, hk, hS', a1⟩ := y
      cases e
      show wpAny _ A (load s.heap.objs.size >>= _) _ _ _
      refine wpAny_bind (wpAny_load hS' ?_)
      exact wpAny_pure (by have z := h h' tk hk (Nat.le_of_lt (Heap.lt_size hS')); rw [← a1] at z; exact z)
    | again c₁ =>
      refine ⟨y.1, codeAny_mono y.2 fun q s₂ y => ?_⟩
      obtain ⟨h', tk, acc', c', rfl, rfl, hk, hS', a1⟩ := y
      show wpAny _ A (load s.heap.objs.size >>= _) _ _ _
      refine wpAny_bind (wpAny_load hS' ?_)
      exact wpAny_pure (by have z := h h' tk hk (Nat.le_of_lt (Heap.lt_size hS')); rw [← a1] at z; exact z)
  · obtain ⟨_, _, _, _, e', _⟩ := y
    cases e'
end
end L2


set_option Elab.async false
set_option linter.all false
set_option maxRecDepth 100000
set_option maxHeartbeats 4000000
namespace L2
open PySem PySem.Spec PyProof.Rows
/-! ### a list comprehension with a tuple as its target: its block has the names xs of its own -/
section
variable {X : Cx} {pins : List (Addr × Obj)} {σ : St} {H : Hp} {s : Shared} {scope : Scope} {cl : List (Str × Addr)} {xs : List Str} {js : List Nat} {fp : List Addr} {N : List Str}

end

section
variable {X : Cx} {elt iter : Expr} {xs : List Str} {elts : List Expr} {kk : Nat} {tp pos : Pos} {scope : Scope} {cl : List (Str × Addr)} {wi : TI} {g : TG} {te : TE} {js : List Nat}


end
end L2


set_option Elab.async false
set_option linter.all false
set_option maxRecDepth 100000
set_option maxHeartbeats 4000000
namespace L2
open PySem PySem.Spec PyProof.Rows
section
variable {X : Cx} {elt iter : Expr} {xs : List Str} {elts : List Expr} {kk : Nat} {tp pos : Pos} {scope : Scope} {cl : List (Str × Addr)} {wi : TI} {g : TG} {tc : TT} {te : TE} {js : List Nat} {ifs : List Expr}


end
end L2


set_option Elab.async false
set_option linter.all false
set_option maxRecDepth 100000
set_option maxHeartbeats 4000000
namespace L2
open PySem PySem.Spec PyProof.Rows PySem.W
/-! ### a lambda that was made in a body: its call -/
/-- x[0] * 60 // x[1] -/
def KeyE (x : Str) (e : Expr) : Prop := ∃ n1 j1 c1 p1 j2 c2 p2 n2 j3 c3 p3 p4, e = .BinOp (.BinOp (.Subscript (.Name x n1) (.Constant (.int 0) j1 c1) p1) .Mult (.Constant (.int 60) j2 c2) p2) .FloorDiv (.Subscript (.Name x n2) (.Constant (.int 1) j3 c3) p3) p4
section
variable {prog : Program} {w : World} {A : Around} {E : Value → Shared → Prop} {s : Shared}
theorem ix_low {env : Env} {x : Str} {m : Str → Option Value} {a : Addr} {its : Array Value} {v : Value} {i : Int} {j : Nat} {n c p : Pos} {jj : Nat} {Q : Value → Shared → Prop} (kd : env.scope.kind = .function) (kx : env.kindOf x = some .local) (hn : s.heap.Ns env.locals m) (hm : m x = some (.ref a)) (ht : IsTup s.heap a its) (h1 : -2 ^ 63 ≤ i) (h2 : i < 2 ^ 63) (hj : seqIndex? i its.size = some j) (hv : its[j]? = some v) (hd : (x == ("__debug__" : Str)) = false)
    (h : ∀ tk, Q v { s with toks := tk }) : wpAny (model prog w) A (eval (.Subscript (.Name x n) (.Constant (.int i) jj c) p) env) Q E s := by
  refine Subscript_ (wpAny_Name (wpAny_loadName_local kd kx hn hm ?_) hd)
  refine wpAny_Constant_int ?_
  have hT : ({ s with toks := s.toks + 1 } : Shared).TypeIs (.ref a) "tuple" := let ⟨o, e, c, _⟩ := ht; ⟨o, e, c⟩
  exact subscriptTail_builtinR (x := v) hT slot_tuple_getitem.lookup (getItem_tuple (j := j) (Q := fun r s' => r = v ∧ Q r s') (s := { s with toks := s.toks + 1 }) ht h1 h2 hj hv ⟨rfl, h _⟩)
theorem lam_call {f a c' : Addr} {name qual x : Str} {params : Arguments} {body : Expr} {scope : Scope} {pm ctv : Value} {p q : Int} {t1 t2 : Tok} {Q : Value → Shared → Prop}
    (hd : A.depth < recursionLimit) (hf : s.heap.get? f = some (kla_obj name qual params body scope [] pm c' ctv)) (hc : s.heap.CodeRec (.ref c') qual) (lim : s.heap.NoLimit)
    (co : scope.isCoroutine = false) (ge : scope.isGenerator = false) (kd : scope.kind = .function) (nc : ∀ y ∈ scope.names, y.2 ≠ .cell) (lx : scope.names.lookup x = some .local)
    (bd : ∀ pm cv ct, bindArgs (kla_fn name qual params body scope [] pm cv ct) ⟨[.ref a], []⟩ = pure [(x, .ref a)]) (dbg : (x == ("__debug__" : Str)) = false) (ht : IsTup s.heap a #[.int p t1, .int q t2]) (q0 : q ≠ 0) (qs : q.natAbs.log2 < 9000) (mo : IntMulOk p 60) (hb : KeyE x body)
    (h : ∀ h' tk t', (∀ b o, s.heap.get? b = some o → h'.get? b = some o) → Q (.int ((p * 60).fdiv q) t') { s with heap := h', toks := tk }) : wpAny (model prog w) A (call (.ref f) [.ref a]) Q E s := by
  refine wpAny_call ?_
  refine kla_callFunE (body := body) hd hf rfl co ge rfl hc ?_
  rw [bd]
  refine wpAny_pure ?_
  refine wpAny_newFunctionEnv nc (fun y hy => ?_) (fun h1 hns hsb => ?_) kd
  · have e : y = (x, .ref a) := by simpa using hy
    rw [e]; exact lx
  have kp : ∀ b o, s.heap.get? b = some o → h1.get? b = some o := fun b o e => hsb.extBut b o (Nat.ne_of_lt (Heap.lt_size e)) (Heap.get?_push_of_some _ e)
  refine ⟨lim.keeps kp, ?_⟩
  obtain ⟨n1, j1, c1, p1, j2, c2, p2, n2, j3, c3, p3, p4, rfl⟩ := hb
  refine kla_codeExpr ?_
  have ht1 : IsTup h1 a #[.int p t1, .int q t2] := let ⟨o, e, r⟩ := ht; ⟨o, kp a o e, r⟩
  have mx : (fun y : Str => List.lookup y ([(x, Value.ref a)] : List (Str × Value)).reverse) x = some (.ref a) := by
    show List.lookup x [(x, Value.ref a)] = _
    rw [List.lookup_cons, beq_self_eq_true]
  refine wpAny_BinOp (wpAny_BinOp (ix_low (i := 0) (j := 0) (v := .int p t1) kd lx hns mx ht1 (by decide) (by decide) rfl rfl dbg fun tk1 => ?_))
  refine wpAny_Constant_int (mul_int ?_ mo)
  refine ix_low (i := 1) (j := 1) (v := .int q t2) kd lx hns mx ht1 (by decide) (by decide) rfl rfl dbg fun tk2 => ?_
  refine floordiv_int q0 ?_ (.inl (PyProof.noPylong_of_log2 qs))
  exact h h1 _ _ kp
end
end L2


set_option Elab.async false
set_option linter.all false
set_option maxRecDepth 100000
set_option maxHeartbeats 4000000
namespace L2
open PySem PySem.Spec PyProof.Rows PySem.W
/-! ### sorted(dict, key=f) -/
def emptyH : Heap := { objs := #[] }
theorem emptyH_get (b : Addr) : emptyH.get? b = none := by
  exact Heap.get?_none_of_le (Nat.zero_le _)
/-- all objects but the one at L -/
def allBut (L : Addr) (h : Heap) : List (Addr × Obj) := (List.range h.objs.size).filterMap fun b => if b = L then none else (h.get? b).map fun o => (b, o)
theorem allBut_mem {L b : Addr} {h : Heap} {o : Obj} (e : h.get? b = some o) (n : b ≠ L) : (b, o) ∈ allBut L h :=
  List.mem_filterMap.mpr ⟨b, List.mem_range.mpr (Heap.lt_size e), by rw [if_neg n, e]; rfl⟩
theorem allBut_of {L : Addr} {h : Heap} {p : Addr × Obj} (m : p ∈ allBut L h) : h.get? p.1 = some p.2 ∧ p.1 ≠ L := by
  obtain ⟨b, hb, e⟩ := List.mem_filterMap.mp m
  by_cases z : b = L
  · rw [if_pos z] at e; cases e
  · rw [if_neg z] at e
    cases q : h.get? b with
    | none => rw [q] at e; cases e
    | some o => rw [q] at e; cases e; exact ⟨q, z⟩
/-- nothing is lost but what lies at L, whose names stay -/
structure KeptL (L : Addr) (m : Str → Option Value) (h h' : Heap) : Prop where
  kp : ∀ b o, b ≠ L → h.get? b = some o → h'.get? b = some o
  ns : h'.Ns L m
section
variable {P : Program} {w : World} {A : Around} {E : Value → Shared → Prop} {s : Shared}
theorem es_sorted {d f L : Addr} {m : Str → Option Value} {es : Array DictEntry} {ep : Nat} {kz : List Int} {Q : Value → Shared → Prop} (hn : s.heap.Ns L m) (hm : (d == sysModules) = false) (x : EsAt s.heap d es ep) (hh : A.handled = none) (few : es.size ≤ 60) (hk : kz.length = es.size)
    (turn : ∀ (i : Nat) (v : Value) (k : Int), (es.toList.map (·.key))[i]? = some v → kz[i]? = some k → ∀ (h : Heap) (tk : Nat), KeptL L m s.heap h → ∀ Q' : Value → Shared → Prop, (∀ h' tk' t', (∀ b o, h.get? b = some o → h'.get? b = some o) → Q' (.int k t') { s with heap := h', toks := tk' }) →
      wpAny (model P w) A.in1.in1 (call (.ref f) [v]) Q' (fun _ _ => False) { s with heap := h, toks := tk })
    (h : ∀ D h' tk out c, KeptL L m s.heap h' → s.heap.objs.size ≤ D → h'.get? D = some (seqObj "list" out c) → KskOut false kz (es.toList.map (·.key)) out.toList → Q (.ref D) { s with heap := h', toks := tk }) :
    wpAny (model P w) A (call (.builtin "sorted") [.ref d] [("key", .ref f)]) Q E s := by
  refine call_function_entry_kw kind_sorted plain_sorted entry_sorted (ksk_s1 _ _) ?_
  unfold Builtin.«sorted»
  refine wpAny_bind (m := checkCount "sorted" 1 1 _) (wpAny_pure ?_)
  refine wpAny_bind (es_collect (A := A.in1) hm x hh few fun h1 tk1 k1 sz => ?_)
  have vl : (es.toList.map (·.key)).length = es.size := by simp
  refine wpAny_bind (wpAny_newList ?_ (by rw [sizeLine_eq]; omega))
  have hoL : (h1.push (seqObj "list" (es.toList.map (·.key)).toArray 0)).get? h1.objs.size = some (seqObj "list" (es.toList.map (·.key)).toArray 0) := Heap.get?_push_size _ rfl
  show wpAny _ _ _ _ _ { s with heap := h1.push (seqObj "list" (es.toList.map (·.key)).toArray 0), toks := tk1 }
  have k2 : ∀ b o, s.heap.get? b = some o → (h1.push (seqObj "list" (es.toList.map (·.key)).toArray 0)).get? b = some o := fun b o e => Heap.get?_push_of_some _ (k1 b o e)
  have lL : L < s.heap.objs.size := Heap.Ns.lt hn
  have aL : h1.objs.size ≠ L := Nat.ne_of_gt (Nat.lt_of_lt_of_le lL sz)
  have ns2 : (h1.push (seqObj "list" (es.toList.map (·.key)).toArray 0)).Ns L m := by
    obtain ⟨o, es', ep', ho, r⟩ := hn
    exact ⟨o, es', ep', k2 _ _ ho, r⟩
  have F : Fr emptyH L (h1.push (seqObj "list" (es.toList.map (·.key)).toArray 0)) m := ⟨ns2, fun b o e => absurd ((emptyH_get b).symm.trans e) (by simp), Nat.zero_le _⟩
  have N : News emptyH L (h1.push (seqObj "list" (es.toList.map (·.key)).toArray 0)) (allBut L s.heap) := fun p hp => ⟨k2 _ _ (allBut_of hp).1, (allBut_of hp).2, emptyH_get _⟩
  have kept : ∀ {hx : Heap} {own : List (Addr × Obj)}, Fr emptyH L hx m → News emptyH L hx (allBut L s.heap ++ own) → KeptL L m s.heap hx := fun {hx own} F' N' => ⟨fun b o n e => (N' (b, o) (List.mem_append_left _ (allBut_mem e n))).1, F'.ns⟩
  refine wpAny_bind (wpAny_holding (wpAny_call_entry_kw slot_list_sort ⟨_, hoL, rfl⟩ entry_list_sort ?_ ?_))
  · rw [show Builtin.«list.sort» ⟨[.ref h1.objs.size], [("key", .ref f)]⟩ = ksk_tree h1.objs.size (.ref f) false from ksk_t1 _ _]
    refine ksk_sort (kz := kz) (vs := es.toList.map (·.key)) F N hoL aL (emptyH_get _) (fun p hp => ?_) (by rw [vl]; exact hk) (by rw [vl]; omega) (fun i v k e1 e2 hx tk own F' N' => ?_) (fun h' tk out c F' N' ko => ?_)
    · exact Nat.ne_of_lt (Nat.lt_of_lt_of_le (Heap.lt_size (allBut_of hp).1) sz)
    · refine turn i v k e1 e2 hx tk (kept F' N') _ fun h' tk' t' kp => ?_
      exact ⟨h', tk', t', rfl, rfl, F'.kept kp, N'.grown kp⟩
    · refine ⟨_, rfl, wpAny_pure ⟨_, rfl, ?_⟩⟩
      exact h h1.objs.size h' tk out c ⟨fun b o n e => (N' (b, o) (List.mem_cons_of_mem _ (allBut_mem e n))).1, F'.ns⟩ sz (N' _ List.mem_cons_self).1 ko
  · exact ksk_l1 _ _
end
end L2


set_option Elab.async false
set_option linter.all false
set_option maxRecDepth 100000
set_option maxHeartbeats 4000000
namespace L2
open PySem PySem.Spec PyProof.Rows PySem.W
theorem ns_inj {h : Heap} {L : Addr} {m m' : Str → Option Value} (a : h.Ns L m) (b : h.Ns L m') : m = m' := by
  obtain ⟨o, es, ep, ho, hd, _, h1⟩ := a
  obtain ⟨o', es', ep', ho', hd', _, h2⟩ := b
  rw [ho] at ho'
  cases ho'
  rw [hd] at hd'
  cases hd'
  funext x
  rw [← h1 x, h2 x]
end L2


set_option Elab.async false
set_option linter.all false
set_option maxRecDepth 100000
set_option maxHeartbeats 4000000
namespace L2
open PySem PySem.Spec PyProof.Rows PySem.W
/-! ### sorted(dict, key=lambda x: x[0] * 60 // x[1]) -/
theorem perm_map {α β : Type} {f : α → β} {l l' : List β} (h : l'.Perm l) : ∀ {bs : List α}, l = bs.map f → ∃ bs' : List α, bs'.Perm bs ∧ l' = bs'.map f := by
  induction h with
  | nil => intro bs e; exact ⟨bs, .refl _, e⟩
  | cons x p ih =>
    intro bs e
    cases bs with
    | nil => cases e
    | cons b r =>
      obtain ⟨e1, e2⟩ := List.cons.inj e
      obtain ⟨r', p', e'⟩ := ih e2
      exact ⟨b :: r', .cons b p', by rw [List.map_cons, ← e', e1]⟩
  | swap x y l =>
    intro bs e
    match bs, e with
    | a :: b :: r, e =>
      obtain ⟨e1, e2⟩ := List.cons.inj e
      obtain ⟨e2, e3⟩ := List.cons.inj e2
      exact ⟨b :: a :: r, .swap _ _ _, by rw [List.map_cons, List.map_cons, ← e1, ← e2, ← e3]⟩
  | trans p1 p2 ih1 ih2 =>
    intro bs e
    obtain ⟨b2, q2, e2⟩ := ih2 e
    obtain ⟨b1, q1, e1⟩ := ih1 e2
    exact ⟨b1, q1.trans q2, e1⟩
/-- a pair of the dict's keys: its place, its numbers -/
structure Kp2 where
  b : Addr
  p : Int
  q : Int
def Kp2.key (t : Kp2) : Int := (t.p * 60).fdiv t.q
def Kp2.ok (H : Hp) (t : Kp2) : Prop := H t.b = some (.tup [.int t.p, .int t.q]) ∧ t.q ≠ 0 ∧ t.q.natAbs.log2 < 9000 ∧ IntMulOk t.p 60
/-- the frame's own names stay, all other objects too, and a new one is tracked -/
theorem Inv.laidL {X : Cx} {pins : List (Addr × Obj)} {σ : St} {H : Hp} {s : Shared} {h' : Heap} {m : Str → Option Value} {t' : Nat} {D : Addr} {u : HO} (I : Inv X pins σ H s) (hn : s.heap.Ns X.env.locals m) (k : KeptL X.env.locals m s.heap h') (hD : s.heap.objs.size ≤ D) (new : ObjOk X.prog X.w (upd H D u) h' D u) : Inv X pins σ (upd H D u) { s with heap := h', toks := t' } := by
  have nL : ∀ b u, H b = some u → b ≠ X.env.locals := fun b u e z => by rw [z, I.free] at e; cases e
  have nD : ∀ b o, s.heap.get? b = some o → b ≠ D := fun b o e => Nat.ne_of_lt (Nat.lt_of_lt_of_le (Heap.lt_size e) hD)
  have hH : H D = none := I.hok.fresh hD
  have nu : ∀ b v, H b = some v → upd H D u b = some v := fun b v e => by rw [upd_ne (ne_of_none e hH)]; exact e
  refine I.step (g' := s.gens) (d' := s.drawn) (ch := []) (fun b hb => nomatch hb) (fun b o hL _ _ e _ => k.kp b o hL e) (fun b o hL _ _ e _ => ⟨o.slots, k.kp b o hL e⟩) (fun b o _ e n => by rw [upd_ne (nD b o e)]; exact n) (fun b o _ e => ?_) (fun b _ e => nu b _ e) (fun b _ _ e => nu b _ e) (fun b ps e => ⟨#[], by rw [nu b _ e]; simp⟩) (fun m' hm => ?_) (fun b v e => ?_) I.bare
  · by_cases z : b = X.env.locals
    · obtain ⟨o', _, _, ho, _⟩ := k.ns
      exact ⟨o', by rw [z]; exact ho⟩
    · exact ⟨o, k.kp b o z e⟩
  · rw [← ns_inj hn hm]
    exact k.ns
  · by_cases z : b = D
    · subst z
      rw [upd_same] at e
      cases e
      exact new
    · rw [upd_ne z] at e
      refine (I.hok b v e).stay (fun c w hc q => k.kp c w ?_ q) (fun c q => nu c _ q) fun c xs q => nu c _ q
      rcases hc with y | y
      · rw [y]; exact nL b v e
      · exact nL c _ y
/-- the table of a def's code grows, objects are made -/
theorem Inv.tabs {X : Cx} {pins : List (Addr × Obj)} {σ : St} {H : Hp} {s : Shared} {h' : Heap} {t' : Nat} {T : Addr} {ps more : Array Value} (I : Inv X pins σ H s) (hT : H T = some (.tbl ps)) (k : ∀ b o, b ≠ T → s.heap.get? b = some o → h'.get? b = some o) (e' : h'.get? T = some (tabObj (ps ++ more))) : Inv X pins σ (upd H T (.tbl (ps ++ more))) { s with heap := h', toks := t' } := by
  have nT : ∀ b, H b = none → b ≠ T := fun b n z => by rw [z, hT] at n; cases n
  have nu : ∀ b v, H b = some v → (∀ ps, v ≠ .tbl ps) → upd H T (.tbl (ps ++ more)) b = some v := fun b v e n => by
    rw [upd_ne (fun z => by rw [z, hT] at e; cases e; exact n _ rfl)]; exact e
  refine I.step (g' := s.gens) (d' := s.drawn) (ch := []) (fun b hb => nomatch hb) (fun b o _ _ _ e n => k b o (nT b n) e) (fun b o _ _ _ e n => ⟨o.slots, k b o (nT b n) e⟩) (fun b o _ e n => by rw [upd_ne (nT b n)]; exact n) (fun b o _ e => ?_) (fun b _ e => nu b _ e (fun _ z => by cases z)) (fun b _ _ e => nu b _ e (fun _ z => by cases z)) (fun b qs e => ?_) (fun m hm => ?_) (fun b v e => ?_) I.bare
  · by_cases z : b = T
    · exact ⟨_, by rw [z]; exact e'⟩
    · exact ⟨o, k b o z e⟩
  · by_cases z : b = T
    · subst z
      rw [hT] at e
      cases e
      exact ⟨more, upd_same⟩
    · exact ⟨#[], by rw [upd_ne z, e]; simp⟩
  · obtain ⟨o, es, ep, ho, r⟩ := hm
    exact ⟨o, es, ep, k _ o (nT _ I.free) ho, r⟩
  · by_cases z : b = T
    · subst z
      rw [upd_same] at e
      cases e
      exact e'
    · rw [upd_ne z] at e
      refine (I.hok b v e).stay (fun c w hc q => k c w ?_ q) (fun c q => nu c _ q (fun _ z => by cases z)) fun c xs q => nu c _ q (fun _ z => by cases z)
      rcases hc with y | y
      · rw [y]; exact z
      · exact fun y' => by rw [y', hT] at y; cases y
end L2


set_option Elab.async false
set_option linter.all false
set_option maxRecDepth 100000
set_option maxHeartbeats 4000000
namespace L2
open PySem PySem.Spec PyProof.Rows PySem.W
/-- the dict's keys, where all are pairs of numbers -/
theorem keys_of {H : Hp} : ∀ {kvs : List (List Key × V)} {xs : List (List Key × Addr × Value)}, KT H kvs xs → (∀ kv ∈ kvs, ∃ p q : Int, kv.1 = [.inl p, .inl q] ∧ q ≠ 0 ∧ q.natAbs.log2 < 9000 ∧ IntMulOk p 60) →
    ∃ ts : List Kp2, xs.map (fun x => Value.ref x.2.1) = ts.map (fun t => Value.ref t.b) ∧ kvs.map (·.1) = ts.map (fun t => [Sum.inl t.p, Sum.inl t.q]) ∧ ∀ t ∈ ts, t.ok H
  | _, _, .nil, _ => ⟨[], rfl, rfl, fun _ h => nomatch h⟩
  | kv :: kvs, x :: xs, .cons r t, hk => by
    obtain ⟨ts, e1, e2, e3⟩ := keys_of t fun y hy => hk y (List.mem_cons_of_mem _ hy)
    obtain ⟨p, q, e, h1, h2, h3⟩ := hk kv List.mem_cons_self
    obtain ⟨r1, r2, _⟩ := r
    refine ⟨⟨x.2.1, p, q⟩ :: ts, by rw [List.map_cons, List.map_cons, e1], by rw [List.map_cons, List.map_cons, e2, e], fun y hy => ?_⟩
    rcases List.mem_cons.mp hy with z | z
    · subst z
      refine ⟨?_, h1, h2, h3⟩
      rw [e] at r2
      exact r2
    · exact e3 y z
theorem zip_kp : ∀ ts : List Kp2, (ts.map Kp2.key).zip (ts.map fun t => Value.ref t.b) = ts.map (fun t => (t.key, Value.ref t.b))
  | [] => rfl
  | t :: r => by rw [List.map_cons, List.map_cons, List.map_cons, List.zip_cons_cons, zip_kp r]
theorem vals_kp : ∀ ss : List Kp2, Vals (ss.map fun t => V.ref t.b) (ss.map fun t => Value.ref t.b)
  | [] => .nil
  | t :: r => .cons rfl (vals_kp r)
/-- what is known of the lambda's text and of its def's code -/
structure LamT (base : Heap) (K : Frag) (mg : Str → Option Value) (env : Env) (x : Str) (params : Arguments) (body : Expr) (scope : Scope) (c T : Addr) : Prop where
  df : defaultsOf params env = ([], [])
  cl : closureFor scope env = pure []
  cd : env.code = .ref c
  hC : ∀ h, K.In h → CodeHd h c T
  hB : base.BuiltinsAt mg T
  nG : mainGlobals ≠ T
  co : scope.isCoroutine = false
  ge : scope.isGenerator = false
  kd : scope.kind = .function
  nc : ∀ y ∈ scope.names, y.2 ≠ .cell
  lx : scope.names.lookup x = some .local
  bd : ∀ (a : Addr) (name qual : Str) pm cv ct, bindArgs (kla_fn name qual params body scope [] pm cv ct) ⟨[.ref a], []⟩ = pure [(x, .ref a)]
  db : (x == ("__debug__" : Str)) = false
  ke : KeyE x body
def tSortK (T : Addr) (lp : Pos) (te : TE) : TE := fun σ H Q => te σ H fun v H1 => ∃ d kvs ps, v = .ref d ∧ H1 d = some (.dT kvs) ∧ H1 T = some (.tbl ps) ∧ TriplesOk ps.toList ∧ codeAmong lp ps.toList = none ∧ kvs.length ≤ 60 ∧ (∀ kv ∈ kvs, ∃ p q : Int, kv.1 = [.inl p, .inl q] ∧ q ≠ 0 ∧ q.natAbs.log2 < 9000 ∧ IntMulOk p 60) ∧
  ∀ (ts ss : List Kp2) (more : Array Value) (D : Addr), kvs.map (·.1) = ts.map (fun t => [Sum.inl t.p, Sum.inl t.q]) → (∀ t ∈ ts, t.ok H1) → ss.Perm ts → ss.Pairwise (fun a b => a.key ≤ b.key) → H1 D = none → Q (.ref D) (upd (upd H1 T (.tbl (ps ++ more))) D (.lst (ss.map fun t => .ref t.b)))
theorem pe_sortK {X : Cx} {k : Nat} {e : Expr} {te : TE} {x : Str} {params : Arguments} {body : Expr} {scope : Scope} {p pos lp kp : Pos} {c T : Addr} (L : LamT X.base X.K X.mg X.env x params body scope c T) (hc : X.calm = true) (hr : Room (k + 2) X.A) (hg : Gl X "sorted") (hm : X.mg "sorted" = none) (he : PE X e te)
    (hs : backTo pos (starEach [e] X.env) = [(false, eval e X.env)] := by rfl) (hk : backToKw pos (keywordEach [⟨some "key", .Lambda params body scope lp, kp⟩] X.env) = [(some ("key" : Str), do let v ← eval (.Lambda params body scope lp) X.env; standAt pos; pure v)] := by rfl) :
    PE X (.Call (.Name "sorted" p) [e] [⟨some "key", .Lambda params body scope lp, kp⟩] pos) (tSortK T lp te) := by
  intro pins s σ H Q I h
  have b1 : bootBuiltins "sorted" = some (.builtin "sorted") := by decide +kernel
  refine wpAny_Call_Name_kw (ld_blt I hg hm b1 ?_ (by decide) (by decide))
  refine callWith_kw ?_ (by rw [hs]; rfl) (by rw [hs]; rfl) (by rw [hk]; rfl) (by rw [hk]; rfl)
  rw [hs, hk]
  refine Calls.spliced_cons (thn (he pins s σ H _ I h) fun u s1 ⟨v, H1, I1, rv, d, kvs, ps, ev, ed, eT, tok, ca, few, keys, q⟩ => Calls.spliced_nil ?_)
  subst ev
  have eu : u = Value.ref d := rv
  subst eu
  have tT : s1.heap.get? T = some (tabObj ps) := I1.hok T _ eT
  have nsg : s1.heap.Ns mainGlobals X.mg := I1.mod.glob.keeps I1.bk
  refine wpAny_evalAll_cons (wpAny_bind (kla_eval L.df (kla_makeFunction L.cl I1.ok.glob nsg L.cd (L.hC _ I1.kIn) tT tok ca L.nG (L.hB.keeps I1.bk) fun c' ctv h' tk xt cs cl' cr eT' => ?_)))
  refine wpAny_bind (wpAny_standAt (wpAny_pure (wpAny_evalAll_nil ?_)))
  have k2 : ∀ b o, b ≠ T → s1.heap.get? b = some o → (h'.push (kla_obj "<lambda>" (X.env.qual ++ "<lambda>") params body scope [] ((X.mg "__name__").getD .none) c' ctv)).get? b = some o := fun b o n e => Heap.get?_push_of_some _ (xt b o n e)
  have I2 := I1.tabs (t' := tk) eT k2 (Heap.get?_push_of_some _ eT')
  generalize hh2 : h'.push (kla_obj "<lambda>" (X.env.qual ++ "<lambda>") params body scope [] ((X.mg "__name__").getD .none) c' ctv) = h2 at k2 I2
  obtain ⟨sz, nd, xs, pr, o, es, ep, ho, exd, dat, el, nod⟩ := (show ObjOk X.prog X.w H1 s1.heap d (.dT kvs) from I1.hok d _ ed)
  obtain ⟨ts, t1, t2, t3⟩ := keys_of pr keys
  have ndT : d ≠ T := fun z => by rw [z, eT] at ed; cases ed
  have ek : es.toList.map (·.key) = ts.map (fun t => Value.ref t.b) := by rw [el, List.map_map, ← t1]; rfl
  have tl : ts.length = kvs.length := by have := congrArg List.length t2; simpa using this.symm
  have el2 : es.size = ts.length := by have := congrArg List.length ek; simpa using this
  obtain ⟨m, hn, _⟩ := id I2.loc
  have lL : X.env.locals < s1.heap.objs.size := I1.lt
  have lf : X.env.locals < h'.objs.size := Nat.lt_trans (Nat.lt_of_lt_of_le lL cs) cl'
  show wpAny _ _ (call (.builtin "sorted") [.ref d] [("key", .ref h'.objs.size)]) _ _ _
  refine es_sorted (s := { s1 with heap := h2, toks := tk }) (L := X.env.locals) (m := m) (kz := ts.map Kp2.key) (es := es) (ep := ep) hn nd ⟨o, k2 d o ndT ho, exd, dat⟩ (I1.ok.hd hc) (by omega) (by rw [List.length_map]; exact el2.symm) (fun i v k e1 e2 hx tkx kx Q' hq => ?_) (fun D h3 tk3 out c3 kx hD eD ko => ?_)
  · rw [ek, List.getElem?_map] at e1
    rw [List.getElem?_map] at e2
    cases et : ts[i]? with
    | none => rw [et] at e1; cases e1
    | some t =>
      rw [et] at e1 e2
      cases e1
      cases e2
      obtain ⟨g1, g2, g3, g4⟩ := t3 t (List.mem_of_getElem? et)
      obtain ⟨its, rvs, pl, _⟩ := I1.tuple (SqT.of g1)
      obtain ⟨a1, a2, rfl, ⟨x1, rfl⟩, ⟨x2, rfl⟩⟩ := vals2 rvs
      have nbT : t.b ≠ T := fun z => by rw [z, eT] at g1; cases g1
      have nbL : t.b ≠ X.env.locals := fun z => by rw [z, I1.free] at g1; cases g1
      have bL : ∀ b ob, X.base.get? b = some ob → b ≠ X.env.locals := fun b ob e => Nat.ne_of_lt (Nat.lt_of_lt_of_le (Heap.lt_size e) (Nat.le_trans I1.ok.bsz I1.ok.above))
      refine lam_call (s := { s1 with heap := hx, toks := tkx }) (A := X.A.in1.in1) (x := x) (p := t.p) (q := t.q) (t1 := x1) (t2 := x2) (name := "<lambda>") (qual := X.env.qual ++ "<lambda>") (c' := c') (ctv := ctv) (pm := (X.mg "__name__").getD .none) hr.in1.in1.depth ?_ ?_ ?_ L.co L.ge L.kd L.nc L.lx (L.bd _ _ _) L.db ?_ g2 g3 g4 L.ke hq
      · exact kx.kp _ _ (Nat.ne_of_gt lf) (by rw [← hh2]; exact Heap.get?_push_size _ rfl)
      · obtain ⟨cc, oc, vs', tt, ec, e3, r⟩ := cr
        cases ec
        exact ⟨_, oc, vs', tt, rfl, kx.kp _ _ (Nat.ne_of_gt (Nat.lt_of_lt_of_le lL cs)) (by rw [← hh2]; exact Heap.get?_push_of_some _ e3), r⟩
      · exact I2.mod.nolimit.keeps fun b ob e => kx.kp b ob (bL b ob e) (I2.bk b ob e)
      · obtain ⟨ob, eb, r⟩ := pl
        exact ⟨ob, kx.kp _ _ nbL (k2 _ _ nbT eb), r⟩
  · obtain ⟨ps', pp, eo, pw⟩ := ko
    have ez : (ts.map Kp2.key).zip (es.toList.map (·.key)) = ts.map (fun t => (t.key, Value.ref t.b)) := by
      rw [ek]
      exact zip_kp ts
    obtain ⟨ss, sp, es'⟩ := perm_map pp ez
    subst es'
    have eo' : out.toList = ss.map (fun t => Value.ref t.b) := by rw [eo, List.map_map]; rfl
    have vl : Vals (ss.map fun t => V.ref t.b) out.toList := by
      rw [eo']
      exact vals_kp ss
    have sl : ss.length ≤ 60 := by rw [sp.length_eq]; omega
    have hD2 := I2.hok.fresh hD
    have hD1 : H1 D = none := by
      by_cases z : D = T
      · rw [z, upd_same] at hD2; cases hD2
      · rw [upd_ne z] at hD2; exact hD2
    have pw1 := List.pairwise_map.mp pw
    have pw2 : ss.Pairwise (fun a b => a.key ≤ b.key) := pw1.imp fun hh => by
      rw [if_neg Bool.false_ne_true] at hh
      exact hh
    have I3 := I2.laidL (t' := tk3) (u := .lst (ss.map fun t => .ref t.b)) hn kx hD ⟨by rw [List.length_map]; exact Nat.le_trans sl (by decide), out.toList, c3, vl, by rw [eD]⟩
    exact ⟨.ref D, _, I3, rfl, q ts ss _ D t2 t3 sp pw2 hD1⟩
end L2


set_option Elab.async false
set_option linter.all false
set_option maxRecDepth 100000
set_option maxHeartbeats 4000000
namespace L2
open PySem PySem.Spec PyProof.Rows PySem.W
/-! ### a def whose code record is known by its place -/
structure TopDefC (K : Frag) (mg : Str → Option Value) (x : Str) (st : Stmt) (c : Addr) : Prop where
  ex : ∃ (f : Addr) (oc : Value) (od : Option Addr) (kV doc pm : Value) (an : Option Addr) (ct : Value) (osl : Array (Option Value)), K.lookup f = some ⟨oc, od, .func (fnOf x x (defArgs st) (defBody st) (defScope st) .none kV doc pm an (.ref c) ct), osl⟩ ∧ codeIn K (.ref c) x = true ∧ keepIn K (.ref f) = true ∧ mg x = some (.ref f)
theorem topC_mk {K : Frag} {h : Heap} {mg : Str → Option Value} {x : Str} {st : Stmt} {f c : Addr} {oc kV doc pm ct : Value} {od an : Option Addr} {osl : Array (Option Value)} (X : K.In h) (G : h.Ns mainGlobals mg)
    (a : nsIn K mainGlobals x = some (some (.ref f))) (l : K.lookup f = some ⟨oc, od, .func (fnOf x x (defArgs st) (defBody st) (defScope st) .none kV doc pm an (.ref c) ct), osl⟩) (cd : codeIn K (.ref c) x = true) (k : keepIn K (.ref f) = true) : TopDefC K mg x st c :=
  ⟨f, oc, od, kV, doc, pm, an, ct, osl, l, cd, k, mg_of X G a⟩
section
variable {P : Program} {w : World} {K : Frag} {mg : Str → Option Value} {base : Heap}
theorem def_ofC {x : Str} {st : Stmt} {N ps : List Str} {k : Nat} {sp : Sp} {c : Addr} (T : TopDefC K mg x st c) (S : FnScope N ps (defScope st))
    (bd : ∀ (kV doc pm : Value) (an : Option Addr) (cdv ct : Value) (us : List Value), us.length = ps.length → bindArgs (fnOf x x (defArgs st) (defBody st) (defScope st) .none kV doc pm an cdv ct) ⟨us, []⟩ = pure (ps.zip us))
    (len : ∀ vs H Q E, sp vs H Q E → vs.length = ps.length)
    (body : ∀ (f : Addr) (A : Around) (outer : List Env) (s : Shared) (H : Hp) (vs : List V) (Q : VK) (E : XK), Room k (A.deeper (envOfC x (defScope st) s.heap.objs.size f (.ref c))) → sp vs H Q E →
      ∃ t, PSs (cxOf CX0 P w K mg base N x (defScope st) f (.ref c) A outer s H E).nox (defBody st) t ∧ t { nx := fun _ H' => Q .non H', rt := Q } (start N vs) H) :
    Def P w K mg base (k + 1) x ps sp := by
  obtain ⟨f, oc, od, kV, doc, pm, an, ct, osl, lk, hcd, kp, m⟩ := T.ex
  refine ⟨f, _, fn_of lk hcd S len fun A outer s H vs Q E hr hsp => ?_, .all (bd kV doc pm an (.ref c) ct), kp, m⟩
  obtain ⟨t, h, q⟩ := body f A outer s H vs Q E hr hsp
  exact ⟨t, h.nox, q⟩
end
/-- what is known of a def's code record and its table -/
structure TabC (base : Heap) (K : Frag) (mg : Str → Option Value) (c T : Addr) : Prop where
  hC : ∀ h, K.In h → CodeHd h c T
  hB : base.BuiltinsAt mg T
  nG : mainGlobals ≠ T
def codeHdIn (K : Frag) (c T : Addr) : Bool := match K.lookup c with
  | some ⟨.type "code", _, .fields vs, _⟩ => (match (vs[11]? : Option Value), vs.getD 11 .none, vs.getD 18 .none, vs.getD 7 .none, vs.getD 9 .none, vs.getD 10 .none with
    | some (.ref P), .ref P', .str _ _, .int _ _, .bool _, .int _ _ => P == T && P' == T && !(c == T)
    | _, _, _, _, _, _ => false)
  | _ => false
theorem codeHd_of {K : Frag} {h : Heap} {c T : Addr} (X : K.In h) (q : codeHdIn K c T = true) : CodeHd h c T := by
  unfold codeHdIn at q
  split at q
  · rename_i d vs sl lk
    split at q
    · rename_i P P' s1 t1 i1 t2 b1 i2 t3 e1 e2 e3 e4 e5 e6
      simp only [Bool.and_eq_true, Bool.not_eq_true', beq_iff_eq, beq_eq_false_iff_ne] at q
      obtain ⟨⟨rfl, rfl⟩, ne⟩ := q
      exact ⟨_, vs, s1, t1, i1, t2, b1, i2, t3, X _ _ lk, rfl, rfl, e1, e2, e3, e4, e5, e6, ne⟩
    · cases q
  · cases q
/-- t + u, u not empty: t empty gives u itself -/
def rCatA (K : Frag) : R2 := fun x y H Q => ∃ a b xs ys, x = .ref a ∧ y = .ref b ∧ SqT K H a xs ∧ SqT K H b ys ∧ ys ≠ [] ∧ xs.length + ys.length ≤ sizeLine ∧
  (xs = [] → Q (.ref b) H) ∧ (xs ≠ [] → ∀ p, H p = none → Q (.ref p) (upd H p (.tup (xs ++ ys))))
theorem op_catA {X : Cx} : OpR X (binaryOp .Add) (rCatA X.K) := by
  intro pins s σ H x y v u Q I rx ry h
  obtain ⟨a, b, xs, ys, rfl, rfl, ha, hb, hy, hz, q1, q2⟩ := h
  by_cases hx : xs = []
  · cases rx
    cases ry
    obtain ⟨its, r1, p1, _⟩ := I.tuple ha
    obtain ⟨its2, r2, p2, _⟩ := I.tuple hb
    have e1 : its = [] := r1.nil_iff.mpr hx
    subst e1
    obtain ⟨⟨cls, dd, data, sl⟩, ho, hc, n, hd⟩ := id p1
    obtain ⟨⟨cls2, dd2, data2, sl2⟩, ho2, hc2, n2, hd2⟩ := id p2
    simp only at hc hd hc2 hd2
    subst hc hd hc2 hd2
    exact concat_meets ⟨_, ho, rfl⟩ ⟨_, ho2, rfl⟩ noFill_tuple_add seq_tuple_add PySem.F.slot_tuple_add PySem.F.entry_tuple_add (PySem.F.args_tuple_add_2 _ _)
      (tuple_addW0 a b _ _ n n2 dd dd2 sl sl2 rfl) ⟨ho, ho2, ⟨.ref b, H, I, rfl, q1 hx⟩⟩
  · exact op_catT pins s σ H (.ref a) (.ref b) v u Q I rx ry ⟨a, b, xs, ys, rfl, rfl, ha, hb, hx, hz, fun z => absurd z hy, fun _ => q2 hx⟩
end L2


set_option Elab.async false
set_option linter.all false
set_option maxRecDepth 100000
set_option maxHeartbeats 4000000
namespace Mine
open PySem L2
def top (i : Nat) : Stmt := PySem.Challenge.pw_leansay_k33_lines_that_cannot_be.main.body.getD i (.Pass ⟨0, 0, 0, 0⟩)
abbrev s_NoLine_init : Stmt := inClass (top 3) 0
abbrev n_NoLine_init : List Str := ["self", "word", "at"]
theorem sc_NoLine_init : FnScope n_NoLine_init ["self", "word", "at"] (defScope s_NoLine_init) := ⟨rfl, rfl, rfl, by decide +kernel, rfl, by decide +kernel, by decide +kernel⟩
abbrev s_common_factor : Stmt := top 8
abbrev n_common_factor : List Str := ["one", "other", "greater", "lesser", "rest"]
theorem sc_common_factor : FnScope n_common_factor ["one", "other"] (defScope s_common_factor) := ⟨rfl, rfl, rfl, by decide +kernel, rfl, by decide +kernel, by decide +kernel⟩
abbrev s_fraction : Stmt := top 9
abbrev n_fraction : List Str := ["top", "bottom", "factor"]
theorem sc_fraction : FnScope n_fraction ["top", "bottom"] (defScope s_fraction) := ⟨rfl, rfl, rfl, by decide +kernel, rfl, by decide +kernel, by decide +kernel⟩
abbrev s_less : Stmt := top 10
abbrev n_less : List Str := ["one", "other"]
theorem sc_less : FnScope n_less ["one", "other"] (defScope s_less) := ⟨rfl, rfl, rfl, by decide +kernel, rfl, by decide +kernel, by decide +kernel⟩
abbrev s_is_outside : Stmt := top 14
abbrev n_is_outside : List Str := ["x"]
theorem sc_is_outside : FnScope n_is_outside ["x"] (defScope s_is_outside) := ⟨rfl, rfl, rfl, by decide +kernel, rfl, by decide +kernel, by decide +kernel⟩
abbrev s_told_by_stretch : Stmt := top 15
abbrev n_told_by_stretch : List Str := ["stretch", "x"]
theorem sc_told_by_stretch : FnScope n_told_by_stretch ["stretch", "x"] (defScope s_told_by_stretch) := ⟨rfl, rfl, rfl, by decide +kernel, rfl, by decide +kernel, by decide +kernel⟩
abbrev s_put_steeper : Stmt := top 18
abbrev n_put_steeper : List Str := ["rows", "places", "letter", "steeper", "k"]
theorem sc_put_steeper : FnScope n_put_steeper ["rows", "places", "letter"] (defScope s_put_steeper) := ⟨rfl, rfl, rfl, by decide +kernel, rfl, by decide +kernel, by decide +kernel⟩
abbrev s_flat_rows : Stmt := top 19
abbrev n_flat_rows : List Str := ["height"]
theorem sc_flat_rows : FnScope n_flat_rows ["height"] (defScope s_flat_rows) := ⟨rfl, rfl, rfl, by decide +kernel, rfl, by decide +kernel, by decide +kernel⟩
abbrev s_straight_rows : Stmt := top 20
abbrev n_straight_rows : List Str := ["slope", "height", "rows", "lowest", "letter", "places"]
theorem sc_straight_rows : FnScope n_straight_rows ["slope", "height"] (defScope s_straight_rows) := ⟨rfl, rfl, rfl, by decide +kernel, rfl, by decide +kernel, by decide +kernel⟩
abbrev s_is_out : Stmt := top 24
abbrev n_is_out : List Str := ["stretch", "start"]
theorem sc_is_out : FnScope n_is_out ["stretch", "start"] (defScope s_is_out) := ⟨rfl, rfl, rfl, by decide +kernel, rfl, by decide +kernel, by decide +kernel⟩
abbrev s_must_stay : Stmt := top 25
abbrev n_must_stay : List Str := ["line", "start", "k", "stretch"]
theorem sc_must_stay : FnScope n_must_stay ["line"] (defScope s_must_stay) := ⟨rfl, rfl, rfl, by decide +kernel, rfl, by decide +kernel, by decide +kernel⟩
abbrev s_must_lead_back : Stmt := top 26
abbrev n_must_lead_back : List Str := ["line", "k", "stretch"]
theorem sc_must_lead_back : FnScope n_must_lead_back ["line"] (defScope s_must_lead_back) := ⟨rfl, rfl, rfl, by decide +kernel, rfl, by decide +kernel, by decide +kernel⟩
abbrev s_moved : Stmt := top 27
abbrev n_moved : List Str := ["row", "by"]
theorem sc_moved : FnScope n_moved ["row", "by"] (defScope s_moved) := ⟨rfl, rfl, rfl, by decide +kernel, rfl, by decide +kernel, by decide +kernel⟩
abbrev s_put_straights : Stmt := top 28
abbrev n_put_straights : List Str := ["rows", "line", "place_of", "stretch", "rule", "by"]
theorem sc_put_straights : FnScope n_put_straights ["rows", "line"] (defScope s_put_straights) := ⟨rfl, rfl, rfl, by decide +kernel, rfl, by decide +kernel, by decide +kernel⟩
abbrev s_put_folded : Stmt := top 29
abbrev n_put_folded : List Str := ["rows", "word", "places", "folded", "place"]
theorem sc_put_folded : FnScope n_put_folded ["rows", "word", "places"] (defScope s_put_folded) := ⟨rfl, rfl, rfl, by decide +kernel, rfl, by decide +kernel, by decide +kernel⟩
abbrev s_is_below_at : Stmt := top 30
abbrev n_is_below_at : List Str := ["rule", "stretch", "x"]
theorem sc_is_below_at : FnScope n_is_below_at ["rule", "stretch", "x"] (defScope s_is_below_at) := ⟨rfl, rfl, rfl, by decide +kernel, rfl, by decide +kernel, by decide +kernel⟩
abbrev s_is_below : Stmt := top 31
abbrev n_is_below : List Str := ["rule", "stretch", "start"]
theorem sc_is_below : FnScope n_is_below ["rule", "stretch", "start"] (defScope s_is_below) := ⟨rfl, rfl, rfl, by decide +kernel, rfl, by decide +kernel, by decide +kernel⟩
abbrev s_rows_of_line : Stmt := top 32
abbrev n_rows_of_line : List Str := ["line", "rows", "place_of", "lessers", "start", "stretch", "places"]
theorem sc_rows_of_line : FnScope n_rows_of_line ["line"] (defScope s_rows_of_line) := ⟨rfl, rfl, rfl, by decide +kernel, rfl, by decide +kernel, by decide +kernel⟩
abbrev s_l_cell : Stmt := top 34
abbrev s_l_whole : Stmt := top 35
abbrev n_l_whole : List Str := ["_law_found"]
theorem sc_l_whole : FnScope n_l_whole ["_law_found"] (defScope s_l_whole) := ⟨rfl, rfl, rfl, by decide +kernel, rfl, by decide +kernel, by decide +kernel⟩
abbrev s_l_lowest : Stmt := top 36
abbrev n_l_lowest : List Str := ["_law_top", "_law_bottom", "_law_one", "_law_other"]
theorem sc_l_lowest : FnScope n_l_lowest ["_law_top", "_law_bottom"] (defScope s_l_lowest) := ⟨rfl, rfl, rfl, by decide +kernel, rfl, by decide +kernel, by decide +kernel⟩
abbrev s_l_meet : Stmt := top 37
abbrev n_l_meet : List Str := ["_law_rule", "_law_other", "_law_top", "_law_bottom"]
theorem sc_l_meet : FnScope n_l_meet ["_law_rule", "_law_other"] (defScope s_l_meet) := ⟨rfl, rfl, rfl, by decide +kernel, rfl, by decide +kernel, by decide +kernel⟩
abbrev s_l_inward : Stmt := top 38
abbrev n_l_inward : List Str := ["_law_rule", "_law_end", "_law_other", "_law_here"]
theorem sc_l_inward : FnScope n_l_inward ["_law_rule", "_law_end", "_law_other"] (defScope s_l_inward) := ⟨rfl, rfl, rfl, by decide +kernel, rfl, by decide +kernel, by decide +kernel⟩
abbrev s_l_ways : Stmt := top 39
abbrev n_l_ways : List Str := ["_law_rule", "_law_begin", "_law_steep", "_law_found", "_law_slope", "_law_height", "_law_end", "_law_inside"]
theorem sc_l_ways : FnScope n_l_ways ["_law_rule", "_law_begin", "_law_steep"] (defScope s_l_ways) := ⟨rfl, rfl, rfl, by decide +kernel, rfl, by decide +kernel, by decide +kernel⟩
abbrev s_l_way_out : Stmt := top 40
abbrev n_l_way_out : List Str := ["_law_rule", "_law_slope", "_law_height"]
theorem sc_l_way_out : FnScope n_l_way_out ["_law_rule"] (defScope s_l_way_out) := ⟨rfl, rfl, rfl, by decide +kernel, rfl, by decide +kernel, by decide +kernel⟩
abbrev s_l_built : Stmt := top 41
abbrev n_l_built : List Str := ["_law_script", "_law_at", "_law_turns", "_law_steep", "_law_cell_here", "_law_rule", "_law_line", "_law_begin", "_law_k", "_law_some", "_law_other", "_law_last"]
theorem sc_l_built : FnScope n_l_built ["_law_script", "_law_at", "_law_turns", "_law_steep"] (defScope s_l_built) := ⟨rfl, rfl, rfl, by decide +kernel, rfl, by decide +kernel, by decide +kernel⟩
abbrev s_l_any : Stmt := top 42
abbrev n_l_any : List Str := ["_law_script", "_law_at", "_law_many", "_law_slope", "_law_height", "_law_ends", "_law_k", "_law_cell_here", "_law_bottom", "_law_line", "_law_end"]
theorem sc_l_any : FnScope n_l_any ["_law_script", "_law_at", "_law_many"] (defScope s_l_any) := ⟨rfl, rfl, rfl, by decide +kernel, rfl, by decide +kernel, by decide +kernel⟩
abbrev s_l_due : Stmt := top 43
abbrev n_l_due : List Str := ["_law_line", "_law_begin", "_law_k", "_law_stretch", "_law_x"]
theorem sc_l_due : FnScope n_l_due ["_law_line"] (defScope s_l_due) := ⟨rfl, rfl, rfl, by decide +kernel, rfl, by decide +kernel, by decide +kernel⟩
abbrev s_l_told : Stmt := top 44
abbrev n_l_told : List Str := ["_law_line", "_law_found", "_law_heard", "e"]
theorem sc_l_told : FnScope n_l_told ["_law_line"] (defScope s_l_told) := ⟨rfl, rfl, rfl, by decide +kernel, rfl, by decide +kernel, by decide +kernel⟩
abbrev s_law : Stmt := top 45
abbrev n_law : List Str := ["_law_script", "_law_cell_here", "_law_line"]
theorem sc_law : FnScope n_law ["_law_script"] (defScope s_law) := ⟨rfl, rfl, rfl, by decide +kernel, rfl, by decide +kernel, by decide +kernel⟩
end Mine

namespace Mine
open PySem L2
/-- the first place where p is not -/
def fst33 (p : Nat → Bool) : Nat → Option Nat
  | 0 => none
  | n + 1 => match fst33 p n with
    | some k => some k
    | none => if p n = true then none else some n
theorem fst33_no {p : Nat → Bool} : ∀ {n : Nat}, (∀ j, j < n → p j = true) → fst33 p n = none
  | 0, _ => rfl
  | n + 1, h => by
    show (match fst33 p n with | some k => some k | none => if p n = true then none else some n) = none
    rw [fst33_no fun j hj => h j (by omega)]
    exact if_pos (h n (by omega))
theorem fst33_at {p : Nat → Bool} {k : Nat} (a : ∀ j, j < k → p j = true) (b : p k = false) : ∀ {n : Nat}, k < n → fst33 p n = some k
  | 0, h => by omega
  | n + 1, h => by
    show (match fst33 p n with | some k => some k | none => if p n = true then none else some n) = some k
    rcases Nat.lt_or_ge k n with z | z
    · rw [fst33_at a b z]
    · have : k = n := by omega
      subst this
      rw [fst33_no a]
      exact if_neg (by rw [b]; decide)
def beg33 (L : List St4) : Nat → Int × Int
  | 0 => (0, 1)
  | k + 1 => match L[k]? with
    | some s => (s.p, s.q)
    | none => (0, 1)
theorem beg33_succ {L : List St4} {k : Nat} {s : St4} (h : L[k]? = some s) : beg33 L (k + 1) = (s.p, s.q) := by
  show (match L[k]? with | some s => (s.p, s.q) | none => (0, 1)) = _
  rw [h]
def at33 (s : St4) (p q : Int) : Int := s.m * p + s.h * q
def in33 (s : St4) (p q : Int) : Bool := decide (0 ≤ at33 s p q ∧ at33 s p q ≤ q)
def stay33 (L : List St4) (k : Nat) : Bool := match L[k]? with
  | some s => in33 s (beg33 L k).1 (beg33 L k).2 && in33 s s.p s.q
  | none => true
def mild33 (L : List St4) (k : Nat) : Bool := match L[k]? with
  | some s => decide (s.m.natAbs ≤ 4)
  | none => true
theorem stay33_of {L : List St4} {k : Nat} {s : St4} (h : L[k]? = some s) : stay33 L k = (in33 s (beg33 L k).1 (beg33 L k).2 && in33 s s.p s.q) := by unfold stay33; rw [h]
theorem mild33_of {L : List St4} {k : Nat} {s : St4} (h : L[k]? = some s) : mild33 L k = decide (s.m.natAbs ≤ 4) := by unfold mild33; rw [h]
def wd33 : Nat → Str
  | 0 => "out"
  | 1 => "many"
  | _ => "steep"
/-- what a line is refused for -/
def due33 (L : List St4) : Option (Nat × Int) := match fst33 (stay33 L) L.length with
  | some k => some (0, (k : Int))
  | none => if 6 < L.length then some (1, (L.length : Int)) else match fst33 (mild33 L) L.length with
    | some k => some (2, (k : Int))
    | none => none
theorem due_out {L : List St4} {k : Nat} (a : ∀ j, j < k → stay33 L j = true) (b : stay33 L k = false) (h : k < L.length) : due33 L = some (0, (k : Int)) := by
  unfold due33; rw [fst33_at a b h]
theorem due_many {L : List St4} (a : ∀ j, j < L.length → stay33 L j = true) (h : 6 < L.length) : due33 L = some (1, (L.length : Int)) := by
  unfold due33; rw [fst33_no a]; exact if_pos h
theorem due_steep {L : List St4} {k : Nat} (a : ∀ j, j < L.length → stay33 L j = true) (h : ¬ 6 < L.length) (c : ∀ j, j < k → mild33 L j = true) (b : mild33 L k = false) (hk : k < L.length) : due33 L = some (2, (k : Int)) := by
  unfold due33; rw [fst33_no a]; show (if _ then _ else _) = _; rw [if_neg h, fst33_at c b hk]
theorem due_none {L : List St4} (a : ∀ j, j < L.length → stay33 L j = true) (h : ¬ 6 < L.length) (c : ∀ j, j < L.length → mild33 L j = true) : due33 L = none := by
  unfold due33; rw [fst33_no a]; show (if _ then _ else _) = _; rw [if_neg h, fst33_no c]
theorem fst33_all {p : Nat → Bool} : ∀ {n : Nat}, fst33 p n = none → ∀ j, j < n → p j = true
  | 0, _, j, hj => by omega
  | n + 1, h, j, hj => by
    have h : (match fst33 p n with | some k => some k | none => if p n = true then none else some n) = none := h
    cases e : fst33 p n with
    | some k => rw [e] at h; cases h
    | none =>
      rw [e] at h
      rcases Nat.lt_or_ge j n with z | z
      · exact fst33_all e j z
      · have : j = n := by omega
        subst this
        by_cases c : p j = true
        · exact c
        · have h2 : (if p j = true then none else some j) = none := h
          rw [if_neg c] at h2; cases h2
/-- what passes: few stretches, mild ones -/
theorem due_pass {L : List St4} (h : due33 L = none) : L.length ≤ 6 ∧ ∀ s ∈ L, s.m.natAbs ≤ 4 := by
  unfold due33 at h
  cases e : fst33 (stay33 L) L.length with
  | some k => rw [e] at h; cases h
  | none =>
    rw [e] at h
    have h : (if 6 < L.length then some (1, (L.length : Int)) else match fst33 (mild33 L) L.length with | some k => some (2, (k : Int)) | none => none) = none := h
    by_cases c : 6 < L.length
    · rw [if_pos c] at h; cases h
    · rw [if_neg c] at h
      refine ⟨by omega, fun s hs => ?_⟩
      cases e2 : fst33 (mild33 L) L.length with
      | some k => rw [e2] at h; cases h
      | none =>
        obtain ⟨j, hj, ej⟩ := List.getElem_of_mem hs
        have := fst33_all e2 j hj
        rw [mild33_of (s := s) (by rw [List.getElem?_eq_getElem hj, ej])] at this
        exact of_decide_eq_true this
/-- numbers that are not large, a bottom above nought -/
structure Ok33 (s : St4) : Prop where
  q0 : 0 < s.q
  bp : s.p.natAbs ≤ 1000
  bq : s.q.natAbs ≤ 1000
  bm : s.m.natAbs ≤ 1000
  bh : s.h.natAbs ≤ 1000
theorem beg33_b {L : List St4} (ok : ∀ s ∈ L, Ok33 s) (k : Nat) : 0 < (beg33 L k).2 ∧ (beg33 L k).1.natAbs ≤ 1000 ∧ (beg33 L k).2.natAbs ≤ 1000 := by
  cases k with
  | zero => exact ⟨(by decide : (0 : Int) < 1), (by decide : (0 : Int).natAbs ≤ 1000), (by decide : (1 : Int).natAbs ≤ 1000)⟩
  | succ k =>
    cases e : L[k]? with
    | none =>
      have : beg33 L (k + 1) = (0, 1) := by show (match L[k]? with | some s => (s.p, s.q) | none => (0, 1)) = _; rw [e]
      rw [this]
      exact ⟨(by decide : (0 : Int) < 1), (by decide : (0 : Int).natAbs ≤ 1000), (by decide : (1 : Int).natAbs ≤ 1000)⟩
    | some s => rw [beg33_succ e]; have o := ok s (List.mem_of_getElem? e); exact ⟨o.q0, o.bp, o.bq⟩
end Mine




set_option Elab.async false
set_option linter.all false
set_option maxRecDepth 100000
set_option maxHeartbeats 4000000
namespace Mine
open PySem L2
local macro_rules | `(tactic| walk_at "mul") => `(tactic| first | exact mulS (by assumption) (by assumption) | exact mulS (by first | assumption | exact sm_of (by omega) | exact sm_of (by decide) | exact sm_mod (by decide) (by decide)) (by first | assumption | exact sm_of (by omega) | exact sm_of (by decide) | exact sm_mod (by decide) (by decide)))
local macro_rules | `(tactic| walk_at "rd1") => `(tactic| first
  | refine ⟨_, rfl, ?_⟩
  | refine ⟨_, _, rfl, rfl, ?_⟩
  | (refine' ⟨_, _, _, _, rfl, rfl, ?sq, ?ia, ?k⟩; (case' sq => first | assumption | exact Scr.l (by assumption)); (case' ia => rfl))
  | refine ⟨rfl, ?_⟩
  | (refine ⟨?m, ?_⟩; (case' m => walk_at "mul"))
  | (refine ⟨?m, ?_⟩; (case' m => show (0 : Int) < _; decide))
  | (refine ⟨?m, ?_⟩; (case' m => exact ⟨by decide, by decide⟩))
  | (refine ⟨?m, ?_⟩; (case' m => exact ⟨by decide, by decide, by decide⟩)))
local macro_rules | `(tactic| walk_at "rd") => `(tactic| repeat walk_at "rd1")
/-! ### what the defs promise -/
def spFactor : Sp := fun vs H Q _ => ∃ a b : Int, vs = [.int a, .int b] ∧ Q (.int (Lo.gc a b)) H
def spLow : Sp := fun vs H Q _ => ∃ t b : Int, vs = [.int t, .int b] ∧ b ≠ 0 ∧ Sm b ∧ ∀ a H', Same H H' → H' a = some (.tup [.int (Lo.lowT t b), .int (Lo.lowB t b)]) → Q (.ref a) H'
def spLess (K : PySem.W.Frag) : Sp := fun vs H Q _ => ∃ (x y : V) (p q r s : Int), vs = [x, y] ∧ Dat K H (frD p q) x ∧ Dat K H (frD r s) y ∧ Sm p ∧ Sm q ∧ Sm r ∧ Sm s ∧ Q (.bl (decide (p * s < r * q))) H
section
variable {P : Program} {w : World} {K : PySem.W.Frag} {mg : Str → Option Value} {base : Heap}
theorem ok_factor (T : TopDef K mg "common_factor" s_common_factor) (Z_abs : mg "abs" = none) : Def P w K mg base 1 "common_factor" ["one", "other"] spFactor := by
  refine def_of T sc_common_factor (fun _ _ _ _ _ _ us hl => match us, hl with | [_, _], _ => rfl) (fun vs H Q E h => ?_) (fun f cdv A outer s H vs Q E hr h => ?_)
  · obtain ⟨a, b, rfl, _⟩ := h
    rfl
  obtain ⟨a, b, rfl, q⟩ := h
  have nd := sc_common_factor.nd
  refine ⟨_, (pss_cons (ps_set (i := 2) nd rfl (Or.inl rfl) (pe_callB call_abs rfl Z_abs (by decide +kernel) (pa_cons (pv 0) pa_nil)))
    (pss_cons (ps_set (i := 3) nd rfl (Or.inl rfl) (pe_callB call_abs rfl Z_abs (by decide +kernel) (pa_cons (pv 1) pa_nil)))
    (pss_cons (ps_while PassesOwn.never (pt_cmpR op_ne (pv 3) pe_int (nomark _)) (pss_cons (ps_set (i := 4) nd rfl (Or.inl rfl) (pe_op op_modN (pv 2) (pv 3)))
    (pss_cons (ps_set (i := 2) nd rfl (Or.inl rfl) (pv 3))
    (pss_one (ps_set (i := 3) nd rfl (Or.inl rfl) (pv 4))))))
    (pss_one (ps_ret (pv 2)))))), ?_⟩
  refine ⟨_, rfl, _, rfl, _, rfl, _, rfl, ?_⟩
  rw [abs_is, abs_is]
  refine ⟨fun m σ H' => H' = H ∧ ∃ (g l : Int) (o : Option V), σ = [some (.int a), some (.int b), some (.int g), some (.int l), o] ∧ 0 ≤ g ∧ 0 ≤ l ∧ l.toNat = m ∧ Lo.gc g l = Lo.gc a b, ⟨_, rfl, _, _, _, rfl, by omega, by omega, rfl, Lo.gc_natAbs a b⟩, ?_⟩
  rintro m σ H' ⟨rfl, g, l, o, rfl, hg, hl, rfl, e⟩
  refine ⟨_, rfl, rfl, _, rfl, ?_⟩
  refine ite2 (fun c => ?_) (fun c => ?_)
  · have c' : l ≠ 0 := fun z => by
      rw [z, decide_eq_true (rfl : V.int 0 = V.int 0)] at c
      cases c
    have c2 : 0 < l := by omega
    refine ⟨fun σ' H'' => H'' = H' ∧ σ' = [some (.int a), some (.int b), some (.int l), some (.int (g.fmod l)), some (.int (g.fmod l))], ?_, ?_⟩
    · rintro σ' H'' ⟨rfl, rfl⟩
      have z0 := Int.fmod_nonneg_of_pos g c2
      have z1 := Int.fmod_lt_of_pos g c2
      exact ⟨_, (show (g.fmod l).toNat < l.toNat by omega), rfl, l, g.fmod l, _, rfl, by omega, z0, rfl, by rw [Lo.gc_turn]; exact e⟩
    · exact ⟨_, rfl, _, rfl, _, _, rfl, rfl, c', _, rfl, _, rfl, rfl, rfl⟩
  · have l0 : l = 0 := by
      by_cases z : l = 0
      · exact z
      · exfalso
        refine c ?_
        have n : ¬ (V.int l = V.int 0) := fun q => z (V.int.inj q)
        rw [decide_eq_false n]
        rfl
    subst l0
    rw [Lo.gc_zero hg] at e
    subst e
    exact ⟨_, rfl, q⟩
theorem ok_fraction (T : TopDef K mg "fraction" s_fraction) (D_common_factor : Def P w K mg base 1 "common_factor" ["one", "other"] spFactor) : Def P w K mg base 2 "fraction" ["top", "bottom"] spLow := by
  refine def_of T sc_fraction (fun _ _ _ _ _ _ us hl => match us, hl with | [_, _], _ => rfl) (fun vs H Q E h => ?_) (fun f cdv A outer s H vs Q E hr h => ?_)
  · obtain ⟨t, b, rfl, _⟩ := h
    rfl
  obtain ⟨t, b, rfl, hb, hs, q⟩ := h
  have nd := sc_fraction.nd
  refine ⟨_, (pss_cons (ps_if (pt_cmpR op_eq (pv 1) pe_int (nomark _)) (pss_one ps_never) pss_nil)
    (pss_cons (ps_set (i := 2) nd rfl (Or.inl rfl) (pe_def D_common_factor (hr.mono (by decide)) rfl (pa_cons (pv 0) (pa_cons (pv 1) pa_nil))))
    (pss_cons (ps_if (pt_cmpR op_lt (pv 1) pe_int (nomark _)) (pss_one (ps_set (i := 2) nd rfl (Or.inl rfl) (pe_un un_neg (pv 2)))) pss_nil)
    (pss_one (ps_ret (pe_tup (pa_cons (pe_op op_fdivK (pv 0) (pv 2)) (pa_cons (pe_op op_fdivK (pv 1) (pv 2)) pa_nil)))))))), ?_⟩
  refine ⟨_, rfl, rfl, _, rfl, ?_⟩
  refine ite2 (fun c => absurd (V.int.inj (of_decide_eq_true c)) hb) (fun c => ?_)
  have hg2 : Sm (Lo.sg t b) := Nat.lt_of_le_of_lt (Lo.sg_le hb) hs
  refine ⟨_, rfl, _, rfl, t, b, rfl, ?_⟩
  refine ⟨_, rfl, _, _, rfl, rfl, _, rfl, ?_⟩
  refine ite2 (fun c => ?_) (fun c => ?_)
  · have c2 : b < 0 := of_decide_eq_true c
    have es : -(Lo.gc t b) = Lo.sg t b := by unfold Lo.sg; rw [if_pos c2]
    refine ⟨_, rfl, _, rfl, _, rfl, _, rfl, _, _, rfl, rfl, (by rw [es]; exact div_ok (Lo.sg_ne hb) hg2), _, rfl, _, rfl, _, _, rfl, rfl, (by rw [es]; exact div_ok (Lo.sg_ne hb) hg2), (by show 2 ≤ sizeLine; decide), fun p hp => ?_⟩
    rw [es]
    exact q p _ (same_new hp _) upd_same
  · have c2 : ¬ b < 0 := fun z => c (decide_eq_true z)
    have es : Lo.gc t b = Lo.sg t b := by unfold Lo.sg; rw [if_neg c2]
    refine ⟨_, rfl, _, rfl, _, _, rfl, rfl, (by rw [es]; exact div_ok (Lo.sg_ne hb) hg2), _, rfl, _, rfl, _, _, rfl, rfl, (by rw [es]; exact div_ok (Lo.sg_ne hb) hg2), (by show 2 ≤ sizeLine; decide), fun p hp => ?_⟩
    rw [es]
    exact q p _ (same_new hp _) upd_same
theorem ok_less (T : TopDef K mg "less" s_less) : Def P w K mg base 1 "less" ["one", "other"] (spLess K) := by
  refine def_of T sc_less (fun _ _ _ _ _ _ us hl => match us, hl with | [_, _], _ => rfl) (fun vs H Q E h => ?_) (fun f cdv A outer s H vs Q E hr h => ?_)
  · obtain ⟨x, y, p, q, r, s, rfl, _⟩ := h
    rfl
  obtain ⟨x, y, p, q, r, s, rfl, hx, hy, b1, b2, b3, b4, k⟩ := h
  obtain ⟨a, rfl, sa⟩ := fr_el hx
  obtain ⟨c, rfl, sc⟩ := fr_el hy
  have nd := sc_less.nd
  refine ⟨_, (pss_one (ps_ret (pe_cmpR op_lt (pe_op op_mulK (pe_ix ix_tup (pv 0) pe_int (fun _ _ => rfl)) (pe_ix ix_tup (pv 1) pe_int (fun _ _ => rfl))) (pe_op op_mulK (pe_ix ix_tup (pv 1) pe_int (fun _ _ => rfl)) (pe_ix ix_tup (pv 0) pe_int (fun _ _ => rfl))) (nomark _)))), ?_⟩
  walk_at "rd"
  exact k
end
end Mine




set_option Elab.async false
set_option linter.all false
set_option maxRecDepth 100000
set_option maxHeartbeats 4000000
namespace Mine
open PySem L2
def spLowL : Sp := fun vs H Q _ => ∃ t b : Int, vs = [.int t, .int b] ∧ 0 < b ∧ Sm b ∧ ∀ a, H a = none → Q (.ref a) (upd H a (.tup [.int (Lo.lowT t b), .int (Lo.lowB t b)]))
def spMeet32 : Sp := fun vs H Q _ => ∃ (a b : Addr) (m h m' h' : Int), vs = [.ref a, .ref b] ∧ H a = some (.tup [.int m, .int h]) ∧ H b = some (.tup [.int m', .int h']) ∧ m ≠ m' ∧ m.natAbs ≤ 100 ∧ m'.natAbs ≤ 100 ∧ ∀ t, H t = none → Q (.ref t) (upd H t (.tup [.int (Lo.lowT (h' - h) (m - m')), .int (Lo.lowB (h' - h) (m - m'))]))
def spInward33 : Sp := fun vs H Q _ => ∃ (a e b : Addr) (m h p q m' h' : Int), vs = [.ref a, .ref e, .ref b] ∧ H a = some (.tup [.int m, .int h]) ∧ H e = some (.tup [.int p, .int q]) ∧ H b = some (.tup [.int m', .int h']) ∧ m.natAbs ≤ 100 ∧ h.natAbs ≤ 100 ∧ p.natAbs ≤ 100 ∧ q.natAbs ≤ 100 ∧ ∀ r : Bool, Q (.bl r) H
/-- numbers of a way on -/
structure Wb33 (e f m h : Int) : Prop where
  f0 : 0 < f
  be : e.natAbs ≤ 100
  bf : f.natAbs ≤ 100
  bm : m.natAbs ≤ 7
  bh : h.natAbs ≤ 8
/-- a way on, as a tuple of two tuples -/
def WyAt33 (H : Hp) (v : V) (e f m' h' : Int) : Prop := ∃ a b c, v = .ref a ∧ H a = some (.tup [.ref b, .ref c]) ∧ H b = some (.tup [.int e, .int f]) ∧ H c = some (.tup [.int m', .int h']) ∧ Wb33 e f m' h'
theorem WyAt33.to {H H' : Hp} (k : Tst H H') {v : V} {e f m' h' : Int} (w : WyAt33 H v e f m' h') : WyAt33 H' v e f m' h' := by
  obtain ⟨a, b, c, rfl, h1, h2, h3, w⟩ := w
  exact ⟨a, b, c, rfl, k.t _ _ h1, k.t _ _ h2, k.t _ _ h3, w⟩
def Wys33 (H : Hp) (us : List V) : Prop := ∀ v ∈ us, ∃ e f m' h', WyAt33 H v e f m' h'
theorem Wys33.to {H H' : Hp} (k : Tst H H') {us : List V} (w : Wys33 H us) : Wys33 H' us := fun v hv => by
  obtain ⟨e, f, m', h', y⟩ := w v hv
  exact ⟨e, f, m', h', y.to k⟩
def spWays33 : Sp := fun vs H Q _ => ∃ (a b : Addr) (m h p q st : Int), vs = [.ref a, .ref b, .int st] ∧ H a = some (.tup [.int m, .int h]) ∧ H b = some (.tup [.int p, .int q]) ∧ m.natAbs ≤ 7 ∧ h.natAbs ≤ 8 ∧ p.natAbs ≤ 100 ∧ q.natAbs ≤ 100 ∧ 0 ≤ st ∧ st ≤ 7 ∧
  ∀ (l : Addr) (us : List V) (H' : Hp), Same H H' → H l = none → H' l = some (.lst us) → Wys33 H' us → us.length ≤ 240 → Q (.ref l) H'
def spWayOut33 : Sp := fun vs H Q _ => ∃ (a : Addr) (m h : Int), vs = [.ref a] ∧ H a = some (.tup [.int m, .int h]) ∧ m.natAbs ≤ 7 ∧ h.natAbs ≤ 8 ∧
  Q .non H ∧ ∀ (v : V) (H' : Hp), Same H H' → (∃ e f m' h', WyAt33 H' v e f m' h') → Q v H'
theorem low33 {t b : Int} (h0 : b ≠ 0) (bt : t.natAbs ≤ 100) (bb : b.natAbs ≤ 100) : (Lo.lowT t b).natAbs ≤ 100 ∧ (Lo.lowB t b).natAbs ≤ 100 ∧ 0 < Lo.lowB t b :=
  ⟨Nat.le_trans (Lo.lowT_le h0) bt, Nat.le_trans (Lo.lowB_le h0) bb, Lo.lowB_pos h0⟩
section
variable {P : Program} {w : World} {K : PySem.W.Frag} {mg : Str → Option Value} {base : Heap}
theorem ok_lowL (T : TopDef K mg "_law_lowest" s_l_lowest) (Z_abs : mg "abs" = none) : Def P w K mg base 1 "_law_lowest" ["_law_top", "_law_bottom"] spLowL := by
  refine def_of T sc_l_lowest (fun _ _ _ _ _ _ us hl => match us, hl with | [_, _], _ => rfl) (fun vs H Q E h => ?_) (fun f cdv A outer s H vs Q E hr h => ?_)
  · obtain ⟨t, b, rfl, _⟩ := h
    rfl
  obtain ⟨t, b, rfl, hb, hs, q⟩ := h
  have nd := sc_l_lowest.nd
  refine ⟨_, (pss_cons (ps_set (i := 2) nd rfl (Or.inl rfl) (pe_callB call_abs rfl Z_abs (by decide +kernel) (pa_cons (pv 0) pa_nil)))
    (pss_cons (ps_set (i := 3) nd rfl (Or.inl rfl) (pv 1))
    (pss_cons (ps_while PassesOwn.never (pt_cmpR op_gt (pv 3) pe_int (nomark _)) (pss_one (ps_par (i := 2) (j := 3) rfl nd rfl rfl (by decide) rfl rfl (pa_cons (pv 3) (pa_cons (pe_op op_modN (pv 2) (pv 3)) pa_nil)) rfl)))
    (pss_one (ps_ret (pe_tup (pa_cons (pe_op op_fdivK (pv 0) (pv 2)) (pa_cons (pe_op op_fdivK (pv 1) (pv 2)) pa_nil)))))))), ?_⟩
  refine ⟨_, rfl, _, rfl, _, rfl, ?_⟩
  rw [abs_is]
  refine ⟨fun m σ H' => H' = H ∧ ∃ g l : Int, σ = [some (.int t), some (.int b), some (.int g), some (.int l)] ∧ 0 ≤ g ∧ 0 ≤ l ∧ l.toNat = m ∧ Lo.gc g l = Lo.gc t b, ⟨_, rfl, _, _, rfl, by omega, by omega, rfl, (by have := Lo.gc_natAbs t b; rwa [show (b.natAbs : Int) = b by omega] at this)⟩, ?_⟩
  rintro m σ H' ⟨rfl, g, l, rfl, hg, hl, rfl, e⟩
  refine ⟨_, rfl, _, _, rfl, rfl, _, rfl, ?_⟩
  refine ite2 (fun c => ?_) (fun c => ?_)
  · have c' : (0 : Int) < l := of_decide_eq_true c
    refine ⟨fun σ' H'' => H'' = H' ∧ σ' = [some (.int t), some (.int b), some (.int l), some (.int (g.fmod l))], ?_, ?_⟩
    · rintro σ' H'' ⟨rfl, rfl⟩
      have z0 := Int.fmod_nonneg_of_pos g c'
      have z1 := Int.fmod_lt_of_pos g c'
      exact ⟨_, (show (g.fmod l).toNat < l.toNat by omega), rfl, l, g.fmod l, rfl, by omega, z0, rfl, by rw [Lo.gc_turn]; exact e⟩
    · exact ⟨_, rfl, _, rfl, _, rfl, _, _, rfl, rfl, (by omega), _, _, rfl, rfl, rfl⟩
  · have c' : ¬ (0 : Int) < l := fun z => c (decide_eq_true z)
    have l0 : l = 0 := by omega
    subst l0
    rw [Lo.gc_zero hg] at e
    subst e
    have es : Lo.gc t b = Lo.sg t b := by unfold Lo.sg; rw [if_neg (by omega)]
    have hb' : b ≠ 0 := by omega
    have d : ∀ x : Int, CDivK x (Lo.gc t b) := fun x => by rw [es]; exact div_ok (Lo.sg_ne hb') (Nat.lt_of_le_of_lt (Lo.sg_le hb') hs)
    have q2 : ∀ p, H' p = none → Q (.ref p) (upd H' p (.tup [.int (t.fdiv (Lo.gc t b)), .int (b.fdiv (Lo.gc t b))])) := by rw [es]; exact q
    exact ⟨_, rfl, _, rfl, _, _, rfl, rfl, d t, _, rfl, _, rfl, _, _, rfl, rfl, d b, (by show 2 ≤ sizeLine; decide), fun p hp => q2 p hp⟩
theorem ok_meet32 (T : TopDef K mg "_law_meet" s_l_meet) (D__law_lowest : Def P w K mg base 1 "_law_lowest" ["_law_top", "_law_bottom"] spLowL) : Def P w K mg base 2 "_law_meet" ["_law_rule", "_law_other"] spMeet32 := by
  refine def_of T sc_l_meet (fun _ _ _ _ _ _ us hl => match us, hl with | [_, _], _ => rfl) (fun vs H Q E h => ?_) (fun f cdv A outer s H vs Q E hr h => ?_)
  · obtain ⟨a, b, m, h, m', h', rfl, _⟩ := h
    rfl
  obtain ⟨a, b, m, h, m', h', rfl, ea, eb, ne, bm, bm', q⟩ := h
  have nd := sc_l_meet.nd
  have sa : SqT K H a [.int m, .int h] := SqT.of ea
  have sb : SqT K H b [.int m', .int h'] := SqT.of eb
  refine ⟨_, (pss_cons (ps_set (i := 2) nd rfl (Or.inl rfl) (pe_op op_sub (pe_ix ix_tup (pv 1) pe_int (fun _ _ => rfl)) (pe_ix ix_tup (pv 0) pe_int (fun _ _ => rfl))))
    (pss_cons (ps_set (i := 3) nd rfl (Or.inl rfl) (pe_op op_sub (pe_ix ix_tup (pv 0) pe_int (fun _ _ => rfl)) (pe_ix ix_tup (pv 1) pe_int (fun _ _ => rfl))))
    (pss_cons (ps_if (pt_cmpR op_lt (pv 3) pe_int (nomark _)) (pss_one (ps_ret (pe_def D__law_lowest (hr.mono (by decide)) rfl (pa_cons (pe_un un_neg (pv 2)) (pa_cons (pe_un un_neg (pv 3)) pa_nil))))) pss_nil)
    (pss_one (ps_ret (pe_def D__law_lowest (hr.mono (by decide)) rfl (pa_cons (pv 2) (pa_cons (pv 3) pa_nil)))))))), ?_⟩
  refine ⟨_, rfl, _, _, _, _, rfl, rfl, sb, rfl, _, rfl, _, _, _, _, rfl, rfl, sa, rfl, _, _, rfl, rfl, ?_⟩
  refine ⟨_, rfl, _, _, _, _, rfl, rfl, sa, rfl, _, rfl, _, _, _, _, rfl, rfl, sb, rfl, _, _, rfl, rfl, ?_⟩
  refine ⟨_, rfl, _, _, rfl, rfl, _, rfl, ite2 (fun c => ?_) (fun c => ?_)⟩
  · have c' : m - m' < 0 := of_decide_eq_true c
    refine ⟨_, rfl, _, rfl, _, rfl, _, rfl, -(h' - h), -(m - m'), rfl, by omega, sm_of (by omega), fun t ht => ?_⟩
    have e1 := Lo.lowT_mul (f := -1) (by decide) (h' - h) (b := m - m') (by omega)
    have e2 := Lo.lowB_mul (f := -1) (by decide) (h' - h) (b := m - m') (by omega)
    rw [Int.neg_one_mul, Int.neg_one_mul] at e1 e2
    rw [e1, e2]
    exact q t ht
  · have c' : ¬ m - m' < 0 := fun z => c (decide_eq_true z)
    exact ⟨_, rfl, _, rfl, (h' - h), (m - m'), rfl, by omega, sm_of (by omega), fun t ht => q t ht⟩
theorem ok_inward33 (T : TopDef K mg "_law_inward" s_l_inward) : Def P w K mg base 1 "_law_inward" ["_law_rule", "_law_end", "_law_other"] spInward33 := by
  refine def_of T sc_l_inward (fun _ _ _ _ _ _ us hl => match us, hl with | [_, _, _], _ => rfl) (fun vs H Q E h => ?_) (fun f cdv A outer s H vs Q E hr h => ?_)
  · obtain ⟨a, e, b, m, h, p, q, m', h', rfl, _⟩ := h
    rfl
  obtain ⟨a, e, b, m, h, p, q, m', h', rfl, ea, ee, eb, bm, bh, bp, bq, qq⟩ := h
  have nd := sc_l_inward.nd
  have sa : SqT K H a [.int m, .int h] := SqT.of ea
  have se : SqT K H e [.int p, .int q] := SqT.of ee
  have sb : SqT K H b [.int m', .int h'] := SqT.of eb
  refine ⟨_, (pss_cons (ps_set (i := 3) nd rfl (Or.inl rfl) (pe_op op_add (pe_op op_mulK (pe_ix ix_tup (pv 0) pe_int (fun _ _ => rfl)) (pe_ix ix_tup (pv 1) pe_int (fun _ _ => rfl))) (pe_op op_mulK (pe_ix ix_tup (pv 0) pe_int (fun _ _ => rfl)) (pe_ix ix_tup (pv 1) pe_int (fun _ _ => rfl)))))
    (pss_cons (ps_if (PW.pt (pw_or (pt_cmpR op_lt (pv 3) pe_int (nomark _)) (pw_or (pt_cmpR op_gt (pv 3) (pe_ix ix_tup (pv 1) pe_int (fun _ _ => rfl)) (nomark _)) (pw_or1 (PW.pt (pw_and (pt_cmpR op_eq (pv 3) pe_int (nomark _)) (pw_and1 (pt_cmpR op_lt (pe_ix ix_tup (pv 2) pe_int (fun _ _ => rfl)) pe_int (nomark _))))))))) (pss_one (ps_ret pe_bl)) pss_nil)
    (pss_one (ps_ret (pe_or (pe_cmpR op_lt (pv 3) (pe_ix ix_tup (pv 1) pe_int (fun _ _ => rfl)) (nomark _)) (pe_one (pe_cmpR op_le (pe_ix ix_tup (pv 2) pe_int (fun _ _ => rfl)) pe_int (nomark _)))))))), ?_⟩
  refine ⟨_, rfl, _, _, _, _, rfl, rfl, sa, rfl, _, rfl, _, _, _, _, rfl, rfl, se, rfl, _, _, rfl, rfl, mulS (sm_of (by omega)) (sm_of (by omega)), _, rfl, _, _, _, _, rfl, rfl, sa, rfl, _, rfl, _, _, _, _, rfl, rfl, se, rfl, _, _, rfl, rfl, mulS (sm_of (by omega)) (sm_of (by omega)), _, _, rfl, rfl, ?_⟩
  refine ⟨_, rfl, _, _, rfl, rfl, _, rfl, ?_⟩
  refine ite2 (fun c => iteT (qq false)) (fun c => ?_)
  refine ⟨_, rfl, _, rfl, _, _, _, _, rfl, rfl, se, rfl, _, _, rfl, rfl, _, rfl, ?_⟩
  refine ite2 (fun c2 => iteT (qq false)) (fun c2 => ?_)
  refine ⟨_, rfl, rfl, _, rfl, ite2 (fun c3 => ?_) (fun c3 => iteF ?_)⟩
  · refine ⟨_, rfl, _, _, _, _, rfl, rfl, sb, rfl, _, _, rfl, rfl, _, rfl, ite2 (fun c4 => qq false) (fun c4 => ?_)⟩
    refine ⟨_, rfl, _, rfl, _, _, _, _, rfl, rfl, se, rfl, _, _, rfl, rfl, _, rfl, ite2 (fun c5 => qq true) (fun c5 => ?_)⟩
    exact ⟨_, rfl, _, _, _, _, rfl, rfl, sb, rfl, _, _, rfl, rfl, qq _⟩
  · refine ⟨_, rfl, _, rfl, _, _, _, _, rfl, rfl, se, rfl, _, _, rfl, rfl, _, rfl, ite2 (fun c5 => qq true) (fun c5 => ?_)⟩
    exact ⟨_, rfl, _, _, _, _, rfl, rfl, sb, rfl, _, _, rfl, rfl, qq _⟩
theorem ok_ways33 (T : TopDef K mg "_law_ways" s_l_ways) (Z_range : mg "range" = none) (D__law_meet : Def P w K mg base 2 "_law_meet" ["_law_rule", "_law_other"] spMeet32) (D__law_inward : Def P w K mg base 1 "_law_inward" ["_law_rule", "_law_end", "_law_other"] spInward33) : Def P w K mg base 3 "_law_ways" ["_law_rule", "_law_begin", "_law_steep"] spWays33 := by
  refine def_of T sc_l_ways (fun _ _ _ _ _ _ us hl => match us, hl with | [_, _, _], _ => rfl) (fun vs H Q E h => ?_) (fun f cdv A outer s H vs Q E hr h => ?_)
  · obtain ⟨a, b, m, h, p, q, st, rfl, _⟩ := h
    rfl
  obtain ⟨a, b, m, h, p, q, st, rfl, ea, eb, bm, bh, bp, bq, st0, st7, qq⟩ := h
  have nd := sc_l_ways.nd
  have sz : ∀ n : Nat, n ≤ 100 → n ≤ sizeLine := fun n h => Nat.le_trans h (by decide)
  refine ⟨_, (pss_cons (ps_set (i := 3) nd rfl (Or.inl rfl) (pe_lst pa_nil))
    (pss_cons (ps_for PassesOwn.never rfl (pi_range2 rfl Z_range (pa_cons (pe_un un_neg (pv 2)) (pa_cons (pe_op op_add (pv 2) pe_int) pa_nil))) (pg_name (i := 4) nd rfl (Or.inl rfl)) (pss_one (ps_for PassesOwn.never rfl (pi_range2 rfl Z_range (pa_cons (pe_un un_neg (pv 2)) (pa_cons (pe_op op_add (pv 2) pe_int) pa_nil))) (pg_name (i := 5) nd rfl (Or.inl rfl)) (pss_one (ps_if (pt_cmpR op_ne (pv 4) (pe_ix ix_tup (pv 0) pe_int (fun _ _ => rfl)) (nomark _)) (pss_cons (ps_set (i := 6) nd rfl (Or.inl rfl) (pe_def D__law_meet (hr.mono (by decide)) rfl (pa_cons (pv 0) (pa_cons (pe_tup (pa_cons (pv 4) (pa_cons (pv 5) pa_nil))) pa_nil))))
    (pss_cons (ps_set (i := 7) nd rfl (Or.inl rfl) (pe_and (pe_cmpR op_lt (pe_op op_mulK (pe_ix ix_tup (pv 1) pe_int (fun _ _ => rfl)) (pe_ix ix_tup (pv 6) pe_int (fun _ _ => rfl))) (pe_op op_mulK (pe_ix ix_tup (pv 6) pe_int (fun _ _ => rfl)) (pe_ix ix_tup (pv 1) pe_int (fun _ _ => rfl))) (nomark _)) (pe_one (pe_cmpR op_lt (pe_ix ix_tup (pv 6) pe_int (fun _ _ => rfl)) (pe_ix ix_tup (pv 6) pe_int (fun _ _ => rfl)) (nomark _)))))
    (pss_one (ps_if (PW.pt (pw_and (pt_truth (pv 7) (fun _ => rfl)) (pw_and1 (pt_val (pe_def D__law_inward (hr.mono (by decide)) rfl (pa_cons (pv 0) (pa_cons (pv 6) (pa_cons (pe_tup (pa_cons (pv 4) (pa_cons (pv 5) pa_nil))) pa_nil)))))))) (pss_one (ps_expr (pe_bm PySem.F.plainAttrs_list PySem.F.slot_list_append PySem.F.type_list_append mt_append (pv 3) (pa_cons (pe_tup (pa_cons (pv 6) (pa_cons (pe_tup (pa_cons (pv 4) (pa_cons (pv 5) pa_nil))) pa_nil))) pa_nil)))) pss_nil)))) pss_nil)))))
    (pss_one (ps_ret (pv 3))))), ?_⟩
  refine ⟨sz 0 (by decide), fun l hl => ?_⟩
  have u1 := same_new hl (.lst [])
  refine ⟨_, rfl, _, rfl, _, rfl, _, _, rfl, rfl, _, _, rfl, ⟨by omega, by omega, by omega, by omega⟩, ?_⟩
  refine for_range (fun i σ H' => ∃ (o4 o5 o6 o7 : Option V) (us : List V), σ = [some (.ref a), some (.ref b), some (.int st), some (.ref l), o4, o5, o6, o7] ∧ Same H H' ∧ H' l = some (.lst us) ∧ Wys33 H' us ∧ us.length ≤ 16 * i)
    ⟨_, _, _, _, [], rfl, u1, upd_same, (fun _ h => nomatch h), Nat.zero_le _⟩ (fun i σ H' hi z => ?_) (fun σ H' z => ?_)
  · obtain ⟨o4, o5, o6, o7, us, rfl, sm, el, wy, lu⟩ := z
    refine ⟨_, rfl, _, rfl, _, rfl, _, _, rfl, rfl, _, _, rfl, ⟨by omega, by omega, by omega, by omega⟩, ?_⟩
    refine for_range (fun j σ H' => ∃ (o5 o6 o7 : Option V) (us : List V), σ = [some (.ref a), some (.ref b), some (.int st), some (.ref l), some (.int (-st + (i : Int))), o5, o6, o7] ∧ Same H H' ∧ H' l = some (.lst us) ∧ Wys33 H' us ∧ us.length ≤ 16 * i + j)
      ⟨_, _, _, us, rfl, sm, el, wy, lu⟩ (fun j σ H' hj z => ?_) (fun σ H' z => ?_)
    · obtain ⟨o5, o6, o7, us, rfl, sm, el, wy, lu⟩ := z
      have hi' : i < 15 := by omega
      have hj' : j < 16 := by omega
      have skip : ∀ o6 o7 H2, Same H' H2 → H2 l = some (.lst us) → ∃ (o5 o6' o7' : Option V) (us : List V), [some (V.ref a), some (.ref b), some (.int st), some (.ref l), some (.int (-st + (i : Int))), some (.int (-st + (j : Int))), o6, o7] = [some (.ref a), some (.ref b), some (.int st), some (.ref l), some (.int (-st + (i : Int))), o5, o6', o7'] ∧ Same H H2 ∧ H2 l = some (.lst us) ∧ Wys33 H2 us ∧ us.length ≤ 16 * i + (j + 1) := fun o6 o7 H2 s2 e2 => ⟨_, _, _, us, rfl, sm.trans s2, e2, wy.to s2.ts, by omega⟩
      have mx : (-st + (i : Int)).natAbs ≤ 7 := by omega
      have my : (-st + (j : Int)).natAbs ≤ 8 := by omega
      generalize -st + (i : Int) = x at *
      generalize -st + (j : Int) = y at *
      refine ⟨_, rfl, _, rfl, _, _, _, _, rfl, rfl, SqT.of (sm _ _ ea), rfl, rfl, _, rfl, ite2 (fun c => ?_) (fun c => skip _ _ _ (Same.refl _) el)⟩
      have ne : x ≠ m := fun z => by rw [z] at c; simp at c
      refine ⟨_, rfl, _, rfl, _, rfl, sz 2 (by decide), fun t ht => ?_⟩
      have s2 := same_new ht (.tup [V.int x, V.int y])
      have e2 : upd H' t (.tup [V.int x, V.int y]) t = some (.tup [V.int x, V.int y]) := upd_same
      generalize upd H' t (.tup [V.int x, V.int y]) = H2 at s2 e2 ⊢
      have sA := sm.trans s2
      refine ⟨a, t, m, h, x, y, rfl, sA _ _ ea, e2, Ne.symm ne, Nat.le_trans bm (by decide), Nat.le_trans mx (by decide), fun e he => ?_⟩
      obtain ⟨bT, bB, B0⟩ := low33 (t := y - h) (b := m - x) (by omega) (by omega) (by omega)
      have smp : Sm p := sm_of (Nat.le_trans bp (by decide))
      have smq : Sm q := sm_of (Nat.le_trans bq (by decide))
      generalize Lo.lowT (y - h) (m - x) = T at bT ⊢
      generalize Lo.lowB (y - h) (m - x) = B at bB B0 ⊢
      have s3 := same_new he (.tup [V.int T, V.int B])
      have e3 : upd H2 e (.tup [V.int T, V.int B]) e = some (.tup [V.int T, V.int B]) := upd_same
      generalize upd H2 e (.tup [V.int T, V.int B]) = H3 at s3 e3 ⊢
      have s23 := s2.trans s3
      have sB := sA.trans s3
      have sb : SqT K H3 b [.int p, .int q] := SqT.of (sB _ _ eb)
      have se : SqT K H3 e [.int T, .int B] := SqT.of e3
      refine ⟨_, rfl, _, _, _, _, rfl, rfl, sb, rfl, _, rfl, _, _, _, _, rfl, rfl, se, rfl, _, _, rfl, rfl, mulS smp (sm_of (Nat.le_trans bB (by decide))), _, rfl, _, _, _, _, rfl, rfl, se, rfl, _, rfl, _, _, _, _, rfl, rfl, sb, rfl, _, _, rfl, rfl, mulS (sm_of (Nat.le_trans bT (by decide))) smq, _, _, rfl, rfl, _, rfl, ?_⟩
      refine ite2 (fun c1 => ?_) (fun c1 => ?_)
      · have af := of_decide_eq_true c1
        refine ⟨_, rfl, _, _, _, _, rfl, rfl, se, rfl, _, rfl, _, _, _, _, rfl, rfl, se, rfl, _, _, rfl, rfl, ?_⟩
        refine ⟨_, rfl, _, rfl, ite2 (fun c2 => ?_) (fun c2 => iteF (skip _ _ _ s23 (s23 _ _ el)))⟩
        have be := of_decide_eq_true c2
        refine ⟨_, rfl, _, rfl, _, rfl, _, rfl, sz 2 (by decide), fun t2 ht2 => ?_⟩
        have s4 := same_new ht2 (.tup [V.int x, V.int y])
        have e4 : upd H3 t2 (.tup [V.int x, V.int y]) t2 = some (.tup [V.int x, V.int y]) := upd_same
        generalize upd H3 t2 (.tup [V.int x, V.int y]) = H4 at s4 e4 ⊢
        have sC := sB.trans s4
        refine ⟨a, e, t2, m, h, T, B, x, y, rfl, sC _ _ ea, s4 _ _ e3, e4, Nat.le_trans bm (by decide), Nat.le_trans bh (by decide), Nat.le_trans bT (by decide), Nat.le_trans bB (by decide), fun r => ?_⟩
        refine ⟨_, rfl, ?_⟩
        cases r with
        | false => exact iteF (skip _ _ _ (s23.trans s4) ((s23.trans s4) _ _ el))
        | true =>
          have W : Wb33 T B x y := ⟨B0, bT, bB, mx, my⟩
          have el4 := (s23.trans s4) _ _ el
          refine iteT ⟨_, rfl, .inl ⟨rfl, _, SqL.of el4⟩, _, rfl, _, rfl, _, rfl, sz 2 (by decide), fun t3 ht3 => ?_⟩
          have s5 := same_new ht3 (.tup [V.int x, V.int y])
          have e5 : upd H4 t3 (.tup [V.int x, V.int y]) t3 = some (.tup [V.int x, V.int y]) := upd_same
          generalize upd H4 t3 (.tup [V.int x, V.int y]) = H5 at s5 e5 ⊢
          refine ⟨sz 2 (by decide), fun t4 ht4 => ?_⟩
          have s6 := same_new ht4 (.tup [V.ref e, V.ref t3])
          have e6 : upd H5 t4 (.tup [V.ref e, V.ref t3]) t4 = some (.tup [V.ref e, V.ref t3]) := upd_same
          generalize upd H5 t4 (.tup [V.ref e, V.ref t3]) = H6 at s6 e6 ⊢
          have sD := s4.trans (s5.trans s6)
          have sE := s23.trans sD
          have el6 := sE _ _ el
          refine ⟨l, us, _, rfl, rfl, el6, small1000 (by omega), ?_⟩
          have k : Tst H6 (upd H6 l (.lst (us ++ [.ref t4]))) := ts_mut el6
          refine ⟨_, _, _, us ++ [.ref t4], rfl, same_mut (sm.trans sE) hl _, upd_same, ?_, by simp; omega⟩
          intro v hv
          rcases List.mem_append.mp hv with z | z
          · obtain ⟨e', f', m', h', y'⟩ := wy v z
            exact ⟨e', f', m', h', (y'.to sE.ts).to k⟩
          · have := List.mem_singleton.mp z
            subst this
            exact ⟨T, B, x, y, WyAt33.to k ⟨t4, e, t3, rfl, e6, sD _ _ e3, s6 _ _ e5, W⟩⟩
      · exact ⟨_, rfl, _, rfl, iteF (iteF (skip _ _ _ s23 (s23 _ _ el)))⟩
    · obtain ⟨o5, o6, o7, us, rfl, sm, el, wy, lu⟩ := z
      exact ⟨_, _, _, _, us, rfl, sm, el, wy, by omega⟩
  · obtain ⟨o4, o5, o6, o7, us, rfl, sm, el, wy, lu⟩ := z
    exact ⟨_, rfl, qq l us H' sm hl el wy (by omega)⟩
theorem ok_wayOut33 (T : TopDef K mg "_law_way_out" s_l_way_out) (D__law_lowest : Def P w K mg base 1 "_law_lowest" ["_law_top", "_law_bottom"] spLowL) : Def P w K mg base 2 "_law_way_out" ["_law_rule"] spWayOut33 := by
  refine def_of T sc_l_way_out (fun _ _ _ _ _ _ us hl => match us, hl with | [_], _ => rfl) (fun vs H Q E h => ?_) (fun f cdv A outer s H vs Q E hr h => ?_)
  · obtain ⟨a, m, h, rfl, _⟩ := h
    rfl
  obtain ⟨a, m, h, rfl, ea, bm, bh, q1, q2⟩ := h
  have nd := sc_l_way_out.nd
  have sz : ∀ n : Nat, n ≤ 100 → n ≤ sizeLine := fun n h => Nat.le_trans h (by decide)
  have fin : ∀ (e f m' h' : Int) (t : Addr), H t = none → Wb33 e f m' h' → ∀ t2, upd H t (.tup [.int e, .int f]) t2 = none → ∀ t3, upd (upd H t (.tup [.int e, .int f])) t2 (.tup [.int m', .int h']) t3 = none →
      Q (.ref t3) (upd (upd (upd H t (.tup [.int e, .int f])) t2 (.tup [.int m', .int h'])) t3 (.tup [.ref t, .ref t2])) := fun e f m' h' t ht W t2 ht2 t3 ht3 => by
    have s1 := same_new ht (.tup [V.int e, V.int f])
    have s2 := same_new ht2 (.tup [V.int m', V.int h'])
    have s3 := same_new ht3 (.tup [V.ref t, V.ref t2])
    exact q2 _ _ ((s1.trans s2).trans s3) ⟨e, f, m', h', t3, t, t2, rfl, upd_same, (s2.trans s3) _ _ upd_same, s3 _ _ upd_same, W⟩
  refine ⟨_, (pss_cons (ps_asg (pv 0) (pg_tup rfl (pgs_cons (pg_name (i := 1) nd rfl (Or.inl rfl)) (pgs_cons (pg_name (i := 2) nd rfl (Or.inl rfl)) pgs_nil))))
    (pss_cons (ps_if (PW.pt (pw_and (pt_cmpR op_gt (pv 1) pe_int (nomark _)) (pw_and1 (pt_cmpR op_gt (pe_op op_add (pv 1) (pv 2)) pe_int (nomark _))))) (pss_one (ps_ret (pe_tup (pa_cons (pe_def D__law_lowest (hr.mono (by decide)) rfl (pa_cons (pe_op op_sub pe_int (pv 2)) (pa_cons (pv 1) pa_nil))) (pa_cons (pe_tup (pa_cons pe_int (pa_cons pe_int pa_nil))) pa_nil))))) pss_nil)
    (pss_cons (ps_if (PW.pt (pw_and (pt_cmpR op_lt (pv 1) pe_int (nomark _)) (pw_and1 (pt_cmpR op_lt (pe_op op_add (pv 1) (pv 2)) pe_int (nomark _))))) (pss_one (ps_ret (pe_tup (pa_cons (pe_def D__law_lowest (hr.mono (by decide)) rfl (pa_cons (pv 2) (pa_cons (pe_un un_neg (pv 1)) pa_nil))) (pa_cons (pe_tup (pa_cons pe_int (pa_cons pe_int pa_nil))) pa_nil))))) pss_nil)
    (pss_one (ps_ret pe_non))))), ?_⟩
  refine ⟨_, rfl, a, _, rfl, SqT.of ea, rfl, _, _, rfl, _, _, rfl, rfl, ?_⟩
  refine ⟨_, rfl, _, _, rfl, rfl, _, rfl, ?_⟩
  refine ite2 (fun c => ?_) (fun c => iteF ?_)
  · have c' : 0 < m := of_decide_eq_true c
    refine ⟨_, rfl, _, rfl, _, _, rfl, rfl, _, _, rfl, rfl, _, rfl, ite2 (fun c2 => ?_) (fun c2 => ?_)⟩
    · obtain ⟨b1, b2, b3⟩ := low33 (t := 1 - h) (b := m) (by omega) (by omega) (by omega)
      refine ⟨_, rfl, _, _, rfl, rfl, _, rfl, 1 - h, m, rfl, c', sm_of (by omega), fun t ht => ⟨sz 2 (by decide), fun t2 ht2 => ⟨sz 2 (by decide), fun t3 ht3 => ?_⟩⟩⟩
      exact fin _ _ 0 1 t ht ⟨b3, b1, b2, by decide, by decide⟩ t2 ht2 t3 ht3
    · exact ⟨_, rfl, _, _, rfl, rfl, _, rfl, ite2 (fun c3 => absurd (of_decide_eq_true c3) (by show ¬ m < 0; omega)) (fun c3 => iteF q1)⟩
  · refine ⟨_, rfl, _, _, rfl, rfl, _, rfl, ite2 (fun c3 => ?_) (fun c3 => iteF q1)⟩
    have c3' : m < 0 := of_decide_eq_true c3
    refine ⟨_, rfl, _, rfl, _, _, rfl, rfl, _, _, rfl, rfl, _, rfl, ite2 (fun c2 => ?_) (fun c2 => q1)⟩
    obtain ⟨b1, b2, b3⟩ := low33 (t := h) (b := -m) (by omega) (by omega) (by omega)
    refine ⟨_, rfl, _, rfl, _, rfl, h, -m, rfl, by omega, sm_of (by omega), fun t ht => ⟨sz 2 (by decide), fun t2 ht2 => ⟨sz 2 (by decide), fun t3 ht3 => ?_⟩⟩⟩
    exact fin _ _ 0 0 t ht ⟨b3, b1, b2, by decide, by decide⟩ t2 ht2 t3 ht3
end
end Mine




set_option Elab.async false
set_option linter.all false
set_option maxRecDepth 100000
set_option maxHeartbeats 4000000
open PySem L2 Mine
local macro_rules | `(tactic| walk_at "mul") => `(tactic| first | exact mulS (by assumption) (by assumption) | exact mulS (by first | assumption | exact sm_of (by omega) | exact sm_of (by decide) | exact sm_mod (by decide) (by decide)) (by first | assumption | exact sm_of (by omega) | exact sm_of (by decide) | exact sm_mod (by decide) (by decide)))
local macro_rules | `(tactic| walk_at "rd1") => `(tactic| first
  | refine ⟨_, rfl, ?_⟩
  | refine ⟨_, _, rfl, rfl, ?_⟩
  | (refine' ⟨_, _, _, _, rfl, rfl, ?sq, ?ia, ?k⟩; (case' sq => first | assumption | exact Scr.l (by assumption)); (case' ia => first | rfl | assumption))
  | refine ⟨rfl, ?_⟩
  | (refine ⟨?m, ?_⟩; (case' m => walk_at "mul"))
  | (refine ⟨?m, ?_⟩; (case' m => exact div_ok (by first | assumption | omega) (by assumption)))
  | (refine ⟨?m, ?_⟩; (case' m => show (0 : Int) < _; decide))
  | (refine ⟨?m, ?_⟩; (case' m => exact ⟨by decide, by decide⟩))
  | (refine ⟨?m, ?_⟩; (case' m => exact ⟨by decide, by decide, by decide⟩)))
local macro_rules | `(tactic| walk_at "rd") => `(tactic| repeat walk_at "rd1")

namespace Mine
open PySem L2
def spCell (K : PySem.W.Frag) : Sp := fun vs H Q _ => ∃ (a : Addr) (ns : List Int) (k : Int), vs = [.ref a, .int k] ∧ Scr K H a ns ∧ 0 ≤ k ∧ k ≤ 100 ∧ ∀ v : Int, bits v ≤ 1048577 → Q (.int v) H
theorem bits_half {u : Int} (h : bits u ≤ 1048576) : bits (u / 2) ≤ 1048577 := by
  refine Nat.le_trans ?_ (show 1048576 ≤ 1048577 by decide)
  rw [bits, intBits_le_iff] at h ⊢
  generalize 2 ^ 1048576 = N at h ⊢
  have := Int.mul_ediv_add_emod u 2
  have := Int.emod_nonneg u (show (2 : Int) ≠ 0 by decide)
  have := Int.emod_lt_of_pos u (show (0 : Int) < 2 by decide)
  omega
theorem bits_small {u : Int} (h0 : 0 ≤ u) (h : u < 2147483629) : bits u ≤ 1048577 := Nat.le_trans (intBits_le_64 (by omega) (by omega)) (by decide)
abbrev n_cell : List Str := ["_law_script", "_law_k", "_law_cell_here", "_law_first", "_law_second"]
section
variable {P : Program} {w : World} {K : PySem.W.Frag} {mg : Str → Option Value} {base : Heap}
theorem sc_cell : FnScope n_cell ["_law_script", "_law_k"] (defScope s_l_cell) := ⟨rfl, rfl, rfl, by decide +kernel, rfl, by decide +kernel, by decide +kernel⟩
theorem ok_cell (T : TopDef K mg "_law_cell" s_l_cell) (Z_len : mg "len" = none) : Def P w K mg base 1 "_law_cell" ["_law_script", "_law_k"] (spCell K) := by
  refine def_of T sc_cell (fun _ _ _ _ _ _ us hl => match us, hl with | [_, _], _ => rfl) (fun vs H Q E h => ?_) (fun f cdv A outer s H vs Q E hr h => ?_)
  · obtain ⟨a, ns, k, rfl, _⟩ := h
    rfl
  obtain ⟨a, ns, k, rfl, S, h0, h1, q⟩ := h
  have nd := sc_cell.nd
  have hl : (ns.map V.int).length = ns.length := List.length_map _
  have sk : Sm k := sm_of (by omega)
  have t3 : ∃ t, PSs (cxOf CX0 P w K mg base n_cell "_law_cell" (defScope s_l_cell) f cdv A outer s H E).nox ((defBody s_l_cell).drop 3) t ∧
      ∀ v : Int, 0 ≤ v → v < 10 ^ 18 → t { nx := fun _ H' => Q .non H', rt := Q } [some (.ref a), some (.int k), some (.int v), none, none] H := by
    refine ⟨_, (pss_cons (ps_set (i := 3) nd rfl (Or.inl rfl) (pe_op op_mod (pe_op op_mulK (pe_op op_add (pe_op op_add (pe_op op_add (pv 2) (pe_op op_mulK (pe_op op_mulK pe_int (pv 1)) (pv 1))) (pe_op op_mulK pe_int (pv 1))) pe_int) pe_int) pe_int))
    (pss_cons (ps_set (i := 4) nd rfl (Or.inl rfl) (pe_op op_mod (pe_op op_add (pe_op op_mulK (pv 3) (pv 3)) (pv 1)) pe_int))
    (pss_one (ps_ret (pe_op op_mod (pe_op op_add (pe_op op_mulK (pv 4) pe_int) (pv 3)) pe_int))))), fun v v0 v1 => ?_⟩
    have sv : Sm v := sm_of (by omega)
    have kk : 0 ≤ 7 * k * k ∧ 7 * k * k ≤ 700 * 100 := ⟨Int.mul_nonneg (by omega) h0, Int.mul_le_mul (by omega) h1 h0 (by omega)⟩
    have s7 : Sm (7 * k) := sm_of (by omega)
    have s1 : Sm (v + 7 * k * k + 13 * k + 5) := sm_of (by omega)
    walk_at "rd"
    exact q _ (bits_small (Int.emod_nonneg _ (by decide)) (Int.emod_lt_of_pos _ (by decide)))
  obtain ⟨t3, ht3, hq3⟩ := t3
  refine ⟨_, pss_cons (ps_if (PW.pt (pw_and (pt_cmpR op_gt (pe_callB call_len rfl Z_len (by decide +kernel) (pa_cons (pv 0) pa_nil)) pe_int (nomark _)) (pw_and1 (pt_cmpR op_eq (pe_op op_mod (pe_ix ix_list (pv 0) pe_int (fun _ _ => rfl)) pe_int) pe_int (nomark _))))) (pss_cons (ps_if (pt_cmpR op_eq (pv 1) pe_int (nomark _)) (pss_one (ps_ret (pe_op op_fdiv (pe_ix ix_list (pv 0) pe_int (fun _ _ => rfl)) pe_int))) pss_nil)
    (pss_cons (ps_if (pt_cmpR op_lt (pv 1) (pe_callB call_len rfl Z_len (by decide +kernel) (pa_cons (pv 0) pa_nil)) (nomark _)) (pss_one (ps_ret (pe_ix ix_list (pv 0) (pv 1) (fun _ _ => rfl)))) pss_nil)
    (pss_one (ps_ret pe_int)))) pss_nil) (pss_cons (ps_set (i := 2) nd rfl (Or.inl rfl) pe_int) (pss_cons (ps_if (pt_cmpR op_gt (pe_callB call_len rfl Z_len (by decide +kernel) (pa_cons (pv 0) pa_nil)) pe_int (nomark _)) (pss_one (ps_set (i := 2) nd rfl (Or.inl rfl) (pe_op op_mod (pe_ix ix_list (pv 0) (pe_op op_modN (pv 1) (pe_callB call_len rfl Z_len (by decide +kernel) (pa_cons (pv 0) pa_nil))) (fun _ _ => rfl)) (pe_op op_pow pe_int pe_int)))) pss_nil) ht3)), ?_⟩
  refine ⟨_, rfl, _, _, rfl, .inl ⟨_, S.l, rfl⟩, _, _, rfl, rfl, _, rfl, ?_⟩
  refine ite2 (fun c => ?_) (fun c => iteF ?_)
  · have c' : (0 : Int) < ((ns.map V.int).length : Nat) := of_decide_eq_true c
    rw [hl] at c'
    obtain ⟨u, hu, mu⟩ := at_script (ns := ns) (Int.le_refl 0) c'
    refine ⟨_, rfl, _, _, _, _, rfl, rfl, S.l, hu, _, _, rfl, rfl, (show (0 : Int) < _ by decide), rfl, _, rfl, ?_⟩
    refine ite2 (fun c2 => ?_) (fun c2 => ?_)
    · refine ⟨_, rfl, rfl, _, rfl, ?_⟩
      refine ite2 (fun c3 => ?_) (fun c3 => ?_)
      · exact ⟨_, rfl, _, _, _, _, rfl, rfl, S.l, hu, _, _, rfl, rfl, ⟨by decide, by decide⟩, q _ (bits_half (S.bit _ mu))⟩
      · refine ⟨_, rfl, _, rfl, _, _, rfl, .inl ⟨_, S.l, rfl⟩, _, _, rfl, rfl, _, rfl, ?_⟩
        refine ite2 (fun c4 => ?_) (fun c4 => ?_)
        · have c5 : k < (((ns.map V.int).length : Nat) : Int) := of_decide_eq_true c4
          rw [hl] at c5
          obtain ⟨u2, hu2, m2⟩ := at_script (ns := ns) h0 c5
          exact ⟨_, rfl, _, rfl, _, _, _, _, rfl, rfl, S.l, hu2, q _ (Nat.le_trans (S.bit _ m2) (by decide))⟩
        · exact q _ (by decide)
    · refine ⟨_, rfl, _, _, rfl, .inl ⟨_, S.l, rfl⟩, _, _, rfl, rfl, _, rfl, ?_⟩
      refine ite2 (fun _ => ?_) (fun z => absurd c z)
      have z0 : (0 : Int) < ((ns.map V.int).length : Nat) := of_decide_eq_true c
      have e0 := Int.fmod_nonneg_of_pos k z0
      have e1 := Int.fmod_lt_of_pos k z0
      obtain ⟨u2, hu2, _⟩ := at_script (ns := ns) e0 (by rw [← hl]; exact e1)
      refine ⟨_, rfl, _, rfl, _, rfl, _, _, rfl, .inl ⟨_, S.l, rfl⟩, _, _, rfl, rfl, (by omega), _, _, _, _, rfl, rfl, S.l, hu2, _, _, rfl, rfl, ⟨by decide, by decide, by decide⟩, _, _, rfl, rfl, (show (0 : Int) < _ by decide), ?_⟩
      exact hq3 _ (Int.emod_nonneg _ (by decide)) (Int.emod_lt_of_pos _ (by decide))
  · refine ⟨_, rfl, _, _, rfl, .inl ⟨_, S.l, rfl⟩, _, _, rfl, rfl, _, rfl, ?_⟩
    refine ite2 (fun z => absurd z c) (fun _ => ?_)
    exact hq3 0 (by decide) (by decide)
end
end Mine




set_option Elab.async false
set_option linter.all false
set_option maxRecDepth 100000
set_option maxHeartbeats 4000000
namespace Mine
open PySem L2
def spBuilt33 (K : PySem.W.Frag) : Sp := fun vs H Q _ => ∃ (a : Addr) (ns : List Int) (t st : Int), vs = [.ref a, .int 1, .int t, .int st] ∧ Scr K H a ns ∧ 0 ≤ t ∧ t ≤ 8 ∧ 0 ≤ st ∧ st ≤ 7 ∧ ∀ (v : V) (L : List St4) (H' : Hp), Same H H' → Dat K H' (lnD L) v → (∀ s ∈ L, Ok33 s) → 1 ≤ L.length → L.length ≤ 60 → Q v H'
def stAt33 (s : Stmt) (i : Nat) : Stmt := (defBody s).getD i (.Pass ⟨0, 0, 0, 0⟩)
def forBody33 (s : Stmt) : List Stmt := match s with
  | .For _ _ b _ _ => b
  | _ => []
/-- between two turns -/
structure Bi33 (K : PySem.W.Frag) (H H' : Hp) (b r bt : Addr) (us : List V) (S : List St4) (p q m h : Int) (i : Nat) : Prop where
  sm : Same H H'
  el : H' b = some (.lst us)
  da : DatAll K H' (S.map stD) us
  er : H' r = some (.tup [.int m, .int h])
  et : H' bt = some (.tup [.int p, .int q])
  wb : Wb33 p q m h
  ok : ∀ s ∈ S, Ok33 s
  lS : S.length ≤ i
theorem Bi33.to {K : PySem.W.Frag} {H H' H2 : Hp} {b r bt : Addr} {us : List V} {S : List St4} {p q m h : Int} {i : Nat} (B : Bi33 K H H' b r bt us S p q m h i) (s : Same H' H2) : Bi33 K H H2 b r bt us S p q m h i :=
  ⟨B.sm.trans s, s _ _ B.el, B.da.ts s.ts, s _ _ B.er, s _ _ B.et, B.wb, B.ok, B.lS⟩
theorem Bi33.push {K : PySem.W.Frag} {H H' H2 : Hp} {b r bt : Addr} {us : List V} {S : List St4} {p q m h : Int} {i : Nat} {e f m' h' : Int} {b' c' t : Addr} (B : Bi33 K H H' b r bt us S p q m h i) (hb : H b = none) (s : Same H' H2)
    (h1 : H2 b' = some (.tup [.int e, .int f])) (h2 : H2 c' = some (.tup [.int m', .int h'])) (W : Wb33 e f m' h') (et : H2 t = some (.tup [.ref b', .int m, .int h])) :
    Bi33 K H (upd H2 b (.lst (us ++ [.ref t]))) b c' b' (us ++ [.ref t]) (S ++ [⟨e, f, m, h⟩]) e f m' h' (i + 1) := by
  have el2 := s _ _ B.el
  have t3 : Tst H2 (upd H2 b (.lst (us ++ [.ref t]))) := ts_mut el2
  refine ⟨same_mut (B.sm.trans s) hb _, upd_same, ?_, t3.t _ _ h2, t3.t _ _ h1, W, fun z hz => ?_, by have := B.lS; simp; omega⟩
  · rw [List.map_append]
    exact ((B.da.ts s.ts).ts t3).snoc ((st_mk (s := ⟨e, f, m, h⟩) (SqT.of et) (fr_mk (SqT.of h1))).ts t3)
  · rcases List.mem_append.mp hz with y | y
    · exact B.ok z y
    · rw [List.mem_singleton.mp y]
      exact ⟨W.f0, Nat.le_trans W.be (by decide), Nat.le_trans W.bf (by decide), Nat.le_trans B.wb.bm (by decide), Nat.le_trans B.wb.bh (by decide)⟩
section
variable {P : Program} {w : World} {K : PySem.W.Frag} {mg : Str → Option Value} {base : Heap}
theorem ok_built33 (T : TopDef K mg "_law_built" s_l_built) (Z_len : mg "len" = none) (Z_range : mg "range" = none) (Z_tuple : mg "tuple" = none) (D__law_cell : Def P w K mg base 1 "_law_cell" ["_law_script", "_law_k"] (spCell K))
    (D__law_ways : Def P w K mg base 3 "_law_ways" ["_law_rule", "_law_begin", "_law_steep"] spWays33) (D__law_way_out : Def P w K mg base 2 "_law_way_out" ["_law_rule"] spWayOut33) : Def P w K mg base 4 "_law_built" ["_law_script", "_law_at", "_law_turns", "_law_steep"] (spBuilt33 K) := by
  refine def_of T sc_l_built (fun _ _ _ _ _ _ us hl => match us, hl with | [_, _, _, _], _ => rfl) (fun vs H Q E h => ?_) (fun f cdv A outer s H vs Q E hr h => ?_)
  · obtain ⟨a, ns, t, st, rfl, _⟩ := h
    rfl
  obtain ⟨a, ns, tt, sp, rfl, S0, t0, t8, sp0, sp7, qq⟩ := h
  have nd := sc_l_built.nd
  have hu := hr.units
  have sz : ∀ n : Nat, n ≤ 100 → n ≤ sizeLine := fun n h => Nat.le_trans h (by decide)
  -- the last two statements
  have t7 : ∃ t, Hold (cxOf CX0 P w K mg base n_l_built "_law_built" (defScope s_l_built) f cdv A outer s H E).nox ((defBody s_l_built).drop 7) t ∧ ∀ (σ4 o7 o8 o9 o10 o11 : Option V) (b r bt : Addr) (H' : Hp) (us : List V) (S : List St4) (p q m h : Int) (i : Nat), H b = none → Bi33 K H H' b r bt us S p q m h i → i ≤ 20 →
      t { nx := fun _ H' => Q .non H', rt := Q } [some (.ref a), some (.int 1), some (.int tt), some (.int sp), σ4, some (.ref r), some (.ref b), o7, o8, o9, o10, o11] H' := by
    refine ⟨_, ⟨(pss_cons (ps_expr (pe_bm PySem.F.plainAttrs_list PySem.F.slot_list_append PySem.F.type_list_append mt_append (pv 6) (pa_cons (pe_tup (pa_cons (pe_tup (pa_cons pe_int (pa_cons pe_int pa_nil))) (pa_cons (pe_ix ix_tup (pv 5) pe_int (fun _ _ => rfl)) (pa_cons (pe_ix ix_tup (pv 5) pe_int (fun _ _ => rfl)) pa_nil)))) pa_nil)))
    (pss_one (ps_ret (pe_callTy call_tuple_of rfl Z_tuple (by decide +kernel) (pa_cons (pv 6) pa_nil)))))⟩, ?_⟩
    intro σ4 o7 o8 o9 o10 o11 b r bt H' us S p q m h i hb B i20
    have lS := B.lS
    have lu := ln_len B.da
    have sr : SqT K H' r [.int m, .int h] := SqT.of B.er
    refine ⟨_, rfl, .inl ⟨rfl, _, SqL.of B.el⟩, sz 2 (by decide), fun t1 h1 => ?_⟩
    have u1 := same_new h1 (.tup [.int 1, .int 1])
    have e1 : upd H' t1 (.tup [.int 1, .int 1]) t1 = some (.tup [.int 1, .int 1]) := upd_same
    generalize upd H' t1 (.tup [.int 1, .int 1]) = H1 at u1 e1 ⊢
    refine ⟨_, rfl, _, _, _, _, rfl, rfl, sr.ts u1.ts, rfl, _, rfl, _, _, _, _, rfl, rfl, sr.ts u1.ts, rfl, sz 3 (by decide), fun t2 h2 => ?_⟩
    have u2 := same_new h2 (.tup [.ref t1, .int m, .int h])
    have e2 : upd H1 t2 (.tup [.ref t1, .int m, .int h]) t2 = some (.tup [.ref t1, .int m, .int h]) := upd_same
    generalize upd H1 t2 (.tup [.ref t1, .int m, .int h]) = H2 at u2 e2 ⊢
    have u12 := u1.trans u2
    have el2 := u12 _ _ B.el
    refine ⟨b, us, _, rfl, rfl, el2, small1000 (by omega), ?_⟩
    have t3 : Tst H2 (upd H2 b (.lst (us ++ [.ref t2]))) := ts_mut el2
    refine ⟨_, rfl, b, us ++ [.ref t2], rfl, .inl ⟨SqL.of upd_same, fun z hz => ?_⟩⟩
    have u4 := same_new hz (.tup (us ++ [.ref t2]))
    refine qq (.ref z) (S ++ [⟨1, 1, m, h⟩]) _ ((same_mut (B.sm.trans u12) hb _).trans u4) ?_ (fun y hy => ?_) (by simp) (by simp; omega)
    case refine_2 =>
      rcases List.mem_append.mp hy with x | x
      · exact B.ok y x
      · rw [List.mem_singleton.mp x]
        exact ⟨(by decide : (0 : Int) < 1), (by decide : (1 : Int).natAbs ≤ 1000), (by decide : (1 : Int).natAbs ≤ 1000), Nat.le_trans B.wb.bm (by decide), Nat.le_trans B.wb.bh (by decide)⟩
    refine ⟨z, _, rfl, SqT.of upd_same, ?_⟩
    rw [List.map_append]
    exact ((((B.da.ts u12.ts).ts t3).snoc ((st_mk (s := ⟨1, 1, m, h⟩) (SqT.of e2) (fr_mk (SqT.of (u2 _ _ e1)))).ts t3))).ts u4.ts
  obtain ⟨t7, ht7, k7⟩ := t7
  have t5' : ∃ t, Hold (cxOf CX0 P w K mg base n_l_built "_law_built" (defScope s_l_built) f cdv A outer s H E).nox ((defBody s_l_built).drop 5) t ∧ ∀ (σ4 o8 o9 o10 o11 : Option V) (b r bt : Addr) (H' : Hp) (us : List V) (S : List St4) (p q m h : Int) (i : Nat), H b = none → Bi33 K H H' b r bt us S p q m h i → i ≤ 10 →
      t { nx := fun _ H' => Q .non H', rt := Q } [some (.ref a), some (.int 1), some (.int tt), some (.int sp), σ4, some (.ref r), some (.ref b), some (.ref bt), o8, o9, o10, o11] H' := by
    refine ⟨_, ⟨pss_cons (ps_set (i := 11) nd rfl (Or.inl rfl) (pe_def D__law_way_out (hr.mono (by decide)) rfl (pa_cons (pv 5) pa_nil))) (pss_consH (ps_if (pt_cmpR op_notN (pv 11) pe_non (nomark _)) (pss_cons (ps_expr (pe_bm PySem.F.plainAttrs_list PySem.F.slot_list_append PySem.F.type_list_append mt_append (pv 6) (pa_cons (pe_tup (pa_cons (pe_ix ix_tup (pv 11) pe_int (fun _ _ => rfl)) (pa_cons (pe_ix ix_tup (pv 5) pe_int (fun _ _ => rfl)) (pa_cons (pe_ix ix_tup (pv 5) pe_int (fun _ _ => rfl)) pa_nil)))) pa_nil)))
    (pss_one (ps_set (i := 5) nd rfl (Or.inl rfl) (pe_ix ix_tup (pv 11) pe_int (fun _ _ => rfl))))) pss_nil) ht7)⟩, ?_⟩
    intro σ4 o8 o9 o10 o11 b r bt H' us S p q m h i hb B hi
    have lS := B.lS
    have lu := ln_len B.da
    refine ⟨_, rfl, r, m, h, rfl, B.er, B.wb.bm, B.wb.bh, ?_, fun v H1 s1 W => ?_⟩
    · exact ⟨_, rfl, rfl, _, rfl, iteF (k7 _ _ _ _ _ _ b r bt H' us S p q m h i hb B (by omega))⟩
    · obtain ⟨e, f', m', h', a', b', c', rfl, w1, w2, w3, W⟩ := W
      have sr : SqT K H1 r [.int m, .int h] := SqT.of (s1 _ _ B.er)
      have sw : SqT K H1 a' [.ref b', .ref c'] := SqT.of w1
      refine ⟨_, rfl, rfl, _, rfl, iteT ?_⟩
      refine ⟨_, rfl, .inl ⟨rfl, _, SqL.of (s1 _ _ B.el)⟩, _, rfl, _, _, _, _, rfl, rfl, sw, rfl, _, rfl, _, _, _, _, rfl, rfl, sr, rfl, _, rfl, _, _, _, _, rfl, rfl, sr, rfl, sz 3 (by decide), fun t2 h2 => ?_⟩
      have u2 := same_new h2 (.tup [.ref b', .int m, .int h])
      have e2 : upd H1 t2 (.tup [.ref b', .int m, .int h]) t2 = some (.tup [.ref b', .int m, .int h]) := upd_same
      generalize upd H1 t2 (.tup [.ref b', .int m, .int h]) = H2 at u2 e2 ⊢
      have s12 := s1.trans u2
      refine ⟨b, us, _, rfl, rfl, s12 _ _ B.el, small1000 (by omega), ?_⟩
      have B2 := B.push (t := t2) hb s12 (u2 _ _ w2) (u2 _ _ w3) W e2
      have t3 : Tst H2 (upd H2 b (.lst (us ++ [.ref t2]))) := ts_mut (s12 _ _ B.el)
      refine ⟨_, rfl, _, _, _, _, rfl, rfl, SqT.of (t3.t _ _ (u2 _ _ w1)), rfl, ?_⟩
      exact k7 _ _ _ _ _ _ b c' b' _ _ _ _ _ m' h' (i + 1) hb B2 (by omega)
  obtain ⟨t5', ht5, k5⟩ := t5'
  -- the last statement of a turn
  have b2 : ∃ t, Hold (cxOf CX0 P w K mg base n_l_built "_law_built" (defScope s_l_built) f cdv A outer s H E).nox ((forBody33 (stAt33 s_l_built 4)).drop 1) t ∧ ∀ (N B' : St → Hp → Prop) (σ4 o10 o11 : Option V) (b r bt l : Addr) (H' : Hp) (us vs : List V) (S : List St4) (p q m h : Int) (i : Nat), H b = none → Bi33 K H H' b r bt us S p q m h i → i ≤ 8 →
      H' l = some (.lst vs) → Wys33 H' vs → vs.length ≤ 240 →
      (∀ (o8 o9 o10 o11 : Option V) (r bt : Addr) (H' : Hp) (us : List V) (S : List St4) (p q m h : Int), Bi33 K H H' b r bt us S p q m h (i + 1) → N [some (.ref a), some (.int 1), some (.int tt), some (.int sp), σ4, some (.ref r), some (.ref b), some (.ref bt), o8, o9, o10, o11] H') →
      t { nx := N, ct := N, bk := B', rt := Q } [some (.ref a), some (.int 1), some (.int tt), some (.int sp), σ4, some (.ref r), some (.ref b), some (.ref bt), some (.int (i : Int)), some (.ref l), o10, o11] H' := by
    refine ⟨_, ⟨(pss_one (ps_if (pt_cmpR (op_samNe hu) (pv 9) (pe_lst pa_nil) (nomark _)) (pss_cons (ps_asg (pe_ix ix_list (pv 9) (pe_op op_modN (pe_def D__law_cell (hr.mono (by decide)) rfl (pa_cons (pv 0) (pa_cons (pe_op op_add (pe_op op_add (pv 1) pe_int) (pv 8)) pa_nil))) (pe_callB call_len rfl Z_len (by decide +kernel) (pa_cons (pv 9) pa_nil))) (fun _ _ => rfl)) (pg_tup rfl (pgs_cons (pg_name (i := 7) nd rfl (Or.inl rfl)) (pgs_cons (pg_name (i := 10) nd rfl (Or.inl rfl)) pgs_nil))))
    (pss_cons (ps_expr (pe_bm PySem.F.plainAttrs_list PySem.F.slot_list_append PySem.F.type_list_append mt_append (pv 6) (pa_cons (pe_tup (pa_cons (pv 7) (pa_cons (pe_ix ix_tup (pv 5) pe_int (fun _ _ => rfl)) (pa_cons (pe_ix ix_tup (pv 5) pe_int (fun _ _ => rfl)) pa_nil)))) pa_nil)))
    (pss_one (ps_set (i := 5) nd rfl (Or.inl rfl) (pv 10))))) pss_nil))⟩, ?_⟩
    intro N B' σ4 o10 o11 b r bt l H' us vs S p q m h i hb B i4 el wy lv n
    have lS := B.lS
    have lu := ln_len B.da
    refine ⟨_, rfl, sz 0 (by decide), fun z hz => ?_⟩
    have u1 := same_new hz (.lst [])
    have e1 : upd H' z (.lst []) z = some (.lst []) := upd_same
    generalize upd H' z (.lst []) = H1 at u1 e1 ⊢
    refine ⟨l, z, vs, [], rfl, rfl, SqL.of (u1 _ _ el), SqL.of e1, ?_⟩
    by_cases ev : vs = []
    · subst ev
      refine .inl ⟨rfl, (fun _ h => nomatch h), _, rfl, iteF ?_⟩
      have B1 := B.to u1
      exact n _ _ _ _ r bt H1 us S p q m h ⟨B1.sm, B1.el, B1.da, B1.er, B1.et, B1.wb, B1.ok, by omega⟩
    · have l0 := List.length_pos_iff.mpr ev
      refine .inr ⟨by simp; omega, _, rfl, iteT ?_⟩
      have l0' : (0 : Int) < (vs.length : Int) := by omega
      refine ⟨_, rfl, _, rfl, _, rfl, _, _, rfl, rfl, _, rfl, _, _, rfl, rfl, a, ns, 1 + 1 + (i : Int), rfl, S0.ts (B.sm.trans u1).ts, by omega, by omega, fun c _ => ?_⟩
      have f0 := Int.fmod_nonneg_of_pos c l0'
      have f1 := Int.fmod_lt_of_pos c l0'
      refine ⟨_, rfl, _, _, rfl, .inl ⟨_, SqL.of (u1 _ _ el), rfl⟩, _, _, rfl, rfl, by omega, ?_⟩
      have hj : vs[(c.fmod (vs.length : Int)).toNat]? = some (vs[(c.fmod (vs.length : Int)).toNat]'(by omega)) := List.getElem?_eq_getElem (by omega)
      have mj : vs[(c.fmod (vs.length : Int)).toNat]'(by omega) ∈ vs := List.getElem_mem _
      obtain ⟨e, f', m', h', W0⟩ := wy _ mj
      obtain ⟨a', b', c', ew, w1, w2, w3, W⟩ := W0
      rw [ew] at hj
      refine ⟨_, _, _, _, rfl, rfl, SqL.of (u1 _ _ el), at_of f0 hj, a', _, rfl, SqT.of (u1 _ _ w1), rfl, _, _, rfl, _, _, rfl, rfl, ?_⟩
      have sr : SqT K H1 r [.int m, .int h] := SqT.of (u1 _ _ B.er)
      refine ⟨_, rfl, .inl ⟨rfl, _, SqL.of (u1 _ _ B.el)⟩, _, rfl, _, rfl, _, _, _, _, rfl, rfl, sr, rfl, _, rfl, _, _, _, _, rfl, rfl, sr, rfl, sz 3 (by decide), fun t2 h2 => ?_⟩
      have u2 := same_new h2 (.tup [.ref b', .int m, .int h])
      have e2 : upd H1 t2 (.tup [.ref b', .int m, .int h]) t2 = some (.tup [.ref b', .int m, .int h]) := upd_same
      generalize upd H1 t2 (.tup [.ref b', .int m, .int h]) = H2 at u2 e2 ⊢
      have s12 := u1.trans u2
      refine ⟨b, us, _, rfl, rfl, s12 _ _ B.el, small1000 (by omega), ?_⟩
      have B2 := B.push (t := t2) hb s12 (s12 _ _ w2) (s12 _ _ w3) W e2
      exact ⟨_, rfl, n _ _ _ _ c' b' _ _ _ _ _ m' h' B2⟩
  obtain ⟨tb2, hb2, kb2⟩ := b2
  have r4 : ∃ t, Hold (cxOf CX0 P w K mg base n_l_built "_law_built" (defScope s_l_built) f cdv A outer s H E).nox ((defBody s_l_built).drop 2) t ∧ ∀ (σ4 : Option V) (r : Addr) (H' : Hp) (m h : Int), Same H H' → H' r = some (.tup [.int m, .int h]) → m.natAbs ≤ 7 → h.natAbs ≤ 8 →
      t { nx := fun _ H' => Q .non H', rt := Q } [some (.ref a), some (.int 1), some (.int tt), some (.int sp), σ4, some (.ref r), none, none, none, none, none, none] H' := by
    refine ⟨_, ⟨pss_cons (ps_set (i := 6) nd rfl (Or.inl rfl) (pe_lst pa_nil)) (pss_cons (ps_set (i := 7) nd rfl (Or.inl rfl) (pe_tup (pa_cons pe_int (pa_cons pe_int pa_nil)))) (pss_consH (ps_for PassesOwn.never rfl (pi_range1 rfl Z_range (pa_cons (pv 2) pa_nil)) (pg_name (i := 8) nd rfl (Or.inl rfl)) (pss_consH (ps_set (i := 9) nd rfl (Or.inl rfl) (pe_def D__law_ways (hr.mono (by decide)) rfl (pa_cons (pv 5) (pa_cons (pv 7) (pa_cons (pv 3) pa_nil))))) hb2)) ht5))⟩, ?_⟩
    intro σ4 r H' m h s0 er bm bh
    refine ⟨sz 0 (by decide), fun b hb' => ?_⟩
    have hb := s0.free hb'
    have u1 := same_new hb' (.lst [])
    have e1 : upd H' b (.lst []) b = some (.lst []) := upd_same
    generalize upd H' b (.lst []) = H1 at u1 e1 ⊢
    refine ⟨sz 2 (by decide), fun bt ht => ?_⟩
    have u2 := same_new ht (.tup [V.int 0, .int 1])
    have e2 : upd H1 bt (.tup [V.int 0, .int 1]) bt = some (.tup [V.int 0, .int 1]) := upd_same
    generalize upd H1 bt (.tup [V.int 0, .int 1]) = H2 at u2 e2 ⊢
    refine ⟨_, rfl, _, rfl, by omega, by omega, ?_⟩
    refine for_range (fun i σ H' => ∃ (o8 o9 o10 o11 : Option V) (r bt : Addr) (us : List V) (S : List St4) (p q m h : Int), σ = [some (.ref a), some (.int 1), some (.int tt), some (.int sp), σ4, some (.ref r), some (.ref b), some (.ref bt), o8, o9, o10, o11] ∧ Bi33 K H H' b r bt us S p q m h i)
      ⟨_, _, _, _, r, bt, [], [], 0, 1, m, h, rfl, (s0.trans u1).trans u2, u2 _ _ e1, rfl, (u1.trans u2) _ _ er, e2, ⟨by decide, by decide, by decide, bm, bh⟩, (fun _ h => nomatch h), Nat.zero_le _⟩ (fun i σ H3 hi z => ?_) (fun σ H3 z => ?_)
    · obtain ⟨o8, o9, o10, o11, r, bt, us, S, p, q, m, h, rfl, B⟩ := z
      have i4 : i ≤ 8 := by omega
      have e0 : (0 : Int) + (i : Int) = (i : Int) := by omega
      rw [e0]
      refine ⟨_, rfl, _, rfl, _, rfl, r, bt, m, h, p, q, sp, rfl, B.er, B.et, B.wb.bm, B.wb.bh, B.wb.be, B.wb.bf, sp0, sp7, fun l vs H4 s4 hl el wy lv => ?_⟩
      exact kb2 _ _ _ _ _ b r bt l H4 us vs S p q m h i hb (B.to s4) i4 el wy lv fun o8 o9 o10 o11 r bt H' us S p q m h B => ⟨_, _, _, _, r, bt, us, S, p, q, m, h, rfl, B⟩
    · obtain ⟨o8, o9, o10, o11, r, bt, us, S, p, q, m, h, rfl, B⟩ := z
      exact k5 _ _ _ _ _ b r bt H3 us S p q m h _ hb B (by omega)
  obtain ⟨t2, ht2, k2⟩ := r4
  refine ⟨_, pss_cons (ps_set (i := 4) nd rfl (Or.inl rfl) (pe_def D__law_cell (hr.mono (by decide)) rfl (pa_cons (pv 0) (pa_cons (pv 1) pa_nil)))) (pss_consH (ps_set (i := 5) nd rfl (Or.inl rfl) (pe_ix ix_list (pe_lst (pa_cons (pe_tup (pa_cons (pe_op op_modN (pe_op op_fdiv (pv 4) pe_int) (pe_op op_add (pv 3) pe_int)) (pa_cons pe_int pa_nil))) (pa_cons (pe_tup (pa_cons (pe_un un_neg (pe_op op_modN (pe_op op_fdiv (pv 4) pe_int) (pe_op op_add (pv 3) pe_int))) (pa_cons pe_int pa_nil))) pa_nil))) (pe_op op_mod (pv 4) pe_int) (fun _ _ => rfl))) ht2), ?_⟩
  refine ⟨_, rfl, _, rfl, a, ns, 1, rfl, S0, by decide, by decide, fun v _ => ?_⟩
  have e1 := Int.emod_nonneg v (show (2 : Int) ≠ 0 by decide)
  have e2 := Int.emod_lt_of_pos v (show (0 : Int) < 2 by decide)
  have f0 := Int.fmod_nonneg_of_pos (v / 2) (show (0 : Int) < sp + 1 by omega)
  have f1 := Int.fmod_lt_of_pos (v / 2) (show (0 : Int) < sp + 1 by omega)
  refine ⟨_, rfl, _, _, rfl, rfl, ⟨by decide, by decide⟩, _, rfl, _, _, rfl, rfl, _, _, rfl, rfl, (by omega), sz 2 (by decide), fun p1 hp1 => ?_⟩
  have u1 := same_new hp1 (.tup [V.int ((v / 2).fmod (sp + 1)), .int 0])
  refine ⟨_, rfl, _, _, rfl, rfl, ⟨by decide, by decide⟩, _, rfl, _, _, rfl, rfl, _, _, rfl, rfl, (by omega), _, rfl, sz 2 (by decide), fun p2 hp2 => ?_⟩
  have u2 := same_new hp2 (.tup [V.int (-(v / 2).fmod (sp + 1)), .int 1])
  refine ⟨sz 2 (by decide), fun p3 hp3 => ?_⟩
  have u3 := same_new hp3 (.lst [V.ref p1, .ref p2])
  refine ⟨_, rfl, _, _, rfl, rfl, (by show (0 : Int) < 2; decide), ?_⟩
  have cs : v % 2 = 0 ∨ v % 2 = 1 := by omega
  rcases cs with z | z
  · refine ⟨_, _, _, _, rfl, rfl, SqL.of upd_same, (by show atI _ (v % 2) = _; rw [z]; rfl), ?_⟩
    exact k2 _ p1 _ _ _ ((u1.trans u2).trans u3) ((u2.trans u3) _ _ upd_same) (by omega) (by decide)
  · refine ⟨_, _, _, _, rfl, rfl, SqL.of upd_same, (by show atI _ (v % 2) = _; rw [z]; rfl), ?_⟩
    exact k2 _ p2 _ _ _ ((u1.trans u2).trans u3) (u3 _ _ upd_same) (by omega) (by decide)
end
end Mine




set_option Elab.async false
set_option linter.all false
set_option maxRecDepth 100000
set_option maxHeartbeats 4000000
namespace Mine
open PySem L2
/-- the ends that are drawn: pairs of small numbers, each with 1 or -1 -/
def En33 (kvs : List (List Key × V)) : Prop := ∀ kv ∈ kvs, ∃ p q x : Int, kv.1 = [.inl p, .inl q] ∧ kv.2 = .int x ∧ 0 < q ∧ p.natAbs ≤ 10 ∧ q.natAbs ≤ 10 ∧ x.natAbs ≤ 1
theorem En33.put {kvs : List (List Key × V)} (e : En33 kvs) {p q x : Int} (q0 : 0 < q) (bp : p.natAbs ≤ 10) (bq : q.natAbs ≤ 10) (bx : x.natAbs ≤ 1) : En33 (putK kvs [.inl p, .inl q] (.int x)) ∧ (putK kvs [.inl p, .inl q] (.int x)).length ≤ kvs.length + 1 := by
  unfold putK
  by_cases c : (kvs.any fun kv => decide (kv.1 = [.inl p, .inl q])) = true
  · rw [if_pos c]
    refine ⟨fun kv h => ?_, by rw [List.length_map]; omega⟩
    obtain ⟨y, hy, rfl⟩ := List.mem_map.mp h
    by_cases z : y.1 = [.inl p, .inl q]
    · rw [if_pos z]
      exact ⟨p, q, x, z, rfl, q0, bp, bq, bx⟩
    · rw [if_neg z]
      exact e y hy
  · rw [if_neg c]
    refine ⟨fun kv h => ?_, by simp⟩
    rcases List.mem_append.mp h with y | y
    · exact e kv y
    · rw [List.mem_singleton.mp y]
      exact ⟨p, q, x, rfl, rfl, q0, bp, bq, bx⟩
theorem En33.get {kvs : List (List Key × V)} (e : En33 kvs) {k : List Key} (h : k ∈ kvs.map (·.1)) : ∃ x : Int, valV kvs k = some (.int x) ∧ x.natAbs ≤ 1 := by
  obtain ⟨y, hy, ey⟩ := List.mem_map.mp h
  unfold valV
  cases z : kvs.find? (fun kv => decide (kv.1 = k)) with
  | none =>
    have := List.find?_eq_none.mp z y hy
    exact absurd (decide_eq_true ey) this
  | some v =>
    obtain ⟨_, _, x, _, e2, _, _, _, bx⟩ := e v (List.mem_of_find?_eq_some z)
    exact ⟨x, by rw [Option.map_some, e2], bx⟩
theorem low10 {t b : Int} (h0 : b ≠ 0) (bt : t.natAbs ≤ 10) (bb : b.natAbs ≤ 10) : (Lo.lowT t b).natAbs ≤ 10 ∧ (Lo.lowB t b).natAbs ≤ 10 ∧ 0 < Lo.lowB t b :=
  ⟨Nat.le_trans (Lo.lowT_le h0) bt, Nat.le_trans (Lo.lowB_le h0) bb, Lo.lowB_pos h0⟩
def spAny33 (K : PySem.W.Frag) (T : Addr) : Sp := fun vs H Q _ => ∃ (a : Addr) (ns : List Int) (t : Int), vs = [.ref a, .int 1, .int t] ∧ Scr K H a ns ∧ 0 ≤ t ∧ t ≤ 7 ∧ H T = some (.tbl #[]) ∧ ∀ (v : V) (L : List St4) (H' : Hp), Dat K H' (lnD L) v → (∀ s ∈ L, Ok33 s) → 1 ≤ L.length → L.length ≤ 60 → Q v H'
/-- between two turns of the second walk -/
structure An33 (K : PySem.W.Frag) (H H' : Hp) (b : Addr) (us : List V) (S : List St4) (m h : Int) (i : Nat) : Prop where
  sb : ∀ c o, H c = some o → c ≠ b → H' c = some o
  el : H' b = some (.lst us)
  da : DatAll K H' (S.map stD) us
  ok : ∀ s ∈ S, Ok33 s
  lS : S.length = i
  bm : m.natAbs ≤ 10 + 10 * i
  bh : h.natAbs ≤ 10 + 10 * i
set_option maxHeartbeats 20000000
section
variable {P : Program} {w : World} {K : PySem.W.Frag} {mg : Str → Option Value} {base : Heap}
theorem ok_any33 {c T : Addr} (TD : TopDefC K mg "_law_any" s_l_any c) (TC : TabC base K mg c T) (Z_range : mg "range" = none) (Z_sorted : mg "sorted" = none) (Z_tuple : mg "tuple" = none) (D__law_cell : Def P w K mg base 1 "_law_cell" ["_law_script", "_law_k"] (spCell K))
    (D__law_lowest : Def P w K mg base 1 "_law_lowest" ["_law_top", "_law_bottom"] spLowL) : Def P w K mg base 5 "_law_any" ["_law_script", "_law_at", "_law_many"] (spAny33 K T) := by
  refine def_ofC TD sc_l_any (fun _ _ _ _ _ _ us hl => match us, hl with | [_, _, _], _ => rfl) (fun vs H Q E h => ?_) (fun f A outer s H vs Q E hr h => ?_)
  · obtain ⟨a, ns, t, rfl, _⟩ := h
    rfl
  obtain ⟨a, ns, tt, rfl, S0, t0, t7, eT, qq⟩ := h
  have nd := sc_l_any.nd
  have hu := hu_of hr
  have sz : ∀ n : Nat, n ≤ 100 → n ≤ sizeLine := fun n h => Nat.le_trans h (by decide)
  -- the last statement
  have t6 : ∃ t, Hold (cxOf CX0 P w K mg base n_l_any "_law_any" (defScope s_l_any) f (.ref c) A outer s H E).nox ((defBody s_l_any).drop 6) t ∧ ∀ (o1 o2 o5 o6 o7 o8 o10 : Option V) (b : Addr) (H2 H' : Hp) (us : List V) (S : List St4) (m h : Int) (i : Nat), An33 K H2 H' b us S m h i → i ≤ 20 →
      t { nx := fun _ H' => Q .non H', rt := Q } [some (.ref a), o1, o2, some (.int m), some (.int h), o5, o6, o7, o8, some (.ref b), o10] H' := by
    refine ⟨_, ⟨pss_one (ps_ret (pe_op op_catA (pe_callTy call_tuple_of rfl Z_tuple (by decide +kernel) (pa_cons (pv 9) pa_nil)) (pe_tup (pa_cons (pe_tup (pa_cons (pe_tup (pa_cons pe_int (pa_cons pe_int pa_nil))) (pa_cons (pv 3) (pa_cons (pv 4) pa_nil)))) pa_nil))))⟩, ?_⟩
    intro o1 o2 o5 o6 o7 o8 o10 b H2 H' us S m h i B hi
    have lu := ln_len B.da
    have lS := B.lS
    refine ⟨_, rfl, b, us, rfl, .inl ⟨SqL.of B.el, fun z hz => ?_⟩⟩
    have u1 := same_new hz (.tup us)
    have e1 : upd H' z (.tup us) z = some (.tup us) := upd_same
    have d1 := B.da.ts u1.ts
    generalize upd H' z (.tup us) = H1 at e1 d1 ⊢
    refine ⟨sz 2 (by decide), fun p1 hp1 => ?_⟩
    have u2 := same_new hp1 (.tup [V.int 1, .int 1])
    have e2 : upd H1 p1 (.tup [V.int 1, .int 1]) p1 = some (.tup [V.int 1, .int 1]) := upd_same
    generalize upd H1 p1 (.tup [V.int 1, .int 1]) = H3 at u2 e2 ⊢
    refine ⟨_, rfl, _, rfl, sz 3 (by decide), fun p2 hp2 => ?_⟩
    have u3 := same_new hp2 (.tup [V.ref p1, .int m, .int h])
    have e3 : upd H3 p2 (.tup [V.ref p1, .int m, .int h]) p2 = some (.tup [V.ref p1, .int m, .int h]) := upd_same
    generalize upd H3 p2 (.tup [V.ref p1, .int m, .int h]) = H4 at u3 e3 ⊢
    refine ⟨sz 1 (by decide), fun p3 hp3 => ?_⟩
    have u4 := same_new hp3 (.tup [V.ref p2])
    have e4 : upd H4 p3 (.tup [V.ref p2]) p3 = some (.tup [V.ref p2]) := upd_same
    generalize upd H4 p3 (.tup [V.ref p2]) = H5 at u4 e4 ⊢
    have ok2 : ∀ s ∈ S ++ [(⟨1, 1, m, h⟩ : St4)], Ok33 s := fun y hy => by
      rcases List.mem_append.mp hy with x | x
      · exact B.ok y x
      · rw [List.mem_singleton.mp x]
        have := B.bm
        have := B.bh
        exact ⟨(by decide : (0 : Int) < 1), (by decide : (1 : Int).natAbs ≤ 1000), (by decide : (1 : Int).natAbs ≤ 1000), (by show m.natAbs ≤ 1000; omega), (by show h.natAbs ≤ 1000; omega)⟩
    have ds : Dat K H5 (stD ⟨1, 1, m, h⟩) (.ref p2) := st_mk (s := ⟨1, 1, m, h⟩) (SqT.of (u4 _ _ e3)) (fr_mk (SqT.of ((u3.trans u4) _ _ e2)))
    have d5 := d1.ts (u2.trans (u3.trans u4)).ts
    have dl : DatAll K H5 ((S ++ [(⟨1, 1, m, h⟩ : St4)]).map stD) (us ++ [.ref p2]) := by
      rw [List.map_append]
      exact d5.snoc ds
    refine ⟨z, p3, us, [.ref p2], rfl, rfl, SqT.of ((u2.trans (u3.trans u4)) _ _ e1), SqT.of e4, (fun y => by cases y), (by simp; exact sz _ (by omega)), fun eu => ?_, fun _ p hp => ?_⟩
    · subst eu
      have eS : S = [] := List.length_eq_zero_iff.mp lu.symm
      subst eS
      exact qq (.ref p3) [⟨1, 1, m, h⟩] _ ⟨p3, _, rfl, SqT.of e4, dl⟩ ok2 (by simp) (by simp)
    · have u5 := same_new hp (.tup (us ++ [V.ref p2]))
      exact qq (.ref p) (S ++ [⟨1, 1, m, h⟩]) _ ⟨p, _, rfl, SqT.of upd_same, dl.ts u5.ts⟩ ok2 (by simp) (by simp; omega)
  obtain ⟨t6, ht6, k6⟩ := t6
  have t5 : ∃ t, Hold (cxOf CX0 P w K mg base n_l_any "_law_any" (defScope s_l_any) f (.ref c) A outer s H E).nox ((defBody s_l_any).drop 4) t ∧ ∀ (o1 o2 o6 o7 o8 : Option V) (d : Addr) (H' : Hp) (kvs : List (List Key × V)) (m h : Int), En33 kvs → kvs.length ≤ 10 → H' d = some (.dT kvs) → H' T = some (.tbl #[]) → m.natAbs ≤ 10 → h.natAbs ≤ 10 →
      t { nx := fun _ H' => Q .non H', rt := Q } [some (.ref a), o1, o2, some (.int m), some (.int h), some (.ref d), o6, o7, o8, none, none] H' := by
    refine ⟨_, ⟨pss_cons (ps_set (i := 9) nd rfl (Or.inl rfl) (pe_lst pa_nil)) (pss_consH (ps_for PassesOwn.never rfl (pi_list (pe_sortK (k := 2) (x := "_law_end") (c := c) (T := T) ⟨rfl, rfl, rfl, TC.hC, TC.hB, TC.nG, rfl, rfl, rfl, by decide, rfl, fun _ _ _ _ _ _ => rfl, by decide, ⟨_, _, _, _, _, _, _, _, _, _, _, _, rfl⟩⟩ rfl (hr.mono (by decide)) rfl Z_sorted (pv 5))) (pg_name (i := 10) nd rfl (Or.inl rfl)) (pss_cons (ps_expr (pe_bm PySem.F.plainAttrs_list PySem.F.slot_list_append PySem.F.type_list_append mt_append (pv 9) (pa_cons (pe_tup (pa_cons (pv 10) (pa_cons (pv 3) (pa_cons (pv 4) pa_nil)))) pa_nil)))
    (pss_cons (ps_set (i := 3) nd rfl (Or.inl rfl) (pe_op op_add (pv 3) (pe_op op_mulK (pe_dget hu (pv 5) (pv 10) (fun _ _ => rfl)) (pe_ix ix_tup (pv 10) pe_int (fun _ _ => rfl)))))
    (pss_one (ps_set (i := 4) nd rfl (Or.inl rfl) (pe_op op_sub (pv 4) (pe_op op_mulK (pe_dget hu (pv 5) (pv 10) (fun _ _ => rfl)) (pe_ix ix_tup (pv 10) pe_int (fun _ _ => rfl))))))))) ht6)⟩, ?_⟩
    intro o1 o2 o6 o7 o8 d H' kvs m h en lk ed eT bm bh
    refine ⟨sz 0 (by decide), fun b hb => ?_⟩
    have u1 := same_new hb (.lst [])
    have e1 : upd H' b (.lst []) b = some (.lst []) := upd_same
    have ed1 := u1 _ _ ed
    have eT1 := u1 _ _ eT
    generalize upd H' b (.lst []) = H1 at e1 ed1 eT1 ⊢
    refine ⟨_, rfl, d, kvs, #[], rfl, ed1, eT1, True.intro, rfl, by omega, fun kv hkv => ?_, fun ts ss more D ek tok sp pw hD => ?_⟩
    · obtain ⟨p, q, x, ep, _, q0, bp, bq, _⟩ := en kv hkv
      refine ⟨p, q, ep, by omega, ?_, mulS (sm_of (by omega)) (sm_of (by decide))⟩
      exact (div_ok (t := 0) (x := q) (by omega) (sm_of (by omega))).2
    have nbT : b ≠ T := fun z => by rw [z, eT1] at e1; cases e1
    have ndT : d ≠ T := fun z => by rw [z, eT1] at ed1; cases ed1
    have nbD : b ≠ D := fun z => by rw [z, hD] at e1; cases e1
    have ndD : d ≠ D := fun z => by rw [z, hD] at ed1; cases ed1
    have ndb : d ≠ b := fun z => by rw [z, e1] at ed1; cases ed1
    have e2 : upd (upd H1 T (.tbl (#[] ++ more))) D (.lst (ss.map fun t => .ref t.b)) b = some (.lst []) := by rw [upd_ne nbD, upd_ne nbT]; exact e1
    have ed2 : upd (upd H1 T (.tbl (#[] ++ more))) D (.lst (ss.map fun t => .ref t.b)) d = some (.dT kvs) := by rw [upd_ne ndD, upd_ne ndT]; exact ed1
    have eD2 : upd (upd H1 T (.tbl (#[] ++ more))) D (.lst (ss.map fun t => .ref t.b)) D = some (.lst (ss.map fun t => .ref t.b)) := upd_same
    have tk2 : ∀ t ∈ ss, upd (upd H1 T (.tbl (#[] ++ more))) D (.lst (ss.map fun t => .ref t.b)) t.b = some (.tup [.int t.p, .int t.q]) := fun t ht => by
      obtain ⟨g, _⟩ := tok t (sp.mem_iff.mp ht)
      rw [upd_ne (fun z => by rw [z, hD] at g; cases g), upd_ne (fun z => by rw [z, eT1] at g; cases g)]
      exact g
    have ks : ∀ t ∈ ss, ∃ x : Int, valV kvs [.inl t.p, .inl t.q] = some (.int x) ∧ x.natAbs ≤ 1 := fun t ht => en.get (by rw [ek]; exact List.mem_map.mpr ⟨t, sp.mem_iff.mp ht, rfl⟩)
    have kb : ∀ t ∈ ss, 0 < t.q ∧ t.p.natAbs ≤ 10 ∧ t.q.natAbs ≤ 10 := fun t ht => by
      have hm : ([.inl t.p, .inl t.q] : List Key) ∈ kvs.map (·.1) := by rw [ek]; exact List.mem_map.mpr ⟨t, sp.mem_iff.mp ht, rfl⟩
      obtain ⟨y, hy, ey⟩ := List.mem_map.mp hm
      obtain ⟨p, q, x, ep, _, q0, bp, bq, _⟩ := en y hy
      rw [ep] at ey
      cases ey
      exact ⟨q0, bp, bq⟩
    have ls : ss.length ≤ 10 := by
      have := congrArg List.length ek
      simp at this
      rw [sp.length_eq]
      omega
    generalize upd (upd H1 T (.tbl (#[] ++ more))) D (.lst (ss.map fun t => .ref t.b)) = H2 at e2 ed2 eD2 tk2 ⊢
    have nbD' : D ≠ b := Ne.symm nbD
    refine ⟨D, rfl, ⟨_, SqL.of eD2⟩, ?_⟩
    refine for_list (xs := ss.map fun t => V.ref t.b) (fun i σ H' => ∃ (o10 : Option V) (us : List V) (S : List St4) (m h : Int), σ = [some (.ref a), o1, o2, some (.int m), some (.int h), some (.ref d), o6, o7, o8, some (.ref b), o10] ∧ An33 K H2 H' b us S m h i)
      ⟨_, [], [], m, h, rfl, (fun c o h _ => h), e2, rfl, (fun _ h => nomatch h), rfl, by omega, by omega⟩ (fun i σ H' _ z => ?_) (fun i x σ H' hx z => ?_) (fun σ H' z => ?_)
    · obtain ⟨_, _, _, _, _, _, B⟩ := z
      exact SqL.of (B.sb _ _ eD2 nbD')
    · obtain ⟨o10, us, S, m, h, rfl, B⟩ := z
      rw [List.getElem?_map] at hx
      cases et : ss[i]? with
      | none => rw [et] at hx; cases hx
      | some t =>
        rw [et] at hx
        cases hx
        have mt := List.mem_of_getElem? et
        have hi : i < ss.length := (List.getElem?_eq_some_iff.mp et).1
        obtain ⟨q0, bp, bq⟩ := kb t mt
        obtain ⟨x, ex, bx⟩ := ks t mt
        have et' := tk2 t mt
        have nbt : t.b ≠ b := fun z => by rw [z, e2] at et'; cases et'
        have lu := ln_len B.da
        have lS := B.lS
        have bm := B.bm
        have bh := B.bh
        refine ⟨_, rfl, .inl ⟨rfl, _, SqL.of B.el⟩, _, rfl, _, rfl, _, rfl, sz 3 (by decide), fun t2 h2 => ?_⟩
        have u3 := same_new h2 (.tup [V.ref t.b, .int m, .int h])
        have e3 : upd H' t2 (.tup [V.ref t.b, .int m, .int h]) t2 = some (.tup [V.ref t.b, .int m, .int h]) := upd_same
        generalize upd H' t2 (.tup [V.ref t.b, .int m, .int h]) = H3 at u3 e3 ⊢
        have el3 := u3 _ _ B.el
        refine ⟨b, us, _, rfl, rfl, el3, small1000 (by omega), ?_⟩
        have t4 : Tst H3 (upd H3 b (.lst (us ++ [.ref t2]))) := ts_mut el3
        have e4 : upd H3 b (.lst (us ++ [.ref t2])) b = some (.lst (us ++ [.ref t2])) := upd_same
        have sb4 : ∀ c o, H2 c = some o → c ≠ b → upd H3 b (.lst (us ++ [.ref t2])) c = some o := fun c o h1 n => by rw [upd_ne n]; exact u3 _ _ (B.sb c o h1 n)
        have d4 : DatAll K (upd H3 b (.lst (us ++ [.ref t2]))) ((S ++ [(⟨t.p, t.q, m, h⟩ : St4)]).map stD) (us ++ [.ref t2]) := by
          rw [List.map_append]
          exact ((B.da.ts u3.ts).ts t4).snoc ((st_mk (s := ⟨t.p, t.q, m, h⟩) (SqT.of e3) (fr_mk (SqT.of (u3 _ _ (B.sb _ _ et' nbt))))).ts t4)
        generalize upd H3 b (.lst (us ++ [.ref t2])) = H4 at e4 sb4 d4 ⊢
        have ed4 := sb4 _ _ ed2 ndb
        have et4 := sb4 _ _ et' nbt
        have g : DGet H4 d (.ref t.b) (some (.int x)) := by rw [← ex]; exact DGet.t ed4 (k := [.inl t.p, .inl t.q]) et4
        have sx : Sm x := sm_of (by omega)
        refine ⟨_, rfl, _, rfl, _, rfl, d, _, rfl, g, _, rfl, _, _, _, _, rfl, rfl, SqT.of et4, rfl, _, _, rfl, rfl, mulS sx (sm_of (by omega)), _, _, rfl, rfl, ?_⟩
        refine ⟨_, rfl, _, rfl, _, rfl, d, _, rfl, g, _, rfl, _, _, _, _, rfl, rfl, SqT.of et4, rfl, _, _, rfl, rfl, mulS sx (sm_of (by omega)), _, _, rfl, rfl, ?_⟩
        have xq : (x * t.q).natAbs ≤ 10 := by
          rw [Int.natAbs_mul]
          exact Nat.le_trans (Nat.mul_le_mul bx bq) (by decide)
        have xp : (x * t.p).natAbs ≤ 10 := by
          rw [Int.natAbs_mul]
          exact Nat.le_trans (Nat.mul_le_mul bx bp) (by decide)
        refine ⟨_, us ++ [.ref t2], S ++ [⟨t.p, t.q, m, h⟩], m + x * t.q, h - x * t.p, rfl, sb4, e4, d4, fun y hy => ?_, by simp; omega, by omega, by omega⟩
        rcases List.mem_append.mp hy with z | z
        · exact B.ok y z
        · rw [List.mem_singleton.mp z]
          exact ⟨q0, Nat.le_trans bp (by decide), Nat.le_trans bq (by decide), (by show m.natAbs ≤ 1000; omega), (by show h.natAbs ≤ 1000; omega)⟩
    · obtain ⟨o10, us, S, m, h, rfl, B⟩ := z
      rw [List.length_map] at B
      exact k6 _ _ _ _ _ _ _ b H2 _ us S m h _ B (by omega)
  obtain ⟨t4, ht4, k4⟩ := t5
  refine ⟨_, pss_cons (ps_set (i := 3) nd rfl (Or.inl rfl) (pe_op op_sub (pe_op op_mod (pe_def D__law_cell (hr.mono (by decide)) rfl (pa_cons (pv 0) (pa_cons (pv 1) pa_nil))) pe_int) pe_int)) (pss_cons (ps_set (i := 4) nd rfl (Or.inl rfl) (pe_op op_sub (pe_op op_mod (pe_op op_fdiv (pe_def D__law_cell (hr.mono (by decide)) rfl (pa_cons (pv 0) (pa_cons (pv 1) pa_nil))) pe_int) pe_int) pe_int)) (pss_cons (ps_set (i := 5) nd rfl (Or.inl rfl) pe_dnewT) (pss_consH (ps_for PassesOwn.never rfl (pi_range1 rfl Z_range (pa_cons (pv 2) pa_nil)) (pg_name (i := 6) nd rfl (Or.inl rfl)) (pss_cons (ps_set (i := 7) nd rfl (Or.inl rfl) (pe_def D__law_cell (hr.mono (by decide)) rfl (pa_cons (pv 0) (pa_cons (pe_op op_add (pe_op op_add (pv 1) pe_int) (pv 6)) pa_nil)))) (pss_cons (ps_set (i := 8) nd rfl (Or.inl rfl) (pe_op op_add pe_int (pe_op op_mod (pv 7) pe_int))) (pss_one (ps_dput hu (pv 5) (pe_def D__law_lowest (hr.mono (by decide)) rfl (pa_cons (pe_op op_add pe_int (pe_op op_modN (pe_op op_fdiv (pv 7) pe_int) (pe_op op_sub (pv 8) pe_int))) (pa_cons (pv 8) pa_nil))) (pe_op op_sub pe_int (pe_op op_mulK pe_int (pe_op op_mod (pe_op op_fdiv (pv 7) pe_int) pe_int))) rfl))))) ht4))), ?_⟩
  refine ⟨_, rfl, _, rfl, a, ns, 1, rfl, S0, by decide, by decide, fun v _ => ⟨_, _, rfl, rfl, (show (0 : Int) < _ by decide), _, _, rfl, rfl, ?_⟩⟩
  refine ⟨_, rfl, _, rfl, a, ns, 1, rfl, S0, by decide, by decide, fun v2 _ => ⟨_, _, rfl, rfl, ⟨by decide, by decide⟩, _, _, rfl, rfl, (show (0 : Int) < _ by decide), _, _, rfl, rfl, ?_⟩⟩
  intro d hd
  have u1 := same_new hd (.dT [])
  have ed1 : upd H d (.dT []) d = some (.dT []) := upd_same
  have m1 : (v % 9 - 4).natAbs ≤ 10 := by omega
  have h1 : (v2 / 9 % 4 - 1).natAbs ≤ 10 := by omega
  refine ⟨_, rfl, _, rfl, by omega, by omega, ?_⟩
  refine for_range (fun i σ H' => ∃ (o6 o7 o8 : Option V) (kvs : List (List Key × V)), σ = [some (.ref a), some (.int 1), some (.int tt), some (.int (v % 9 - 4)), some (.int (v2 / 9 % 4 - 1)), some (.ref d), o6, o7, o8, none, none] ∧ Same H H' ∧ H' d = some (.dT kvs) ∧ En33 kvs ∧ kvs.length ≤ i)
    ⟨_, _, _, [], rfl, u1, ed1, (fun _ h => nomatch h), Nat.zero_le _⟩ (fun i σ H' hi z => ?_) (fun σ H' z => ?_)
  · obtain ⟨o6, o7, o8, kvs, rfl, sm, ed, en, lk⟩ := z
    refine ⟨_, rfl, _, rfl, _, _, rfl, rfl, _, rfl, _, _, rfl, rfl, a, ns, 1 + 1 + (0 + (i : Int)), rfl, S0.ts sm.ts, by omega, by omega, fun c _ => ?_⟩
    refine ⟨_, rfl, _, _, rfl, rfl, (show (0 : Int) < _ by decide), _, _, rfl, rfl, ?_⟩
    refine ⟨_, rfl, _, _, rfl, rfl, ⟨by decide, by decide⟩, _, _, rfl, rfl, (show (0 : Int) < _ by decide), _, _, rfl, rfl, mulS (sm_of (by decide)) (sm_of (by omega)), _, _, rfl, rfl, ?_⟩
    refine ⟨_, rfl, ?_⟩
    have b4 : 2 ≤ 2 + c % 4 ∧ 2 + c % 4 ≤ 5 := by omega
    have f0 := Int.fmod_nonneg_of_pos (c / 4) (show (0 : Int) < 2 + c % 4 - 1 by omega)
    have f1 := Int.fmod_lt_of_pos (c / 4) (show (0 : Int) < 2 + c % 4 - 1 by omega)
    refine ⟨_, rfl, _, _, rfl, rfl, ⟨by decide, by decide⟩, _, rfl, _, _, rfl, rfl, _, _, rfl, rfl, (by omega), _, _, rfl, rfl, _, rfl, 1 + (c / 4).fmod (2 + c % 4 - 1), 2 + c % 4, rfl, by omega, sm_of (by omega), fun t ht => ?_⟩
    obtain ⟨bT, bB, B0⟩ := low10 (t := 1 + (c / 4).fmod (2 + c % 4 - 1)) (b := 2 + c % 4) (by omega) (by omega) (by omega)
    have et : upd H' t (.tup [.int (Lo.lowT (1 + (c / 4).fmod (2 + c % 4 - 1)) (2 + c % 4)), .int (Lo.lowB (1 + (c / 4).fmod (2 + c % 4 - 1)) (2 + c % 4))]) t = some (.tup [.int (Lo.lowT (1 + (c / 4).fmod (2 + c % 4 - 1)) (2 + c % 4)), .int (Lo.lowB (1 + (c / 4).fmod (2 + c % 4 - 1)) (2 + c % 4))]) := upd_same
    have u3 := same_new ht (.tup [.int (Lo.lowT (1 + (c / 4).fmod (2 + c % 4 - 1)) (2 + c % 4)), .int (Lo.lowB (1 + (c / 4).fmod (2 + c % 4 - 1)) (2 + c % 4))])
    generalize Lo.lowT (1 + (c / 4).fmod (2 + c % 4 - 1)) (2 + c % 4) = p at bT et u3 ⊢
    generalize Lo.lowB (1 + (c / 4).fmod (2 + c % 4 - 1)) (2 + c % 4) = q at bB B0 et u3 ⊢
    generalize upd H' t (.tup [.int p, .int q]) = H3 at et u3 ⊢
    have ex : (1 - 2 * (c / 64 % 2)).natAbs ≤ 1 := by omega
    obtain ⟨en2, lk2⟩ := en.put B0 bT bB ex
    refine ⟨d, _, rfl, DPut.t (u3 _ _ ed) (k := [.inl p, .inl q]) et (Nat.lt_of_le_of_lt (show kvs.length ≤ 100 by omega) (by decide)), ?_⟩
    exact ⟨_, _, _, _, rfl, same_mut (sm.trans u3) hd _, upd_same, en2, Nat.le_trans lk2 (by omega)⟩
  · obtain ⟨o6, o7, o8, kvs, rfl, sm, ed, en, lk⟩ := z
    exact k4 _ _ _ _ _ d H' kvs (v % 9 - 4) (v2 / 9 % 4 - 1) en (by omega) ed (sm _ _ eT) m1 h1
end
end Mine




set_option Elab.async false
set_option linter.all false
set_option maxRecDepth 100000
set_option maxHeartbeats 4000000
namespace Mine
open PySem L2
local macro_rules | `(tactic| walk_at "mul") => `(tactic| first | exact mulS (by assumption) (by assumption) | exact mulS (by first | assumption | exact sm_of (by omega) | exact sm_of (by decide) | exact sm_mod (by decide) (by decide)) (by first | assumption | exact sm_of (by omega) | exact sm_of (by decide) | exact sm_mod (by decide) (by decide)))
local macro_rules | `(tactic| walk_at "rd1") => `(tactic| first
  | refine ⟨_, rfl, ?_⟩
  | refine ⟨_, _, rfl, rfl, ?_⟩
  | (refine' ⟨_, _, _, _, rfl, rfl, ?sq, ?ia, ?k⟩; (case' sq => first | assumption | exact Scr.l (by assumption)); (case' ia => first | rfl | assumption))
  | refine ⟨rfl, ?_⟩
  | (refine ⟨?m, ?_⟩; (case' m => walk_at "mul"))
  | (refine ⟨?m, ?_⟩; (case' m => exact div_ok (by first | assumption | omega) (by assumption)))
  | (refine ⟨?m, ?_⟩; (case' m => show (0 : Int) < _; decide))
  | (refine ⟨?m, ?_⟩; (case' m => exact ⟨by decide, by decide⟩))
  | (refine ⟨?m, ?_⟩; (case' m => exact ⟨by decide, by decide, by decide⟩)))
local macro_rules | `(tactic| walk_at "rd") => `(tactic| repeat walk_at "rd1")

/-- the height of the rule of s at p / q, in lowest terms -/
def hgD (s : St4) (p q : Int) : PyData := frD (Lo.lowT (s.m * p + s.h * q) q) (Lo.lowB (s.m * p + s.h * q) q)
def spTol33 (K : PySem.W.Frag) : Sp := fun vs H Q _ => ∃ (x y : V) (s : St4) (p q : Int), vs = [x, y] ∧ Dat K H (stD s) x ∧ Dat K H (frD p q) y ∧ 0 < q ∧ Sm p ∧ Sm q ∧ Sm s.m ∧ Sm s.h ∧ ∀ v H', Same H H' → Dat K H' (hgD s p q) v → Q v H'
section
variable {P : Program} {w : World} {K : PySem.W.Frag} {mg : Str → Option Value} {base : Heap}
theorem ok_told (T : TopDef K mg "told_by_stretch" s_told_by_stretch) (D_fraction : Def P w K mg base 2 "fraction" ["top", "bottom"] spLow) : Def P w K mg base 3 "told_by_stretch" ["stretch", "x"] (spTol33 K) := by
  refine def_of T sc_told_by_stretch (fun _ _ _ _ _ _ us hl => match us, hl with | [_, _], _ => rfl) (fun vs H Q E h => ?_) (fun f cdv A outer s H vs Q E hr h => ?_)
  · obtain ⟨x, y, s, p, q, rfl, _⟩ := h
    rfl
  obtain ⟨x, y, s, p, q, rfl, hx, hy, q0, b1, b2, b3, b4, k⟩ := h
  obtain ⟨a, e, rfl, sa, _⟩ := st_el hx
  obtain ⟨c, rfl, sc⟩ := fr_el hy
  have nd := sc_told_by_stretch.nd
  refine ⟨_, (pss_one (ps_ret (pe_def D_fraction (hr.mono (by decide)) rfl (pa_cons (pe_op op_add (pe_op op_mulK (pe_ix ix_tup (pv 0) pe_int (fun _ _ => rfl)) (pe_ix ix_tup (pv 1) pe_int (fun _ _ => rfl))) (pe_op op_mulK (pe_ix ix_tup (pv 0) pe_int (fun _ _ => rfl)) (pe_ix ix_tup (pv 1) pe_int (fun _ _ => rfl)))) (pa_cons (pe_ix ix_tup (pv 1) pe_int (fun _ _ => rfl)) pa_nil))))), ?_⟩
  walk_at "rd"
  exact ⟨_, q, rfl, by omega, b2, fun z H' sm e => k _ _ sm (fr_mk (SqT.of e))⟩
end

def spOutside (K : PySem.W.Frag) : Sp := fun vs H Q _ => ∃ (x : V) (p q : Int), vs = [x] ∧ Dat K H (frD p q) x ∧ Sm p ∧ Sm q ∧ Q (.bl (decide (p < 0 ∨ q < p))) H
section
variable {P : Program} {w : World} {K : PySem.W.Frag} {mg : Str → Option Value} {base : Heap}
theorem ok_outside (T : TopDef K mg "is_outside" s_is_outside) (TN : TopTup K mg "NOUGHT" [0, 1]) (TW : TopTup K mg "WHOLE" [1, 1]) (D_less : Def P w K mg base 1 "less" ["one", "other"] (spLess K)) : Def P w K mg base 2 "is_outside" ["x"] (spOutside K) := by
  refine def_of T sc_is_outside (fun _ _ _ _ _ _ us hl => match us, hl with | [_], _ => rfl) (fun vs H Q E h => ?_) (fun f cdv A outer s H vs Q E hr h => ?_)
  · obtain ⟨x, p, q, rfl, _⟩ := h
    rfl
  obtain ⟨x, p, q, rfl, hx, b1, b2, k⟩ := h
  have nd := sc_is_outside.nd
  obtain ⟨aN, M_NOUGHT, qN⟩ := TN.ex
  obtain ⟨aW, M_WHOLE, qW⟩ := TW.ex
  refine ⟨_, (pss_one (ps_ret (pe_or (pe_def D_less (hr.mono (by decide)) rfl (pa_cons (pv 0) (pa_cons (pe_glob (v := V.ref aN) rfl M_NOUGHT rfl) pa_nil))) (pe_one (pe_def D_less (hr.mono (by decide)) rfl (pa_cons (pe_glob (v := V.ref aW) rfl M_WHOLE rfl) (pa_cons (pv 0) pa_nil))))))), ?_⟩
  have s0 : Sm 0 := sm_of (by decide)
  have s1 : Sm 1 := sm_of (by decide)
  refine ⟨_, rfl, _, _, p, q, 0, 1, rfl, hx, fr_mk (qN H), b1, b2, s0, s1, _, rfl, ?_⟩
  refine ite2 (fun c => ?_) (fun c => ?_)
  · have c' : p * 1 < 0 * q := of_decide_eq_true c
    rw [decide_eq_true (show p < 0 ∨ q < p from .inl (by omega))] at k
    exact k
  · have c' : ¬ p * 1 < 0 * q := fun z => c (decide_eq_true z)
    refine ⟨_, rfl, _, _, 1, 1, p, q, rfl, fr_mk (qW H), hx, s1, s1, b1, b2, ?_⟩
    have e : decide (1 * q < p * 1) = decide (p < 0 ∨ q < p) := by
      by_cases z : q < p
      · rw [decide_eq_true (show 1 * q < p * 1 by omega), decide_eq_true (show p < 0 ∨ q < p from .inr z)]
      · rw [decide_eq_false (show ¬ 1 * q < p * 1 by omega), decide_eq_false (show ¬ (p < 0 ∨ q < p) by omega)]
    rw [e]
    exact k
end

/-- the wish of an exception with fields -/
def EF (C : Addr) (E : XK) (H : Hp) (fs : List (Str × V)) : Prop := ∀ d H', Same H H' → H' d = some (.ext (XDict d fs)) → E (.ref C) (some d) H'
theorem EF.at {C : Addr} {E : XK} {H H1 : Hp} {fs : List (Str × V)} (e : EF C E H fs) (s : Same H H1) {d : Addr} (hd : H1 d = none) : E (.ref C) (some d) (upd H1 d (.ext (XDict d fs))) := e d _ (s.trans (same_new hd _)) upd_same
abbrev xf33 (y : Nat × Int) : List (Str × V) := [("word", .str (wd33 y.1)), ("at", .int y.2)]
def spIsOut33 (K : PySem.W.Frag) : Sp := fun vs H Q _ => ∃ (x y : V) (s : St4) (p q : Int), vs = [x, y] ∧ Dat K H (stD s) x ∧ Dat K H (frD p q) y ∧ 0 < q ∧ p.natAbs ≤ 1000 ∧ q.natAbs ≤ 1000 ∧ Ok33 s ∧ ∀ H', Same H H' → Q (.bl (!(in33 s p q && in33 s s.p s.q))) H'
def spStay33 (K : PySem.W.Frag) (C : Addr) : Sp := fun vs H Q E => ∃ (x : V) (L : List St4), vs = [x] ∧ Dat K H (lnD L) x ∧ (∀ s ∈ L, Ok33 s) ∧ (∀ k : Nat, k < L.length → (∀ j, j < k → stay33 L j = true) → stay33 L k = false → EF C E H (xf33 (0, (k : Int)))) ∧ ((∀ j, j < L.length → stay33 L j = true) → ∀ H', Same H H' → Q .non H')
def spLead33 (K : PySem.W.Frag) (C : Addr) : Sp := fun vs H Q E => ∃ (x : V) (L : List St4), vs = [x] ∧ Dat K H (lnD L) x ∧ (∀ s ∈ L, Ok33 s) ∧ (∀ y, due33 L = some y → EF C E H (xf33 y)) ∧ (due33 L = none → ∀ H', Same H H' → Q .non H')
theorem low_out {t q : Int} (hq : 0 < q) : decide (Lo.lowT t q < 0 ∨ Lo.lowB t q < Lo.lowT t q) = !(decide (0 ≤ t ∧ t ≤ q)) := by
  have e1 := Lo.lowT_eq t q
  have e2 := Lo.lowB_eq t q
  have g := Lo.sg_pos (t := t) hq
  by_cases h : 0 ≤ t ∧ t ≤ q
  · rw [decide_eq_true h]
    refine decide_eq_false fun z => ?_
    rcases z with z | z
    · have := Int.mul_neg_of_pos_of_neg g z
      omega
    · have := Int.mul_lt_mul_of_pos_left z g
      omega
  · rw [decide_eq_false h]
    refine decide_eq_true ?_
    by_cases z : Lo.lowT t q < 0
    · exact .inl z
    · refine .inr ?_
      by_cases z2 : Lo.lowB t q < Lo.lowT t q
      · exact z2
      · exfalso
        have a := Int.mul_nonneg (Int.le_of_lt g) (show 0 ≤ Lo.lowT t q by omega)
        have b := Int.mul_le_mul_of_nonneg_left (show Lo.lowT t q ≤ Lo.lowB t q by omega) (Int.le_of_lt g)
        exact h ⟨by omega, by omega⟩
theorem step33 {p : Nat → Bool} {i : Nat} (a : ∀ j, j < i → p j = true) (b : p i = true) : ∀ j, j < i + 1 → p j = true := fun j hj => by
  rcases Nat.lt_or_ge j i with z | z
  · exact a j z
  · rw [show j = i by omega]; exact b
section
variable {P : Program} {w : World} {K : PySem.W.Frag} {mg : Str → Option Value} {base : Heap}
theorem ok_isOut33 (T : TopDef K mg "is_out" s_is_out) (D_is_outside : Def P w K mg base 2 "is_outside" ["x"] (spOutside K)) (D_told_by_stretch : Def P w K mg base 3 "told_by_stretch" ["stretch", "x"] (spTol33 K)) : Def P w K mg base 4 "is_out" ["stretch", "start"] (spIsOut33 K) := by
  refine def_of T sc_is_out (fun _ _ _ _ _ _ us hl => match us, hl with | [_, _], _ => rfl) (fun vs H Q E h => ?_) (fun f cdv A outer s H vs Q E hr h => ?_)
  · obtain ⟨x, y, s, p, q, rfl, _⟩ := h
    rfl
  obtain ⟨x, y, st, p, q, rfl, dx, dy, q0, b1, b2, ok, k⟩ := h
  have nd := sc_is_out.nd
  obtain ⟨a, e, rfl, sa, de⟩ := st_el dx
  have sm1 : ∀ {t r : Int}, 0 < r → t.natAbs ≤ 10 ^ 8 → r.natAbs ≤ 1000 → Sm (Lo.lowT t r) ∧ Sm (Lo.lowB t r) := fun {t r} h0 ht hr => by
    have h1 := Lo.lowT_le (t := t) (show r ≠ 0 by omega)
    have h2 := Lo.lowB_le (t := t) (show r ≠ 0 by omega)
    exact ⟨sm_of (by omega), sm_of (by omega)⟩
  have bd : ∀ {x y : Int}, x.natAbs ≤ 1000 → y.natAbs ≤ 1000 → (st.m * x + st.h * y).natAbs ≤ 10 ^ 8 := fun {x y} hx hy => by
    have h1 := Nat.mul_le_mul ok.bm hx
    have h2 := Nat.mul_le_mul ok.bh hy
    rw [← Int.natAbs_mul] at h1 h2
    omega
  refine ⟨_, (pss_one (ps_ret (pe_or (pe_def D_is_outside (hr.mono (by decide)) rfl (pa_cons (pe_def D_told_by_stretch (hr.mono (by decide)) rfl (pa_cons (pv 0) (pa_cons (pv 1) pa_nil))) pa_nil)) (pe_one (pe_def D_is_outside (hr.mono (by decide)) rfl (pa_cons (pe_def D_told_by_stretch (hr.mono (by decide)) rfl (pa_cons (pv 0) (pa_cons (pe_ix ix_tup (pv 0) pe_int (fun _ _ => rfl)) pa_nil))) pa_nil)))))), ?_⟩
  refine ⟨_, rfl, _, rfl, _, y, st, p, q, rfl, dx, dy, q0, sm_of (by omega), sm_of (by omega), sm_of (by have := ok.bm; omega), sm_of (by have := ok.bh; omega), fun v1 H1 s1 d1 => ?_⟩
  have z1 := sm1 q0 (bd b1 b2) b2
  refine ⟨v1, _, _, rfl, d1, z1.1, z1.2, _, rfl, ?_⟩
  rw [low_out q0]
  refine ite2 (fun c => ?_) (fun c => ?_)
  · have f1 : in33 st p q = false := by rw [Bool.not_eq_true'] at c; exact c
    rw [f1] at k
    exact k H1 s1
  · have f1 : in33 st p q = true := by rw [Bool.not_eq_true', Bool.not_eq_false] at c; exact c
    rw [f1, Bool.true_and] at k
    have z2 := sm1 ok.q0 (bd ok.bp ok.bq) ok.bq
    refine ⟨_, rfl, _, rfl, _, _, _, _, rfl, rfl, sa.ts s1.ts, rfl, _, e, st, st.p, st.q, rfl, dx.ts s1.ts, de.ts s1.ts, ok.q0, sm_of (by have := ok.bp; omega), sm_of (by have := ok.bq; omega), sm_of (by have := ok.bm; omega), sm_of (by have := ok.bh; omega), fun v2 H2 s2 d2 => ?_⟩
    refine ⟨v2, _, _, rfl, d2, z2.1, z2.2, ?_⟩
    rw [low_out ok.q0]
    exact k H2 (s1.trans s2)
theorem ok_stay33 {C : Addr} (T : TopDef K mg "must_stay" s_must_stay) (Z_enumerate : mg "enumerate" = none) (TN : TopTup K mg "NOUGHT" [0, 1]) (X_NoLine : XC2 P w K mg base "NoLine" C "word" "at") (D_is_out : Def P w K mg base 4 "is_out" ["stretch", "start"] (spIsOut33 K)) : DefD P w K mg base 5 "must_stay" ["line"] (spStay33 K C) := by
  refine defd_of T sc_must_stay (fun _ _ _ _ _ _ us hl => match us, hl with | [_], _ => rfl) (fun vs H Q E h => ?_) (fun f cdv A outer s H vs Q E hr h => ?_)
  · obtain ⟨x, L, rfl, _⟩ := h
    rfl
  obtain ⟨x, L, rfl, dx, ok, kE, k⟩ := h
  have nd := sc_must_stay.nd
  obtain ⟨aN, M_NOUGHT, qN⟩ := TN.ex
  obtain ⟨a, xs, rfl, sa, da⟩ := ln_el dx
  refine ⟨_, (pss_cons (ps_set (i := 1) nd rfl (Or.inl rfl) (pe_glob (v := V.ref aN) rfl M_NOUGHT rfl))
    (pss_one (ps_for PassesOwn.leaving rfl (pi_enumT rfl Z_enumerate (pv 0)) (pg_tup rfl (pgs_cons (pg_name (i := 2) nd rfl (Or.inl rfl)) (pgs_cons (pg_name (i := 3) nd rfl (Or.inl rfl)) pgs_nil))) (pss_cons (ps_if (pt_val (pe_def D_is_out (hr.mono (by decide)) rfl (pa_cons (pv 3) (pa_cons (pv 1) pa_nil)))) (pss_one (ps_raise2 X_NoLine (hr.mono (by decide)) rfl (pa_cons pe_str (pa_cons (pv 2) pa_nil)))) pss_nil)
    (pss_one (ps_set (i := 1) nd rfl (Or.inl rfl) (pe_ix ix_tup (pv 3) pe_int (fun _ _ => rfl)))))))), ?_⟩
  refine ⟨_, rfl, a, rfl, ⟨xs, sa⟩, ?_⟩
  refine for_enumT (xs := xs) (fun i σ H' => Same H H' ∧ (∀ j, j < i → stay33 L j = true) ∧ ∃ t o2 o3, σ = [some (.ref a), some t, o2, o3] ∧ Dat K H' (frD (beg33 L i).1 (beg33 L i).2) t) ⟨Same.refl _, (fun j hj => absurd hj (Nat.not_lt_zero _)), _, _, _, rfl, fr_mk (qN H)⟩ (fun i σ H' _ h => sa.ts h.1.ts) (fun i x T' σ H' hx h hT => ?_) (fun σ H' h => ?_)
  · obtain ⟨sm', al, t, o2, o3, rfl, dt⟩ := h
    obtain ⟨st, hst, dst⟩ := ln_at' (da.ts sm'.ts) hx
    have iL : i < L.length := (List.getElem?_eq_some_iff.mp hst).1
    have u1 := same_new hT (.tup [.int i, x])
    have ds := dst.ts u1.ts
    obtain ⟨c, e, rfl, q1, d1⟩ := st_el ds
    have o := ok st (List.mem_of_getElem? hst)
    obtain ⟨b0, b1, b2⟩ := beg33_b ok i
    refine ⟨T', _, rfl, SqT.of upd_same, rfl, _, _, rfl, _, _, rfl, rfl, ?_⟩
    refine ⟨_, rfl, _, rfl, _, t, st, (beg33 L i).1, (beg33 L i).2, rfl, ds, dt.ts u1.ts, b0, b1, b2, o, fun H2 s2 => ?_⟩
    rw [← stay33_of hst]
    cases g : stay33 L i with
    | false => exact ⟨_, rfl, iteT ⟨_, rfl, _, _, rfl, fun d hd => (kE i iL al g).at ((sm'.trans u1).trans s2) hd⟩⟩
    | true =>
      refine ⟨_, rfl, iteF ?_⟩
      refine ⟨_, rfl, _, _, _, _, rfl, rfl, q1.ts s2.ts, rfl, (sm'.trans u1).trans s2, step33 al g, e, _, _, rfl, ?_⟩
      rw [beg33_succ hst]
      exact d1.ts s2.ts
  · rw [ln_len da] at h
    exact k h.2.1 _ h.1
theorem ok_lead33 {C : Addr} {tm ts : Tok} (T : TopDef K mg "must_lead_back" s_must_lead_back) (Z_enumerate : mg "enumerate" = none) (Z_len : mg "len" = none) (Z_abs : mg "abs" = none) (M_MOST_STRETCHES : mg "MOST_STRETCHES" = some (.int 6 tm)) (M_STEEPEST_backs : mg "STEEPEST_backs" = some (.int 4 ts)) (X_NoLine : XC2 P w K mg base "NoLine" C "word" "at") (D_must_stay : DefD P w K mg base 5 "must_stay" ["line"] (spStay33 K C)) : DefD P w K mg base 6 "must_lead_back" ["line"] (spLead33 K C) := by
  refine defd_of T sc_must_lead_back (fun _ _ _ _ _ _ us hl => match us, hl with | [_], _ => rfl) (fun vs H Q E h => ?_) (fun f cdv A outer s H vs Q E hr h => ?_)
  · obtain ⟨x, L, rfl, _⟩ := h
    rfl
  obtain ⟨x, L, rfl, dx, ok, kE, k⟩ := h
  have nd := sc_must_lead_back.nd
  obtain ⟨a, xs, rfl, sa, da⟩ := ln_el dx
  have lx := ln_len da
  refine ⟨_, (pss_cons (ps_expr (pe_defP D_must_stay (hr.mono (by decide)) rfl (pa_cons (pv 0) pa_nil)))
    (pss_cons (ps_if (pt_cmpR op_gt (pe_callB call_len rfl Z_len (by decide +kernel) (pa_cons (pv 0) pa_nil)) (pe_glob (v := V.int 6) rfl M_MOST_STRETCHES ⟨_, rfl⟩) (nomark _)) (pss_one (ps_raise2 X_NoLine (hr.mono (by decide)) rfl (pa_cons pe_str (pa_cons (pe_callB call_len rfl Z_len (by decide +kernel) (pa_cons (pv 0) pa_nil)) pa_nil)))) pss_nil)
    (pss_one (ps_for PassesOwn.leaving rfl (pi_enumT rfl Z_enumerate (pv 0)) (pg_tup rfl (pgs_cons (pg_name (i := 1) nd rfl (Or.inl rfl)) (pgs_cons (pg_name (i := 2) nd rfl (Or.inl rfl)) pgs_nil))) (pss_one (ps_if (pt_cmpR op_gt (pe_callB call_abs rfl Z_abs (by decide +kernel) (pa_cons (pe_ix ix_tup (pv 2) pe_int (fun _ _ => rfl)) pa_nil)) (pe_glob (v := V.int 4) rfl M_STEEPEST_backs ⟨_, rfl⟩) (nomark _)) (pss_one (ps_raise2 X_NoLine (hr.mono (by decide)) rfl (pa_cons pe_str (pa_cons (pv 1) pa_nil)))) pss_nil)))))), ?_⟩
  refine ⟨_, rfl, _, L, rfl, dx, ok, fun i hi al b => kE _ (due_out al b hi), fun al H1 s1 => ?_⟩
  refine ⟨_, rfl, _, _, rfl, .inr ⟨_, sa.ts s1.ts, rfl⟩, _, _, rfl, rfl, _, rfl, ite2 (fun c => ?_) (fun c => ?_)⟩
  · have c := of_decide_eq_true c
    have z := kE _ (due_many al (by omega))
    rw [← lx] at z
    exact ⟨_, rfl, _, _, rfl, .inr ⟨_, sa.ts s1.ts, rfl⟩, _, _, rfl, fun d hd => z.at s1 hd⟩
  have c : ¬ (6 : Int) < ((xs.length : Nat) : Int) := fun z => c (decide_eq_true z)
  have c6 : ¬ 6 < L.length := by omega
  refine ⟨_, rfl, a, rfl, ⟨xs, sa.ts s1.ts⟩, ?_⟩
  refine for_enumT (xs := xs) (fun i σ H' => Same H H' ∧ (∀ j, j < i → mild33 L j = true) ∧ ∃ o1 o2, σ = [some (.ref a), o1, o2]) ⟨s1, (fun j hj => absurd hj (Nat.not_lt_zero _)), _, _, rfl⟩ (fun i σ H' _ h => sa.ts h.1.ts) (fun i x T' σ H' hx h hT => ?_) (fun σ H' h => ?_)
  · obtain ⟨sm', am, o1, o2, rfl⟩ := h
    obtain ⟨st, hst, dst⟩ := ln_at' (da.ts sm'.ts) hx
    have iL : i < L.length := (List.getElem?_eq_some_iff.mp hst).1
    have u1 := same_new hT (.tup [.int i, x])
    obtain ⟨c, e, rfl, q1, d1⟩ := st_el (dst.ts u1.ts)
    refine ⟨T', _, rfl, SqT.of upd_same, rfl, _, _, rfl, _, _, rfl, rfl, ?_⟩
    refine ⟨_, rfl, _, _, _, _, rfl, rfl, q1, rfl, _, rfl, _, _, rfl, rfl, _, rfl, ite2 (fun c => ?_) (fun c => ?_)⟩
    · have c := of_decide_eq_true c
      rw [abs_is] at c
      exact ⟨_, rfl, _, _, rfl, fun d hd => (kE _ (due_steep al c6 am (by rw [mild33_of hst]; exact decide_eq_false (by omega)) iL)).at (sm'.trans u1) hd⟩
    · have c : ¬ _ := fun z => c (decide_eq_true z)
      rw [abs_is] at c
      exact ⟨sm'.trans u1, step33 am (by rw [mild33_of hst]; exact decide_eq_true (by omega)), _, _, rfl⟩
  · rw [lx] at h
    exact k (due_none al c6 h.2.1) _ h.1
end
end Mine




set_option Elab.async false
set_option linter.all false
set_option maxRecDepth 100000
set_option maxHeartbeats 4000000
namespace Mine
open PySem L2
/-! ### t[1:] of a tuple -/
theorem cutS (x : V) (us : List V) : cutV (x :: us) (some 1) none = us := by
  unfold cutV
  rw [show _root_.HT.sIx (x :: us).length 0 (some 1) = 1 from by
    rw [show (some (1 : Int)) = some ((1 : Nat) : Int) from rfl, _root_.HT.sIx_nat, List.length_cons]; omega, _root_.HT.sIx_none]
  show List.take ((x :: us).length - 1) us = us
  rw [List.length_cons, Nat.add_sub_cancel, List.take_length]
theorem sl1 {K : PySem.W.Frag} {H : Hp} {a : Addr} {x : V} {us : List V} {Q : VK} (e : H a = some (.tup (x :: us))) (h : ∀ p, H p = none → Q (.ref p) (upd H p (.tup us))) : rSlA K (.ref a) (some 1) none H Q := by
  refine ⟨a, _, rfl, SqT.of e, fun z => ?_, fun _ p => ?_⟩
  · have hix0 : _root_.HT.sIx (x :: us).length 0 (some 1) = 1 := by
      rw [show (some (1 : Int)) = some ((1 : Nat) : Int) from rfl, _root_.HT.sIx_nat, List.length_cons]; omega
    exact absurd (hix0.symm.trans z) (by decide)
  · intro hp'
    rw [cutS]
    exact h _ hp'
end Mine

namespace Mine
open PySem L2
/-- a row: a word and at most two places -/
def Rw33 (H : Hp) (v : V) : Prop := ∃ (a : Addr) (x : Str) (is : List Int), v = .ref a ∧ H a = some (.tup (.str x :: is.map V.int)) ∧ is.length ≤ 2
abbrev Rws33 (H : Hp) (us : List V) : Prop := ∀ v ∈ us, Rw33 H v
theorem Rw33.to {H H' : Hp} (k : Kp H H') {v : V} (h : Rw33 H v) : Rw33 H' v := by
  obtain ⟨a, x, is, rfl, e, l⟩ := h
  exact ⟨a, x, is, rfl, k _ _ e rfl, l⟩
theorem Rws33.to {H H' : Hp} (k : Kp H H') {us : List V} (h : Rws33 H us) : Rws33 H' us := fun v hv => (h v hv).to k
theorem Rws33.snoc {H : Hp} {us : List V} {v : V} (h : Rws33 H us) (r : Rw33 H v) : Rws33 H (us ++ [v]) := fun u hu => by
  rcases List.mem_append.mp hu with z | z
  · exact h u z
  · rw [List.mem_singleton.mp z]; exact r
theorem Rw33.mk {H : Hp} {a : Addr} {x : Str} (is : List Int) (e : H a = some (.tup (.str x :: is.map V.int))) (l : is.length ≤ 2) : Rw33 H (.ref a) := ⟨a, x, is, rfl, e, l⟩
theorem ints_at {ns : List Int} {i : Nat} (h : i < ns.length) : atI (ns.map V.int) (i : Int) = some (.int ns[i]) := atI_nat (by rw [List.getElem?_map, List.getElem?_eq_getElem h]; rfl)
structure Sp33 (H H' : Hp) (r st p : Addr) (us0 : Nat) (ns ms : List Int) (us : List V) : Prop where
  sb : SB (.ref r) H H'
  hr : H' r = some (.lst us)
  hs : H' st = some (.lst (ms.map V.int))
  hp : H' p = some (.lst (ns.map V.int))
  al : Rws33 H' us
  lu : us.length = us0 + 2 * ms.length
def spSteep33 : Sp := fun vs H Q _ => ∃ (r p : Addr) (us : List V) (ns : List Int) (L : Int), vs = [.ref r, .ref p, .int L] ∧ r ≠ p ∧ H r = some (.lst us) ∧ Rws33 H us ∧ H p = some (.lst (ns.map V.int)) ∧ 1 ≤ ns.length ∧ ns.length ≤ 13 ∧ us.length ≤ 300 ∧
  ∀ (l : Addr) (ms : List Int) (us' : List V) (H' : Hp), H l = none → ms.length + 1 = ns.length → Sp33 H H' r l p us.length ns ms us' → Q (.ref l) H'
def spFlat33 : Sp := fun vs H Q _ => ∃ h : Int, vs = [.int h] ∧ ∀ (l : Addr) (us : List V) (H' : Hp), Same H H' → H l = none → H' l = some (.lst us) → Rws33 H' us → 1 ≤ us.length → us.length ≤ 24 → Q (.ref l) H'
def spStraight33 : Sp := fun vs H Q _ => ∃ sl h : Int, vs = [.int sl, .int h] ∧ sl.natAbs ≤ 4 ∧ ∀ (l : Addr) (us : List V) (H' : Hp), Same H H' → H l = none → H' l = some (.lst us) → Rws33 H' us → 1 ≤ us.length → us.length ≤ 24 → Q (.ref l) H'
section
variable {P : Program} {w : World} {K : PySem.W.Frag} {mg : Str → Option Value} {base : Heap}
theorem ok_steep33 (T : TopDef K mg "put_steeper" s_put_steeper) (Z_len : mg "len" = none) (Z_range : mg "range" = none) : Def P w K mg base 1 "put_steeper" ["rows", "places", "letter"] spSteep33 := by
  refine def_of T sc_put_steeper (fun _ _ _ _ _ _ us hl => match us, hl with | [_, _, _], _ => rfl) (fun vs H Q E h => ?_) (fun f cdv A outer s H vs Q E hr h => ?_)
  · obtain ⟨r, p, us, ns, L, rfl, _⟩ := h
    rfl
  obtain ⟨r, p, us, ns, L, rfl, nrp, hr0, al0, hp0, n1, n13, few, q⟩ := h
  have nd := sc_put_steeper.nd
  have ln : (ns.map V.int).length = ns.length := List.length_map _
  refine ⟨_, (pss_cons (ps_set (i := 3) nd rfl (Or.inl rfl) (pe_lst pa_nil))
    (pss_cons (ps_for PassesOwn.never rfl (pi_range1 rfl Z_range (pa_cons (pe_op op_sub (pe_callB call_len rfl Z_len (by decide +kernel) (pa_cons (pv 1) pa_nil)) pe_int) pa_nil)) (pg_name (i := 4) nd rfl (Or.inl rfl)) (pss_cons (ps_expr (pe_bm PySem.F.plainAttrs_list PySem.F.slot_list_append PySem.F.type_list_append mt_append (pv 0) (pa_cons (pe_tup (pa_cons pe_str (pa_cons (pe_ix ix_list (pv 1) (pv 4) (fun _ _ => rfl)) (pa_cons (pv 2) pa_nil)))) pa_nil)))
    (pss_cons (ps_expr (pe_bm PySem.F.plainAttrs_list PySem.F.slot_list_append PySem.F.type_list_append mt_append (pv 0) (pa_cons (pe_tup (pa_cons pe_str (pa_cons (pe_op op_sub (pe_callB call_len rfl Z_len (by decide +kernel) (pa_cons (pv 0) pa_nil)) pe_int) (pa_cons (pe_ix ix_list (pv 1) (pe_op op_add (pv 4) pe_int) (fun _ _ => rfl)) pa_nil)))) pa_nil)))
    (pss_one (ps_expr (pe_bm PySem.F.plainAttrs_list PySem.F.slot_list_append PySem.F.type_list_append mt_append (pv 3) (pa_cons (pe_op op_sub (pe_callB call_len rfl Z_len (by decide +kernel) (pa_cons (pv 0) pa_nil)) pe_int) pa_nil)))))))
    (pss_one (ps_ret (pv 3))))), ?_⟩
  refine ⟨(by show 0 ≤ sizeLine; decide), fun st hst => ?_⟩
  have u0 := same_new hst (.lst [])
  have nsr : st ≠ r := fun z => by rw [z, hr0] at hst; cases hst
  have nsp : st ≠ p := fun z => by rw [z, hp0] at hst; cases hst
  refine ⟨_, rfl, _, _, rfl, .inl ⟨_, SqL.of (u0 _ _ hp0), rfl⟩, _, _, rfl, rfl, _, rfl, by omega, by omega, ?_⟩
  refine for_range (fun i σ H' => ∃ (o4 : Option V) (ms : List Int) (us' : List V), σ = [some (.ref r), some (.ref p), some (.int L), some (.ref st), o4] ∧ ms.length = i ∧ Sp33 H H' r st p us.length ns ms us')
    ⟨_, [], us, rfl, rfl, ⟨SB.of u0, u0 _ _ hr0, upd_same, u0 _ _ hp0, al0.to (Kp.of u0), by simp⟩⟩ (fun i σ H' hi z => ?_) (fun σ H' z => ?_)
  · obtain ⟨o4, ms, us', rfl, lm, S⟩ := z
    have i1 : i + 1 < ns.length := by omega
    have e0 : (0 : Int) + (i : Int) = (i : Int) := by omega
    rw [e0]
    have a1 := ints_at (ns := ns) (i := i) (by omega)
    have a2 := ints_at (ns := ns) (i := i + 1) i1
    have lus := S.lu
    refine ⟨_, rfl, .inl ⟨rfl, _, SqL.of S.hr⟩, _, rfl, _, rfl, _, _, _, _, rfl, rfl, SqL.of S.hp, a1, _, rfl, (by show 3 ≤ sizeLine; decide), fun t1 ht1 => ?_⟩
    have v1 := same_new ht1 (.tup [.str "more", .int ns[i], .int L])
    refine ⟨r, us', _, rfl, rfl, v1 _ _ S.hr, small1000 (by omega), ?_⟩
    have hr2 : upd (upd H' t1 (.tup [.str "more", .int ns[i], .int L])) r (.lst (us' ++ [.ref t1])) r = some (.lst (us' ++ [.ref t1])) := upd_same
    have hp2 : upd (upd H' t1 (.tup [.str "more", .int ns[i], .int L])) r (.lst (us' ++ [.ref t1])) p = some (.lst (ns.map V.int)) := by rw [upd_ne (Ne.symm nrp)]; exact v1 _ _ S.hp
    have hs2 : upd (upd H' t1 (.tup [.str "more", .int ns[i], .int L])) r (.lst (us' ++ [.ref t1])) st = some (.lst (ms.map V.int)) := by rw [upd_ne nsr]; exact v1 _ _ S.hs
    have sb2 : SB (.ref r) H (upd (upd H' t1 (.tup [.str "more", .int ns[i], .int L])) r (.lst (us' ++ [.ref t1]))) := (S.sb.trans (SB.of v1)).trans (sb_upd _ _)
    have k2 : Kp (upd H' t1 (.tup [.str "more", .int ns[i], .int L])) (upd (upd H' t1 (.tup [.str "more", .int ns[i], .int L])) r (.lst (us' ++ [.ref t1]))) := kp_mut (v1 _ _ S.hr) rfl
    have al2 : Rws33 (upd (upd H' t1 (.tup [.str "more", .int ns[i], .int L])) r (.lst (us' ++ [.ref t1]))) (us' ++ [.ref t1]) := (Rws33.snoc (S.al.to (Kp.of v1)) (Rw33.mk [ns[i], L] upd_same (Nat.le_refl 2))).to k2
    generalize upd (upd H' t1 (.tup [.str "more", .int ns[i], .int L])) r (.lst (us' ++ [.ref t1])) = H2 at hr2 hp2 hs2 sb2 al2 ⊢
    have c1 : ((i : Int) + 1) = ((i + 1 : Nat) : Int) := by omega
    refine ⟨_, rfl, .inl ⟨rfl, _, SqL.of hr2⟩, _, rfl, _, _, rfl, .inl ⟨_, SqL.of hr2, rfl⟩, _, _, rfl, rfl, _, rfl, _, rfl, _, _, rfl, rfl, _, _, _, _, rfl, rfl, SqL.of hp2, (by rw [c1]; exact a2), (by show 3 ≤ sizeLine; decide), fun t2 ht2 => ?_⟩
    dsimp only
    generalize ((((us' ++ [V.ref t1]).length : Nat) : Int) - 1) = y at ht2 ⊢
    have v2 := same_new ht2 (.tup [.str "less", .int y, .int ns[i + 1]])
    refine ⟨r, _, _, rfl, rfl, v2 _ _ hr2, small1000 (by simp; omega), ?_⟩
    have hr3 : upd (upd H2 t2 (.tup [.str "less", .int y, .int ns[i + 1]])) r (.lst (us' ++ [.ref t1] ++ [.ref t2])) r = some (.lst (us' ++ [.ref t1] ++ [.ref t2])) := upd_same
    have hp3 : upd (upd H2 t2 (.tup [.str "less", .int y, .int ns[i + 1]])) r (.lst (us' ++ [.ref t1] ++ [.ref t2])) p = some (.lst (ns.map V.int)) := by rw [upd_ne (Ne.symm nrp)]; exact v2 _ _ hp2
    have hs3 : upd (upd H2 t2 (.tup [.str "less", .int y, .int ns[i + 1]])) r (.lst (us' ++ [.ref t1] ++ [.ref t2])) st = some (.lst (ms.map V.int)) := by rw [upd_ne nsr]; exact v2 _ _ hs2
    have sb3 : SB (.ref r) H (upd (upd H2 t2 (.tup [.str "less", .int y, .int ns[i + 1]])) r (.lst (us' ++ [.ref t1] ++ [.ref t2]))) := (sb2.trans (SB.of v2)).trans (sb_upd _ _)
    have k3 : Kp (upd H2 t2 (.tup [.str "less", .int y, .int ns[i + 1]])) (upd (upd H2 t2 (.tup [.str "less", .int y, .int ns[i + 1]])) r (.lst (us' ++ [.ref t1] ++ [.ref t2]))) := kp_mut (v2 _ _ hr2) rfl
    have al3 : Rws33 (upd (upd H2 t2 (.tup [.str "less", .int y, .int ns[i + 1]])) r (.lst (us' ++ [.ref t1] ++ [.ref t2]))) (us' ++ [.ref t1] ++ [.ref t2]) := (Rws33.snoc (al2.to (Kp.of v2)) (Rw33.mk [y, ns[i + 1]] upd_same (Nat.le_refl 2))).to k3
    generalize upd (upd H2 t2 (.tup [.str "less", .int y, .int ns[i + 1]])) r (.lst (us' ++ [.ref t1] ++ [.ref t2])) = H3 at hr3 hp3 hs3 sb3 al3 ⊢
    refine ⟨_, rfl, .inl ⟨rfl, _, SqL.of hs3⟩, _, rfl, _, _, rfl, .inl ⟨_, SqL.of hr3, rfl⟩, _, _, rfl, rfl, st, _, _, rfl, rfl, hs3, small1000 (by simp; omega), ?_⟩
    dsimp only
    generalize ((((us' ++ [V.ref t1] ++ [V.ref t2]).length : Nat) : Int) - 1) = z
    have k4 : Kp H3 (upd H3 st (.lst (ms.map V.int ++ [.int z]))) := kp_mut hs3 rfl
    refine ⟨_, ms ++ [z], us' ++ [.ref t1] ++ [.ref t2], rfl, by simp [lm], ?_, ?_, ?_, ?_, al3.to k4, by simp; omega⟩
    · exact fun c o hc nc => by rw [upd_ne (ne_of_none hc hst)]; exact sb3 c o hc nc
    · rw [upd_ne (Ne.symm nsr)]; exact hr3
    · rw [upd_same, List.map_append]; rfl
    · rw [upd_ne (Ne.symm nsp)]; exact hp3
  · obtain ⟨o4, ms, us', rfl, lm, S⟩ := z
    exact ⟨_, rfl, q st ms us' H' hst (by omega) S⟩
theorem ok_flat33 (T : TopDef K mg "flat_rows" s_flat_rows) : Def P w K mg base 1 "flat_rows" ["height"] spFlat33 := by
  refine def_of T sc_flat_rows (fun _ _ _ _ _ _ us hl => match us, hl with | [_], _ => rfl) (fun vs H Q E h => ?_) (fun f cdv A outer s H vs Q E hr h => ?_)
  · obtain ⟨h, rfl, _⟩ := h
    rfl
  obtain ⟨h, rfl, q⟩ := h
  have nd := sc_flat_rows.nd
  have fin : ∀ (x : Str) (p : Addr), H p = none → ∀ l, upd H p (.tup [.str x]) l = none → Q (.ref l) (upd (upd H p (.tup [.str x])) l (.lst [.ref p])) := fun x p hp l hl => by
    have u1 := same_new hp (.tup [V.str x])
    have u2 := same_new hl (.lst [V.ref p])
    refine q l _ _ (u1.trans u2) (u1.free hl) upd_same (fun v hv => ?_) (Nat.le_refl 1) (show 1 ≤ 24 by decide)
    rw [List.mem_singleton.mp hv]
    exact (Rw33.mk [] (x := x) (H := upd H p (.tup [.str x])) upd_same (by decide)).to (Kp.of u2)
  refine ⟨_, (pss_one (ps_ret (pe_ifExp (pt_cmpR op_ge (pv 0) pe_int (nomark _)) (pe_lst (pa_cons (pe_tup (pa_cons pe_str pa_nil)) pa_nil)) (pe_lst (pa_cons (pe_tup (pa_cons pe_str pa_nil)) pa_nil))))), ?_⟩
  refine ⟨_, rfl, _, _, rfl, rfl, _, rfl, ?_⟩
  refine ite2 (fun c => ?_) (fun c => ?_)
  · exact ⟨(by show 1 ≤ sizeLine; decide), fun p hp => ⟨(by show 1 ≤ sizeLine; decide), fun l hl => fin _ p hp l hl⟩⟩
  · exact ⟨(by show 1 ≤ sizeLine; decide), fun p hp => ⟨(by show 1 ≤ sizeLine; decide), fun l hl => fin _ p hp l hl⟩⟩
/-- rows and places on the way -/
structure Wh33 (H H' : Hp) (r p : Addr) (us : List V) (ns : List Int) : Prop where
  sm : Same H H'
  rp : r ≠ p
  er : H' r = some (.lst us)
  ep : H' p = some (.lst (ns.map V.int))
  al : Rws33 H' us
  pos : 1 ≤ ns.length
  few : us.length + ns.length * (ns.length - 1) ≤ 24
  n5 : ns.length ≤ 5
  u1 : 1 ≤ us.length
theorem ok_straight33 (T : TopDef K mg "straight_rows" s_straight_rows) (Z_abs : mg "abs" = none) (Z_len : mg "len" = none) (Z_range : mg "range" = none) {tm : Tok} (M_STEEPEST_straights : mg "STEEPEST_straights" = some (.int 12 tm)) (D_flat_rows : Def P w K mg base 1 "flat_rows" ["height"] spFlat33) (D_put_steeper : Def P w K mg base 1 "put_steeper" ["rows", "places", "letter"] spSteep33) : Def P w K mg base 2 "straight_rows" ["slope", "height"] spStraight33 := by
  refine def_of T sc_straight_rows (fun _ _ _ _ _ _ us hl => match us, hl with | [_, _], _ => rfl) (fun vs H Q E h => ?_) (fun f cdv A outer s H vs Q E hr h => ?_)
  · obtain ⟨sl, h, rfl, _⟩ := h
    rfl
  obtain ⟨sl, h, rfl, sl4, q⟩ := h
  have nd := sc_straight_rows.nd
  have sz : ∀ n : Nat, n ≤ 100 → n ≤ sizeLine := fun n h => Nat.le_trans h (by decide)
  have t5 : ∃ t, Hold (cxOf CX0 P w K mg base n_straight_rows "straight_rows" (defScope s_straight_rows) f cdv A outer s H E).nox ((defBody s_straight_rows).drop 5) t ∧ ∀ (r : Addr) (us : List V) (b : Int) (o4 o5 : Option V) (H1 : Hp), Same H H1 → H r = none → H1 r = some (.lst us) → Rws33 H1 us → 1 ≤ us.length → us.length ≤ 4 →
      t { nx := fun _ H' => Q .non H', rt := Q } [some (.int sl), some (.int h), some (.ref r), some (.int b), o4, o5] H1 := by
    refine ⟨_, ⟨(pss_cons (ps_set (i := 4) nd rfl (Or.inl rfl) (pe_op op_sub (pe_callB call_len rfl Z_len (by decide +kernel) (pa_cons (pv 2) pa_nil)) pe_int))
    (pss_cons (ps_setF (i := 5) nd rfl (Or.inl rfl) (Or.inl rfl) rfl rfl (pi_range1 rfl Z_range (pa_cons (pe_op op_add (pe_callB call_abs rfl Z_abs (by decide +kernel) (pa_cons (pv 0) pa_nil)) pe_int) pa_nil)) rfl (by decide +kernel) (by decide +kernel) rfl (show ∀ p ∈ Scope.names _, p.2 = NameKind.free → List.lookup p.1 (defScope s_straight_rows).names = some .cell ∨ List.lookup p.1 (defScope s_straight_rows).names = some .free by decide +kernel) (fa_cons (j := 3) rfl (Or.inl rfl) (by decide +kernel) (Or.inl rfl) fa_nil) (show (["k", "lowest"] : List Str).Nodup by decide +kernel) (fun _ _ _ _ => pif_nil) (fun _ _ _ _ => (pe_ifExp (pt_cmpR op_ge (pe_op op_add (pv 1) (pv 0)) pe_int (nomark _)) pe_int pe_int)))
    (pss_cons (ps_while PassesOwn.never (pt_cmpR op_gt (pe_callB call_len rfl Z_len (by decide +kernel) (pa_cons (pv 5) pa_nil)) pe_int (nomark _)) (pss_one (ps_set (i := 5) nd rfl (Or.inl rfl) (pe_def D_put_steeper (hr.mono (by decide)) rfl (pa_cons (pv 2) (pa_cons (pv 5) (pa_cons (pv 4) pa_nil)))))))
    (pss_one (ps_ret (pv 2))))))⟩, ?_⟩
    intro r us b o4 o5 H1 s1 hr0 er al l1 l4
    refine ⟨_, rfl, _, _, rfl, .inl ⟨_, SqL.of er, rfl⟩, _, _, rfl, rfl, ?_⟩
    dsimp only [gName, tSeq, tAsgC, List.set]
    have en : ((if sl < 0 then -sl else sl) + 1).toNat = sl.natAbs + 1 := by by_cases c : sl < 0 <;> simp only [c, if_true, if_false] <;> omega
    have em : (if sl < 0 then -sl else sl) ≤ 4 := by by_cases c : sl < 0 <;> simp only [c, if_true, if_false] <;> omega
    refine comp_rangeM (lo := 0) (n := ((if sl < 0 then -sl else sl) + 1).toNat) (fun _ v i => v = V.int (if 1 ≤ b + (i : Int) then 1 else 0)) (fun _ _ _ _ _ _ _ h => h) (fun H' => H' = H1) (fun R h => ⟨_, rfl, _, rfl, _, _, rfl, rfl, _, rfl, by omega, by omega, h _ rfl⟩) (fun H' h => by rw [h]; exact Same.refl _) (by omega) (fun i H' N hi s' hN => ?_) (fun D ys H' s' hD eD al' => ?_)
    · have e0 : (0 : Int) + (i : Int) = (i : Int) := by omega
      rw [e0]
      refine ⟨_, rfl, _, rfl, _, _, rfl, rfl, _, _, rfl, rfl, _, rfl, ite2 (fun c => ?_) (fun c => ?_)⟩
      · have c := of_decide_eq_true c
        refine hN _ _ (Same.refl _) (fun a z => by cases z) ?_
        rw [if_pos c]
      · have c : ¬ 1 ≤ b + (i : Int) := fun z => c (decide_eq_true z)
        refine hN _ _ (Same.refl _) (fun a z => by cases z) ?_
        rw [if_neg c]
    · rw [en] at al'
      have ey : ∃ ns : List Int, ys = ns.map V.int ∧ ns.length = sl.natAbs + 1 := by
        have lr := al'.len
        rw [List.length_range] at lr
        clear eD hD
        refine ⟨ys.map fun v => match v with | .int i => i | _ => 0, ?_, by rw [List.length_map, lr]⟩
        rw [List.map_map]
        refine (List.map_id ys).symm.trans (List.map_congr_left fun v hv => ?_)
        obtain ⟨j, hj, ej⟩ := List.getElem_of_mem hv
        obtain ⟨t, _, e⟩ := al'.get j v (by rw [List.getElem?_eq_getElem hj, ej])
        rw [e]
        rfl
      obtain ⟨ns, rfl, lns⟩ := ey
      have ryD : r ≠ D := fun z => by rw [← z, er] at hD; cases hD
      refine ⟨fun m σ H2 => ∃ (p : Addr) (us2 : List V) (ns : List Int), σ = [some (.int sl), some (.int h), some (.ref r), some (.int b), some (.int ((us.length : Int) - 1)), some (.ref p)] ∧ m = ns.length ∧ Wh33 H H2 r p us2 ns, ⟨_, D, us, ns, rfl, rfl, ?_⟩, ?_⟩
      · refine ⟨s1.trans s', ryD, s' _ _ er, eD, al.to (Kp.of s'), by omega, ?_, by omega, l1⟩
        have : ns.length * (ns.length - 1) ≤ 5 * 4 := Nat.mul_le_mul (by omega) (by omega)
        omega
      · rintro m σ H2 ⟨p, us2, ns, rfl, rfl, W⟩
        have ln : (ns.map V.int).length = ns.length := List.length_map _
        refine ⟨_, rfl, _, _, rfl, .inl ⟨_, SqL.of W.ep, rfl⟩, _, _, rfl, rfl, _, rfl, ite2 (fun c => ?_) (fun c => ?_)⟩
        · have c := of_decide_eq_true c
          have few := W.few
          have n5 := W.n5
          have n2 : 2 ≤ ns.length := by omega
          refine ⟨_, fun σ' H' z => z, ?_⟩
          refine ⟨_, rfl, _, rfl, _, rfl, r, p, us2, ns, _, rfl, W.rp, W.er, W.al, W.ep, W.pos, by omega, by omega, fun l ms us' H' hl lm S => ?_⟩
          refine ⟨ms.length, by omega, l, us', ms, rfl, rfl, ?_⟩
          have lu := S.lu
          refine ⟨fun c o hc => S.sb c o (W.sm c o hc) (fun z => (by cases z; rw [hr0] at hc; cases hc)), (fun z => (by rw [← z, W.er] at hl; cases hl)), S.hr, S.hs, S.al, by omega, ?_, by omega, by have := W.u1; omega⟩
          obtain ⟨e, he⟩ : ∃ e, ms.length = e + 1 := ⟨ms.length - 1, by omega⟩
          have he2 : ns.length = e + 2 := by omega
          rw [he2] at few
          rw [he]
          rw [he] at lu
          have h1 : (e + 2) * (e + 2 - 1) = (e + 1) * (e + 1 - 1) + 2 * (e + 1) := by
            show (e + 2) * (e + 1) = (e + 1) * e + 2 * (e + 1)
            rw [Nat.add_mul, Nat.mul_comm e (e + 1)]
          omega
        · exact ⟨_, rfl, q r us2 H2 W.sm hr0 W.er W.al W.u1 (Nat.le_trans (Nat.le_add_right _ _) W.few)⟩
  obtain ⟨t5, ht5, k5⟩ := t5
  refine ⟨_, pss_cons (ps_if (pt_cmpR op_gt (pe_callB call_abs rfl Z_abs (by decide +kernel) (pa_cons (pv 0) pa_nil)) (pe_glob (v := V.int 12) rfl M_STEEPEST_straights ⟨_, rfl⟩) (nomark _)) (pss_one ps_dead) pss_nil) (pss_cons (ps_if (pt_cmpR op_eq (pv 0) pe_int (nomark _)) (pss_one (ps_ret (pe_def D_flat_rows (hr.mono (by decide)) rfl (pa_cons (pv 1) pa_nil)))) pss_nil) (pss_cons (ps_set (i := 2) nd rfl (Or.inl rfl) (pe_lst (pa_cons (pe_tup (pa_cons pe_str pa_nil)) (pa_cons (pe_tup (pa_cons pe_str pa_nil)) (pa_cons (pe_tup (pa_cons pe_str pa_nil)) pa_nil))))) (pss_cons (ps_set (i := 3) nd rfl (Or.inr rfl) (pv 1)) (pss_consH (ps_if (pt_cmpR op_lt (pv 0) pe_int (nomark _)) (pss_cons (ps_expr (pe_bm PySem.F.plainAttrs_list PySem.F.slot_list_append PySem.F.type_list_append mt_append (pv 2) (pa_cons (pe_tup (pa_cons pe_str (pa_cons pe_int pa_nil))) pa_nil)))
    (pss_one (ps_set (i := 3) nd rfl (Or.inr rfl) (pe_op op_add (pv 1) (pv 0))))) pss_nil) ht5)))), ?_⟩
  refine ⟨_, rfl, _, rfl, _, _, rfl, rfl, _, rfl, ite2 (fun c => ?_) (fun _ => ?_)⟩
  · exfalso
    have c := of_decide_eq_true c
    by_cases n : sl < 0
    · rw [if_pos n] at c; omega
    · rw [if_neg n] at c; omega
  refine ⟨_, rfl, rfl, _, rfl, ite2 (fun c => ?_) (fun c => ?_)⟩
  · exact ⟨_, rfl, h, rfl, fun l us H' a1 a2 a3 a4 a5 a6 => q l us H' a1 a2 a3 a4 a5 a6⟩
  refine ⟨sz 1 (by decide), fun p1 hp1 => ⟨sz 1 (by decide), fun p2 hp2 => ⟨sz 1 (by decide), fun p3 hp3 => ⟨sz 3 (by decide), fun l hl => ?_⟩⟩⟩⟩
  have u1 := same_new hp1 (.tup [V.str "never"])
  have u2 := same_new hp2 (.tup [V.str "always"])
  have u3 := same_new hp3 (.tup [V.str "p"])
  have u4 := same_new hl (.lst [V.ref p1, V.ref p2, V.ref p3])
  have g1 := Rw33.mk (x := "never") [] (((u2.trans u3).trans u4) _ _ upd_same) (by decide)
  have g2 := Rw33.mk (x := "always") [] ((u3.trans u4) _ _ upd_same) (by decide)
  have g3 := Rw33.mk (x := "p") [] (u4 _ _ upd_same) (by decide)
  have s4 := ((u1.trans u2).trans u3).trans u4
  have fl : H l = none := ((u1.trans u2).trans u3).free hl
  have el : upd (upd (upd (upd H p1 (.tup [V.str "never"])) p2 (.tup [V.str "always"])) p3 (.tup [V.str "p"])) l (.lst [V.ref p1, V.ref p2, V.ref p3]) l = some (.lst [V.ref p1, V.ref p2, V.ref p3]) := upd_same
  generalize upd (upd (upd (upd H p1 (.tup [V.str "never"])) p2 (.tup [V.str "always"])) p3 (.tup [V.str "p"])) l (.lst [V.ref p1, V.ref p2, V.ref p3]) = H4 at g1 g2 g3 s4 el ⊢
  have g : Rws33 H4 [V.ref p1, V.ref p2, V.ref p3] := fun v hv => by
    rcases List.mem_cons.mp hv with rfl | hv
    · exact g1
    rcases List.mem_cons.mp hv with rfl | hv
    · exact g2
    rw [List.mem_singleton.mp hv]
    exact g3
  refine ⟨_, rfl, _, rfl, _, _, rfl, rfl, _, rfl, ite2 (fun c => ?_) (fun c => ?_)⟩
  · refine ⟨_, rfl, .inl ⟨rfl, _, SqL.of el⟩, sz 2 (by decide), fun t ht => ?_⟩
    have u5 := same_new ht (.tup [V.str "not", V.int 2])
    refine ⟨l, _, _, rfl, rfl, u5 _ _ el, small1000 (by simp), ?_⟩
    have k5' : Kp (upd H4 t (.tup [V.str "not", V.int 2])) (upd (upd H4 t (.tup [V.str "not", V.int 2])) l (.lst ([V.ref p1, V.ref p2, V.ref p3] ++ [V.ref t]))) := kp_mut (u5 _ _ el) rfl
    refine ⟨_, rfl, _, rfl, _, _, rfl, rfl, ?_⟩
    exact k5 l _ _ _ _ _ (same_mut (s4.trans u5) fl _) fl upd_same ((Rws33.snoc (g.to (Kp.of u5)) (Rw33.mk (x := "not") [2] upd_same (by decide))).to k5') (by simp) (by simp)
  · exact k5 l _ _ _ _ _ s4 fl el g (by simp) (by simp)
end
end Mine




set_option Elab.async false
set_option linter.all false
set_option maxRecDepth 100000
set_option maxHeartbeats 4000000
namespace Mine
open PySem L2
def mvArg33 (s : Stmt) : Expr := match s with
  | .Return (some (.BinOp _ _ (.Call _ [e] _ _) _)) _ => e
  | _ => .Constant .none 0 ⟨0, 0, 0, 0⟩
def spMoved33 : Sp := fun vs H Q _ => ∃ (v : V) (b : Int), vs = [v, .int b] ∧ Rw33 H v ∧ ∀ a H', Same H H' → H a = none → Rw33 H' (.ref a) → Q (.ref a) H'
theorem all2_unit {R : V → Prop} {us : List V} (h : ∀ v ∈ us, R v) : All2 (fun v (_ : Unit) => R v) us (us.map fun _ => ()) := by
  induction us with
  | nil => exact .nil
  | cons u r ih => exact .cons (h u List.mem_cons_self) (ih fun v hv => h v (List.mem_cons_of_mem _ hv))
section
variable {P : Program} {w : World} {K : PySem.W.Frag} {mg : Str → Option Value} {base : Heap}
theorem ok_moved33 (T : TopDef K mg "moved" s_moved) (Z_tuple : mg "tuple" = none) : Def P w K mg base 1 "moved" ["row", "by"] spMoved33 := by
  refine def_of T sc_moved (fun _ _ _ _ _ _ us hl => match us, hl with | [_, _], _ => rfl) (fun vs H Q E h => ?_) (fun f cdv A outer s H vs Q E hr h => ?_)
  · obtain ⟨v, b, rfl, _⟩ := h
    rfl
  obtain ⟨v, b, rfl, gv, q⟩ := h
  have nd := sc_moved.nd
  have cm : ∃ te, PE (cxOf CX0 P w K mg base n_moved "moved" (defScope s_moved) f cdv A outer s H E).nox (mvArg33 ((defBody s_moved).getD 0 (.Pass ⟨0, 0, 0, 0⟩))) te ∧ ∀ (Q' : VK) (p : Addr) (x : Str) (is : List Int) (H3 : Hp), H3 p = some (.tup (.str x :: is.map V.int)) → is.length ≤ 2 →
      (∀ D H4, Same H3 H4 → H4 D = some (.lst (is.map fun i => .int (i + b))) → Q' (.ref D) H4) → te [some (.ref p), some (.int b)] H3 Q' := by
    refine ⟨_, (pe_compF rfl (pi_tup (pe_slice sl_tupA (pv 0) (po_some pe_int) po_none)) rfl (by decide +kernel) (by decide +kernel) rfl (show ∀ p ∈ Scope.names _, p.2 = NameKind.free → List.lookup p.1 (defScope s_moved).names = some .cell ∨ List.lookup p.1 (defScope s_moved).names = some .free by decide +kernel) (fa_cons (j := 1) rfl (Or.inl rfl) (by decide +kernel) (Or.inl rfl) fa_nil) (show (["place", "by"] : List Str).Nodup by decide +kernel) (fun _ _ _ _ => pif_nil) (fun _ _ _ _ => (pe_op op_add (pv 0) (pv 1)))), ?_⟩
    intro Q' p x is H3 e3 hl fin
    refine comp_from ?_
    refine ⟨_, rfl, _, rfl, ?_⟩
    dsimp only [tNoPart]
    refine sl1 (K := K) e3 fun p1 hp1 => ?_
    refine ⟨p1, rfl, ⟨_, SqT.of upd_same⟩, ?_⟩
    have sp := same_new hp1 (.tup (is.map V.int))
    refine comp_mapT (K := K) (ts := is) (R := fun _ v i => v = V.int i) (xs := is.map V.int) (fun i => .int (i + b)) (fun _ _ v t _ h => h) (fun l H' => l = p1 ∧ H' = upd H3 p1 (.tup (is.map V.int))) (fun R h => h p1 _ ⟨rfl, rfl⟩) (fun l H' h => by obtain ⟨rfl, rfl⟩ := h; exact ⟨upd_same, Same.refl _⟩) (by rw [List.length_map]; omega)
      ?_ (fun v i H' N _ hv hN => ?_) (fun D H4 s4 hD eD => fin D H4 (sp.trans s4) eD)
    · clear hl sp hp1 e3 fin
      induction is with
      | nil => exact .nil
      | cons i r ih => exact .cons rfl ih
    · subst hv
      exact ⟨_, rfl, _, rfl, _, _, rfl, rfl, hN _ (Same.refl _)⟩
  obtain ⟨tC, htC, hqC⟩ := cm
  obtain ⟨r, x, is, rfl, e, gl⟩ := gv
  refine ⟨_, (pss_one (ps_ret (pe_op op_catT (pe_tup (pa_cons (pe_ix ix_tup (pv 0) pe_int (fun _ _ => rfl)) pa_nil)) (pe_callTy call_tuple_of rfl Z_tuple (by decide +kernel) (pa_cons htC pa_nil))))), ?_⟩
  refine ⟨_, rfl, _, _, _, _, rfl, rfl, SqT.of e, at_of (by decide) rfl, (by show 1 ≤ sizeLine; decide), fun p1 hp1 => ?_⟩
  have u1 := same_new hp1 (.tup [V.str x])
  refine hqC _ r x is _ (u1 _ _ e) gl fun D H2 s2 eD => ?_
  refine ⟨D, _, rfl, .inl ⟨SqL.of eD, fun p2 hp2 => ?_⟩⟩
  have u3 := same_new hp2 (.tup (is.map fun i => V.int (i + b)))
  have e1 := u3 _ _ (s2 _ _ (show upd H p1 (.tup [V.str x]) p1 = _ from upd_same))
  have sA := (u1.trans s2).trans u3
  refine ⟨p1, p2, [V.str x], _, rfl, rfl, SqT.of e1, SqT.of upd_same, by simp, (by simp only [List.length_cons, List.length_nil, List.length_map]; exact Nat.le_trans (show _ ≤ 3 by omega) (by decide)), fun z => ?_, fun z p3 hp3 => ?_⟩
  · exact q p1 _ sA hp1 (Rw33.mk [] e1 (Nat.zero_le _))
  · have u4 := same_new hp3 (.tup ([V.str x] ++ is.map fun i => V.int (i + b)))
    refine q p3 _ (sA.trans u4) (sA.free hp3) (Rw33.mk (x := x) (is.map (· + b)) ?_ (by rw [List.length_map]; exact gl))
    rw [upd_same, List.map_map]
    rfl
end
/-- rules put so far -/
structure Ps33 (H H' : Hp) (r d : Addr) (L : List St4) (i : Nat) (kvs : List (List Key × V)) (us : List V) : Prop where
  sb : ∀ c o, H c = some o → c ≠ r → H' c = some o
  fd : H d = none
  er : H' r = some (.lst us)
  ed : H' d = some (.dT kvs)
  lk : kvs.length ≤ i
  lu : us.length ≤ 24 * kvs.length
  ks : ∀ (j : Nat) (k : List Key) (v : V), kvs[j]? = some (k, v) → ∃ (s : St4) (pl : Int), s ∈ L ∧ k = [.inl s.m, .inl s.h] ∧ v = .int pl
  own : ∀ (j : Nat) (k : List Key) (v : V), kvs[j]? = some (k, v) → valV kvs k = some v
  has : ∀ (j : Nat) (s : St4), j < i → L[j]? = some s → ∃ v, valV kvs [.inl s.m, .inl s.h] = some v
def psArg33 (s : Stmt) : Expr := match s with
  | .For _ _ b _ _ => match b.getD 1 (.Pass ⟨0, 0, 0, 0⟩) with
    | .If _ c _ _ => match c.getD 1 (.Pass ⟨0, 0, 0, 0⟩) with
      | .Expr (.Call _ [e] _ _) _ => e
      | _ => .Constant .none 0 ⟨0, 0, 0, 0⟩
    | _ => .Constant .none 0 ⟨0, 0, 0, 0⟩
  | _ => .Constant .none 0 ⟨0, 0, 0, 0⟩
abbrev kR33 (s : St4) : List Key := [.inl s.m, .inl s.h]
theorem put_new {kvs : List (List Key × V)} {k : List Key} {v : V} (h : valV kvs k = none) : putK kvs k v = kvs ++ [(k, v)] := by
  unfold putK
  rw [valV_any, h]
  rfl
theorem sl1Q {K : PySem.W.Frag} {H : Hp} {a : Addr} {x : V} {us : List V} {Q : VK} (e : SqT K H a (x :: us)) (h : ∀ p, H p = none → Q (.ref p) (upd H p (.tup us))) : rSlA K (.ref a) (some 1) none H Q := by
  refine ⟨a, _, rfl, e, fun z => ?_, fun _ p => ?_⟩
  · have hix0 : _root_.HT.sIx (x :: us).length 0 (some 1) = 1 := by
      rw [show (some (1 : Int)) = some ((1 : Nat) : Int) from rfl, _root_.HT.sIx_nat, List.length_cons]; omega
    exact absurd (hix0.symm.trans z) (by decide)
  · intro hp'
    rw [cutS]
    exact h _ hp'
theorem noPart33 {σ : St} {H : Hp} {Q : Option Int → Hp → Prop} (h : Q none H) : tNoPart σ H Q := h
def spPut33 (K : PySem.W.Frag) : Sp := fun vs H Q _ => ∃ (r : Addr) (x : V) (L : List St4), vs = [.ref r, x] ∧ H r = some (.lst []) ∧ Dat K H (lnD L) x ∧ L.length ≤ 6 ∧ (∀ s ∈ L, s.m.natAbs ≤ 4) ∧ ∀ (d : Addr) (kvs : List (List Key × V)) (us : List V) (H' : Hp), Ps33 H H' r d L L.length kvs us → Q (.ref d) H'
section
variable {P : Program} {w : World} {K : PySem.W.Frag} {mg : Str → Option Value} {base : Heap}
theorem ok_put33 (T : TopDef K mg "put_straights" s_put_straights) (Z_len : mg "len" = none) (D_straight_rows : Def P w K mg base 2 "straight_rows" ["slope", "height"] spStraight33) (D_moved : Def P w K mg base 1 "moved" ["row", "by"] spMoved33) : Def P w K mg base 3 "put_straights" ["rows", "line"] (spPut33 K) := by
  refine def_of T sc_put_straights (fun _ _ _ _ _ _ us hl => match us, hl with | [_, _], _ => rfl) (fun vs H Q E h => ?_) (fun f cdv A outer s H vs Q E hr h => ?_)
  · obtain ⟨r, x, L, rfl, _⟩ := h
    rfl
  obtain ⟨r, x, L, rfl, er0, dx, few, mild, q⟩ := h
  have nd := sc_put_straights.nd
  have hu := hu_of hr
  obtain ⟨la, xs, rfl, sa, da⟩ := ln_el dx
  have lx := ln_len da
  have cm : ∃ te, PE (cxOf CX0 P w K mg base n_put_straights "put_straights" (defScope s_put_straights) f cdv A outer s H E).nox (psArg33 ((defBody s_put_straights).getD 1 (.Pass ⟨0, 0, 0, 0⟩))) te ∧ ∀ (Q' : VK) (o0 o1 o2 o3 : Option V) (p : Addr) (m h b : Int) (H3 : Hp), H3 p = some (.tup [.int m, .int h]) → m.natAbs ≤ 4 →
      (∀ (D : Addr) (ys : List V) (H4 : Hp), Same H3 H4 → H3 D = none → H4 D = some (.lst ys) → ys.length ≤ 24 → Q' (.ref D) H4) → te [o0, o1, o2, o3, some (.ref p), some (.int b)] H3 Q' := by
    refine ⟨_, (pe_compF rfl (pi_list (pe_def D_straight_rows (hr.mono (by decide)) rfl (pa_cons (pe_ix ix_tup (pv 4) pe_int (fun _ _ => rfl)) (pa_cons (pe_ix ix_tup (pv 4) pe_int (fun _ _ => rfl)) pa_nil)))) rfl (by decide +kernel) (by decide +kernel) rfl (show ∀ p ∈ Scope.names _, p.2 = NameKind.free → List.lookup p.1 (defScope s_put_straights).names = some .cell ∨ List.lookup p.1 (defScope s_put_straights).names = some .free by decide +kernel) (fa_cons (j := 5) rfl (Or.inl rfl) (by decide +kernel) (Or.inl rfl) fa_nil) (show (["row", "by"] : List Str).Nodup by decide +kernel) (fun _ _ _ _ => pif_nil) (fun _ _ _ _ => (pe_def D_moved (hr.mono (by decide)) rfl (pa_cons (pv 0) (pa_cons (pv 1) pa_nil))))), ?_⟩
    intro Q' o0 o1 o2 o3 p m h b H3 e3 m4 fin
    refine comp_from ?_
    refine ⟨_, rfl, _, _, _, _, rfl, rfl, SqT.of e3, rfl, _, rfl, _, _, _, _, rfl, rfl, SqT.of e3, rfl, m, h, rfl, m4, fun l us H1 Rs Rf Re Ra R1 R24 => ?_⟩
    refine ⟨l, rfl, ⟨us, SqL.of Re⟩, ?_⟩
    refine comp_listM (K := K) (R0 := fun H' v (_ : Unit) => Rw33 H' v) (R := fun H' v (_ : Unit) => True) (xs := us) (ts := us.map fun _ => ()) (fun _ _ v t s h => Rw33.to (Kp.of s) h) (fun D _ _ v t sb nv h => trivial) (fun l' H' => l' = l ∧ H' = H1) (fun R h => h l _ ⟨rfl, rfl⟩) (fun l' H' h => by obtain ⟨rfl, rfl⟩ := h; exact ⟨Re, Same.refl _⟩) (by omega) (all2_unit Ra) (fun v t H' N _ s' gv hN => ?_) (fun D ys H4 s4 hD eD al => ?_)
    · exact ⟨_, rfl, _, rfl, v, b, rfl, gv, fun a H'' s2 fa gv2 => hN (.ref a) H'' s2 (fun a' z => by cases z; exact fa) trivial⟩
    · refine fin D ys H4 (Rs.trans s4) (Rs.free hD) eD (by rw [al.len, List.length_map]; exact R24)
  obtain ⟨tC, htC, hqC⟩ := cm
  refine ⟨_, (pss_cons (ps_set (i := 2) nd rfl (Or.inl rfl) pe_dnewT)
    (pss_cons (ps_for PassesOwn.never rfl (pi_tup (pv 1)) (pg_name (i := 3) nd rfl (Or.inl rfl)) (pss_cons (ps_set (i := 4) nd rfl (Or.inl rfl) (pe_slice sl_tupA (pv 3) (po_some pe_int) po_none))
    (pss_one (ps_if (pt_cmp (pc_dnotin hu (pv 4) (pv 2))) (pss_cons (ps_set (i := 5) nd rfl (Or.inr rfl) (pe_callB call_len rfl Z_len (by decide +kernel) (pa_cons (pv 0) pa_nil)))
    (pss_cons (ps_expr (pe_bm PySem.F.plainAttrs_list PySem.F.slot_list_extend PySem.F.type_list_extend mt_extend (pv 0) (pa_cons htC pa_nil)))
    (pss_one (ps_dput hu (pv 2) (pv 4) (pe_op op_sub (pe_callB call_len rfl Z_len (by decide +kernel) (pa_cons (pv 0) pa_nil)) pe_int) rfl)))) pss_nil))))
    (pss_one (ps_ret (pv 2))))), ?_⟩
  intro d hd
  have ud := same_new hd (.dT [])
  have ndr : d ≠ r := fun z => by rw [z, er0] at hd; cases hd
  have tst : ∀ {H' : Hp}, (∀ c o, H c = some o → c ≠ r → H' c = some o) → Tst H H' := fun sb => ⟨fun a ys e => sb a _ e (fun z => by rw [z, er0] at e; cases e), fun a o u e => sb a _ e (fun z => by rw [z, er0] at e; cases e)⟩
  refine ⟨_, rfl, la, rfl, ⟨xs, sa.ts ud.ts⟩, ?_⟩
  refine for_tup (xs := xs) (fun i σ H' => ∃ (o3 o4 o5 : Option V) (kvs : List (List Key × V)) (us : List V), σ = [some (.ref r), some (.ref la), some (.ref d), o3, o4, o5] ∧ Ps33 H H' r d L i kvs us)
    ⟨_, _, _, [], [], rfl, ⟨fun c o h _ => ud _ _ h, hd, ud _ _ er0, upd_same, Nat.le_refl _, Nat.le_refl _, (fun _ _ _ h => by simp at h), (fun _ _ _ h => by simp at h), (fun _ _ h => by omega)⟩⟩ (fun i σ H' _ z => ?_) (fun i x σ H' hx z => ?_) (fun σ H' z => ?_)
  · obtain ⟨_, _, _, _, _, _, S⟩ := z
    exact sa.ts (tst S.sb)
  · obtain ⟨o3, o4, o5, kvs, us, rfl, S⟩ := z
    obtain ⟨st, hst, dst⟩ := ln_at' (da.ts (tst S.sb)) hx
    obtain ⟨c, e, rfl, q1, d1⟩ := st_el dst
    have hi : i < L.length := (List.getElem?_eq_some_iff.mp hst).1
    have mem := List.mem_of_getElem? hst
    have lk := S.lk
    have lu := S.lu
    refine ⟨_, rfl, _, rfl, ?_⟩
    refine noPart33 ?_
    refine sl1Q (K := K) q1 fun p1 hp1 => ?_
    have u1 := same_new hp1 (.tup [.int st.m, .int st.h])
    have ep1 : upd H' p1 (.tup [.int st.m, .int st.h]) p1 = some (.tup ((kR33 st).map kV)) := upd_same
    have sb1 : ∀ c o, H c = some o → c ≠ r → upd H' p1 (.tup [.int st.m, .int st.h]) c = some o := fun c o h1 h2 => u1 _ _ (S.sb c o h1 h2)
    have er1 := u1 _ _ S.er
    have ed1 := u1 _ _ S.ed
    generalize upd H' p1 (.tup [.int st.m, .int st.h]) = H1 at ep1 sb1 er1 ed1 ⊢
    refine ⟨_, rfl, _, rfl, d, _, rfl, DGet.t ed1 ep1, _, rfl, ite2 (fun z => ?_) (fun z => ?_)⟩
    · have hn : valV kvs (kR33 st) = none := by
        cases e : valV kvs (kR33 st) with
        | none => rfl
        | some v => rw [e] at z; cases z
      refine ⟨_, rfl, _, _, rfl, .inl ⟨_, SqL.of er1, rfl⟩, ?_⟩
      refine ⟨_, rfl, .inl ⟨rfl, _, SqL.of er1⟩, ?_⟩
      refine hqC _ _ _ _ _ p1 st.m st.h _ H1 ep1 (mild st mem) fun D ys H4 s4 hD eD l24 => ?_
      have er4 := s4 _ _ er1
      have ed4 := s4 _ _ ed1
      refine ⟨r, D, us, ys, rfl, rfl, er4, eD, (Nat.le_trans (show us.length + ys.length ≤ 200 by omega) (by decide)), ?_⟩
      have k5 : Kp H4 (upd H4 r (.lst (us ++ ys))) := kp_mut er4 rfl
      have er5 : upd H4 r (.lst (us ++ ys)) r = some (.lst (us ++ ys)) := upd_same
      have ed5 : upd H4 r (.lst (us ++ ys)) d = some (.dT kvs) := by rw [upd_ne ndr]; exact ed4
      have ep5 : upd H4 r (.lst (us ++ ys)) p1 = some (.tup ((kR33 st).map kV)) := k5 _ _ (s4 _ _ ep1) rfl
      have sb5 : ∀ c o, H c = some o → c ≠ r → upd H4 r (.lst (us ++ ys)) c = some o := fun c o h1 h2 => by rw [upd_ne h2]; exact s4 _ _ (sb1 c o h1 h2)
      generalize upd H4 r (.lst (us ++ ys)) = H5 at er5 ed5 ep5 sb5 ⊢
      refine ⟨_, rfl, _, _, rfl, .inl ⟨_, SqL.of er5, rfl⟩, _, _, rfl, rfl, _, rfl, _, rfl, d, _, rfl, DPut.t ed5 ep5 (Nat.lt_of_le_of_lt (show kvs.length ≤ 100 by omega) (by decide)), ?_⟩
      dsimp only
      generalize ((((us ++ ys).length : Nat) : Int) - 1) = pl
      rw [put_new hn]
      refine ⟨_, _, _, kvs ++ [(kR33 st, .int pl)], us ++ ys, rfl, ⟨fun c o h1 h2 => ?_, S.fd, ?_, upd_same, ?_, ?_, fun j k v hj => ?_, fun j k v hj => ?_, fun j s hj hs => ?_⟩⟩
      · rw [upd_ne (fun z => by rw [z, S.fd] at h1; cases h1)]; exact sb5 c o h1 h2
      · rw [upd_ne (Ne.symm ndr)]; exact er5
      · simp; omega
      · simp; omega
      · rcases Nat.lt_or_ge j kvs.length with z | z
        · rw [List.getElem?_append_left z] at hj
          exact S.ks j k v hj
        · rw [List.getElem?_append_right z] at hj
          have ej : j - kvs.length = 0 := by have := (List.getElem?_eq_some_iff.mp hj).1; simp at this; omega
          rw [ej] at hj
          cases hj
          exact ⟨st, _, mem, rfl, rfl⟩
      · rw [valV_snoc _ _ _ _ hn]
        rcases Nat.lt_or_ge j kvs.length with z | z
        · rw [List.getElem?_append_left z] at hj
          have ow := S.own j k v hj
          rw [if_neg (fun z2 => by rw [z2, hn] at ow; cases ow)]
          exact ow
        · rw [List.getElem?_append_right z] at hj
          have ej : j - kvs.length = 0 := by have := (List.getElem?_eq_some_iff.mp hj).1; simp at this; omega
          rw [ej] at hj
          cases hj
          rw [if_pos rfl]
      · rw [valV_snoc _ _ _ _ hn]
        by_cases c : kR33 s = kR33 st
        · exact ⟨_, by rw [if_pos c]⟩
        · rw [if_neg c]
          rcases Nat.lt_or_ge j i with z | z
          · exact S.has j s z hs
          · have : j = i := by omega
            subst this
            rw [hst] at hs
            cases hs
            exact absurd rfl c
    · have hs' : ∃ v, valV kvs (kR33 st) = some v := by
        cases e : valV kvs (kR33 st) with
        | none => rw [e] at z; exact absurd rfl z
        | some v => exact ⟨v, rfl⟩
      refine ⟨_, _, _, kvs, us, rfl, ⟨sb1, S.fd, er1, ed1, by omega, S.lu, S.ks, S.own, fun j s hj hs => ?_⟩⟩
      rcases Nat.lt_or_ge j i with z | z
      · exact S.has j s z hs
      · have : j = i := by omega
        subst this
        rw [hst] at hs
        cases hs
        exact hs'
  · obtain ⟨o3, o4, o5, kvs, us, rfl, S⟩ := z
    rw [lx] at S
    exact ⟨_, rfl, q d kvs us H' S⟩
end
end Mine





set_option Elab.async false
set_option linter.all false
set_option maxRecDepth 100000
set_option maxHeartbeats 4000000
namespace Mine
open PySem L2
def spFolded33 : Sp := fun vs H Q _ => ∃ (r p : Addr) (x : Str) (us : List V) (ns : List Int), vs = [.ref r, .str x, .ref p] ∧ r ≠ p ∧ H r = some (.lst us) ∧ H p = some (.lst (ns.map V.int)) ∧ 1 ≤ ns.length ∧ ns.length ≤ 10 ∧ us.length ≤ 300 ∧
  ∀ (f : Int) (us' : List V) (H' : Hp), SB (.ref r) H H' → H' r = some (.lst us') → us'.length + 1 = us.length + ns.length → Q (.int f) H'
section
variable {P : Program} {w : World} {K : PySem.W.Frag} {mg : Str → Option Value} {base : Heap}
theorem ok_folded33 (T : TopDef K mg "put_folded" s_put_folded) (Z_len : mg "len" = none) : Def P w K mg base 1 "put_folded" ["rows", "word", "places"] spFolded33 := by
  refine def_of T sc_put_folded (fun _ _ _ _ _ _ us hl => match us, hl with | [_, _, _], _ => rfl) (fun vs H Q E h => ?_) (fun f cdv A outer s H vs Q E hr h => ?_)
  · obtain ⟨r, p, x, us, ns, rfl, _⟩ := h
    rfl
  obtain ⟨r, p, x, us, ns, rfl, nrp, er, ep, n1, n10, few, q⟩ := h
  have nd := sc_put_folded.nd
  obtain ⟨n0, nr, rfl⟩ : ∃ n0 nr, ns = n0 :: nr := by cases ns with | nil => simp at n1 | cons a b => exact ⟨a, b, rfl⟩
  have n9 : nr.length ≤ 9 := by simpa using n10
  refine ⟨_, (pss_cons (ps_set (i := 3) nd rfl (Or.inl rfl) (pe_ix ix_list (pv 2) pe_int (fun _ _ => rfl)))
    (pss_cons (ps_for PassesOwn.never rfl (pi_list (pe_slice sl_list (pv 2) (po_some pe_int) po_none)) (pg_name (i := 4) nd rfl (Or.inl rfl)) (pss_cons (ps_expr (pe_bm PySem.F.plainAttrs_list PySem.F.slot_list_append PySem.F.type_list_append mt_append (pv 0) (pa_cons (pe_tup (pa_cons (pv 1) (pa_cons (pv 3) (pa_cons (pv 4) pa_nil)))) pa_nil)))
    (pss_one (ps_set (i := 3) nd rfl (Or.inl rfl) (pe_op op_sub (pe_callB call_len rfl Z_len (by decide +kernel) (pa_cons (pv 0) pa_nil)) pe_int)))))
    (pss_one (ps_ret (pv 3))))), ?_⟩
  refine ⟨_, rfl, _, _, _, _, rfl, rfl, SqL.of ep, ints_at (i := 0) (by simp), ?_⟩
  refine ⟨_, rfl, _, rfl, p, _, rfl, SqL.of ep, fun p2 hp2 => ?_⟩
  have ec : cutV ((n0 :: nr).map V.int) (some 1) none = nr.map V.int := cutS _ _
  rw [ec]
  have u2 := same_new hp2 (.lst (nr.map V.int))
  have n2r : p2 ≠ r := fun z => by rw [z, er] at hp2; cases hp2
  refine ⟨p2, rfl, ⟨_, SqL.of upd_same⟩, ?_⟩
  refine for_list (xs := nr.map V.int) (fun i σ H' => ∃ (o4 : Option V) (fo : Int) (us' : List V), σ = [some (.ref r), some (.str x), some (.ref p), some (.int fo), o4] ∧ H' p2 = some (.lst (nr.map V.int)) ∧ SB (.ref r) H H' ∧ H' r = some (.lst us') ∧ us'.length = us.length + i)
    ⟨_, _, us, rfl, upd_same, SB.of u2, u2 _ _ er, rfl⟩ (fun i σ H' _ z => ?_) (fun i v σ H' hx z => ?_) (fun σ H' z => ?_)
  · obtain ⟨_, _, _, _, e, _⟩ := z
    exact SqL.of e
  · obtain ⟨o4, fo, us', rfl, e2, sb, er', lu⟩ := z
    rw [List.getElem?_map] at hx
    have hi : i < nr.length := by
      rcases Nat.lt_or_ge i nr.length with z | z
      · exact z
      · rw [List.getElem?_eq_none z] at hx; cases hx
    have hx' : nr[i]? = some nr[i] := List.getElem?_eq_getElem hi
    rw [hx'] at hx
    cases hx
    refine ⟨_, rfl, .inl ⟨rfl, _, SqL.of er'⟩, _, rfl, _, rfl, _, rfl, (by show 3 ≤ sizeLine; decide), fun t ht => ?_⟩
    have u3 := same_new ht (.tup [.str x, .int fo, .int nr[i]])
    refine ⟨r, us', _, rfl, rfl, u3 _ _ er', small1000 (by omega), ?_⟩
    have hr3 : upd (upd H' t (.tup [.str x, .int fo, .int nr[i]])) r (.lst (us' ++ [.ref t])) r = some (.lst (us' ++ [.ref t])) := upd_same
    refine ⟨_, rfl, _, _, rfl, .inl ⟨_, SqL.of hr3, rfl⟩, _, _, rfl, rfl, ?_⟩
    refine ⟨_, _, us' ++ [.ref t], rfl, ?_, (sb.trans (SB.of u3)).trans (sb_upd _ _), hr3, by simp; omega⟩
    rw [upd_ne n2r]; exact u3 _ _ e2
  · obtain ⟨o4, fo, us', rfl, e2, sb, er', lu⟩ := z
    rw [List.length_map] at lu
    exact ⟨_, rfl, q fo us' H' sb er' (by simp; omega)⟩
end
def blw33 (m h : Int) (s : St4) (p q : Int) : Bool := decide ((m - s.m) * p + (h - s.h) * q < 0)
def spBelowAt33 (K : PySem.W.Frag) : Sp := fun vs H Q _ => ∃ (b : Addr) (v x : V) (m h : Int) (s : St4) (p q : Int), vs = [.ref b, v, x] ∧ H b = some (.tup [.int m, .int h]) ∧ Dat K H (stD s) v ∧ Dat K H (frD p q) x ∧ m.natAbs ≤ 1000 ∧ h.natAbs ≤ 1000 ∧ Ok33 s ∧ p.natAbs ≤ 1000 ∧ q.natAbs ≤ 1000 ∧ Q (.bl (blw33 m h s p q)) H
def spBelow33 (K : PySem.W.Frag) : Sp := fun vs H Q _ => ∃ (b : Addr) (v x : V) (m h : Int) (s : St4) (p q : Int), vs = [.ref b, v, x] ∧ H b = some (.tup [.int m, .int h]) ∧ Dat K H (stD s) v ∧ Dat K H (frD p q) x ∧ m.natAbs ≤ 1000 ∧ h.natAbs ≤ 1000 ∧ Ok33 s ∧ p.natAbs ≤ 1000 ∧ q.natAbs ≤ 1000 ∧ Q (.bl (blw33 m h s p q || blw33 m h s s.p s.q)) H
section
variable {P : Program} {w : World} {K : PySem.W.Frag} {mg : Str → Option Value} {base : Heap}
theorem ok_belowAt33 (T : TopDef K mg "is_below_at" s_is_below_at) : Def P w K mg base 1 "is_below_at" ["rule", "stretch", "x"] (spBelowAt33 K) := by
  refine def_of T sc_is_below_at (fun _ _ _ _ _ _ us hl => match us, hl with | [_, _, _], _ => rfl) (fun vs H Q E h => ?_) (fun f cdv A outer s H vs Q E hr h => ?_)
  · obtain ⟨b, v, x, m, h, s, p, q, rfl, _⟩ := h
    rfl
  obtain ⟨b, v, x, m, h, st, p, q, rfl, eb, dv, dx, s1, s2, ok, s7, s8, k⟩ := h
  have nd := sc_is_below_at.nd
  have sb : SqT K H b [.int m, .int h] := SqT.of eb
  obtain ⟨c, e, rfl, sc, _⟩ := st_el dv
  obtain ⟨a, rfl, sa⟩ := fr_el dx
  have m1 : Sm (m - st.m) := sm_of (by have := ok.bm; omega)
  have m2 : Sm (h - st.h) := sm_of (by have := ok.bh; omega)
  have m3 : Sm p := sm_of (by omega)
  have m4 : Sm q := sm_of (by omega)
  refine ⟨_, (pss_one (ps_ret (pe_cmpR op_lt (pe_op op_add (pe_op op_mulK (pe_op op_sub (pe_ix ix_tup (pv 0) pe_int (fun _ _ => rfl)) (pe_ix ix_tup (pv 1) pe_int (fun _ _ => rfl))) (pe_ix ix_tup (pv 2) pe_int (fun _ _ => rfl))) (pe_op op_mulK (pe_op op_sub (pe_ix ix_tup (pv 0) pe_int (fun _ _ => rfl)) (pe_ix ix_tup (pv 1) pe_int (fun _ _ => rfl))) (pe_ix ix_tup (pv 2) pe_int (fun _ _ => rfl)))) pe_int (nomark _)))), ?_⟩
  refine ⟨_, rfl, _, _, _, _, rfl, rfl, sb, rfl, _, rfl, _, _, _, _, rfl, rfl, sc, rfl, _, _, rfl, rfl, _, rfl, _, _, _, _, rfl, rfl, sa, rfl, _, _, rfl, rfl, mulS m1 m3, _, rfl, _, _, _, _, rfl, rfl, sb, rfl, _, rfl, _, _, _, _, rfl, rfl, sc, rfl, _, _, rfl, rfl, _, rfl, _, _, _, _, rfl, rfl, sa, rfl, _, _, rfl, rfl, mulS m2 m4, _, _, rfl, rfl, _, _, rfl, rfl, k⟩
theorem ok_below33 (T : TopDef K mg "is_below" s_is_below) (D_is_below_at : Def P w K mg base 1 "is_below_at" ["rule", "stretch", "x"] (spBelowAt33 K)) : Def P w K mg base 2 "is_below" ["rule", "stretch", "start"] (spBelow33 K) := by
  refine def_of T sc_is_below (fun _ _ _ _ _ _ us hl => match us, hl with | [_, _, _], _ => rfl) (fun vs H Q E h => ?_) (fun f cdv A outer s H vs Q E hr h => ?_)
  · obtain ⟨b, v, x, m, h, s, p, q, rfl, _⟩ := h
    rfl
  obtain ⟨b, v, x, m, h, st, p, q, rfl, eb, dv, dx, s1, s2, ok, s7, s8, k⟩ := h
  have nd := sc_is_below.nd
  obtain ⟨c, e, rfl, sc, de⟩ := st_el dv
  refine ⟨_, (pss_one (ps_ret (pe_or (pe_def D_is_below_at (hr.mono (by decide)) rfl (pa_cons (pv 0) (pa_cons (pv 1) (pa_cons (pv 2) pa_nil)))) (pe_one (pe_def D_is_below_at (hr.mono (by decide)) rfl (pa_cons (pv 0) (pa_cons (pv 1) (pa_cons (pe_ix ix_tup (pv 1) pe_int (fun _ _ => rfl)) pa_nil)))))))), ?_⟩
  refine ⟨_, rfl, _, rfl, _, rfl, b, _, x, m, h, st, p, q, rfl, eb, dv, dx, s1, s2, ok, s7, s8, _, rfl, ?_⟩
  refine ite2 (fun z => ?_) (fun z => ?_)
  · rw [z, Bool.true_or] at k
    exact k
  · rw [Bool.not_eq_true] at z
    rw [z, Bool.false_or] at k
    exact ⟨_, rfl, _, rfl, _, rfl, _, _, _, _, rfl, rfl, sc, rfl, b, _, e, m, h, st, st.p, st.q, rfl, eb, dv, de, s1, s2, ok, ok.bp, ok.bq, k⟩
end
end Mine




set_option Elab.async false
set_option linter.all false
set_option maxRecDepth 100000
set_option maxHeartbeats 4000000
namespace Mine
open PySem L2
def spBack33 (K : PySem.W.Frag) (C : Addr) : Sp := fun vs H Q E => ∃ (x : V) (L : List St4), vs = [x] ∧ Dat K H (lnD L) x ∧ (∀ s ∈ L, Ok33 s) ∧ 1 ≤ L.length ∧ (∀ y, due33 L = some y → EF C E H (xf33 y)) ∧ (due33 L = none → ∀ (l : Addr) (us : List V) (H' : Hp), Same H H' → H' l = some (.lst us) → Q (.ref l) H')
def pK33 (L : List St4) (i : Nat) (st : St4) (kv : List Key × V) : Bool := match kv.1 with
  | [.inl m, .inl h] => !(blw33 m h st (beg33 L i).1 (beg33 L i).2 || blw33 m h st st.p st.q)
  | _ => false
theorem pK33_self {L : List St4} {i : Nat} {st : St4} {v : V} : pK33 L i st (kR33 st, v) = true := by
  show (!(blw33 st.m st.h st (beg33 L i).1 (beg33 L i).2 || blw33 st.m st.h st st.p st.q)) = true
  have e : ∀ p q : Int, blw33 st.m st.h st p q = false := fun p q => by
    unfold blw33
    rw [Int.sub_self, Int.sub_self, Int.zero_mul, Int.zero_mul]
    rfl
  rw [e, e]
  rfl
theorem places33 : ∀ (l : List (List Key × V)), (∀ kv ∈ l, ∃ pl : Int, kv.2 = .int pl) → ∃ ns : List Int, (l.map fun kv => kv.2) = ns.map V.int ∧ ns.length = l.length
  | [], _ => ⟨[], rfl, rfl⟩
  | kv :: l, h => by
    obtain ⟨pl, e⟩ := h kv List.mem_cons_self
    obtain ⟨ns, e1, e2⟩ := places33 l fun y hy => h y (List.mem_cons_of_mem _ hy)
    exact ⟨pl :: ns, by rw [List.map_cons, List.map_cons, e1, e], by simp [e2]⟩
structure Lp33 (H H' : Hp) (r d ll : Addr) (i : Nat) (kvs : List (List Key × V)) (us : List V) (ms : List Int) : Prop where
  sm : Same H H'
  er : H' r = some (.lst us)
  rd : Rd H' d (.dT kvs)
  el : H' ll = some (.lst (ms.map V.int))
  lu : us.length ≤ 24 * 6 + 5 * i
  lm : ms.length = i
set_option maxHeartbeats 20000000
section
variable {P : Program} {w : World} {K : PySem.W.Frag} {mg : Str → Option Value} {base : Heap}
theorem ok_back33 {C : Addr} (T : TopDef K mg "rows_of_line" s_rows_of_line) (TN : TopTup K mg "NOUGHT" [0, 1]) (D_must_lead_back : DefD P w K mg base 6 "must_lead_back" ["line"] (spLead33 K C)) (D_put_straights : Def P w K mg base 3 "put_straights" ["rows", "line"] (spPut33 K)) (D_put_folded : Def P w K mg base 1 "put_folded" ["rows", "word", "places"] spFolded33) (D_is_below : Def P w K mg base 2 "is_below" ["rule", "stretch", "start"] (spBelow33 K)) : DefD P w K mg base 7 "rows_of_line" ["line"] (spBack33 K C) := by
  refine defd_of T sc_rows_of_line (fun _ _ _ _ _ _ us hl => match us, hl with | [_], _ => rfl) (fun vs H Q E h => ?_) (fun f cdv A outer s H vs Q E hr h => ?_)
  · obtain ⟨x, L, rfl, _⟩ := h
    rfl
  obtain ⟨x, L, rfl, dx, ok, l1, kE, q⟩ := h
  have nd := sc_rows_of_line.nd
  have hu := hu_of hr
  obtain ⟨aN, M_NOUGHT, qN⟩ := TN.ex
  obtain ⟨la, xs, rfl, sa, da⟩ := ln_el dx
  have lx := ln_len da
  refine ⟨_, (pss_cons (ps_expr (pe_defP D_must_lead_back (hr.mono (by decide)) rfl (pa_cons (pv 0) pa_nil)))
    (pss_cons (ps_set (i := 1) nd rfl (Or.inl rfl) (pe_lst pa_nil))
    (pss_cons (ps_set (i := 2) nd rfl (Or.inr rfl) (pe_def D_put_straights (hr.mono (by decide)) rfl (pa_cons (pv 1) (pa_cons (pv 0) pa_nil))))
    (pss_cons (ps_set (i := 3) nd rfl (Or.inl rfl) (pe_lst pa_nil))
    (pss_cons (ps_set (i := 4) nd rfl (Or.inr rfl) (pe_glob (v := V.ref aN) rfl M_NOUGHT rfl))
    (pss_cons (ps_for PassesOwn.leaving rfl (pi_tup (pv 0)) (pg_name (i := 5) nd rfl (Or.inr rfl)) (pss_cons (ps_setF (i := 6) nd rfl (Or.inl rfl) (Or.inl rfl) rfl rfl (pi_dict (pv 2)) rfl (by decide +kernel) (by decide +kernel) rfl (show ∀ p ∈ Scope.names _, p.2 = NameKind.free → List.lookup p.1 (defScope s_rows_of_line).names = some .cell ∨ List.lookup p.1 (defScope s_rows_of_line).names = some .free by decide +kernel) (fa_cons (j := 2) rfl (Or.inl rfl) (by decide +kernel) (Or.inl rfl) (fa_cons (j := 5) rfl (Or.inl rfl) (by decide +kernel) (Or.inl rfl) (fa_cons (j := 4) rfl (Or.inl rfl) (by decide +kernel) (Or.inl rfl) fa_nil))) (show (["rule", "place_of", "stretch", "start"] : List Str).Nodup by decide +kernel) (fun _ _ _ _ => (pif_one (pt_not (pt_val (pe_def D_is_below (hr.mono (by decide)) rfl (pa_cons (pv 0) (pa_cons (pv 2) (pa_cons (pv 3) pa_nil)))))))) (fun _ _ _ _ => (pe_dget hu (pv 1) (pv 0) (fun _ _ => rfl))))
    (pss_cons (ps_expr (pe_bm PySem.F.plainAttrs_list PySem.F.slot_list_append PySem.F.type_list_append mt_append (pv 3) (pa_cons (pe_def D_put_folded (hr.mono (by decide)) rfl (pa_cons (pv 1) (pa_cons pe_str (pa_cons (pv 6) pa_nil)))) pa_nil)))
    (pss_one (ps_set (i := 4) nd rfl (Or.inr rfl) (pe_ix ix_tup (pv 5) pe_int (fun _ _ => rfl)))))))
    (pss_cons (ps_expr (pe_def D_put_folded (hr.mono (by decide)) rfl (pa_cons (pv 1) (pa_cons pe_str (pa_cons (pv 3) pa_nil)))))
    (pss_one (ps_ret (pv 1)))))))))), ?_⟩
  refine ⟨_, rfl, _, L, rfl, dx, ok, kE, fun pass H1 s1 => ?_⟩
  have q := q pass
  obtain ⟨few, mild⟩ := due_pass pass
  refine ⟨(by show 0 ≤ sizeLine; decide), fun r hr1 => ?_⟩
  have u2 := same_new hr1 (.lst [])
  have s2 := s1.trans u2
  refine ⟨_, rfl, _, rfl, r, _, L, rfl, upd_same, dx.ts s2.ts, few, mild, fun d kvs us H3 S => ?_⟩
  have hr0 : H r = none := s1.free hr1
  have ndr : d ≠ r := fun z => by rw [z] at S; have := S.fd; rw [upd_same] at this; cases this
  have hd0 : H d = none := s2.free S.fd
  have s3 : Same H H3 := fun c o h => S.sb c o (s2 _ _ h) (fun z => by rw [z, hr0] at h; cases h)
  refine ⟨(by show 0 ≤ sizeLine; decide), fun ll hll => ?_⟩
  have u4 := same_new hll (.lst [])
  have s4 := s3.trans u4
  have hll0 : H ll = none := s3.free hll
  have nlr : ll ≠ r := fun z => by rw [z, S.er] at hll; cases hll
  have nld : ll ≠ d := fun z => by rw [z, S.ed] at hll; cases hll
  have lk := S.lk
  refine ⟨_, rfl, la, rfl, ⟨xs, sa.ts s4.ts⟩, ?_⟩
  refine for_tup (xs := xs) (fun i σ H' => ∃ (o5 o6 : Option V) (t : V) (us : List V) (ms : List Int), σ = [some (.ref la), some (.ref r), some (.ref d), some (.ref ll), some t, o5, o6] ∧ Dat K H' (frD (beg33 L i).1 (beg33 L i).2) t ∧ Lp33 H H' r d ll i kvs us ms)
    ⟨_, _, _, us, [], rfl, fr_mk (qN _), ⟨s4, u4 _ _ S.er, .inl (u4 _ _ S.ed), upd_same, by have := S.lu; omega, rfl⟩⟩ (fun i σ H' _ z => ?_) (fun i x σ H' hx z => ?_) (fun σ H' z => ?_)
  · obtain ⟨_, _, _, _, _, _, _, S'⟩ := z
    exact sa.ts S'.sm.ts
  · obtain ⟨o5, o6, t, us', ms, rfl, dt, S'⟩ := z
    obtain ⟨st, hst, dst⟩ := ln_at' (da.ts S'.sm.ts) hx
    have hi : i < L.length := (List.getElem?_eq_some_iff.mp hst).1
    obtain ⟨c, e, rfl, q1, d1⟩ := st_el dst
    dsimp only [gName, tSeq, tAsgC, List.set]
    refine comp_from ?_
    refine ⟨_, rfl, d, kvs, rfl, S'.rd, fun ob hob => ?_⟩
    have ts1 : Tst H' (upd H' d (.frz ob (.dT kvs))) := ⟨fun c ys e => by rw [upd_ne (fun z => by rcases S'.rd with y | ⟨_, y⟩ <;> rw [z, y] at e <;> cases e)]; exact e, fun c o u e => by
      by_cases z : c = d
      · subst z
        rcases S'.rd with y | ⟨o', y⟩
        · rw [y] at e; cases e
        · rw [y] at e
          cases e
          rw [upd_same, hob _ y]
      · rw [upd_ne z]; exact e⟩
    have ne1 : ∀ c o, H' c = some o → c ≠ d → upd H' d (.frz ob (.dT kvs)) c = some o := fun c o e z => by rw [upd_ne z]; exact e
    have ed1 : upd H' d (.frz ob (.dT kvs)) d = some (.frz ob (.dT kvs)) := upd_same
    generalize upd H' d (.frz ob (.dT kvs)) = F at ts1 ne1 ed1 ⊢
    have lk' : kvs.length ≤ 6 := by omega
    refine comp_dict (pK33 L i st) (fun kv => kv.2) ed1 (by omega) (fun j kv b H5 N hj s5 eb hN => ?_) (fun j kv b H5 N hj hp s5 eb hN => ?_) (fun D H5 s5 hD eD => ?_)
    · obtain ⟨z, pl, hz, hk, hv⟩ := S.ks j kv.1 kv.2 hj
      obtain ⟨k, v⟩ := kv
      dsimp only at hk hv eb
      subst hk hv
      have oz := ok z hz
      obtain ⟨_, b1, b2⟩ := beg33_b ok i
      exact ⟨_, rfl, _, rfl, _, rfl, b, _, t, z.m, z.h, st, (beg33 L i).1, (beg33 L i).2, rfl, eb, (dst.ts ts1).ts s5.ts, (dt.ts ts1).ts s5.ts, oz.bm, oz.bh, ok st (List.mem_of_getElem? hst), b1, b2, _, rfl, hN _ (Same.refl _)⟩
    · obtain ⟨k, v⟩ := kv
      have ow := S.own j k v hj
      exact ⟨_, rfl, _, rfl, d, v, rfl, .inr ⟨kvs, k, b, .inr ⟨ob, s5 _ _ ed1⟩, rfl, eb, ow.symm⟩, hN _ (Same.refl _)⟩
    · obtain ⟨ns, n1, n3⟩ := places33 (kvs.filter (pK33 L i st)) fun kv hkv => by
        obtain ⟨j, hj, ej⟩ := List.getElem_of_mem (List.mem_filter.mp hkv).1
        obtain ⟨z, pl, _, _, hv⟩ := S.ks j kv.1 kv.2 (by rw [List.getElem?_eq_getElem hj, ej])
        exact ⟨pl, hv⟩
      have fl : (kvs.filter (pK33 L i st)).length ≤ 6 := Nat.le_trans (List.length_filter_le _ _) lk'
      have f1 : 1 ≤ (kvs.filter (pK33 L i st)).length := by
        obtain ⟨v, hv⟩ := S.has i st hi hst
        have mem : (kR33 st, v) ∈ kvs := by
          unfold valV at hv
          cases e : kvs.find? (fun kv => decide (kv.1 = [.inl st.m, .inl st.h])) with
          | none => rw [e] at hv; cases hv
          | some y =>
            rw [e] at hv
            have h1 := List.find?_some e
            have h2 := List.mem_of_find?_eq_some e
            obtain ⟨y1, y2⟩ := y
            have h3 : y1 = kR33 st := of_decide_eq_true h1
            cases hv
            rw [← h3]
            exact h2
        have mf : (kR33 st, v) ∈ kvs.filter (pK33 L i st) := List.mem_filter.mpr ⟨mem, pK33_self⟩
        cases z : kvs.filter (pK33 L i st) with
        | nil => rw [z] at mf; cases mf
        | cons a b => simp
      have lu := S'.lu
      have lmi := S'.lm
      have eD' : H5 D = some (.lst (ns.map V.int)) := by rw [eD, ← n1]
      have dne : ∀ c xs, H' c = some (.lst xs) → c ≠ d := fun c xs e z => by rcases S'.rd with y | ⟨_, y⟩ <;> rw [z, y] at e <;> cases e
      have er5 := s5 _ _ (ne1 _ _ S'.er (dne _ _ S'.er))
      have el5 := s5 _ _ (ne1 _ _ S'.el (dne _ _ S'.el))
      have nrD : r ≠ D := fun z => by have := ne1 _ _ S'.er (dne _ _ S'.er); rw [z, hD] at this; cases this
      refine ⟨_, rfl, .inl ⟨rfl, _, SqL.of el5⟩, _, rfl, _, rfl, r, D, _, us', ns, rfl, nrD, er5, eD', by omega, by omega, by omega, fun fo us2 H6 sb6 er6 lu2 => ?_⟩
      have el6 := sb6 ll _ el5 (fun z => nlr (by cases z; rfl))
      refine ⟨ll, ms.map V.int, _, rfl, rfl, el6, small1000 (by simp; omega), ?_⟩
      have ts6 : Tst H' H6 := (ts1.trans s5.ts).trans ⟨fun c ys e => sb6 c _ e (fun z => by cases z; rw [er5] at e; cases e), fun c o u e => sb6 c _ e (fun z => by cases z; rw [er5] at e; cases e)⟩
      have ts7 : Tst H6 (upd H6 ll (.lst (ms.map V.int ++ [.int fo]))) := ts_mut el6
      have tsA := ts6.trans ts7
      have ed6 : H6 d = some (.frz ob (.dT kvs)) := sb6 d _ (s5 _ _ ed1) (fun z => ndr (by cases z; rfl))
      refine ⟨_, rfl, _, _, _, _, rfl, rfl, q1.ts tsA, rfl, ?_⟩
      refine ⟨_, _, e, us2, ms ++ [fo], rfl, by rw [beg33_succ hst]; exact d1.ts tsA, ⟨fun c o h => ?_, ?_, .inr ⟨ob, ?_⟩, ?_, by omega, by simp; omega⟩⟩
      · rw [upd_ne (fun z => by rw [z, hll0] at h; cases h)]
        exact sb6 c o (s5 _ _ (ne1 _ _ (S'.sm _ _ h) (fun z => by rw [z, hd0] at h; cases h))) (fun z => by cases z; rw [hr0] at h; cases h)
      · rw [upd_ne (Ne.symm nlr)]; exact er6
      · rw [upd_ne (Ne.symm nld)]; exact ed6
      · rw [upd_same, List.map_append]; rfl
  · obtain ⟨o5, o6, t, us', ms, rfl, dt, S'⟩ := z
    rw [lx] at S'
    have lm := S'.lm
    have lu := S'.lu
    refine ⟨_, rfl, _, rfl, r, ll, _, us', ms, rfl, (fun z => nlr z.symm), S'.er, S'.el, by omega, by omega, by omega, fun fo us2 H2 sb er2 lu2 => ?_⟩
    exact ⟨_, rfl, q r us2 H2 (fun c o h => sb c o (S'.sm _ _ h) (fun z => by cases z; rw [hr0] at h; cases h)) er2⟩
end
end Mine




set_option Elab.async false
set_option linter.all false
set_option maxRecDepth 100000
set_option maxHeartbeats 4000000
namespace Mine
open PySem L2
def dueD (L : List St4) : PyData := match due33 L with
  | none => .none
  | some y => .tuple [.str (wd33 y.1), .int y.2]
theorem dueD_some {L : List St4} {y : Nat × Int} (h : due33 L = some y) : dueD L = .tuple [.str (wd33 y.1), .int y.2] := by unfold dueD; rw [h]
theorem dueD_none {L : List St4} (h : due33 L = none) : dueD L = .none := by unfold dueD; rw [h]
def spDue33 (K : PySem.W.Frag) : Sp := fun vs H Q _ => ∃ (x : V) (L : List St4), vs = [x] ∧ Dat K H (lnD L) x ∧ (∀ s ∈ L, Ok33 s) ∧ ∀ (v : V) (H' : Hp), Same H H' → Dat K H' (dueD L) v → Q v H'
theorem in33_t {s : St4} {p q : Int} (h0 : 0 ≤ s.m * p + s.h * q) (h1 : s.m * p + s.h * q ≤ q) : in33 s p q = true := decide_eq_true ⟨h0, h1⟩
theorem in33_f {s : St4} {p q : Int} (h : ¬ (0 ≤ s.m * p + s.h * q ∧ s.m * p + s.h * q ≤ q)) : in33 s p q = false := decide_eq_false h
section
variable {P : Program} {w : World} {K : PySem.W.Frag} {mg : Str → Option Value} {base : Heap}
theorem ok_due33 (T : TopDef K mg "_law_due" s_l_due) (Z_enumerate : mg "enumerate" = none) (Z_len : mg "len" = none) : Def P w K mg base 1 "_law_due" ["_law_line"] (spDue33 K) := by
  refine def_of T sc_l_due (fun _ _ _ _ _ _ us hl => match us, hl with | [_], _ => rfl) (fun vs H Q E h => ?_) (fun f cdv A outer s H vs Q E hr h => ?_)
  · obtain ⟨x, L, rfl, _⟩ := h
    rfl
  obtain ⟨x, L, rfl, dx, ok, k⟩ := h
  have nd := sc_l_due.nd
  obtain ⟨a, xs, rfl, sa, da⟩ := ln_el dx
  have lx := ln_len da
  have sz : ∀ n : Nat, n ≤ 100 → n ≤ sizeLine := fun n h => Nat.le_trans h (by decide)
  have told : ∀ (y : Nat × Int) (H' : Hp), due33 L = some y → Same H H' → ∀ t, H' t = none → Q (.ref t) (upd H' t (.tup [.str (wd33 y.1), .int y.2])) := fun y H' hy s' t ht => by
    refine k (.ref t) _ (s'.trans (same_new ht _)) ?_
    rw [dueD_some hy]
    exact ⟨t, _, rfl, SqT.of upd_same, _, _, rfl, rfl, _, _, rfl, rfl, rfl⟩
  refine ⟨_, (pss_cons (ps_set (i := 1) nd rfl (Or.inl rfl) (pe_tup (pa_cons pe_int (pa_cons pe_int pa_nil))))
    (pss_cons (ps_for PassesOwn.never rfl (pi_enumT rfl Z_enumerate (pv 0)) (pg_tup rfl (pgs_cons (pg_name (i := 2) nd rfl (Or.inl rfl)) (pgs_cons (pg_name (i := 3) nd rfl (Or.inl rfl)) pgs_nil))) (pss_cons (ps_for PassesOwn.never rfl (pi_tup (pe_tup (pa_cons (pv 1) (pa_cons (pe_ix ix_tup (pv 3) pe_int (fun _ _ => rfl)) pa_nil)))) (pg_name (i := 4) nd rfl (Or.inl rfl)) (pss_one (ps_if (pt_not (pt_chain op_le op_le pe_int (pe_op op_add (pe_op op_mulK (pe_ix ix_tup (pv 3) pe_int (fun _ _ => rfl)) (pe_ix ix_tup (pv 4) pe_int (fun _ _ => rfl))) (pe_op op_mulK (pe_ix ix_tup (pv 3) pe_int (fun _ _ => rfl)) (pe_ix ix_tup (pv 4) pe_int (fun _ _ => rfl)))) (pe_ix ix_tup (pv 4) pe_int (fun _ _ => rfl)))) (pss_one (ps_ret (pe_tup (pa_cons pe_str (pa_cons (pv 2) pa_nil))))) pss_nil)))
    (pss_one (ps_set (i := 1) nd rfl (Or.inl rfl) (pe_ix ix_tup (pv 3) pe_int (fun _ _ => rfl))))))
    (pss_cons (ps_if (pt_cmpR op_gt (pe_callB call_len rfl Z_len (by decide +kernel) (pa_cons (pv 0) pa_nil)) pe_int (nomark _)) (pss_one (ps_ret (pe_tup (pa_cons pe_str (pa_cons (pe_callB call_len rfl Z_len (by decide +kernel) (pa_cons (pv 0) pa_nil)) pa_nil))))) pss_nil)
    (pss_cons (ps_for PassesOwn.never rfl (pi_enumT rfl Z_enumerate (pv 0)) (pg_tup rfl (pgs_cons (pg_name (i := 2) nd rfl (Or.inl rfl)) (pgs_cons (pg_name (i := 3) nd rfl (Or.inl rfl)) pgs_nil))) (pss_one (ps_if (PW.pt (pw_or (pt_cmpR op_gt (pe_ix ix_tup (pv 3) pe_int (fun _ _ => rfl)) pe_int (nomark _)) (pw_or1 (pt_cmpR op_lt (pe_ix ix_tup (pv 3) pe_int (fun _ _ => rfl)) (pe_un un_neg pe_int) (nomark _))))) (pss_one (ps_ret (pe_tup (pa_cons pe_str (pa_cons (pv 2) pa_nil))))) pss_nil)))
    (pss_one (ps_ret pe_non)))))), ?_⟩
  refine ⟨sz 2 (by decide), fun t0 h0 => ?_⟩
  have u0 := same_new h0 (.tup [V.int 0, .int 1])
  refine ⟨_, rfl, a, rfl, ⟨xs, sa.ts u0.ts⟩, ?_⟩
  refine for_enumT (xs := xs) (fun i σ H' => Same H H' ∧ (∀ j, j < i → stay33 L j = true) ∧ ∃ t o2 o3 o4, σ = [some (.ref a), some t, o2, o3, o4] ∧ Dat K H' (frD (beg33 L i).1 (beg33 L i).2) t) ⟨u0, (fun j hj => absurd hj (Nat.not_lt_zero _)), _, _, _, _, rfl, fr_mk (p := 0) (q := 1) (SqT.of upd_same)⟩ (fun i σ H' _ h => sa.ts h.1.ts) (fun i x T' σ H' hx h hT => ?_) (fun σ H' h => ?_)
  · obtain ⟨sm', al, t, o2, o3, o4, rfl, dt⟩ := h
    obtain ⟨st, hst, dst⟩ := ln_at' (da.ts sm'.ts) hx
    have iL : i < L.length := (List.getElem?_eq_some_iff.mp hst).1
    have u1 := same_new hT (.tup [.int i, x])
    have ds := dst.ts u1.ts
    obtain ⟨c, e, rfl, q1, d1⟩ := st_el ds
    have o := ok st (List.mem_of_getElem? hst)
    obtain ⟨b0, b1, b2⟩ := beg33_b ok i
    have gi := stay33_of hst
    refine ⟨T', _, rfl, SqT.of upd_same, rfl, _, _, rfl, _, _, rfl, rfl, ?_⟩
    refine ⟨_, rfl, _, rfl, _, _, _, _, rfl, rfl, q1, rfl, sz 2 (by decide), fun p hp => ?_⟩
    have m1 := sm'.trans u1
    have dt1 := dt.ts u1.ts
    generalize upd H' T' (.tup [.int i, .ref c]) = H1 at q1 d1 ds dt1 m1 hp ⊢
    have u2 := same_new hp (.tup [t, e])
    refine ⟨p, rfl, ⟨_, SqT.of upd_same⟩, ?_⟩
    refine for_tup (xs := [t, e]) (fun j σ H' => Same H1 H' ∧ H' p = some (.tup [t, e]) ∧ (1 ≤ j → in33 st (beg33 L i).1 (beg33 L i).2 = true) ∧ (2 ≤ j → in33 st st.p st.q = true) ∧ ∃ o4, σ = [some (.ref a), some t, some (.int (i : Int)), some (.ref c), o4])
      ⟨u2, upd_same, (fun h => by omega), (fun h => by omega), _, rfl⟩ (fun j σ H' _ h => SqT.of h.2.1) (fun j x σ H' hx h => ?_) (fun σ H' h => ?_)
    · obtain ⟨s2, ep, y1, y2, o4, rfl⟩ := h
      have fx : ∃ pp qq, Dat K H' (frD pp qq) x ∧ 0 < qq ∧ pp.natAbs ≤ 1000 ∧ qq.natAbs ≤ 1000 ∧ (in33 st pp qq = true → (1 ≤ j + 1 → in33 st (beg33 L i).1 (beg33 L i).2 = true) ∧ (2 ≤ j + 1 → in33 st st.p st.q = true)) ∧ (in33 st pp qq = false → stay33 L i = false) := by
        have : j = 0 ∨ j = 1 := by have := (List.getElem?_eq_some_iff.mp hx).1; simp at this; omega
        rcases this with z | z
        · subst z
          cases hx
          exact ⟨_, _, dt1.ts s2.ts, b0, b1, b2, fun h => ⟨fun _ => h, fun z => by omega⟩, fun h => by rw [gi, h]; rfl⟩
        · subst z
          cases hx
          exact ⟨_, _, d1.ts s2.ts, o.q0, o.bp, o.bq, fun h => ⟨fun _ => y1 (by omega), fun _ => h⟩, fun h => by rw [gi, h, Bool.and_false]⟩
      obtain ⟨pp, qq, dxx, qq0, bp, bq, yes, no⟩ := fx
      obtain ⟨ax, rfl, qx⟩ := fr_el dxx
      have q1' := q1.ts s2.ts
      have m2 := m1.trans s2

      refine ⟨_, rfl, _, _, _, _, rfl, rfl, q1', rfl, _, rfl, _, _, _, _, rfl, rfl, qx, rfl, _, _, rfl, rfl, mulS (sm_of (by have := o.bm; omega)) (sm_of (by omega)), _, rfl, _, _, _, _, rfl, rfl, q1', rfl, _, rfl, _, _, _, _, rfl, rfl, qx, rfl, _, _, rfl, rfl, mulS (sm_of (by have := o.bh; omega)) (sm_of (by omega)), _, _, rfl, rfl, ?_⟩
      refine ⟨_, _, rfl, rfl, _, rfl, ite2 (fun c1 => ?_) (fun c1 => ?_)⟩
      · have c1 : 0 ≤ st.m * pp + st.h * qq := of_decide_eq_true c1
        refine ⟨_, rfl, _, _, _, _, rfl, rfl, qx, rfl, _, _, rfl, rfl, _, rfl, ?_⟩
        refine ite2 (fun c2 => ?_) (fun c2 => ?_)
        · have c2 : ¬ st.m * pp + st.h * qq ≤ qq := fun z => by rw [decide_eq_true z] at c2; cases c2
          exact ⟨_, rfl, sz 2 (by decide), fun t ht => told _ _ (due_out al (no (in33_f fun z => c2 z.2)) iL) m2 t ht⟩
        · have c2 : st.m * pp + st.h * qq ≤ qq := by
            by_cases z : st.m * pp + st.h * qq ≤ qq
            · exact z
            · exact absurd (by rw [decide_eq_false z]; rfl) c2
          obtain ⟨y3, y4⟩ := yes (in33_t c1 c2)
          exact ⟨s2, ep, y3, y4, _, rfl⟩
      · have c1 : ¬ 0 ≤ st.m * pp + st.h * qq := fun z => c1 (decide_eq_true z)
        refine ⟨_, rfl, ?_⟩
        refine iteT ?_
        exact ⟨_, rfl, sz 2 (by decide), fun t ht => told _ _ (due_out al (no (in33_f fun z => c1 z.1)) iL) m2 t ht⟩
    · obtain ⟨s2, ep, y1, y2, o4, rfl⟩ := h
      refine ⟨_, rfl, _, _, _, _, rfl, rfl, q1.ts s2.ts, rfl, m1.trans s2, step33 al (by rw [gi, y1 (Nat.le_add_left 1 1), y2 (Nat.le_refl 2)]; rfl), e, _, _, _, rfl, ?_⟩
      rw [beg33_succ hst]
      exact d1.ts s2.ts
  · obtain ⟨s1, al, t, o2, o3, o4, rfl, dt⟩ := h
    rw [lx] at al
    refine ⟨_, rfl, _, _, rfl, .inr ⟨_, sa.ts s1.ts, rfl⟩, _, _, rfl, rfl, _, rfl, ite2 (fun c => ?_) (fun c => ?_)⟩
    · have c := of_decide_eq_true c
      have z := told _ _ (due_many al (by omega)) s1
      rw [← lx] at z
      exact ⟨_, rfl, _, _, rfl, .inr ⟨_, sa.ts s1.ts, rfl⟩, sz 2 (by decide), z⟩
    have c : ¬ (6 : Int) < ((xs.length : Nat) : Int) := fun z => c (decide_eq_true z)
    have c6 : ¬ 6 < L.length := by omega
    refine ⟨_, rfl, a, rfl, ⟨xs, sa.ts s1.ts⟩, ?_⟩
    refine for_enumT (xs := xs) (fun i σ H' => Same H H' ∧ (∀ j, j < i → mild33 L j = true) ∧ ∃ o1 o2 o3 o4, σ = [some (.ref a), o1, o2, o3, o4]) ⟨s1, (fun j hj => absurd hj (Nat.not_lt_zero _)), _, _, _, _, rfl⟩ (fun i σ H' _ h => sa.ts h.1.ts) (fun i x T' σ H' hx h hT => ?_) (fun σ H' h => ?_)
    · obtain ⟨sm', am, o1, o2, o3, o4, rfl⟩ := h
      obtain ⟨st, hst, dst⟩ := ln_at' (da.ts sm'.ts) hx
      have iL : i < L.length := (List.getElem?_eq_some_iff.mp hst).1
      have u1 := same_new hT (.tup [.int i, x])
      obtain ⟨c, e, rfl, q1, d1⟩ := st_el (dst.ts u1.ts)
      have bad : ¬ st.m.natAbs ≤ 4 → ∀ t, (upd H' T' (.tup [.int i, .ref c])) t = none → Q (.ref t) (upd (upd H' T' (.tup [.int i, .ref c])) t (.tup [.str (wd33 2), .int (i : Int)])) := fun z t ht => told _ _ (due_steep al c6 am (by rw [mild33_of hst]; exact decide_eq_false z) iL) (sm'.trans u1) t ht
      refine ⟨T', _, rfl, SqT.of upd_same, rfl, _, _, rfl, _, _, rfl, rfl, ?_⟩
      refine ⟨_, rfl, _, _, _, _, rfl, rfl, q1, rfl, _, _, rfl, rfl, _, rfl, ite2 (fun c => ?_) (fun c => ?_)⟩
      · have c := of_decide_eq_true c
        exact iteT ⟨_, rfl, sz 2 (by decide), bad (by omega)⟩
      · have c : ¬ (4 : Int) < st.m := fun z => c (decide_eq_true z)
        refine ⟨_, rfl, _, _, _, _, rfl, rfl, q1, rfl, _, rfl, _, _, rfl, rfl, _, rfl, ite2 (fun c2 => ?_) (fun c2 => ?_)⟩
        · have c2 := of_decide_eq_true c2
          exact ⟨_, rfl, sz 2 (by decide), bad (by omega)⟩
        · have c2 : ¬ st.m < -4 := fun z => c2 (decide_eq_true z)
          exact ⟨sm'.trans u1, step33 am (by rw [mild33_of hst]; exact decide_eq_true (by omega)), _, _, _, _, rfl⟩
    · rw [lx] at h
      refine k .non _ h.1 ?_
      rw [dueD_none (due_none al c6 h.2.1)]
      rfl
end
end Mine




set_option Elab.async false
set_option linter.all false
set_option maxRecDepth 100000
set_option maxHeartbeats 4000000
namespace Mine
open PySem L2
def spWhole : Sp := fun vs H Q _ => ∃ i : Int, vs = [.int i] ∧ Q (.bl true) H
def spTold33 (K : PySem.W.Frag) : Sp := fun vs H Q _ => ∃ (x : V) (L : List St4), vs = [x] ∧ Dat K H (lnD L) x ∧ (∀ s ∈ L, Ok33 s) ∧ 1 ≤ L.length ∧ ∀ (v : V) (H' : Hp), Same H H' → Dat K H' (dueD L) v → Q v H'
section
variable {P : Program} {w : World} {K : PySem.W.Frag} {mg : Str → Option Value} {base : Heap}
theorem ok_whole (T : TopDef K mg "_law_whole" s_l_whole) (Z_isinstance : mg "isinstance" = none) (Z_int : mg "int" = none) (Z_bool : mg "bool" = none) (kb : PySem.W.kitOne K (.type "int") (.type "bool") = some false) : Def P w K mg base 1 "_law_whole" ["_law_found"] spWhole := by
  refine def_of T sc_l_whole (fun _ _ _ _ _ _ us hl => match us, hl with | [_], _ => rfl) (fun vs H Q E h => ?_) (fun f cdv A outer s H vs Q E hr h => ?_)
  · obtain ⟨i, rfl, _⟩ := h
    rfl
  obtain ⟨i, rfl, q⟩ := h
  have nd := sc_l_whole.nd
  refine ⟨_, (pss_one (ps_ret (pe_and (pe_callB call_isi rfl Z_isinstance (by decide +kernel) (pa_cons (pv 0) (pa_cons (pe_bltn (v := V.ty "int") rfl Z_int (by decide +kernel) rfl) pa_nil))) (pe_one (pe_not (pe_callB call_isi rfl Z_isinstance (by decide +kernel) (pa_cons (pv 0) (pa_cons (pe_bltn (v := V.ty "bool") rfl Z_bool (by decide +kernel) rfl) pa_nil)))))))), ?_⟩
  exact ⟨_, rfl, _, _, _, _, true, rfl, (fun _ h => h), TyOf.int _, kit_same, _, rfl, iteT ⟨_, rfl, _, _, _, _, false, rfl, (fun _ h => h), TyOf.int _, kb, _, rfl, q⟩⟩
theorem ok_told33 {C_NoLine C_NoRows C_TooMany C_NoLetter C_SayError : Addr} (T : TopDef K mg "_law_told" s_l_told) (Z_isinstance : mg "isinstance" = none) (Z_list : mg "list" = none) (Z_int : mg "int" = none) (Z_ValueError : mg "ValueError" = none) (X_NoLine : XC2 P w K mg base "NoLine" C_NoLine "word" "at")
    (M_NoRows : mg "NoRows" = some (.ref C_NoRows)) (M_TooMany : mg "TooMany" = some (.ref C_TooMany)) (M_NoLetter : mg "NoLetter" = some (.ref C_NoLetter)) (M_SayError : mg "SayError" = some (.ref C_SayError)) (CC_SayError : CatchCls K C_SayError) (sub : PySem.W.mroIn K C_NoLine (.ref C_SayError) = some true)
    (k1 : PySem.W.kitOne K (.ref C_NoLine) (.type "ValueError") = some true) (k2 : PySem.W.kitOne K (.ref C_NoLine) (.ref C_NoRows) = some false) (k3 : PySem.W.kitOne K (.ref C_NoLine) (.ref C_TooMany) = some false) (k4 : PySem.W.kitOne K (.ref C_NoLine) (.ref C_NoLetter) = some false)
    (D_rows_of_line : DefD P w K mg base 7 "rows_of_line" ["line"] (spBack33 K C_NoLine)) (D__law_whole : Def P w K mg base 1 "_law_whole" ["_law_found"] spWhole) : Def P w K mg base 8 "_law_told" ["_law_line"] (spTold33 K) := by
  refine def_of T sc_l_told (fun _ _ _ _ _ _ us hl => match us, hl with | [_], _ => rfl) (fun vs H Q E h => ?_) (fun f cdv A outer s H vs Q E hr h => ?_)
  · obtain ⟨x, L, rfl, _⟩ := h
    rfl
  obtain ⟨x, L, rfl, dx, ok, l1, k⟩ := h
  have nd := sc_l_told.nd
  have M_NoLine := X_NoLine.m
  have ec := X_NoLine.fl.ec
  have sz : ∀ n : Nat, n ≤ 100 → n ≤ sizeLine := fun n h => Nat.le_trans h (by decide)
  refine ⟨_, (pss_cons (ps_set (i := 1) nd rfl (Or.inl rfl) pe_non)
    (pss_cons (ps_set (i := 2) nd rfl (Or.inl rfl) pe_non)
    (pss_cons (ps_tryG (i := 1) (j := 3) rfl rfl rfl rfl D_rows_of_line (hr.mono (by decide)) rfl (pa_cons (pv 0) pa_nil) rfl M_SayError CC_SayError nd rfl rfl rfl rfl (fun _ => (pss_one (ps_set (i := 2) nd rfl (Or.inl rfl) (pv 3)))))
    (pss_cons (ps_if (pt_cmpR op_isN (pv 2) pe_non (nomark _)) (pss_one (ps_ret (pe_ix ix_list (pe_lst (pa_cons pe_str (pa_cons pe_non pa_nil))) (pe_callTy call_int1 rfl Z_int (by decide +kernel) (pa_cons (pe_callB call_isiL rfl Z_isinstance (by decide +kernel) (pa_cons (pv 1) (pa_cons (pe_bltn (v := V.ty "list") rfl Z_list (by decide +kernel) rfl) pa_nil))) pa_nil)) (fun _ _ => rfl)))) pss_nil)
    (pss_cons (ps_if (PW.pt (pw_or (pt_not (pt_val (pe_callB call_isiG rfl Z_isinstance (by decide +kernel) (pa_cons (pv 2) (pa_cons (pe_glob (v := V.ref C_NoLine) rfl M_NoLine rfl) pa_nil))))) (pw_or (pt_not (pt_val (pe_callB call_isiG rfl Z_isinstance (by decide +kernel) (pa_cons (pv 2) (pa_cons (pe_bltn (v := V.ty "ValueError") rfl Z_ValueError (by decide +kernel) rfl) pa_nil))))) (pw_or1 (pt_not (pt_val (pe_def D__law_whole (hr.mono (by decide)) rfl (pa_cons (pe_fldGK (K := K) rfl (pv 2) rfl) pa_nil)))))))) (pss_one (ps_ret pe_str)) pss_nil)
    (pss_cons (ps_if (PW.pt (pw_or (pt_val (pe_callB call_isiG rfl Z_isinstance (by decide +kernel) (pa_cons (pv 2) (pa_cons (pe_glob (v := V.ref C_NoRows) rfl M_NoRows rfl) pa_nil)))) (pw_or (pt_val (pe_callB call_isiG rfl Z_isinstance (by decide +kernel) (pa_cons (pv 2) (pa_cons (pe_glob (v := V.ref C_NoLetter) rfl M_NoLetter rfl) pa_nil)))) (pw_or1 (pt_val (pe_callB call_isiG rfl Z_isinstance (by decide +kernel) (pa_cons (pv 2) (pa_cons (pe_glob (v := V.ref C_TooMany) rfl M_TooMany rfl) pa_nil)))))))) (pss_one (ps_ret pe_str)) pss_nil)
    (pss_one (ps_ret (pe_tup (pa_cons (pe_fldGK (K := K) rfl (pv 2) rfl) (pa_cons (pe_fldGK (K := K) rfl (pv 2) rfl) pa_nil))))))))))), ?_⟩
  refine ⟨_, rfl, x, L, rfl, dx, ok, l1, fun y hy d H1 s1 hd => ⟨C_NoLine, rfl, sub, fun ea hea => ?_⟩, fun hn l us H1 s1 hl => ?_⟩
  · rw [dueD_some hy] at k
    have u2 := same_new hea (.ext (XGot ea C_NoLine (some d)))
    have he : upd H1 ea (.ext (XGot ea C_NoLine (some d))) ea = some (.ext (XGot ea C_NoLine (some d))) := upd_same
    have hd2 := u2 _ _ hd
    have m2 := s1.trans u2
    generalize upd H1 ea (.ext (XGot ea C_NoLine (some d))) = H2 at he hd2 m2 ⊢
    refine ⟨_, rfl, ?_⟩
    refine ⟨_, rfl, rfl, _, rfl, ?_⟩
    rw [decide_eq_false (show ¬ (V.ref ea = V.non) from fun z => by cases z)]
    refine iteF ?_
    refine ⟨_, rfl, ea, _, _, C_NoLine, _, true, rfl, (fun _ h => h), he, ec, kit_same, _, rfl, iteF ⟨_, rfl, ea, _, _, C_NoLine, _, true, rfl, (fun _ h => h), he, ec, k1, _, rfl, iteF ?_⟩⟩
    refine ⟨_, rfl, ea, C_NoLine, d, _, _, rfl, he, hd2, X_NoLine.fl, X_NoLine.n2, rfl, y.2, rfl, _, rfl, iteF ?_⟩
    refine ⟨_, rfl, ea, _, _, C_NoLine, _, false, rfl, (fun _ h => h), he, ec, k2, _, rfl, iteF ⟨_, rfl, ea, _, _, C_NoLine, _, false, rfl, (fun _ h => h), he, ec, k4, _, rfl, iteF ⟨_, rfl, ea, _, _, C_NoLine, _, false, rfl, (fun _ h => h), he, ec, k3, _, rfl, iteF ?_⟩⟩⟩
    refine ⟨_, rfl, ea, C_NoLine, d, _, _, rfl, he, hd2, X_NoLine.fl, X_NoLine.n1, rfl, _, rfl, ea, C_NoLine, d, _, _, rfl, he, hd2, X_NoLine.fl, X_NoLine.n2, rfl, sz 2 (by decide), fun t ht => ?_⟩
    exact k (.ref t) _ (m2.trans (same_new ht _)) ⟨t, _, rfl, SqT.of upd_same, _, _, rfl, rfl, _, _, rfl, rfl, rfl⟩
  · rw [dueD_none hn] at k
    refine ⟨_, rfl, rfl, _, rfl, ?_⟩
    rw [decide_eq_true rfl]
    refine iteT ?_
    refine ⟨sz 2 (by decide), fun t ht => ?_⟩
    have u2 := same_new ht (.lst [.str "no list", .non])
    refine ⟨_, rfl, l, us, _, _, true, rfl, (fun _ h => h), SqL.of (u2 _ _ hl), kit_same, .inr ⟨_, rfl, _, _, _, _, rfl, rfl, SqL.of upd_same, rfl, ?_⟩⟩
    exact k .non _ (s1.trans u2) rfl
end
end Mine




set_option Elab.async false
set_option linter.all false
set_option maxRecDepth 100000
set_option maxHeartbeats 4000000
namespace L2
open PySem PySem.Spec PyProof.Rows PySem.W
/-- nothing is tracked but the script and the table T -/
def OnlyT (T : Addr) (H : Hp) : Prop := H T = some (.tbl #[]) ∧ ∀ b, b ≠ T → (H b = none ∨ ∃ o xs, H b = some (.frz o (.lst xs)))
theorem law_callT {T : Addr} {P : Program} {w : World} {K : PySem.W.Frag} {mg mb : Str → Option Value} {CX : CXT} {k : Nat} {fa a : Addr} {fd : FuncData} {x : Str} {sp : Sp} {s₁ : Shared} {vs : List Value} {ns : List Int}
    (KX : K.In s₁.heap) (hns : s₁.heap.Ns mainGlobals mg) (hb : s₁.heap.Ns builtinsNs mb) (hbb : ∀ x : Str, x ≠ "__name__" → mb x = bootBuiltins x) (hlim : s₁.heap.NoLimit) (hg : s₁.gens = #[])
    (ha : s₁.heap.get? a = some { cls := .type "list", data := .seq vs.toArray }) (hi : IntsAre vs ns) (hl : ns.length ≤ sizeLine) (hr : Room k callerA) (hT : s₁.heap.get? T = some (PySem.W.tabObj #[])) (cT : isCodeTable s₁.heap T) (kT : K.lookup T = none) (hB : s₁.heap.BuiltinsAt mg T)
    (F : ∀ base : Heap, K.In base → base.Ns mainGlobals mg → base.BuiltinsAt mg T → FnOk P w K mg base CX k fa fd [x] sp) (hbind : ∀ (s : Shared) (u : Value), BindsTo s fd ⟨[u], []⟩ [(x, u)])
    (hsp : ∀ H : Hp, OnlyT T H → SqL K H a (ns.map V.int) → sp [.ref a] H (fun v _ => v = .bl true) fun _ _ _ => False)
    (hCX : ∀ H e s', CX [] H s₁ (fun _ _ _ => False) e s' → False) :
    codeAny (model P w) callerA (.call (.ref fa) ⟨[.ref a], []⟩) (fun r s' => r = .ok (.ret (.bool true)) ∧ OldK s₁.heap s'.heap ∧ s'.os = s₁.os ∧ AllBare s'.gens) s₁ := by
  have rv := vals_ints hi
  have lenV := hi.length
  -- from an abstract heap in which nothing but the script may be tracked
  have core : ∀ H : Hp, OnlyT T H → SqL K H a (ns.map V.int) → HOk P w H s₁.heap → (∀ b, H b ≠ none → b = a ∨ b = T) → (H a ≠ none → K.lookup a = none) →
      codeAny (model P w) callerA (.call (.ref fa) ⟨[.ref a], []⟩) (fun r s' => r = .ok (.ret (.bool true)) ∧ OldK s₁.heap s'.heap ∧ s'.os = s₁.os ∧ AllBare s'.gens) s₁ := by
    intro H hO hS hok hA hK
    have base_of : ∀ {b : Addr} {o : Obj}, s₁.heap.get? b = some o → H b = none → (hidT s₁.heap H).get? b = some o := fun e n => hidT_get e n
    have noA : ∀ {b : Addr} {o : Obj} {es : Array DictEntry} {ep : Nat}, s₁.heap.get? b = some o → o.data = .dict es ep → H b = none := fun {b o es ep} e d => by
      cases q : H b with
      | none => rfl
      | some u =>
        rcases hA b (by rw [q]; simp) with e' | e'
        · subst e'
          rw [ha] at e; cases e
          have d' : Data.seq vs.toArray _ = Data.dict es ep := d
          cases d'
        · subst e'
          rw [hT] at e; cases e
          cases d
    have nsK : ∀ {b : Addr} {m : Str → Option Value}, s₁.heap.Ns b m → (hidT s₁.heap H).Ns b m := fun {b m} ⟨o, es, ep, e, d, r⟩ => ⟨o, es, ep, base_of e (noA e d), d, r⟩
    have hKb : K.In (hidT s₁.heap H) := fun b o e => base_of (KX b o e) (by
      cases q : H b with
      | none => rfl
      | some u =>
        rcases hA b (by rw [q]; simp) with e' | e'
        · subst e'
          rw [hK (by rw [q]; simp)] at e; cases e
        · subst e'
          rw [kT] at e; cases e)
    have hM : Mod K mg (hidT s₁.heap H) := ⟨hKb, nsK hns, ⟨mb, nsK hb, hbb⟩, let ⟨mc, h1, h2⟩ := hlim; ⟨mc, nsK h1, h2⟩⟩
    have e0 : Env0 P w K mg (hidT s₁.heap H) callerA [] s₁ H := ⟨rfl, hM, fun b o e => of_hidT e, Nat.le_of_eq (hidT_size _ _), trivial, fun b hb => absurd (show b ∈ ([] : List Addr) from hb) (by simp), hok, .of_eq hg⟩
    have bB : (hidT s₁.heap H).BuiltinsAt mg T := by
      obtain ⟨bm, o, b1, b2, b3, b4, b5, b6, b7, b8⟩ := hB
      refine ⟨bm, o, b1, b2, b3, b4, base_of b5 ?_, b6, b7, b8⟩
      cases q : H bm with
      | none => rfl
      | some u =>
        rcases hA bm (by rw [q]; simp) with e' | e'
        · subst e'
          rw [ha] at b5; cases b5; cases b8
        · exact absurd e' b4
    refine codeAny_mono ((F _ hKb (nsK hns) bB).run callerA [] s₁ H ⟨[.ref a], []⟩ [.ref a] [.ref a] _ _ hr e0 (hbind s₁ (.ref a)) (.cons rfl .nil) (hsp H hO hS)) fun r s' h => ?_
    cases r with
    | error e => exact (hCX H e s' h).elim
    | ok fl =>
      cases fl with
      | next => exact False.elim h
      | brk => exact False.elim h
      | cont => exact False.elim h
      | ret u =>
        obtain ⟨v, H', os, bare, un, hok', r', q⟩ := h
        have q' : v = .bl true := q
        subst q'
        obtain rfl : u = Value.bool true := r'
        have kp : ∀ b o, b ≠ T → s₁.heap.get? b = some o → s'.heap.get? b = some o := fun b o nT e => by
          cases q : H b with
          | none => exact un.keep b o e q (by intro z; exact absurd (show b ∈ ([] : List Addr) from z) (by simp)) (by simp)
          | some u =>
            rcases hO.2 b nT with z | ⟨ob, xs, z⟩
            · rw [q] at z; cases z
            · have z2 := un.frzs b ob _ z
              obtain ⟨e1, _⟩ := hok b _ z
              obtain ⟨e2, _⟩ := hok' b _ z2
              rw [e] at e1; cases e1
              exact e2
        obtain ⟨more, z⟩ := un.tbls T _ hO.1
        have zT : s'.heap.get? T = some { cls := .none, data := .fields (#[] ++ more) } := hok' T _ z
        refine ⟨rfl, ⟨fun b o e => ?_, fun b o e => ?_⟩, os, bare⟩
        · by_cases nT : b = T
          · subst nT
            rw [hT] at e
            cases e
            exact .inr (.inl ⟨cT, rfl, #[], more, rfl, zT⟩)
          · exact .inl (kp b o nT e)
        · by_cases nT : b = T
          · subst nT
            exact ⟨_, zT⟩
          · exact ⟨o, kp b o nT e⟩
  have nTa : T ≠ a := fun z => by
    rw [z, ha] at hT
    cases hT
  cases hk : K.lookup a with
  | some o =>
    -- the script is one of the module's own objects
    have e := KX a o hk
    rw [ha] at e
    cases e
    refine core (fun b => if b = T then some (.tbl #[]) else none) ⟨if_pos rfl, fun b n => .inl (if_neg n)⟩ (.inr ⟨_, vs.toArray, _, hk, rfl, rfl, rfl, by rw [List.size_toArray, lenV]; exact hl, by simpa using rv⟩) (fun b u z => ?_) (fun b z => ?_) fun z => absurd (if_neg (Ne.symm nTa)) z
    · by_cases hb : b = T
      · have z' := (if_pos hb).symm.trans z
        cases z'
        subst hb
        exact hT
      · have z' := (if_neg hb).symm.trans z
        cases z'
    · by_cases hb : b = T
      · exact .inr hb
      · exact absurd (if_neg hb) z
  | none =>
    refine core (fun b => if b = T then some (.tbl #[]) else if b = a then some (.frz { cls := .type "list", data := .seq vs.toArray } (.lst (ns.map V.int))) else none) ⟨if_pos rfl, fun b nT => ?_⟩ (.inl (.inr ⟨{ cls := .type "list", data := .seq vs.toArray }, (if_neg (Ne.symm nTa)).trans (if_pos rfl)⟩)) (fun b u z => ?_) (fun b z => ?_) fun _ => hk
    · by_cases hb : b = a
      · exact .inr ⟨_, _, (if_neg nT).trans (if_pos hb)⟩
      · exact .inl ((if_neg nT).trans (if_neg hb))
    · by_cases hT' : b = T
      · have z' := (if_pos hT').symm.trans z
        cases z'
        subst hT'
        exact hT
      by_cases hb : b = a
      · have z' := ((if_neg hT').trans (if_pos hb)).symm.trans z
        cases z'
        subst hb
        exact ⟨ha, by rw [List.length_map]; exact hl, vs, _, rv, ha⟩
      · have z' := ((if_neg hT').trans (if_neg hb)).symm.trans z
        cases z'
    · by_cases hT' : b = T
      · exact .inr hT'
      by_cases hb : b = a
      · exact .inl hb
      · exact absurd ((if_neg hT').trans (if_neg hb)) z
theorem walk_bitsT {T : Addr} {l : OpenLaw} {n k : Nat} {q : Program} {loose : List Str} {XP : (Str → Option Value) → Heap → Prop} {YP : World → Heap → Prop} {d : DefRec} {K : Params → Frag} {CX : CXT} {sp : Frag → Sp} {x : Str}
    (hn : l.most = some n) (hn2 : n ≤ sizeLine) (hdf : d.params.defaults = []) (hr : Room k callerA) (hY : ∀ (w : World) (h : Heap), YP w h → (K w.params).In h ∧ h.get? T = some (tabObj #[])) (hc : ∀ (w : World) (h : Heap), (K w.params).In h → isCodeTable h T) (hk : ∀ w : World, (K w.params).lookup T = none)
    (F : ∀ (w : World) (mg : Str → Option Value) (fa : Addr) (h : Heap), (K w.params).In h → h.Ns mainGlobals mg → mg d.name = some (.ref fa) →
      ∃ fd : FuncData, (∀ (s : Shared) (u : Value), BindsTo s fd ⟨[u], []⟩ [(x, u)]) ∧ ∀ base : Heap, (K w.params).In base → base.Ns mainGlobals mg → base.BuiltinsAt mg T → FnOk l.prog w (K w.params) mg base CX k fa fd [x] (sp (K w.params)))
    (hsp : ∀ (K : Frag) (H : Hp) (a : Addr) (ns : List Int), ns.length ≤ n → (∀ m ∈ ns, Builtin.Int.intBits m ≤ 1048576) → OnlyT T H → SqL K H a (ns.map V.int) → sp K [.ref a] H (fun v _ => v = .bl true) fun _ _ _ => False)
    (hCX : ∀ (H : Hp) (s : Shared) (e : Value) (s' : Shared), CX [] H s (fun _ _ _ => False) e s' → False) : WalkO q loose XP YP l.row.toRowW d [] (fun f vs => PySem.call f vs) := by
  intro w s₀ s₁ mg mb G Y fa o pm cd doc dV kV ho hd hcd hD hmg hg args vals as hpre hlay hrd hwl hlo
  obtain rfl : dV = .none := Dflts.none hD hdf
  obtain rfl : kV = .none := Dflts.noKw hD
  obtain ⟨a, vs, ns, rfl, rfl, hobj, hints, hlen⟩ := Att.script_of hn hpre hwl
  obtain ⟨KX, tT⟩ := hY w _ Y
  obtain ⟨fd, hb, hF⟩ := F w mg fa _ KX G.T.g hmg
  have bA : s₁.heap.BuiltinsAt mg T := by
    obtain ⟨bm, ob, b1, b2, b3, b4, b5, b6⟩ := G.T.bmain
    refine ⟨bm, ob, b1, b2, fun z => ?_, fun z => ?_, b3, b4, b5, b6⟩
    · obtain ⟨o, es, ep, e, d, _⟩ := G.T.g
      rw [← z, b3] at e; cases e; rw [b6] at d; cases d
    · rw [z, tT] at b3; cases b3; cases b6
  have c := law_callT (T := T) KX G.T.g G.T.b G.T.builtins G.T.nolimit hg hobj hints (Nat.le_trans hlen hn2) hr tT (hc w _ KX) (hk w) bA hF hb (fun H hO hS => hsp (K w.params) H a ns hlen (script_bits hlay) hO hS) fun H e s' => hCX H s₁ e s'
  refine enter_call (codeAny_mono c fun r s' hq => ?_)
  obtain ⟨rfl, h2, h3, h4⟩ := hq
  exact ⟨.inl ⟨.bool true, .bool true, [], rfl, fun _ => rfl, .bool true, Att.post_true l _, fun _ => ⟨List.Pairwise.nil, fun _ hm => (nomatch hm)⟩⟩, h2, h3, h4⟩
end L2


set_option Elab.async false
set_option linter.all false
set_option maxRecDepth 100000
set_option maxHeartbeats 4000000
namespace Mine
open PySem L2
def spLaw33 (K : PySem.W.Frag) : Sp := fun vs H Q _ => ∃ (a : Addr) (ns : List Int), vs = [.ref a] ∧ Scr K H a ns ∧ H 272 = some (.tbl #[]) ∧ ∀ H', Q (.bl true) H'
theorem scr_ofT {T : Addr} {K : PySem.W.Frag} {H : Hp} {a : Addr} {ns : List Int} (O : OnlyT T H) (h : SqL K H a (ns.map V.int)) (few : ns.length ≤ 63) (bit : ∀ n ∈ ns, bits n ≤ 1048576) : Scr K H a ns := by
  refine ⟨?_, few, bit⟩
  rcases h with (h | h) | h
  · exfalso
    by_cases e : a = T
    · rw [e, O.1] at h; cases h
    · rcases O.2 a e with z | ⟨o, xs, z⟩
      · rw [h] at z; cases z
      · rw [h] at z; cases z
  · exact .inl h
  · exact .inr h
theorem wd33_ok : ∀ n : Nat, PyData.strOk (wd33 n) = true
  | 0 => by decide +kernel
  | 1 => by decide +kernel
  | _ + 2 => by show PyData.strOk "steep" = true; decide +kernel
theorem due_shaped (L : List St4) : SeqAt.shaped (dueD L) = true := by
  unfold dueD
  cases due33 L <;> simp [SeqAt.shaped, PyData.canLay0, PyData.canLayAll0, PyData.depth, PyData.depthAll, wd33_ok]
section
variable {P : Program} {w : World} {K : PySem.W.Frag} {mg : Str → Option Value} {base : Heap}
theorem ok_law {f : Addr} {fd : FuncData} (F : Fun K "law" "law" s_law f fd) (D__law_cell : Def P w K mg base 1 "_law_cell" ["_law_script", "_law_k"] (spCell K)) (D__law_any : Def P w K mg base 5 "_law_any" ["_law_script", "_law_at", "_law_many"] (spAny33 K 272))
    (D__law_built : Def P w K mg base 4 "_law_built" ["_law_script", "_law_at", "_law_turns", "_law_steep"] (spBuilt33 K)) (D__law_told : Def P w K mg base 8 "_law_told" ["_law_line"] (spTold33 K)) (D__law_due : Def P w K mg base 1 "_law_due" ["_law_line"] (spDue33 K)) : FnOk P w K mg base CX0 9 f fd ["_law_script"] (spLaw33 K) := by
  refine F.ok sc_law (fun vs H Q E h => ?_) (fun cdv Ar outer s H vs Q E hr h => ?_)
  · obtain ⟨a, ns, rfl, _⟩ := h
    rfl
  obtain ⟨a, ns, rfl, S, eT, q⟩ := h
  have nd := sc_law.nd
  have hu := hr.units
  have sz : ∀ n : Nat, n ≤ 100 → n ≤ sizeLine := fun n h => Nat.le_trans h (by decide)
  have t2 : ∃ t, PSs (cxOf CX0 P w K mg base n_law "law" (defScope s_law) f cdv Ar outer s H E).nox ((defBody s_law).drop 2) t ∧
      ∀ (o1 : Option V) (v : V) (L : List St4) (H1 : Hp), Dat K H1 (lnD L) v → (∀ s ∈ L, Ok33 s) → 1 ≤ L.length → t { nx := fun _ H' => Q .non H', rt := Q } [some (.ref a), o1, some v] H1 := by
    refine ⟨_, (pss_one (ps_ret (pe_cmpR (op_eqD hu) (pe_def D__law_told (hr.mono (by decide)) rfl (pa_cons (pv 2) pa_nil)) (pe_def D__law_due (hr.mono (by decide)) rfl (pa_cons (pv 2) pa_nil)) (nomark _)))), fun o1 v L H1 dv ok l1 => ?_⟩
    refine ⟨_, rfl, v, L, rfl, dv, ok, l1, fun v2 H2 s2 d2 => ?_⟩
    refine ⟨_, rfl, v, L, rfl, dv.ts s2.ts, ok, fun v3 H3 s3 d3 => ?_⟩
    refine ⟨_, _, .inl (d2.ts s3.ts), .inl d3, due_shaped L, due_shaped L, ?_⟩
    rw [eqv_shaped (due_shaped L)]
    exact q _
  obtain ⟨t2, ht2, hq2⟩ := t2
  refine ⟨_, pss_cons (ps_set (i := 1) nd rfl (Or.inl rfl) (pe_def D__law_cell (hr.mono (by decide)) rfl (pa_cons (pv 0) (pa_cons pe_int pa_nil)))) (pss_cons (ps_if (pt_cmpR op_eq (pe_op op_mod (pv 1) pe_int) pe_int (nomark _)) (pss_one (ps_set (i := 2) nd rfl (Or.inl rfl) (pe_def D__law_any (hr.mono (by decide)) rfl (pa_cons (pv 0) (pa_cons pe_int (pa_cons (pe_op op_mod (pe_op op_fdiv (pv 1) pe_int) pe_int) pa_nil)))))) (pss_one (ps_set (i := 2) nd rfl (Or.inl rfl) (pe_def D__law_built (hr.mono (by decide)) rfl (pa_cons (pv 0) (pa_cons pe_int (pa_cons (pe_op op_mod (pe_op op_fdiv (pv 1) pe_int) pe_int) (pa_cons (pe_ix ix_list (pe_lst (pa_cons pe_int (pa_cons pe_int pa_nil))) (pe_op op_sub (pe_op op_mod (pv 1) pe_int) pe_int) (fun _ _ => rfl)) pa_nil)))))))) ht2), ?_⟩
  refine ⟨_, rfl, a, ns, 0, rfl, S, by decide, by decide, fun v _ => ?_⟩
  refine ⟨_, rfl, _, _, rfl, rfl, (show (0 : Int) < _ by decide), rfl, _, rfl, ite2 (fun c => ?_) (fun c => ?_)⟩
  · refine ⟨_, rfl, _, rfl, _, _, rfl, rfl, ⟨by decide, by decide⟩, _, _, rfl, rfl, (show (0 : Int) < _ by decide), a, ns, _, rfl, S, by omega, by omega, eT, fun v L H1 dv ok l1 _ => ?_⟩
    exact hq2 _ v L H1 dv ok l1
  · have c : ¬ v % 3 = 0 := fun z => c (by show decide (V.int (v % 3) = V.int 0) = true; rw [z]; rfl)
    have at2 : ∃ h : Int, atI [V.int 4, .int 7] (v % 3 - 1) = some (.int h) ∧ 0 ≤ h ∧ h ≤ 7 := by
      rcases (by omega : v % 3 = 1 ∨ v % 3 = 2) with e | e <;> rw [e] <;> exact ⟨_, rfl, by decide, by decide⟩
    obtain ⟨h, hh, h0, h7⟩ := at2
    refine ⟨_, rfl, _, rfl, _, _, rfl, rfl, ⟨by decide, by decide⟩, _, _, rfl, rfl, (show (0 : Int) < _ by decide), sz 2 (by decide), fun l hl => ?_⟩
    have u2 := same_new hl (.lst [.int 4, .int 7])
    refine ⟨_, rfl, _, _, rfl, rfl, (show (0 : Int) < _ by decide), _, _, rfl, rfl, _, _, _, _, rfl, rfl, SqL.of upd_same, hh, ?_⟩
    refine ⟨a, ns, _, h, rfl, S.ts u2.ts, by omega, by omega, h0, h7, fun v L H1 _ dv ok l1 _ => ?_⟩
    exact hq2 _ v L H1 dv ok l1
end
end Mine




set_option Elab.async false
set_option linter.all false
set_option maxRecDepth 100000
set_option maxHeartbeats 4000000
namespace Mine
open PySem L2
section
variable {P : Program} {w : World} {K : PySem.W.Frag} {mg : Str → Option Value} {base : Heap}
theorem ok_init {fI C : Addr} {fd : FuncData} (F : Fun K "__init__" "NoLine.__init__" s_NoLine_init fI fd) (c : XFld K C) (n1 : NoAttr K C "word") (n2 : NoAttr K C "at") : FnOk P w K mg base CX0 1 fI fd ["self", "word", "at"] (L2.spInit2 C "word" "at") := by
  refine F.ok sc_NoLine_init (fun vs H Q E h => ?_) (fun cdv Ar outer s H vs Q E hr h => ?_)
  · obtain ⟨a, y, z, rfl, _⟩ := h
    rfl
  obtain ⟨a, y, z, rfl, ea, q⟩ := h
  have nd := sc_NoLine_init.nd
  refine ⟨_, (pss_cons (ps_fldX (pv 0) (pv 1) rfl)
    (pss_one (ps_fldX (pv 0) (pv 2) rfl))), ?_⟩
  refine ⟨_, rfl, _, rfl, a, C, rfl, c, n1, .inl ⟨ea, fun d hd => ?_⟩⟩
  have ne : d ≠ a := fun z => by rw [z, ea] at hd; cases hd
  refine ⟨_, rfl, _, rfl, a, C, rfl, c, n2, .inr ⟨d, _, by rw [upd_ne (Ne.symm ne), upd_same], upd_same, ne, (show 1 < 100 by decide), ?_⟩⟩
  refine q d _ ⟨hd, ne, ?_, upd_same, fun b h1 h2 => ?_⟩
  · rw [upd_ne (Ne.symm ne), upd_ne (Ne.symm ne), upd_same]
  · rw [upd_ne h2, upd_ne h2, upd_ne h1]
end
end Mine




set_option Elab.async false
set_option linter.all false
set_option maxRecDepth 100000
set_option maxHeartbeats 4000000
theorem PySem.W.Fast.tw10035965610951073033 : True := .intro
theorem PySem.W.Fast.tw1008421681695431459 : True := .intro
theorem PySem.W.Fast.tw10173098047877851855 : True := .intro
theorem PySem.W.Fast.tw10182628250847263858 : True := .intro
theorem PySem.W.Fast.tw10215819467956475048 : True := .intro
theorem PySem.W.Fast.tw10224317105610549144 : True := .intro
theorem PySem.W.Fast.tw10231652914035431435 : True := .intro
theorem PySem.W.Fast.tw10281261142695135106 : True := .intro
theorem PySem.W.Fast.tw10294465112623124236 : True := .intro
theorem PySem.W.Fast.tw10316745791026359384 : True := .intro
theorem PySem.W.Fast.tw10364423047054236146 : True := .intro
theorem PySem.W.Fast.tw10379205251748670801 : True := .intro
theorem PySem.W.Fast.tw10435058412719199476 : True := .intro
theorem PySem.W.Fast.tw10445417197149842422 : True := .intro
theorem PySem.W.Fast.tw10477857127617652269 : True := .intro
theorem PySem.W.Fast.tw10487186957444354034 : True := .intro
theorem PySem.W.Fast.tw10502908680111251845 : True := .intro
theorem PySem.W.Fast.tw10538324557764910228 : True := .intro
theorem PySem.W.Fast.tw10641341074883075823 : True := .intro
theorem PySem.W.Fast.tw10714850536333822762 : True := .intro
theorem PySem.W.Fast.tw107200419326715159 : True := .intro
theorem PySem.W.Fast.tw10726371457639377505 : True := .intro
theorem PySem.W.Fast.tw10743114193805080203 : True := .intro
theorem PySem.W.Fast.tw10804472443838986818 : True := .intro
theorem PySem.W.Fast.tw10807910764303022382 : True := .intro
theorem PySem.W.Fast.tw10922288022550404586 : True := .intro
theorem PySem.W.Fast.tw10929337984926048162 : True := .intro
theorem PySem.W.Fast.tw10952384385351671669 : True := .intro
theorem PySem.W.Fast.tw1097639808190960106 : True := .intro
theorem PySem.W.Fast.tw10978042034808809555 : True := .intro
theorem PySem.W.Fast.tw11043872508382671636 : True := .intro
theorem PySem.W.Fast.tw11078951092675325981 : True := .intro
theorem PySem.W.Fast.tw11104542419890978492 : True := .intro
theorem PySem.W.Fast.tw11132506663798430407 : True := .intro
theorem PySem.W.Fast.tw11176851735877168367 : True := .intro
theorem PySem.W.Fast.tw11195505898399786259 : True := .intro
theorem PySem.W.Fast.tw11261512549448462225 : True := .intro
theorem PySem.W.Fast.tw11318688268977084460 : True := .intro
theorem PySem.W.Fast.tw11410427807896218489 : True := .intro
theorem PySem.W.Fast.tw11427801403512331889 : True := .intro
theorem PySem.W.Fast.tw11506393291508262423 : True := .intro
theorem PySem.W.Fast.tw11524131982758896704 : True := .intro
theorem PySem.W.Fast.tw1153575488966971537 : True := .intro
theorem PySem.W.Fast.tw11550505230876528654 : True := .intro
theorem PySem.W.Fast.tw11618493282540440490 : True := .intro
theorem PySem.W.Fast.tw11707182707232527904 : True := .intro
theorem PySem.W.Fast.tw11776959128127091874 : True := .intro
theorem PySem.W.Fast.tw11884144184892322781 : True := .intro
theorem PySem.W.Fast.tw11980589017217173693 : True := .intro
theorem PySem.W.Fast.tw1211433189562589209 : True := .intro
theorem PySem.W.Fast.tw12249603831968041104 : True := .intro
theorem PySem.W.Fast.tw1225314035953005655 : True := .intro
theorem PySem.W.Fast.tw12258700241279868345 : True := .intro
theorem PySem.W.Fast.tw12337977591075611164 : True := .intro
theorem PySem.W.Fast.tw12391828843418548025 : True := .intro
theorem PySem.W.Fast.tw12480193526847727452 : True := .intro
theorem PySem.W.Fast.tw12586284336095180177 : True := .intro
theorem PySem.W.Fast.tw12605285411946308874 : True := .intro
theorem PySem.W.Fast.tw12655996066732636386 : True := .intro
theorem PySem.W.Fast.tw12916107032081166176 : True := .intro
theorem PySem.W.Fast.tw13072262603610337147 : True := .intro
theorem PySem.W.Fast.tw13097701866857031271 : True := .intro
theorem PySem.W.Fast.tw13139079631434474470 : True := .intro
theorem PySem.W.Fast.tw13196902945322372973 : True := .intro
theorem PySem.W.Fast.tw13285023354676193639 : True := .intro
theorem PySem.W.Fast.tw13344631425529408649 : True := .intro
theorem PySem.W.Fast.tw13358045088730649073 : True := .intro
theorem PySem.W.Fast.tw13409460088389874537 : True := .intro
theorem PySem.W.Fast.tw13412257449275142521 : True := .intro
theorem PySem.W.Fast.tw13430921140290372310 : True := .intro
theorem PySem.W.Fast.tw13508533309505184465 : True := .intro
theorem PySem.W.Fast.tw13515790432739224005 : True := .intro
theorem PySem.W.Fast.tw13522180586342560366 : True := .intro
theorem PySem.W.Fast.tw13574687577344193040 : True := .intro
theorem PySem.W.Fast.tw13595661177226506612 : True := .intro
theorem PySem.W.Fast.tw13665943593211284266 : True := .intro
theorem PySem.W.Fast.tw1372241761860189480 : True := .intro
theorem PySem.W.Fast.tw13823625143576262295 : True := .intro
theorem PySem.W.Fast.tw13830495717414130465 : True := .intro
theorem PySem.W.Fast.tw13902563100744863453 : True := .intro
theorem PySem.W.Fast.tw13911596357330865175 : True := .intro
theorem PySem.W.Fast.tw13935035439951615884 : True := .intro
theorem PySem.W.Fast.tw1399246041984272133 : True := .intro
theorem PySem.W.Fast.tw14033641858648518440 : True := .intro
theorem PySem.W.Fast.tw14121055412604882419 : True := .intro
theorem PySem.W.Fast.tw14130603416575165686 : True := .intro
theorem PySem.W.Fast.tw14302137973401078897 : True := .intro
theorem PySem.W.Fast.tw14338358949541434375 : True := .intro
theorem PySem.W.Fast.tw14350095853943003999 : True := .intro
theorem PySem.W.Fast.tw14362728733194808535 : True := .intro
theorem PySem.W.Fast.tw14432867919755370217 : True := .intro
theorem PySem.W.Fast.tw14499832784352074832 : True := .intro
theorem PySem.W.Fast.tw14504116758227719907 : True := .intro
theorem PySem.W.Fast.tw14523924409609295314 : True := .intro
theorem PySem.W.Fast.tw14534071991570922072 : True := .intro
theorem PySem.W.Fast.tw14563347121969649047 : True := .intro
theorem PySem.W.Fast.tw14566804919185051820 : True := .intro
theorem PySem.W.Fast.tw14661533779269138471 : True := .intro
theorem PySem.W.Fast.tw14728020165586958015 : True := .intro
theorem PySem.W.Fast.tw14733931798926229763 : True := .intro
theorem PySem.W.Fast.tw14734163017044174646 : True := .intro
theorem PySem.W.Fast.tw1481796315633674391 : True := .intro
theorem PySem.W.Fast.tw14821553083877206259 : True := .intro
theorem PySem.W.Fast.tw14846339766041616904 : True := .intro
theorem PySem.W.Fast.tw14874053777486103463 : True := .intro
theorem PySem.W.Fast.tw1497625370270634679 : True := .intro
theorem PySem.W.Fast.tw15046918911734270026 : True := .intro
theorem PySem.W.Fast.tw15127308837380008840 : True := .intro
theorem PySem.W.Fast.tw15141815168519939315 : True := .intro
theorem PySem.W.Fast.tw15217739414985989992 : True := .intro
theorem PySem.W.Fast.tw15391952783080673591 : True := .intro
theorem PySem.W.Fast.tw15397954488830243872 : True := .intro
theorem PySem.W.Fast.tw15492254326217858318 : True := .intro
theorem PySem.W.Fast.tw15586519301073207427 : True := .intro
theorem PySem.W.Fast.tw15748108259857289776 : True := .intro
theorem PySem.W.Fast.tw15782638789070367008 : True := .intro
theorem PySem.W.Fast.tw15834962855246141841 : True := .intro
theorem PySem.W.Fast.tw15866235528943723117 : True := .intro
theorem PySem.W.Fast.tw15893002255151117681 : True := .intro
theorem PySem.W.Fast.tw15907620401005251338 : True := .intro
theorem PySem.W.Fast.tw15960323476180992196 : True := .intro
theorem PySem.W.Fast.tw15970126063414483289 : True := .intro
theorem PySem.W.Fast.tw16103099779906561090 : True := .intro
theorem PySem.W.Fast.tw16195770563793673695 : True := .intro
theorem PySem.W.Fast.tw16208941591147081692 : True := .intro
theorem PySem.W.Fast.tw16232847393711260369 : True := .intro
theorem PySem.W.Fast.tw16265021993178714447 : True := .intro
theorem PySem.W.Fast.tw16269369096370571491 : True := .intro
theorem PySem.W.Fast.tw16355894304436616416 : True := .intro
theorem PySem.W.Fast.tw16441207208517470412 : True := .intro
theorem PySem.W.Fast.tw16449836413725025389 : True := .intro
theorem PySem.W.Fast.tw16654791975579558858 : True := .intro
theorem PySem.W.Fast.tw16694335254912207424 : True := .intro
theorem PySem.W.Fast.tw16735327627820353129 : True := .intro
theorem PySem.W.Fast.tw16778843355537076061 : True := .intro
theorem PySem.W.Fast.tw16839895893559261622 : True := .intro
theorem PySem.W.Fast.tw16927615741164102465 : True := .intro
theorem PySem.W.Fast.tw16998446423605908618 : True := .intro
theorem PySem.W.Fast.tw17559255311315268844 : True := .intro
theorem PySem.W.Fast.tw1756099472324995636 : True := .intro
theorem PySem.W.Fast.tw1760611775797394016 : True := .intro
theorem PySem.W.Fast.tw17725325223007229786 : True := .intro
theorem PySem.W.Fast.tw17734237828825772599 : True := .intro
theorem PySem.W.Fast.tw17879786853595900097 : True := .intro
theorem PySem.W.Fast.tw17906279462283910972 : True := .intro
theorem PySem.W.Fast.tw1790961791229008956 : True := .intro
theorem PySem.W.Fast.tw17910639796797489252 : True := .intro
theorem PySem.W.Fast.tw1806745084336089091 : True := .intro
theorem PySem.W.Fast.tw18073386092736914860 : True := .intro
theorem PySem.W.Fast.tw18186893726192373448 : True := .intro
theorem PySem.W.Fast.tw18210752808971624488 : True := .intro
theorem PySem.W.Fast.tw18282870861363687602 : True := .intro
theorem PySem.W.Fast.tw18443186223750395863 : True := .intro
theorem PySem.W.Fast.tw1987021845778241166 : True := .intro
theorem PySem.W.Fast.tw1995421789076896131 : True := .intro
theorem PySem.W.Fast.tw2162297895838587540 : True := .intro
theorem PySem.W.Fast.tw2180122107615427003 : True := .intro
theorem PySem.W.Fast.tw2228883852401276816 : True := .intro
theorem PySem.W.Fast.tw2272358508935379017 : True := .intro
theorem PySem.W.Fast.tw2283918609104468943 : True := .intro
theorem PySem.W.Fast.tw2345648287471264605 : True := .intro
theorem PySem.W.Fast.tw2346264094859604976 : True := .intro
theorem PySem.W.Fast.tw2475782748641424978 : True := .intro
theorem PySem.W.Fast.tw2488355876668624326 : True := .intro
theorem PySem.W.Fast.tw2488867646769237361 : True := .intro
theorem PySem.W.Fast.tw2776112656056314706 : True := .intro
theorem PySem.W.Fast.tw2806108265783566737 : True := .intro
theorem PySem.W.Fast.tw2811241562040933056 : True := .intro
theorem PySem.W.Fast.tw2838596128884963759 : True := .intro
theorem PySem.W.Fast.tw304145901940638375 : True := .intro
theorem PySem.W.Fast.tw312906371434884112 : True := .intro
theorem PySem.W.Fast.tw3134786989901803095 : True := .intro
theorem PySem.W.Fast.tw3210138324129132069 : True := .intro
theorem PySem.W.Fast.tw331547846746590133 : True := .intro
theorem PySem.W.Fast.tw3339427233020195248 : True := .intro
theorem PySem.W.Fast.tw3378541644474769551 : True := .intro
theorem PySem.W.Fast.tw3412500422741332046 : True := .intro
theorem PySem.W.Fast.tw3518348781339221210 : True := .intro
theorem PySem.W.Fast.tw3521642671714409596 : True := .intro
theorem PySem.W.Fast.tw3593928095151060054 : True := .intro
theorem PySem.W.Fast.tw3620311100021168795 : True := .intro
theorem PySem.W.Fast.tw3704087608493789211 : True := .intro
theorem PySem.W.Fast.tw3708255990368463981 : True := .intro
theorem PySem.W.Fast.tw3716825370547927568 : True := .intro
theorem PySem.W.Fast.tw3756509275142156547 : True := .intro
theorem PySem.W.Fast.tw3825270120867526346 : True := .intro
theorem PySem.W.Fast.tw3848569409895120020 : True := .intro
theorem PySem.W.Fast.tw3871908952860058482 : True := .intro
theorem PySem.W.Fast.tw3892125004855302605 : True := .intro
theorem PySem.W.Fast.tw3923090299265611462 : True := .intro
theorem PySem.W.Fast.tw3990720882278297291 : True := .intro
theorem PySem.W.Fast.tw4154803581519236169 : True := .intro
theorem PySem.W.Fast.tw4257558531907545905 : True := .intro
theorem PySem.W.Fast.tw4292336924413319537 : True := .intro
theorem PySem.W.Fast.tw4306147636035067119 : True := .intro
theorem PySem.W.Fast.tw4325377820960962323 : True := .intro
theorem PySem.W.Fast.tw4376047940970549667 : True := .intro
theorem PySem.W.Fast.tw4408962801082766862 : True := .intro
theorem PySem.W.Fast.tw457063589916946152 : True := .intro
theorem PySem.W.Fast.tw4642220432720166962 : True := .intro
theorem PySem.W.Fast.tw4652269628831470976 : True := .intro
theorem PySem.W.Fast.tw4702901887978815063 : True := .intro
theorem PySem.W.Fast.tw4731908532856811272 : True := .intro
theorem PySem.W.Fast.tw4838815285431999052 : True := .intro
theorem PySem.W.Fast.tw5040244336593747359 : True := .intro
theorem PySem.W.Fast.tw5093738702284011092 : True := .intro
theorem PySem.W.Fast.tw5150108501592033234 : True := .intro
theorem PySem.W.Fast.tw5281329380283685803 : True := .intro
theorem PySem.W.Fast.tw5562523978314986953 : True := .intro
theorem PySem.W.Fast.tw5634471684667614176 : True := .intro
theorem PySem.W.Fast.tw5669698145461162354 : True := .intro
theorem PySem.W.Fast.tw567528681410426392 : True := .intro
theorem PySem.W.Fast.tw5733982490193468451 : True := .intro
theorem PySem.W.Fast.tw5771349019915681776 : True := .intro
theorem PySem.W.Fast.tw5855565421370603864 : True := .intro
theorem PySem.W.Fast.tw5912559823124993473 : True := .intro
theorem PySem.W.Fast.tw5977924104389834898 : True := .intro
theorem PySem.W.Fast.tw5998948438637135352 : True := .intro
theorem PySem.W.Fast.tw60484455027516646 : True := .intro
theorem PySem.W.Fast.tw6056257326313714495 : True := .intro
theorem PySem.W.Fast.tw6072872373816798147 : True := .intro
theorem PySem.W.Fast.tw6081373771000896382 : True := .intro
theorem PySem.W.Fast.tw6256097205715986824 : True := .intro
theorem PySem.W.Fast.tw6286617935152416099 : True := .intro
theorem PySem.W.Fast.tw6319504603049631510 : True := .intro
theorem PySem.W.Fast.tw6321077044136405227 : True := .intro
theorem PySem.W.Fast.tw6452017648533375046 : True := .intro
theorem PySem.W.Fast.tw655002394003274134 : True := .intro
theorem PySem.W.Fast.tw6657540972702735801 : True := .intro
theorem PySem.W.Fast.tw6664841921553748833 : True := .intro
theorem PySem.W.Fast.tw6669471399918187880 : True := .intro
theorem PySem.W.Fast.tw6749828139802793763 : True := .intro
theorem PySem.W.Fast.tw6772411929123292764 : True := .intro
theorem PySem.W.Fast.tw6828158295943561924 : True := .intro
theorem PySem.W.Fast.tw6861965565115913872 : True := .intro
theorem PySem.W.Fast.tw6888317976947596021 : True := .intro
theorem PySem.W.Fast.tw6912363261112521202 : True := .intro
theorem PySem.W.Fast.tw6952513830007178621 : True := .intro
theorem PySem.W.Fast.tw7001644472951434461 : True := .intro
theorem PySem.W.Fast.tw7218795983759482763 : True := .intro
theorem PySem.W.Fast.tw7337793877250983779 : True := .intro
theorem PySem.W.Fast.tw7471893206564196942 : True := .intro
theorem PySem.W.Fast.tw7562947143947214891 : True := .intro
theorem PySem.W.Fast.tw7566010352878138611 : True := .intro
theorem PySem.W.Fast.tw7650080047372796178 : True := .intro
theorem PySem.W.Fast.tw7658016620004699228 : True := .intro
theorem PySem.W.Fast.tw7700202689356407448 : True := .intro
theorem PySem.W.Fast.tw7738978717105892464 : True := .intro
theorem PySem.W.Fast.tw7837463552994760329 : True := .intro
theorem PySem.W.Fast.tw7912241357393921380 : True := .intro
theorem PySem.W.Fast.tw7954644357974830929 : True := .intro
theorem PySem.W.Fast.tw7997676981841424666 : True := .intro
theorem PySem.W.Fast.tw8147159638483440836 : True := .intro
theorem PySem.W.Fast.tw8372730461956926729 : True := .intro
theorem PySem.W.Fast.tw8474677723785807876 : True := .intro
theorem PySem.W.Fast.tw8554989691484822059 : True := .intro
theorem PySem.W.Fast.tw8643241313766483984 : True := .intro
theorem PySem.W.Fast.tw8716466813841478784 : True := .intro
theorem PySem.W.Fast.tw8778303892120310208 : True := .intro
theorem PySem.W.Fast.tw8781994429564492572 : True := .intro
theorem PySem.W.Fast.tw9013203151911543934 : True := .intro
theorem PySem.W.Fast.tw9068210359148271393 : True := .intro
theorem PySem.W.Fast.tw9083313249915255326 : True := .intro
theorem PySem.W.Fast.tw9091663039499627155 : True := .intro
theorem PySem.W.Fast.tw910293741857134158 : True := .intro
theorem PySem.W.Fast.tw93165132629782749 : True := .intro
theorem PySem.W.Fast.tw9393658509542524369 : True := .intro
theorem PySem.W.Fast.tw9436228824755346379 : True := .intro
theorem PySem.W.Fast.tw9463535680860290519 : True := .intro
theorem PySem.W.Fast.tw9516997591283896504 : True := .intro
theorem PySem.W.Fast.tw9521604828792760732 : True := .intro
theorem PySem.W.Fast.tw954145844878241577 : True := .intro
theorem PySem.W.Fast.tw9549083984888684199 : True := .intro
theorem PySem.W.Fast.tw9555359544206681068 : True := .intro
theorem PySem.W.Fast.tw9618248245972221373 : True := .intro
theorem PySem.W.Fast.tw973710334146295260 : True := .intro
theorem PySem.W.Fast.tw9783024455771701304 : True := .intro
theorem PySem.W.Fast.tw9843001719122283642 : True := .intro
theorem PySem.W.Fast.tw9929144810028752489 : True := .intro
open PySem PySem.W PyProof.Rows
theorem L2.isTab_of {K : Frag} {h : Heap} {c T : Addr} (X : K.In h) (q : L2.codeHdIn K c T = true) : isCodeTable h T := by
  obtain ⟨o, vs, _, _, _, _, _, _, _, e0, e1, e2, e3, _⟩ := L2.codeHd_of X q
  exact ⟨c, o, vs, e0, e1, e2, e3⟩
theorem Mine.any_mk {K : Frag} {h : Heap} {mg : Str → Option Value} {f c : Addr} {oc kV doc pm ct : Value} {od an : Option Addr} {osl : Array (Option Value)} (X : K.In h) (G : h.Ns mainGlobals mg)
    (a : nsIn K mainGlobals "_law_any" = some (some (.ref f))) (l : K.lookup f = some ⟨oc, od, .func (fnOf "_law_any" "_law_any" (L2.defArgs Mine.s_l_any) (L2.defBody Mine.s_l_any) (L2.defScope Mine.s_l_any) .none kV doc pm an (.ref c) ct), osl⟩) (cd : codeIn K (.ref c) "_law_any" = true) (k : keepIn K (.ref f) = true)
    (ch : L2.codeHdIn K c 272 = true) : ∃ c, L2.TopDefC K mg "_law_any" Mine.s_l_any c ∧ ∀ h, K.In h → CodeHd h c 272 := ⟨c, L2.topC_mk X G a l cd k, fun _ Y => L2.codeHd_of Y ch⟩
structure Mine.Classes (K : Frag) (mg : Str → Option Value) (CS CR CN CT CL fI : Addr) : Prop where
  ms : mg "SayError" = some (.ref CS)
  mr : mg "NoRows" = some (.ref CR)
  mn : mg "NoLine" = some (.ref CN)
  mt : mg "TooMany" = some (.ref CT)
  ml : mg "NoLetter" = some (.ref CL)
  fe : L2.FunE K "__init__" "NoLine.__init__" Mine.s_NoLine_init fI
  xi : L2.excInI K CN L2.bmV "ValueError.__new__" fI = true
  kc : keepIn K (.ref CN) = true
  fl : L2.XFld K CN
  n1 : L2.NoAttr K CN "word"
  n2 : L2.NoAttr K CN "at"
  cc : L2.CatchCls K CS
  su : mroIn K CN (.ref CS) = some true
  k1 : kitOne K (.ref CN) (.type "ValueError") = some true
  k2 : kitOne K (.ref CN) (.ref CR) = some false
  k3 : kitOne K (.ref CN) (.ref CT) = some false
  k4 : kitOne K (.ref CN) (.ref CL) = some false
  kb : kitOne K (.type "int") (.type "bool") = some false
theorem Mine.classes_mk {K : Frag} {h : Heap} {mg : Str → Option Value} {CS CR CN CT CL fI : Addr} {c1 c2 : ClassData} (X : K.In h) (G : h.Ns mainGlobals mg)
    (mCS : nsIn K mainGlobals "SayError" = some (some (.ref CS)))
    (mCR : nsIn K mainGlobals "NoRows" = some (some (.ref CR)))
    (mCN : nsIn K mainGlobals "NoLine" = some (some (.ref CN)))
    (mCT : nsIn K mainGlobals "TooMany" = some (some (.ref CT)))
    (mCL : nsIn K mainGlobals "NoLetter" = some (some (.ref CL)))
    (i0 : findIn K (.ref CN) "__init__" = some (some (.ref fI)))
    (fe : L2.FunE K "__init__" "NoLine.__init__" Mine.s_NoLine_init fI)
    (xi : L2.excInI K CN L2.bmV "ValueError.__new__" fI = true)
    (kc : keepIn K (.ref CN) = true)
    (xf : L2.xfldIn K CN = true)
    (sa : findIn K (.ref CN) "__setattr__" = some (some (.builtin "object.__setattr__")))
    (n1 : findIn K (.ref CN) "word" = some none)
    (n2 : findIn K (.ref CN) "at" = some none)
    (e6 : clsIn K CN = some c1)
    (e8 : mroIn K CN (.type "BaseException") = some true)
    (e9 : findIn K (.ref CN) "__getattribute__" = some (some (.builtin "BaseException.__getattribute__")))
    (e10 : findIn K (.ref CN) "__getattr__" = some none)
    (e12 : findIn K (.ref CN) "__class__" = some (some (.builtin "object.__class__")))
    (e13 : specialIn K (.builtin "object.__class__") "__get__" = some (some (.builtin "getset_descriptor.__get__")))
    (e14 : takesIn K (.builtin "object.__class__") = some true)
    (e16 : mroIn K CN (.type "object") = some true)
    (s6 : clsIn K CS = some c2)
    (s7 : typeIn K (.ref CS) = some (.type "type"))
    (s8 : mroIn K CS (.type "BaseException") = some true)
    (su : mroIn K CN (.ref CS) = some true)
    (k1 : kitOne K (.ref CN) (.type "ValueError") = some true)
    (k2 : kitOne K (.ref CN) (.ref CR) = some false)
    (k3 : kitOne K (.ref CN) (.ref CT) = some false)
    (k4 : kitOne K (.ref CN) (.ref CL) = some false)
    (kb : kitOne K (.type "int") (.type "bool") = some false) :
    ∃ CS CR CN CT CL fI, Mine.Classes K mg CS CR CN CT CL fI :=
  ⟨CS, CR, CN, CT, CL, fI, mg_of X G mCS, mg_of X G mCR, mg_of X G mCN, mg_of X G mCT, mg_of X G mCL, fe, xi, kc, L2.xfld_mk xf sa ⟨e9, e10, ⟨_, e6⟩, e12, e13, e14, e8, e16⟩, n1, n2, ⟨⟨_, s6⟩, s7, s8⟩, su, k1, k2, k3, k4, kb⟩
set_option maxRecDepth 100000 in
set_option maxHeartbeats 0 in
theorem PySem.Challenge.cw_leansay_k33_lines_that_cannot_be_holds : PySem.Challenge.rw_leansay_k33_lines_that_cannot_be.Holds := by
  w_on; o_law; k_head; (case hw => w_witness2)
  k_fill
  refine L2.walk_bitsT (T := 272) (l := PySem.Challenge.rw_leansay_k33_lines_that_cannot_be) (n := 63) (k := 9) (x := "_law_script") (CX := L2.CX0) (sp := Mine.spLaw33) rfl (by decide) rfl ⟨rfl, by decide, by decide⟩ (fun w h Y => ⟨PySem.W.km_in_of Y, PySem.W.km_tabs_of Y 272 (.head _)⟩) ?ctab ?cknone ?F ?S ?C
  case ctab =>
    intro w h X
    exact L2.isTab_of (c := 276) X (by kernel_rfl)
  case cknone =>
    intro w
    kernel_rfl
  case F =>
    intro w mg fa h KX G hmg
    have T_common_factor : L2.TopDef (L2.KOf KX) mg "common_factor" Mine.s_common_factor := by
      dsimp only [L2.KOf]
      refine' L2.top_mk KX G ?a ?l ?c ?k; (case a => k_is); (case l => k_is); (case c => k_is); (case k => k_is)
    have T_fraction : L2.TopDef (L2.KOf KX) mg "fraction" Mine.s_fraction := by
      dsimp only [L2.KOf]
      refine' L2.top_mk KX G ?a ?l ?c ?k; (case a => k_is); (case l => k_is); (case c => k_is); (case k => k_is)
    have T_less : L2.TopDef (L2.KOf KX) mg "less" Mine.s_less := by
      dsimp only [L2.KOf]
      refine' L2.top_mk KX G ?a ?l ?c ?k; (case a => k_is); (case l => k_is); (case c => k_is); (case k => k_is)
    have T_is_outside : L2.TopDef (L2.KOf KX) mg "is_outside" Mine.s_is_outside := by
      dsimp only [L2.KOf]
      refine' L2.top_mk KX G ?a ?l ?c ?k; (case a => k_is); (case l => k_is); (case c => k_is); (case k => k_is)
    have T_told_by_stretch : L2.TopDef (L2.KOf KX) mg "told_by_stretch" Mine.s_told_by_stretch := by
      dsimp only [L2.KOf]
      refine' L2.top_mk KX G ?a ?l ?c ?k; (case a => k_is); (case l => k_is); (case c => k_is); (case k => k_is)
    have T_put_steeper : L2.TopDef (L2.KOf KX) mg "put_steeper" Mine.s_put_steeper := by
      dsimp only [L2.KOf]
      refine' L2.top_mk KX G ?a ?l ?c ?k; (case a => k_is); (case l => k_is); (case c => k_is); (case k => k_is)
    have T_flat_rows : L2.TopDef (L2.KOf KX) mg "flat_rows" Mine.s_flat_rows := by
      dsimp only [L2.KOf]
      refine' L2.top_mk KX G ?a ?l ?c ?k; (case a => k_is); (case l => k_is); (case c => k_is); (case k => k_is)
    have T_straight_rows : L2.TopDef (L2.KOf KX) mg "straight_rows" Mine.s_straight_rows := by
      dsimp only [L2.KOf]
      refine' L2.top_mk KX G ?a ?l ?c ?k; (case a => k_is); (case l => k_is); (case c => k_is); (case k => k_is)
    have T_is_out : L2.TopDef (L2.KOf KX) mg "is_out" Mine.s_is_out := by
      dsimp only [L2.KOf]
      refine' L2.top_mk KX G ?a ?l ?c ?k; (case a => k_is); (case l => k_is); (case c => k_is); (case k => k_is)
    have T_must_stay : L2.TopDef (L2.KOf KX) mg "must_stay" Mine.s_must_stay := by
      dsimp only [L2.KOf]
      refine' L2.top_mk KX G ?a ?l ?c ?k; (case a => k_is); (case l => k_is); (case c => k_is); (case k => k_is)
    have T_must_lead_back : L2.TopDef (L2.KOf KX) mg "must_lead_back" Mine.s_must_lead_back := by
      dsimp only [L2.KOf]
      refine' L2.top_mk KX G ?a ?l ?c ?k; (case a => k_is); (case l => k_is); (case c => k_is); (case k => k_is)
    have T_moved : L2.TopDef (L2.KOf KX) mg "moved" Mine.s_moved := by
      dsimp only [L2.KOf]
      refine' L2.top_mk KX G ?a ?l ?c ?k; (case a => k_is); (case l => k_is); (case c => k_is); (case k => k_is)
    have T_put_straights : L2.TopDef (L2.KOf KX) mg "put_straights" Mine.s_put_straights := by
      dsimp only [L2.KOf]
      refine' L2.top_mk KX G ?a ?l ?c ?k; (case a => k_is); (case l => k_is); (case c => k_is); (case k => k_is)
    have T_put_folded : L2.TopDef (L2.KOf KX) mg "put_folded" Mine.s_put_folded := by
      dsimp only [L2.KOf]
      refine' L2.top_mk KX G ?a ?l ?c ?k; (case a => k_is); (case l => k_is); (case c => k_is); (case k => k_is)
    have T_is_below_at : L2.TopDef (L2.KOf KX) mg "is_below_at" Mine.s_is_below_at := by
      dsimp only [L2.KOf]
      refine' L2.top_mk KX G ?a ?l ?c ?k; (case a => k_is); (case l => k_is); (case c => k_is); (case k => k_is)
    have T_is_below : L2.TopDef (L2.KOf KX) mg "is_below" Mine.s_is_below := by
      dsimp only [L2.KOf]
      refine' L2.top_mk KX G ?a ?l ?c ?k; (case a => k_is); (case l => k_is); (case c => k_is); (case k => k_is)
    have T_rows_of_line : L2.TopDef (L2.KOf KX) mg "rows_of_line" Mine.s_rows_of_line := by
      dsimp only [L2.KOf]
      refine' L2.top_mk KX G ?a ?l ?c ?k; (case a => k_is); (case l => k_is); (case c => k_is); (case k => k_is)
    have T_l_cell : L2.TopDef (L2.KOf KX) mg "_law_cell" Mine.s_l_cell := by
      dsimp only [L2.KOf]
      refine' L2.top_mk KX G ?a ?l ?c ?k; (case a => k_is); (case l => k_is); (case c => k_is); (case k => k_is)
    have T_l_whole : L2.TopDef (L2.KOf KX) mg "_law_whole" Mine.s_l_whole := by
      dsimp only [L2.KOf]
      refine' L2.top_mk KX G ?a ?l ?c ?k; (case a => k_is); (case l => k_is); (case c => k_is); (case k => k_is)
    have T_l_lowest : L2.TopDef (L2.KOf KX) mg "_law_lowest" Mine.s_l_lowest := by
      dsimp only [L2.KOf]
      refine' L2.top_mk KX G ?a ?l ?c ?k; (case a => k_is); (case l => k_is); (case c => k_is); (case k => k_is)
    have T_l_meet : L2.TopDef (L2.KOf KX) mg "_law_meet" Mine.s_l_meet := by
      dsimp only [L2.KOf]
      refine' L2.top_mk KX G ?a ?l ?c ?k; (case a => k_is); (case l => k_is); (case c => k_is); (case k => k_is)
    have T_l_inward : L2.TopDef (L2.KOf KX) mg "_law_inward" Mine.s_l_inward := by
      dsimp only [L2.KOf]
      refine' L2.top_mk KX G ?a ?l ?c ?k; (case a => k_is); (case l => k_is); (case c => k_is); (case k => k_is)
    have T_l_ways : L2.TopDef (L2.KOf KX) mg "_law_ways" Mine.s_l_ways := by
      dsimp only [L2.KOf]
      refine' L2.top_mk KX G ?a ?l ?c ?k; (case a => k_is); (case l => k_is); (case c => k_is); (case k => k_is)
    have T_l_way_out : L2.TopDef (L2.KOf KX) mg "_law_way_out" Mine.s_l_way_out := by
      dsimp only [L2.KOf]
      refine' L2.top_mk KX G ?a ?l ?c ?k; (case a => k_is); (case l => k_is); (case c => k_is); (case k => k_is)
    have T_l_built : L2.TopDef (L2.KOf KX) mg "_law_built" Mine.s_l_built := by
      dsimp only [L2.KOf]
      refine' L2.top_mk KX G ?a ?l ?c ?k; (case a => k_is); (case l => k_is); (case c => k_is); (case k => k_is)
    have T_l_due : L2.TopDef (L2.KOf KX) mg "_law_due" Mine.s_l_due := by
      dsimp only [L2.KOf]
      refine' L2.top_mk KX G ?a ?l ?c ?k; (case a => k_is); (case l => k_is); (case c => k_is); (case k => k_is)
    have T_l_told : L2.TopDef (L2.KOf KX) mg "_law_told" Mine.s_l_told := by
      dsimp only [L2.KOf]
      refine' L2.top_mk KX G ?a ?l ?c ?k; (case a => k_is); (case l => k_is); (case c => k_is); (case k => k_is)
    have T_law : L2.TopDef (L2.KOf KX) mg "law" Mine.s_law := by
      dsimp only [L2.KOf]
      refine' L2.top_mk KX G ?a ?l ?c ?k; (case a => k_is); (case l => k_is); (case c => k_is); (case k => k_is)
    have CA : ∃ c, L2.TopDefC (L2.KOf KX) mg "_law_any" Mine.s_l_any c ∧ (∀ h, (L2.KOf KX).In h → CodeHd h c 272) := by
      dsimp only [L2.KOf]
      refine' Mine.any_mk KX G ?a ?l ?cd ?k ?ch; (case a => k_is); (case l => k_is); (case cd => k_is); (case k => k_is); (case ch => kernel_rfl)
    obtain ⟨cA, TA, TB⟩ := CA
    have Z_len : mg "len" = none := by
      refine' PySem.W.mg_none_of KX G ?z; (case z => k_is)
    have Z_abs : mg "abs" = none := by
      refine' PySem.W.mg_none_of KX G ?z; (case z => k_is)
    have Z_range : mg "range" = none := by
      refine' PySem.W.mg_none_of KX G ?z; (case z => k_is)
    have Z_isinstance : mg "isinstance" = none := by
      refine' PySem.W.mg_none_of KX G ?z; (case z => k_is)
    have Z_bool : mg "bool" = none := by
      refine' PySem.W.mg_none_of KX G ?z; (case z => k_is)
    have Z_int : mg "int" = none := by
      refine' PySem.W.mg_none_of KX G ?z; (case z => k_is)
    have Z_list : mg "list" = none := by
      refine' PySem.W.mg_none_of KX G ?z; (case z => k_is)
    have Z_tuple : mg "tuple" = none := by
      refine' PySem.W.mg_none_of KX G ?z; (case z => k_is)
    have Z_enumerate : mg "enumerate" = none := by
      refine' PySem.W.mg_none_of KX G ?z; (case z => k_is)
    have Z_sorted : mg "sorted" = none := by
      refine' PySem.W.mg_none_of KX G ?z; (case z => k_is)
    have Z_ValueError : mg "ValueError" = none := by
      refine' PySem.W.mg_none_of KX G ?z; (case z => k_is)
    have P_NOUGHT : L2.TopTup (L2.KOf KX) mg "NOUGHT" [0, 1] := by
      dsimp only [L2.KOf]
      refine' L2.toptup_mk (ns := [0, 1]) KX G ?e ?l ?z ?v; (case e => k_is); (case l => k_is); (case z => decide); (case v => exact (.cons ⟨_, rfl⟩ (.cons ⟨_, rfl⟩ .nil)))
    have P_WHOLE : L2.TopTup (L2.KOf KX) mg "WHOLE" [1, 1] := by
      dsimp only [L2.KOf]
      refine' L2.toptup_mk (ns := [1, 1]) KX G ?e ?l ?z ?v; (case e => k_is); (case l => k_is); (case z => decide); (case v => exact (.cons ⟨_, rfl⟩ (.cons ⟨_, rfl⟩ .nil)))
    have I_STEEPEST_straights : ∃ t, mg "STEEPEST_straights" = some (.int 12 t) := by
      refine' L2.topint_mk KX G ?ie ?iq; (case ie => k_is); (case iq => exact ⟨_, rfl⟩)
    have I_STEEPEST_backs : ∃ t, mg "STEEPEST_backs" = some (.int 4 t) := by
      refine' L2.topint_mk KX G ?ie ?iq; (case ie => k_is); (case iq => exact ⟨_, rfl⟩)
    have I_MOST_STRETCHES : ∃ t, mg "MOST_STRETCHES" = some (.int 6 t) := by
      refine' L2.topint_mk KX G ?ie ?iq; (case ie => k_is); (case iq => exact ⟨_, rfl⟩)
    have CC : ∃ CS CR CN CT CL fI, Mine.Classes (L2.KOf KX) mg CS CR CN CT CL fI := by
      dsimp only [L2.KOf]
      refine' Mine.classes_mk KX G ?mCS ?mCR ?mCN ?mCT ?mCL ?i0 ?fe ?xi ?kc ?xf ?sa ?n1 ?n2 ?e6 ?e8 ?e9 ?e10 ?e12 ?e13 ?e14 ?e16 ?s6 ?s7 ?s8 ?su ?k1 ?k2 ?k3 ?k4 ?kb
      (case mCS => k_is)
      (case mCR => k_is)
      (case mCN => k_is)
      (case mCT => k_is)
      (case mCL => k_is)
      (case i0 => k_is)
      (case fe => refine' L2.funE_mk ?fl ?fc ?fk; (case fl => k_is); (case fc => k_is); (case fk => k_is))
      (case xi => kernel_rfl)
      (case kc => k_is)
      (case xf => kernel_rfl)
      (case sa => k_is)
      (case n1 => k_is)
      (case n2 => k_is)
      (case e6 => k_is)
      (case e8 => k_is)
      (case e9 => k_is)
      (case e10 => k_is)
      (case e12 => k_is)
      (case e13 => k_is)
      (case e14 => k_is)
      (case e16 => k_is)
      (case s6 => k_is)
      (case s7 => k_is)
      (case s8 => k_is)
      (case su => k_is)
      (case k1 => first | k_is | kit_is)
      (case k2 => first | k_is | kit_is)
      (case k3 => first | k_is | kit_is)
      (case k4 => first | k_is | kit_is)
      (case kb => first | k_is | kit_is)
    obtain ⟨CS, CR, CN, CT, CL, fI, Z⟩ := CC
    obtain ⟨f, fd, F, m⟩ := T_law.ex
    have e := hmg.symm.trans m
    cases e
    obtain ⟨oc, od, kV, doc, pm, an, cdv, ct, osl, hfd, lk, hcd⟩ := id F.ex
    subst hfd
    refine ⟨PySem.W.fnOf "law" "law" (L2.defArgs Mine.s_law) (L2.defBody Mine.s_law) (L2.defScope Mine.s_law) .none kV doc pm an cdv ct, fun s u => .of_eq rfl, fun base kb nb bB => ?_⟩
    obtain ⟨tq, M_STR⟩ := I_MOST_STRETCHES
    obtain ⟨tb, M_SB⟩ := I_STEEPEST_backs
    obtain ⟨ts, M_STEEP⟩ := I_STEEPEST_straights
    obtain ⟨fdI, FI⟩ := Z.fe.ex
    have XN : L2.XC2 PySem.Challenge.rw_leansay_k33_lines_that_cannot_be.prog w (L2.KOf KX) mg base "NoLine" CN "word" "at" := ⟨Z.mn, Z.kc, ⟨fI, fdI, _, Mine.ok_init FI Z.fl Z.n1 Z.n2, FI.binds (fun _ _ _ _ _ _ us hl => match us, hl with | [_, _, _], _ => rfl), Z.xi⟩, Z.fl, Z.n1, Z.n2⟩
    have dFrac := Mine.ok_fraction T_fraction (Mine.ok_factor (P := PySem.Challenge.rw_leansay_k33_lines_that_cannot_be.prog) (w := w) (base := base) T_common_factor Z_abs)
    have dLess := Mine.ok_less (P := PySem.Challenge.rw_leansay_k33_lines_that_cannot_be.prog) (w := w) (base := base) T_less
    have dOut := Mine.ok_isOut33 T_is_out (Mine.ok_outside T_is_outside P_NOUGHT P_WHOLE dLess) (Mine.ok_told T_told_by_stretch dFrac)
    have dStay := Mine.ok_stay33 T_must_stay Z_enumerate P_NOUGHT XN dOut
    have dLead := Mine.ok_lead33 T_must_lead_back Z_enumerate Z_len Z_abs M_STR M_SB XN dStay
    have dStraight := Mine.ok_straight33 T_straight_rows Z_abs Z_len Z_range M_STEEP (Mine.ok_flat33 (P := PySem.Challenge.rw_leansay_k33_lines_that_cannot_be.prog) (w := w) (base := base) T_flat_rows) (Mine.ok_steep33 (P := PySem.Challenge.rw_leansay_k33_lines_that_cannot_be.prog) (w := w) (base := base) T_put_steeper Z_len Z_range)
    have dPut := Mine.ok_put33 T_put_straights Z_len dStraight (Mine.ok_moved33 (P := PySem.Challenge.rw_leansay_k33_lines_that_cannot_be.prog) (w := w) (base := base) T_moved Z_tuple)
    have dBack := Mine.ok_back33 T_rows_of_line P_NOUGHT dLead dPut (Mine.ok_folded33 (P := PySem.Challenge.rw_leansay_k33_lines_that_cannot_be.prog) (w := w) (base := base) T_put_folded Z_len) (Mine.ok_below33 T_is_below (Mine.ok_belowAt33 (P := PySem.Challenge.rw_leansay_k33_lines_that_cannot_be.prog) (w := w) (base := base) T_is_below_at))
    have dCell := Mine.ok_cell (P := PySem.Challenge.rw_leansay_k33_lines_that_cannot_be.prog) (w := w) (base := base) T_l_cell Z_len
    have dLow := Mine.ok_lowL (P := PySem.Challenge.rw_leansay_k33_lines_that_cannot_be.prog) (w := w) (base := base) T_l_lowest Z_abs
    have dWays := Mine.ok_ways33 T_l_ways Z_range (Mine.ok_meet32 T_l_meet dLow) (Mine.ok_inward33 (P := PySem.Challenge.rw_leansay_k33_lines_that_cannot_be.prog) (w := w) (base := base) T_l_inward)
    have dBuilt := Mine.ok_built33 T_l_built Z_len Z_range Z_tuple dCell dWays (Mine.ok_wayOut33 T_l_way_out dLow)
    have dAny := Mine.ok_any33 (P := PySem.Challenge.rw_leansay_k33_lines_that_cannot_be.prog) (w := w) (base := base) TA ⟨TB, bB, by decide⟩ Z_range Z_sorted Z_tuple dCell dLow
    have dWhole := Mine.ok_whole (P := PySem.Challenge.rw_leansay_k33_lines_that_cannot_be.prog) (w := w) (base := base) T_l_whole Z_isinstance Z_int Z_bool Z.kb
    have dTold := Mine.ok_told33 T_l_told Z_isinstance Z_list Z_int Z_ValueError XN Z.mr Z.mt Z.ml Z.ms Z.cc Z.su Z.k1 Z.k2 Z.k3 Z.k4 dBack dWhole
    exact Mine.ok_law F dCell dAny dBuilt dTold (Mine.ok_due33 (P := PySem.Challenge.rw_leansay_k33_lines_that_cannot_be.prog) (w := w) (base := base) T_l_due Z_enumerate Z_len)
  case S => exact fun K H a ns hl hb hO hS => ⟨a, ns, rfl, Mine.scr_ofT hO hS hl hb, hO.1, fun _ => rfl⟩
  case C => exact fun _ _ _ _ z => z





