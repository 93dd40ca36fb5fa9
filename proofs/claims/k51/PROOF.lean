import PyProof.Rows.All
import Wide.All
import OpenK.AllK
import Wide.FinOn
import Lean
import PyProof.EqAt
import PyProof.EqKinds
import PyProof.TupleCall
import KE.KRevIter
import PyProof.ListNew
import PyProof.NeKinds
import PyProof.StrBlockL
import KE.LcSums
import PyProof.Rows.EqDataRows
import PyProof.Draws
import PyProof.EnumMake
import PyProof.ZipIter
import PyProof.WalksMore
import PyProof.P3In
import PyProof.IsRules
import KE.KLcPair
import PyProof.Rows.Range3
import PyProof.Rows.MinMaxN
import KE.KTab
import PyProof.Rows.SumAny
import PyProof.ExcClass2
import PyProof.ExcInit
import PyProof.StationsW
import PyProof.InstStoreFacts
import PySem.Challenge.RW_leansay_k51_always_known
set_option Elab.async false
set_option linter.all false
noncomputable section
set_option hygiene false
local macro_rules | `(tactic| walk_at "i1") => `(tactic| (intro vs H Q E h;first | (cases h;subst_vars;rfl) | ((repeat obtain ⟨_,h⟩:=h);subst_vars;rfl)))
local macro_rules | `(tactic| walk_at "i4") => `(tactic| intro vs H Q E h)
local macro_rules | `(tactic| walk_at "i2") => `(tactic| intro f cdv A outer s H vs Q E hr h)
local macro_rules | `(tactic| walk_at "i3") => `(tactic| intro cdv A outer s H vs Q E hr h)
set_option hygiene true
set_option autoImplicit true
set_option relaxedAutoImplicit true
set_option maxRecDepth 100000
set_option hygiene false
local macro_rules | `(tactic| walk_at "rm") => `(tactic| (exact L2.dY.mono (by assumption) (by first | decide | omega)))
local macro_rules | `(tactic| walk_at "kr") => `(tactic| (exact of_decide_eq_true (by kernel_rfl)))
local macro_rules | `(tactic| walk_at "oi") => `(tactic| (first | exact Or.inl rfl | exact Or.inr rfl))
local macro_rules | `(tactic| walk_at "ar") => `(tactic| (intro _ _ _ _ _ _; first | exact L2.ar1 fun _ => rfl | exact L2.ar2 fun _ _ => rfl | exact L2.ar3 fun _ _ _ => rfl | exact L2.ar4 fun _ _ _ _ => rfl | exact L2.ar0 rfl | exact L2.ar5 fun _ _ _ _ _ => rfl))
set_option hygiene true
abbrev c5:=@PySem.wpAny_bind
abbrev c6:=@PySem.F.plainAttrs_list
abbrev c7:=@Nat.le_refl
abbrev c8:=@List.length_append
abbrev c9:=@List.getElem?_eq_getElem
abbrev d6:=@List.getElem?_eq_some_iff
abbrev d7:=@List.mem_singleton
abbrev d8:=@if_pos
abbrev d9:=@Nat.lt_of_le_of_lt
abbrev i5:=@if_neg
abbrev i6:=@decide_eq_true
abbrev i7:=@Nat.lt_of_lt_of_le
abbrev i8:=@PySem.Heap.get?_push_of_some
abbrev i9:=@of_decide_eq_true
abbrev j4:=@List.length_map
abbrev j6:=@List.mem_cons
abbrev j7:=@PySem.F.slot_list_append
abbrev j8:=@PySem.F.type_list_append
abbrev j9:=@List.mem_append
abbrev l6:=@List.size_toArray
abbrev l7:=@Option.some.inj
abbrev l8:=@Nat.le_trans
abbrev l9:=@Bool.false_ne_true
abbrev m6:=@List.length_cons
abbrev p5:=@PySem.Heap.lt_size
abbrev p7:=@List.map_append
abbrev p8:=@List.mem_append_right
abbrev w6:=@List.append_assoc
abbrev w8:=@List.mem_of_getElem?
abbrev x4:=@PySem.wpAny_pure
abbrev x5:=@PySem.Heap.get?_push_size
abbrev x6:=@List.getElem?_map
abbrev x8:=@List.mem_cons_self
abbrev x9:=@List.nil_append
abbrev y7:=@Nat.zero_le
abbrev y8:=@List.mem_cons_of_mem
abbrev y9:=@List.mem_map
abbrev z5:=@Int.le_of_lt
abbrev z6:=@congrArg
abbrev z7:=@PySem.PassesOwn.never
abbrev z8:=@Nat.le_of_ble_eq_true
abbrev z9:=@List.cons_append
abbrev A0:=@Int.mul_nonneg
abbrev A2:=@List.not_mem_nil
abbrev A3:=@List.getD_eq_getElem?_getD
abbrev A4:=@Nat.ne_of_lt
abbrev A5:=@List.map_cons
abbrev A6:=@List.take_length
abbrev A7:=@List.take_add_one
abbrev A8:=@Int.lt_or_le
abbrev A9:=@PySem.W.mg_none_of
abbrev B0:=@List.append_nil
abbrev B2:=@List.mem_append_left
abbrev B3:=@Classical.byContradiction
abbrev B5:=@Nat.lt_or_ge
abbrev B6:=@Bool.and_eq_true
abbrev B7:=@Array.length_toList
abbrev B8:=@List.getElem?_append_left
abbrev B9:=@Nat.lt_irrefl
abbrev C2:=@PyProof.Rows.slot_tuple_getitem
abbrev C3:=@Int.le_refl
abbrev C4:=@PySem.F.slot_list_pop
abbrev C5:=@PySem.F.type_list_pop
abbrev C6:=@Int.mul_le_mul_of_nonneg_right
abbrev C7:=@PySem.wpAny_truthy_bool
abbrev C8:=@List.reverse_cons
abbrev C9:=@List.drop_eq_getElem_cons
abbrev D0:=@Int.mul_neg_of_pos_of_neg
abbrev D5:=@Int.mul_nonneg_of_nonpos_of_nonpos
abbrev D7:=@decide_eq_false
abbrev D8:=@PySem.W.kia_one
abbrev D9:=@Int.mul_eq_zero
abbrev E4:=@List.lookup_cons
abbrev E5:=@List.length_reverse
abbrev E6:=@PyProof.Rows.callWith_type1
abbrev E7:=@PySem.wpAny_callSpecial?_slot
abbrev E8:=@PySem.wpAny_Call_Name_kw
abbrev E9:=@List.mem_iff_getElem
abbrev F0:=@Nat.le_add_right
abbrev F1:=@List.eq_nil_of_length_eq_zero
abbrev F2:=@PySem.wpAny_field
abbrev F3:=@Int.lt_trichotomy
abbrev F4:=@PySem.Heap.size_push
abbrev F5:=@PySem.wpAny_mono
abbrev F6:=@Int.mul_nonpos_of_nonneg_of_nonpos
abbrev F7:=@beq_self_eq_true
abbrev F9:=@or_false
abbrev G0:=@Nat.pow_le_pow_right
abbrev G1:=@List.dropLast_concat
abbrev G2:=@Int.fdiv_eq_ediv_of_nonneg
abbrev G3:=@List.getElem?_append_right
abbrev G4:=@PySem.wpAny_newObj_type
abbrev G5:=@Int.fmod_nonneg_of_pos
abbrev G6:=@beq_eq_false_iff_ne
abbrev G7:=@Int.mul_pos
abbrev G8:=@Int.mul_neg_of_neg_of_pos
abbrev G9:=@List.length_singleton
abbrev I0:=@List.length_take
abbrev Jn:=@Int.emod_lt_of_pos
abbrev Jo:=@Nat.pow_succ
abbrev Jp:=@Ne.symm
abbrev Jq:=@List.getElem?_concat_length
abbrev Jr:=@List.singleton_sublist
abbrev Js:=@Nat.lt_succ_self
abbrev Jt:=@PySem.wpAny_call_entry
abbrev Ju:=@PySem.Calls.spliced_cons
abbrev Jv:=@PySem.F.slot_tuple_iterator_next
abbrev Jw:=@Nat.eq_zero_or_pos
abbrev Jx:=@Int.fmod_lt_of_pos
abbrev Jy:=@Int.eq_of_mul_eq_mul_left
abbrev Jz:=@PySem.wpAny_passesOwn
abbrev JA:=@Int.mul_comm
abbrev JB:=@beq_iff_eq
abbrev JC:=@PySem.wpAny_comprehension_free
abbrev JD:=@PySem.mem_of_lookup
abbrev JE:=@List.length_drop
abbrev JF:=@PySem.wpAny_seqItems
abbrev JG:=@List.getElem_mem
abbrev JH:=@PySem.wpAny_pyIter_tuple
abbrev JI:=@Option.map_eq_some_iff
abbrev JJ:=@PySem.wpAny_setField_rec
abbrev JK:=@Nat.one_le_two_pow
abbrev JL:=@Int.le_trans
abbrev JM:=@List.countP_append
abbrev JN:=@List.mem_filter
abbrev JO:=@List.find?_cons
abbrev JP:=@PySem.F.slot_zip_next
abbrev JQ:=@List.cons.injEq
abbrev JR:=@Int.emod_nonneg
abbrev JS:=@List.cons.inj
abbrev JT:=@PySem.SeqAt.EqAt.same
abbrev JU:=@List.mem_of_mem_take
abbrev JV:=@Nat.add_le_add
abbrev JW:=@Int.le_of_mul_le_mul_right
abbrev JX:=@Nat.le_of_lt
abbrev JY:=@PySem.wpAny_pyIter_zip
abbrev JZ:=@Int.le_of_eq
abbrev J0:=@List.getLast?_eq_getElem?
abbrev J1:=@List.any_cons
abbrev J2:=@PySem.F.slot_list_extend
abbrev J3:=@PySem.F.type_list_extend
abbrev J4:=@Bool.eq_iff_iff
abbrev J5:=@Option.map_some
abbrev J6:=@List.length_nil
abbrev J7:=@Int.fdiv_eq_ediv_of_dvd
abbrev J8:=@Nat.ne_of_gt
abbrev J9:=@PySem.Calls.spliced_nil
abbrev Ka:=@Nat.lt_succ_of_lt
abbrev Kb:=@List.map_map
abbrev Kc:=@Decidable.em
abbrev Kd:=@Int.zero_mul
abbrev Ke:=@Int.le_ediv_iff_mul_le
abbrev Kf:=@List.eraseIdxIfInBounds_toArray
abbrev Kg:=@List.length_replicate
abbrev Kh:=@List.eq_nil_or_concat
abbrev Ki:=@List.concat_eq_append
abbrev Kj:=@Classical.choose_spec
abbrev Kk:=@PySem.nums_intItems
abbrev Kl:=@Int.mul_ediv_cancel'
abbrev Km:=@List.reverse_reverse
abbrev Kn:=@PySem.intItems_at
abbrev Ko:=@PySem.wpAny_execs_nil
abbrev Kq:=@List.nodup_cons
abbrev Kr:=@List.forIn_cons
abbrev Ks:=@List.dropLast_concat_getLast
abbrev Kt:=@List.foldl_cons
abbrev Ku:=@PySem.W.hideAll_get
abbrev Kv:=@List.filterMap_cons
abbrev Kw:=@PySem.W.plainGet_of
abbrev Kx:=@PySem.W.callWith_K0
abbrev Ky:=@List.reverse_append
abbrev Kz:=@List.map_nil
abbrev KA:=@List.mem_range
abbrev KC:=@List.mem_filterMap
abbrev KD:=@Int.fmod_eq_emod_of_nonneg
abbrev KG:=@PySem.W.callWith_K
abbrev KH:=@PySem.call_meets
abbrev KI:=@PySem.tupleKind_room_in1
abbrev KJ:=@PySem.numAt_eq
abbrev KL:=@PySem.getD_mem
abbrev KN:=@Int.lt_of_lt_of_le
abbrev KO:=@List.foldl_nil
abbrev KP:=@Int.eq_of_mul_eq_mul_right
abbrev KQ:=@Array.getElem?_eq_getElem
abbrev KR:=@Int.mul_pos_of_neg_of_neg
abbrev KS:=@Decidable.byContradiction
abbrev KU:=@PySem.F.slot_list_reverse
abbrev KW:=@PySem.F.type_list_reverse
abbrev KY:=@List.getLastD_eq_getLast?
abbrev KZ:=@List.exists_mem_of_ne_nil
abbrev K0:=@Int.mul_one
abbrev K1:=@PySem.wpAny_pyIter_list
abbrev K2:=@PySem.sizeLine_eq
abbrev K3:=@Int.toNat_natCast
abbrev K4:=@PySem.F.args_zip_next_1
abbrev K5:=@List.drop_sublist
abbrev K6:=@Int.natAbs_add_le
abbrev K7:=@PySem.W.mg_of
abbrev K8:=@PySem.Paired.length
abbrev K9:=@Option.isSome_iff_exists
abbrev La:=@PySem.F.args_tuple_add_2
abbrev Lb:=@PySem.W.mg_of
abbrev Lc:=@Int.mul_assoc
abbrev Ld:=@Int.mul_fdiv_cancel_left
abbrev Le:=@PySem.W.makes_of
abbrev Lf:=@PySem.F.entry_zip_next
abbrev Lg:=@Nat.mod_eq_of_lt
abbrev Lh:=@List.mem_flatten
abbrev Li:=@PySem.codeAny_mono
abbrev Lj:=@if_true
abbrev Lk:=@Nat.mod_lt
abbrev Ll:=@Int.le_total
abbrev Lm:=@Int.lt_trans
abbrev Lp:=@List.of_mem_zip
abbrev Lq:=@Nat.le_add_left
abbrev Lr:=@Nat.min_le_left
abbrev Lu:=@Nat.le_succ
abbrev Lv:=@Int.natAbs_mul
abbrev Lw:=@Int.one_mul
abbrev Lx:=@Int.le_min
namespace L2
open PySem PySem.Spec PyProof.Rows
variable{us its:List Value}{u cd:Value}{a b it C dx:Addr}{o:HO}{h base:Heap}{ob:Obj}{g':Array GenState}{t' n tk:Nat}{d':Drawn}{ch fp:List Addr}{x qual:Str}{e c tg LH:Expr}{QF Ly:List (Addr×Obj)}{N ns ps:List Str}{M:Model}{A:Around}{s':Shared}{X:Cx}{ta:TA}{tb:TS}{σ:St}{pos pos':Pos}{op Uj:CmpOp}{D:Ends}{f:Value->Value->Sem Value}{st body:List Stmt}{tc:TT}{es:List Expr}{te:TE}{ti:Yc}{vs:Array Value}{lo:Int}{p:List Value->Prop}{wi:TI}{r':R2}{mA mg:Str->Option Value}{expr:Bool}{kw:List (Str×Value)}{prog:Program}{env:Env}{sc scope:Scope}{kindOf:Str->Option NameKind}{params:Arguments}{an od:Option Addr}{osl:Array (Option Value)}{sp:Sp}
noncomputable abbrev Key:=Sum Int Str
noncomputable def vy:Key->Value->Bool
 | .inl k,v=>Value.isInt k v
 | .inr x,v=>Value.isStrOf x v
noncomputable def Zk(w:World):Key->Int
 | .inl k=>hashInt k
 | .inr x=>hashStr w x
theorem cT:∀{k:Key}{v:Value},vy k v=true->(∃i t,k=Sum.inl i/\v=Value.int i t)\/(∃x t,k=Sum.inr x/\v=Value.str x t)
 | .inl i,v,h=>by
  obtain⟨t,e⟩:=Value.isInt_shape (k:=i) (v:=v) h;exact .inl ⟨i,t,rfl,e⟩
 | .inr x,v,h=>by
  obtain⟨t,e⟩:=Value.isStrOf_shape (x:=x) (v:=v) h;exact .inr ⟨x,t,rfl,e⟩
theorem ED(i:Int)(t:Tok):vy (.inl i) (.int i t)=true:=by simp[vy,Value.isInt]
theorem EC(x:Str)(t:Tok):vy (.inr x) (.str x t)=true:=by simp[vy,Value.isStrOf]
theorem Ss(a b:Int):decide ((Sum.inl a:Key)=Sum.inl b)=(a==b):=by
 by_cases e:a=b
 .subst e;simp
 .have h:¬(Sum.inl a:Key)=Sum.inl b:=λq=>e (Sum.inl.inj q);rw[D7 h];exact(G6.mpr e).symm
theorem So(a b:Str):decide ((Sum.inr a:Key)=Sum.inr b)=decide (a=b):=by
 by_cases e:a=b
 .subst e;simp
 .have h:¬(Sum.inr a:Key)=Sum.inr b:=λq=>e (Sum.inr.inj q);rw[D7 h,D7 e]
theorem Sr(a:Int)(b:Str):decide ((Sum.inl a:Key)=Sum.inr b)=false:=D7 (λq=>nomatch q)
theorem Sq(a:Str)(b:Int):decide ((Sum.inr a:Key)=Sum.inl b)=false:=D7 (λq=>nomatch q)
noncomputable def de(prog:Program)(w:World):PySem.KeyKind prog w Key where
 is:=vy
 hash:=Zk w
 inj:=λv a b ha hb=>by
  rcases cT ha with⟨i,t,rfl,rfl⟩ | ⟨x,t,rfl,rfl⟩
  .rcases cT hb with⟨j,u,rfl,e⟩ | ⟨y,u,rfl,e⟩
   .injection e with e1 _;rw[e1]
   .exact nomatch e
  .rcases cT hb with⟨j,u,rfl,e⟩ | ⟨y,u,rfl,e⟩
   .exact nomatch e
   .injection e with e1 _;rw[e1]
 byValue:=λk v h=>by
  rcases cT h with⟨i,t,rfl,rfl⟩ | ⟨x,t,rfl,rfl⟩<;>rfl
 pyHash:=λhv h=>by
  rcases cT hv with⟨i,t,rfl,rfl⟩ | ⟨x,t,rfl,rfl⟩
  .exact wpAny_pyHash_int h
  .exact wpAny_pyHash_str h
 eqBool:=λhu hv h=>by
  rcases cT hu with⟨i,t,rfl,rfl⟩ | ⟨x,t,rfl,rfl⟩
  .rcases cT hv with⟨j,u,rfl,rfl⟩ | ⟨y,u,rfl,rfl⟩
   .rw[Ss]at h;exact wpAny_eqBool_int h
   .rw[Sr]at h;exact SeqAt.EqAt.int_str i t y u _ _ _ _ h
  .rcases cT hv with⟨j,u,rfl,rfl⟩ | ⟨y,u,rfl,rfl⟩
   .rw[Sq]at h;exact SeqAt.EqAt.str_int x t j u _ _ _ _ h
   .rw[So]at h;exact wpAny_eqBool_str h
 «strs»:=λk x t v h=>by
  rcases cT h with⟨i,u,rfl,e⟩ | ⟨y,u,rfl,e⟩
  .exact nomatch e
  .injection e with e1 _
   subst e1;cases v<;>rfl
theorem yZ(prog:Program)(w:World)(i:Int)(t:Tok):(de prog w).is (.inl i) (.int i t)=true:=ED i t
theorem yY(prog:Program)(w:World)(x:Str)(t:Tok):(de prog w).is (.inr x) (.str x t)=true:=EC x t
inductive V where
 | non | bl (b:Bool) | int (i:Int) | str (x:Str) | byt (b:Array UInt8) | flt (b:UInt64) | ref (a:Addr) | ty (n:String)
 deriving DecidableEq
def RelV:V->Value->Prop
 | .non,u=>u=Value.none
 | .bl b,u=>u=Value.bool b
 | .int i,u=>∃t,u=Value.int i t
 | .str x,u=>∃t,u=Value.str x t
 | .byt b,u=>∃t,u=Value.bytes b t
 | .flt b,u=>∃t,u=Value.float b t
 | .ref a,u=>u=Value.ref a
 | .ty n,u=>u=Value.type n
abbrev Vals:List V->List Value->Prop:=Paired RelV
theorem Vals.length{xs:List V}(r:Vals xs us):xs.length=us.length:=K8 r
theorem Vals.get:∀{xs:List V}{us:List Value}{i:Nat}{x:V},Vals xs us->xs[i]?=some x->∃u,us[i]?=some u/\RelV x u
 | _,_,_,_,.nil,e=>by simp at e
 | _,_,0,_,.cons r _,e=>by simp at e;subst e;exact⟨_,rfl,r⟩
 | _,_,i+1,x,.cons _ t,e=>by
  obtain⟨u,h1,h2⟩:=Vals.get (i:=i) (x:=x) t (by simpa using e);exact⟨u,by simpa using h1,h2⟩
theorem Vals.set{x:V}(r:RelV x u):∀{xs:List V}{us:List Value}(i:Nat),Vals xs us->Vals (xs.set i x) (us.set i u)
 | _,_,_,.nil=>.nil
 | _,_,0,.cons _ t=>.cons r t
 | _,_,i+1,.cons q t=>.cons q (Vals.set r i t)
theorem Vals.append:∀{xs ys:List V}{us ws:List Value},Vals xs us->Vals ys ws->Vals (xs++ys) (us++ws)
 | _,_,_,_,.nil,s=>s
 | _,_,_,_,.cons r t,s=>.cons r (Vals.append t s)
theorem Vals.take:∀{xs:List V}{us:List Value}(n:Nat),Vals xs us->Vals (xs.take n) (us.take n)
 | _,_,0,_=>.nil
 | _,_,_+1,.nil=>.nil
 | _,_,n+1,.cons r t=>.cons r (Vals.take n t)
theorem Vals.drop:∀{xs:List V}{us:List Value}(n:Nat),Vals xs us->Vals (xs.drop n) (us.drop n)
 | _,_,0,r=>r
 | _,_,_+1,.nil=>.nil
 | _,_,n+1,.cons _ t=>Vals.drop n t
def lY:Option V->Option Value->Prop
 | some v,some u=>RelV v u
 | none,none=>True
 | _,_=>False
def KV{κ:Type}:List (κ×V)->List (κ×Value)->Prop:=Paired λ(p:κ×V) (q:κ×Value)=>p.1=q.1/\RelV p.2 q.2
noncomputable def kV:Key->V
 | .inl i=>.int i
 | .inr x=>.str x
inductive HO where
 | lst (xs:List V)
 | tup (xs:List V)
 | dK (LB:List (Key×V)) | dT (LB:List (List Key×V))
 | set (S:Int->Bool) (n:Nat)
 | ins (C dx:Addr) (fs:List (Str×V))
 | own (x:Addr)
 | xd (fs:List (Str×V))
 | met (f x:Addr)
 | rng (lo hi:Int)
 | frz (o:Obj) (u:HO)
 | tbl (ps:Array Value)
 | ext (φ:Heap->Prop)
noncomputable abbrev Hp:=Addr->Option HO
noncomputable def upd(H:Hp)(a:Addr)(o:HO):Hp:=λb=>if b=a then some o else H b
theorem ae{H:Hp}:upd H a o a=some o:=by unfold upd;rw[d8 rfl]
theorem aA{H:Hp}(h:b≠a):upd H a o b=H b:=by unfold upd;rw[i5 h]
theorem qG{H:Hp}{u:HO}:upd (upd H a o) a u=upd H a u:=by
 funext b;unfold upd;split<;>rfl
theorem sT{H:Hp}{u:HO}(h:H a=some o)(h':H b=some u)(d:o≠u):a≠b:=by
 intro e;subst e;rw[h]at h';exact d (l7 h')
theorem aF{H:Hp}(h:H a=some o)(h':H b=none):a≠b:=by
 intro e;subst e;rw[h]at h';cases h'
section
variable(P:Program)(w:World)
def cP(H:Hp)(h:Heap)(a:Addr):HO->Prop
 | .lst xs=>xs.length<=sizeLine/\∃(its:List Value)(n:Nat),Vals xs its/\h.get? a=some {cls:=.type "list",data:=.seq its.toArray n}
 | .tup xs=>xs.length<=sizeLine/\∃its:List Value,Vals xs its/\IsTup h a its.toArray
 | .dK LB=>LB.length<=sizeLine/\(a==sysModules)=false/\∃vs,KV LB vs/\h.DictOf (de P w) a vs
 | .dT LB=>LB.length<=sizeLine/\(a == sysModules)=false/\∃ xs:List (List Key×Addr×Value),
   Paired (λ(p:List Key×V) (q:List Key×Addr×Value)=>p.1=q.1/\H q.2.1=some (.tup (p.1.map kV))/\RelV p.2 q.2.2) LB xs/\
   ∃o es ep,h.get? a=some o/\o.ExactDict/\o.data=.dict es ep/\es.toList=xs.map (entryOfKey (tupleKind (de P w)))/\(xs.map (·.1)).Nodup
 | .set S n=>h.SetOf (intKind P w) a S n
 | .ins C dx fs=>H dx=some (.own a)/\fs.length<=1000/\dx≠a/\h.get? a=some (PySem.W.instObj C dx)/\
   ∃mA,h.Ns1 dx mA/\(∀f,lY (fs.lookup f) (mA f))/\PySem.Within mA (fs.map (·.1))
 | .own _=>∃o,h.get? a=some o
 | .xd fs=>∃mA,h.Ns1 a mA/\∀f,lY (fs.lookup f) (mA f)
 | .rng lo hi=>∃t u v,h.get? a=some {cls:=.type "range",data:=.fields #[.int lo t,.int hi u,.int 1 v] }
 | .frz o u=>h.get? a=some o/\cP H h a u
 | .tbl ps=>h.get? a=some {cls:=.none,data:=.fields ps}
 | .met f x=>h.get? a=some (PySem.W.methodObj (.ref f) (.ref x))
 | .ext φ=>φ h/\(∃o,h.get? a=some o)/\∀h1 h2:Heap,φ h1->(∀o,h1.get? a=some o->h2.get? a=some o)->φ h2
def LS(H:Hp)(h:Heap):Prop:=∀a o,H a=some o->cP P w H h a o
end
section
variable{P:Program}{w:World}{H H':Hp}{h h':Heap}{a:Addr}{o:HO}
theorem cP.lt(x:cP P w H h a o):a<h.objs.size:=by
 cases o with
 | lst xs=>obtain⟨_,_,_,_,e⟩:=x;exact p5 e
 | tup xs=>obtain⟨_,_,_,p⟩:=x;exact p.lt
 | dK LB=>obtain⟨_,_,_,_,o,_,_,e,_⟩:=x;exact p5 e
 | dT LB=>obtain⟨_,_,_,_,o,_,_,e,_⟩:=x;exact p5 e
 | set S n=>obtain⟨o,_,_,_,e,_⟩:=x;exact p5 e
 | ins C dx fs=>obtain⟨_,_,_,e,_⟩:=x;exact p5 e
 | own y=>obtain⟨_,e⟩:=x;exact p5 e
 | xd fs=>obtain⟨_,⟨_,_,_,e,_⟩,_⟩:=x;exact p5 e
 | rng lo hi=>obtain⟨_,_,_,e⟩:=x;exact p5 e
 | frz ob u=>obtain⟨e,_⟩:=x;exact p5 e
 | tbl ps=>exact p5 (show h.get? a=some _ from x)
 | met f y=>exact p5 (show h.get? a=some _ from x)
 | ext φ=>obtain⟨_,⟨_,e⟩,_⟩:=x;exact p5 e
theorem Paired.mapP{α β:Type}{F G:α->β->Prop}:∀{l₁:List α}{l₂:List β},Paired F l₁ l₂->(∀a b,F a b->G a b)->Paired G l₁ l₂
 | _,_,.nil,_=>.nil
 | _,_,.cons r t,f=>.cons (f _ _ r) (Paired.mapP t f)
theorem cP.stay(x:cP P w H h a o)(k:∀b u,(b=a\/H b=some (.own a))->h.get? b=some u->h'.get? b=some u)
  (ho:∀b,H b=some (.own a)->H' b=some (.own a))(ht:∀b xs,H b=some (.tup xs)->H' b=some (.tup xs)):cP P w H' h' a o:=by
 induction o with
 | lst xs=>obtain⟨z,its,n,r,e⟩:=x;exact⟨z,its,n,r,k _ _ (.inl rfl) e⟩
 | tup xs=>obtain⟨z,its,r,ob,e,c⟩:=x;exact⟨z,its,r,ob,k _ _ (.inl rfl) e,c⟩
 | dK LB=>obtain⟨z,y,vs,r,ob,es,ep,e,c⟩:=x;exact⟨z,y,vs,r,ob,es,ep,k _ _ (.inl rfl) e,c⟩
 | dT LB =>
  obtain⟨z,y,xs,r,ob,es,ep,e,c⟩:=x;exact⟨z,y,xs,Paired.mapP r λp q z=>⟨z.1,ht _ _ z.2.1,z.2.2⟩,ob,es,ep,k _ _ (.inl rfl) e,c⟩
 | set S n=>obtain⟨ob,es,ep,t,e,c⟩:=x;exact⟨ob,es,ep,t,k _ _ (.inl rfl) e,c⟩
 | ins C dx fs =>
  obtain⟨d,z,ne,e,mA,⟨od,es,ep,e2,c⟩,r⟩:=x;exact⟨ho _ d,z,ne,k _ _ (.inl rfl) e,mA,⟨od,es,ep,k _ _ (.inr d) e2,c⟩,r⟩
 | own y=>obtain⟨ob,e⟩:=x;exact⟨ob,k _ _ (.inl rfl) e⟩
 | xd fs=>obtain⟨mA,⟨od,es,ep,e,c⟩,r⟩:=x;exact⟨mA,⟨od,es,ep,k _ _ (.inl rfl) e,c⟩,r⟩
 | rng lo hi=>obtain⟨t,u,v,e⟩:=x;exact⟨t,u,v,k _ _ (.inl rfl) e⟩
 | frz ob u ih=>obtain⟨e,q⟩:=x;exact⟨k _ _ (.inl rfl) e,ih q⟩
 | tbl ps =>
  have e:h.get? a=some {cls:=.none,data:=.fields ps}:=x;show h'.get? a=some {cls:=.none,data:=.fields ps};exact k a _ (.inl rfl) e
 | met f y =>
  have e:h.get? a=some (PySem.W.methodObj (.ref f) (.ref y)):=x;show h'.get? a=some (PySem.W.methodObj (.ref f) (.ref y));exact k a _ (.inl rfl) e
 | ext φ=>obtain⟨p,⟨o,e⟩,st⟩:=x;exact⟨st _ _ p λo q=>k _ _ (.inl rfl) q,⟨o,k _ _ (.inl rfl) e⟩,st⟩
theorem LS.lt(x:LS P w H h)(e:H a=some o):a<h.objs.size:=(x a o e).lt
theorem LS.fresh(x:LS P w H h)(e:h.objs.size<=a):H a=none:=by
 cases q:H a with
 | none=>rfl
 | some u=>exact absurd (i7 (x.lt q) e) (B9 _)
theorem LS.kept(x:LS P w H h)(k:∀b u,h.get? b=some u->h'.get? b=some u):LS P w H h':=λa o e =>
 (x a o e).stay (λb u _ q=>k b u q) (λ_ q=>q) λ_ _ q=>q
theorem LS.laid(x:LS P w H h)(k:∀b u,h.get? b=some u->h'.get? b=some u)(hp:h.objs.size<=a)(new:cP P w (upd H a o) h' a o):LS P w (upd H a o) h':=λb u e=>by
 have hn:=x.fresh hp
 by_cases hb:b=a
 .subst hb;rw[ae]at e;cases e;exact new
 .rw[aA hb]at e;exact(x b u e).stay (λc v _ q=>k c v q) (λc q=>by rw[aA (aF q hn)];exact q) λc xs q=>by rw[aA (aF q hn)];exact q
end
def Rd(H:Hp)(a:Addr)(u:HO):Prop:=H a=some u\/∃o,H a=some (.frz o u)
theorem Rd.ok{P:Program}{w:World}{H:Hp}{u:HO}(r:Rd H a u)(x:LS P w H h):cP P w H h a u:=by
 rcases r with r | ⟨o,r⟩
 .exact x a u r
 .obtain⟨_,q⟩:=x a _ r;exact q
def W3:Option HO->Prop
 | some (.lst _)=>True
 | some (.dK _)=>True
 | some (.dT _)=>True
 | some (.set _ _)=>True
 | some (.ins _ _ _)=>True
 | some (.ext _)=>True
 | _=>False
section
variable{P:Program}{w:World}{H:Hp}{h h':Heap}{x e:Addr}{o':HO}
theorem LS.write(ok:LS P w H h)(mu:W3 (H x))(he:e=x\/H e=some (.own x))(k:∀b u,b≠e->h.get? b=some u->h'.get? b=some u)(Us:∃u,h'.get? e=some u)
  (new:cP P w (upd H x o') h' x o'):LS P w (upd H x o') h':=λb u q=>by
 have Vr:∀c y,H c=some (.own y)->c≠x:=λc y r z=>by subst z;rw[r]at mu;exact mu
 have Y5:∀c xs,H c=some (.tup xs)->c≠x:=λc xs r z=>by subst z;rw[r]at mu;exact mu
 by_cases hb:b=x
 .subst hb;rw[ae]at q;cases q;exact new
 .rw[aA hb]at q
  by_cases SS:b=e
  .have q':H b=some (.own x):=by
    rcases he with z | z
    .exact absurd (SS.trans z) hb
    .rw[SS];exact z
   rw[q]at q';cases q'
   obtain⟨v,hv⟩:=Us;exact⟨v,by rw[SS];exact hv⟩
  .refine(ok b u q).stay (λc v hc r=>k c v ?_ r) (λc r=>by rw[aA (Vr c b r)];exact r) λc xs r=>by rw[aA (Y5 c xs r)];exact r
   rcases hc with rfl | hc
   .exact SS
   .rintro rfl
    rcases he with z | z
    .exact Vr c b hc z
    .rw[hc]at z;cases z;exact hb rfl
end
structure Un(fs ex:List Addr)(H H':Hp)(h h':Heap):Prop where
 keep:∀b o,h.get? b=some o->H b=none->b ∉ fs->b ∉ ex->h'.get? b=some o
 slot:∀b o,h.get? b=some o->H b=none->b∈fs->b ∉ ex->∃sl,h'.get? b=some {o with slots:=sl}
 free:∀b o,h.get? b=some o->H b=none->b ∉ ex->H' b=none
 there:∀b o,h.get? b=some o->b ∉ ex->∃o',h'.get? b=some o'
 tups:∀b xs,H b=some (.tup xs)->H' b=some (.tup xs)
 frzs:∀b o u,H b=some (.frz o u)->H' b=some (.frz o u)
 tbls:∀b ps,H b=some (.tbl ps)->∃more,H' b=some (.tbl (ps++more))
section
variable{fs Z5 ex ex':List Addr}{H H1 H2:Hp}{h h1 h2 h':Heap}{a x e:Addr}{o:HO}
theorem Un.any(u:Un fs ex H H1 h h1)(q:h.get? b=some ob)(n:H b=none)(hx:b ∉ ex):∃sl,h1.get? b=some {ob with slots:=sl}:=by
 by_cases hb:b∈fs
 .exact u.slot b ob q n hb hx
 .exact⟨ob.slots,u.keep b ob q n hb hx⟩
theorem Un.kept(k:∀b u,h.get? b=some u->h'.get? b=some u):Un fs ex H H h h':=
 ⟨λb ob q _ _ _=>k b ob q,λb ob q _ _ _=>⟨ob.slots,k b ob q⟩,λ_ _ _ n _=>n,λb ob q _=>⟨ob,k b ob q⟩,λ_ _ q=>q,λ_ _ _ q=>q,λ_ ps q=>⟨#[],by rw[q];simp⟩⟩
theorem Un.refl:Un fs ex H H h h:=Un.kept λ_ _ q=>q
theorem Un.laid(k:∀b u,h.get? b=some u->h'.get? b=some u)(hp:h.objs.size<=a)(hn:H a=none):Un fs ex H (upd H a o) h h' where
 keep:=λb u q _ _ _=>k b u q
 slot:=λb u q _ _ _=>⟨u.slots,k b u q⟩
 free:=λb u q n _=>by rw[aA (A4 (i7 (p5 q) hp))];exact n
 there:=λb u q _=>⟨u,k b u q⟩
 tups:=λb xs q=>by rw[aA (aF q hn)];exact q
 frzs:=λb u xs q=>by rw[aA (aF q hn)];exact q
 tbls:=λb ps q=>⟨#[],by rw[aA (aF q hn),q];simp⟩
theorem Un.write(mu:W3 (H x))(he:e=x\/H e=some (.own x))(k:∀b u,b≠e->h.get? b=some u->h'.get? b=some u)(Us:∃u,h'.get? e=some u):Un fs ex H (upd H x o) h h':=by
 have hx:∀b,H b=none->b≠x:=λb n z=>by subst z;rw[n]at mu;exact mu
 have hb:∀b,H b=none->b≠e:=λb n z=>by
  subst z;rcases he with r | r
  .exact hx b n r
  .rw[n]at r;cases r
 have hm:∀b u,H b=some u->¬W3 (some u)->b≠x:=λb u q nm z=>by subst z;rw[q]at mu;exact nm mu
 refine⟨λb u q n _ _=>k b u (hb b n) q,λb u q n _ _=>⟨u.slots,k b u (hb b n) q⟩,λb u q n _=>by rw[aA (hx b n)];exact n,λb u q _=>?_,
  λb xs q=>by rw[aA (hm b _ q λz=>z)];exact q,λb u xs q=>by rw[aA (hm b _ q λz=>z)];exact q,λb ps q=>⟨#[],by rw[aA (hm b _ q λz=>z),q];simp⟩⟩
 by_cases SS:b=e
 .subst SS;exact Us
 .exact⟨u,k b u SS q⟩
end
noncomputable def Qm(h:Heap)(H:Hp):List Addr:=(List.range h.objs.size).filter λa=>(H a).isSome
noncomputable def xh(h:Heap)(H:Hp):Heap:=PySem.W.hideAll h (Qm h H)
theorem EH(h:Heap)(H:Hp):(xh h H).objs.size=h.objs.size:=PySem.W.hideAll_size _ _
theorem Ii{H:Hp}{o:Obj}(e:h.get? b=some o)(n:H b=none):(xh h H).get? b=some o:=
 Ku _ e λhm=>by
  have q:(H b).isSome=true:=(JN.mp hm).2;rw[n]at q;simp at q
theorem Pk{H:Hp}{o:Obj}(e:(xh h H).get? b=some o):h.get? b=some o/\H b=none:=by
 have e':h.get? b=some o:=PySem.W.of_hideAll (Qm h H) e;refine⟨e',?_⟩;cases q:H b with
 | none=>rfl
 | some x =>
  have hm:b∈Qm h H:=JN.mpr ⟨KA.mpr (p5 e'),by simp[q]⟩;have z:(xh h H).get? b=none:=PySem.W.hideAll_none (Qm h H) hm;rw[z]at e;cases e
structure Mod(K:W.Frag)(mg:Str->Option Value)(base:Heap):Prop where
 kin:K.In base
 glob:base.Ns mainGlobals mg
 blt:∃mb,base.Ns builtinsNs mb/\∀x:Str,x≠"__name__"->mb x=bootBuiltins x
 nolimit:base.NoLimit
structure Cx where
 prog:Program
 w:World
 K:W.Frag
 mg:Str->Option Value
 base:Heap
 A:Around
 N:List Str
 s₀:Shared
 H₀:Hp
 env:Env
 outer:List Env
 stack:List Env
 ex:List Addr
 fn:Str->Bool
 calm:Bool
 pn:List (Addr×Obj)
 xe:Value->Shared->Prop
noncomputable def L9(l:List Env):List Addr:=l.filterMap (·.frame)
noncomputable abbrev Cx.fs (X:Cx):List Addr:=L9 X.outer
def Rf(sc:Scope)(x:Str):Prop:=sc.names.lookup x=some .local\/sc.names.lookup x=some .cell\/sc.names.lookup x=some .free
def Loc(sc:Scope)(x:Str):Prop:=sc.names.lookup x=some .local\/sc.names.lookup x=some .cell
def Look(env:Env)(h:Heap)(m:Str->Option Value)(x:Str)(u:Value):Prop:=
 (env.kindOf x=some .local/\m x=some u)\/((env.kindOf x=some .cell\/env.kindOf x=some .free)/\∃c,env.cells.lookup x=some c/\h.IsCell c (some u))
structure Cx.Ok(X:Cx):Prop where
 mod:Mod X.K X.mg X.base
 kind:X.env.scope.kind=.function
 glob:X.env.globals=mainGlobals
 blt:X.env.builtins=builtinsNs
 above:X.s₀.heap.objs.size<=X.env.locals
 inj:∀x y c,X.env.cells.lookup x=some c->X.env.cells.lookup y=some c->x=y
 has:∀x,(X.env.kindOf x=some .cell\/X.env.kindOf x=some .free)->∃c,X.env.cells.lookup x=some c
 cab:∀x c,X.fn x=true->X.env.cells.lookup x=some c->X.s₀.heap.objs.size<=c
 hd:X.calm=true->X.A.handled=none
 frames:X.A.frames=some X.stack
 stk:X.stack=X.outer\/(X.stack=X.env::X.outer/\X.env.frame=some X.env.locals)
 exf:∀b∈X.ex,b≠X.env.locals/\∀x c,X.env.cells.lookup x=some c->c≠b
 bs:∀b o,X.base.get? b=some o->X.s₀.heap.get? b=some o/\X.H₀ b=none
 bsz:X.base.objs.size<=X.s₀.heap.objs.size
 noex:∀b o,X.base.get? b=some o->b ∉ X.ex
 exfs:∀b∈X.ex,b ∉ X.fs
 funs:X.s₀.heap.FunFrames X.base X.outer
 frf:∀b∈X.fs,X.H₀ b=none
structure Inv(X:Cx)(Ly:List (Addr×Obj))(σ:List (Option V))(H:Hp)(s:Shared):Prop where
 ok:X.Ok
 os:s.os=X.s₀.os
 bare:AllBare s.gens
 base:Un X.fs X.ex X.H₀ H X.s₀.heap s.heap
 loc:∃m,s.heap.Ns X.env.locals m/\∀(i:Nat)(x:Str)(v:V),X.N[i]?=some x->σ[i]?=some (some v)->Rf X.env.scope x->∃u,RelV v u/\Look X.env s.heap m x u
 cell:∀x c,X.env.cells.lookup x=some c->∃v,s.heap.IsCell c v
 free:H X.env.locals=none
 freeC:∀x c,X.env.cells.lookup x=some c->H c=none
 pin:∀p∈X.pn++Ly,s.heap.get? p.1=some p.2/\H p.1=none/\p.1≠X.env.locals/\p.1 ∉ X.fs/\∀v,p.2.data≠.cell v
 hok:LS X.prog X.w H s.heap
 len:σ.length=X.N.length
section
variable{X:Cx}{Ly:List (Addr×Obj)}{σ:List (Option V)}{H H':Hp}{s:Shared}{h':Heap}
theorem Cx.Ok.nofr(ok:X.Ok){o:Obj}(e:X.base.get? b=some o):b ∉ X.fs:=λhb=>by
 have:=(ok.funs.mem hb).1;rw[e]at this;cases this
theorem Inv.bs(I:Inv X Ly σ H s):∀b o,X.base.get? b=some o->s.heap.get? b=some o/\H b=none:=λb o e =>
 ⟨I.base.keep b o (I.ok.bs b o e).1 (I.ok.bs b o e).2 (I.ok.nofr e) (I.ok.noex b o e),I.base.free b o (I.ok.bs b o e).1 (I.ok.bs b o e).2 (I.ok.noex b o e)⟩
theorem Inv.bk(I:Inv X Ly σ H s):∀b o,X.base.get? b=some o->s.heap.get? b=some o:=λb o e=>(I.bs b o e).1
theorem Inv.mod(I:Inv X Ly σ H s):Mod X.K X.mg X.base:=I.ok.mod
theorem Inv.kIn(I:Inv X Ly σ H s):X.K.In s.heap:=I.ok.mod.kin.keeps I.bk
theorem Inv.lt(I:Inv X Ly σ H s):X.env.locals<s.heap.objs.size:=let ⟨_,hn,_⟩:=I.loc;hn.lt
theorem Inv.sz(I:Inv X Ly σ H s):X.s₀.heap.objs.size<=s.heap.objs.size:=l8 I.ok.above (JX I.lt)
theorem Inv.nofs(I:Inv X Ly σ H s)(h:s.heap.objs.size<=a):a ∉ X.fs:=λhb=>by
 obtain⟨_,o,ho,_⟩:=I.ok.funs.mem hb;exact absurd (i7 (p5 ho) (l8 I.sz h)) (B9 _)
theorem Inv.cne(I:Inv X Ly σ H s):∀x c,X.env.cells.lookup x=some c->c≠X.env.locals:=λx c e z=>by
 obtain⟨v,o,ho,hd⟩:=I.cell x c e;obtain⟨m,⟨o',es,ep,MQ,VW,_⟩,_⟩:=I.loc;rw[z,MQ]at ho;cases ho;rw[VW]at hd;cases hd
theorem Inv.funs(I:Inv X Ly σ H s):s.heap.FunFrames X.base X.outer:=by
 have all:∀(l:List Env),(∀b∈L9 l,b∈X.fs)->X.s₀.heap.FunFrames X.base l->s.heap.FunFrames X.base l:=by
  intro l
  induction l with
  | nil=>intro _ _;trivial
  | cons env r ih =>
   intro hs hl;obtain⟨hk,⟨L,o,hf,hn,ho,hd⟩,hr⟩:=hl;have hL:L∈X.fs:=hs L (by unfold L9;rw[Kv,hf];exact x8);obtain⟨sl,e⟩:=I.base.slot L o ho (I.ok.frf L hL) hL λz=>I.ok.exfs L z hL;exact⟨hk,⟨L,_,hf,hn,e,hd⟩,ih (λb hb=>hs b (by unfold L9;rw[Kv,hf];exact y8 _ hb)) hr⟩
 exact all X.outer (λ_ hb=>hb) I.ok.funs
theorem Inv.stack(I:Inv X Ly σ H s):s.heap.FunFrames X.base X.stack:=by
 rcases I.ok.stk with e | ⟨e,hf⟩
 .rw[e];exact I.funs
 .rw[e];obtain⟨m,hn,_⟩:=I.loc;refine .cons (by rw[I.ok.kind];decide) hf hn ?_ I.funs;exact Heap.get?_none_of_le (l8 I.ok.bsz I.ok.above)
theorem Inv.stkSub(I:Inv X Ly σ H s):∀b∈L9 X.stack,b∈X.env.locals::X.fs:=λb hb=>by
 rcases I.ok.stk with e | ⟨e,hf⟩
 .rw[e]at hb;exact y8 _ hb
 .rw[e]at hb;unfold L9 at hb;rw[Kv,hf]at hb;exact hb
theorem Inv.stkFree(I:Inv X Ly σ H s):∀b∈L9 X.stack,H b=none:=λb hb=>by
 rcases j6.mp (I.stkSub b hb) with e | hb
 .rw[e];exact I.free
 .obtain⟨_,o,ho,_⟩:=I.ok.funs.mem hb;exact I.base.free b o ho (I.ok.frf b hb) λz=>I.ok.exfs b z hb
theorem Inv.step{t':Nat}{d':Drawn}(I:Inv X Ly σ H s)
  (Ow:∀b∈ch,(b∈X.ex\/X.s₀.heap.objs.size<=b)/\b≠X.env.locals/\(∀x c,X.env.cells.lookup x=some c->c≠b)/\∀p∈X.pn++Ly,p.1≠b)
  (keep:∀b o,b≠X.env.locals->b ∉ X.fs->b ∉ ch->s.heap.get? b=some o->H b=none->h'.get? b=some o)
  (slot:∀b o,b≠X.env.locals->b∈X.fs->b ∉ ch->s.heap.get? b=some o->H b=none->∃sl,h'.get? b=some {o with slots:=sl})(free:∀b o,b ∉ ch->s.heap.get? b=some o->H b=none->H' b=none)
  (there:∀b o,b ∉ ch->s.heap.get? b=some o->∃o',h'.get? b=some o')
  (tups:∀b xs,H b=some (.tup xs)->H' b=some (.tup xs))(frzs:∀b o u,H b=some (.frz o u)->H' b=some (.frz o u))(tbls:∀b ps,H b=some (.tbl ps)->∃more,H' b=some (.tbl (ps++more)))
  (ns:∀m,s.heap.Ns X.env.locals m->h'.Ns X.env.locals m)(hok:LS X.prog X.w H' h')(hg:AllBare g') :
  Inv X Ly σ H' {s with heap:=h',gens:=g',drawn:=d',toks:=t' }:=by
 have neL:∀b o,X.s₀.heap.get? b=some o->b≠X.env.locals:=λb o e=>A4 (i7 (p5 e) I.ok.above)
 have XB:∀b o,X.s₀.heap.get? b=some o->b ∉ X.ex->b ∉ ch:=λb o e hx hb=>by
  rcases(Ow b hb).1 with z | z
  .exact hx z
  .exact absurd (i7 (p5 e) z) (B9 _)
 have cellK:∀x c,X.env.cells.lookup x=some c->∀v,s.heap.IsCell c v->h'.IsCell c v:=λx c e v ⟨o,ho,hd⟩=>by
  have Vu:c ∉ ch:=λz=>(Ow c z).2.2.1 x c e rfl
  by_cases hc:c∈X.fs
  .obtain⟨sl,q⟩:=slot c o (I.cne x c e) hc Vu ho (I.freeC x c e);exact⟨_,q,hd⟩
  .exact⟨o,keep c o (I.cne x c e) hc Vu ho (I.freeC x c e),hd⟩
 refine⟨I.ok,I.os,hg,⟨λb o e n hb hx=>?_,λb o e n hb hx=>?_,λb o e n hx=>?_,λb o e hx=>?_,λb xs e=>tups b xs (I.base.tups b xs e),λb o xs e=>frzs b o xs (I.base.frzs b o xs e),λb ps e=>?_⟩,?_,λx c e=>?_,?_,λx c e=>?_,λp hp=>?_,hok,I.len⟩
 .exact keep b o (neL b o e) hb (XB b o e hx) (I.base.keep b o e n hb hx) (I.base.free b o e n hx)
 .obtain⟨sl,e1⟩:=I.base.slot b o e n hb hx;obtain⟨Uh,e2⟩:=slot b _ (neL b o e) hb (XB b o e hx) e1 (I.base.free b o e n hx);exact⟨Uh,e2⟩
 .obtain⟨o',e1⟩:=I.base.there b o e hx;exact free b o' (XB b o e hx) e1 (I.base.free b o e n hx)
 .obtain⟨o',e1⟩:=I.base.there b o e hx;exact there b o' (XB b o e hx) e1
 .obtain⟨m1,e1⟩:=I.base.tbls b ps e;obtain⟨m2,e2⟩:=tbls b _ e1;exact⟨m1++m2,by rw[e2,Array.append_assoc]⟩
 .obtain⟨m,hn,hl⟩:=I.loc;refine⟨m,ns m hn,λi x v e1 e2 e3=>?_⟩;obtain⟨u,r,l⟩:=hl i x v e1 e2 e3;refine⟨u,r,?_⟩;rcases l with l | ⟨k,c,e,z⟩
  .exact .inl l
  .exact .inr ⟨k,c,e,cellK x c e _ z⟩
 .obtain⟨v,z⟩:=I.cell x c e;exact⟨v,cellK x c e v z⟩
 .obtain⟨m,⟨o,_,_,ho,_⟩,_⟩:=I.loc;exact free _ o (λz=>(Ow _ z).2.1 rfl) ho I.free
 .obtain⟨v,o,ho,hd⟩:=I.cell x c e;exact free c o (λz=>(Ow c z).2.2.1 x c e rfl) ho (I.freeC x c e)
 .obtain⟨e,n,ne,nf,d⟩:=I.pin p hp;have Vu:p.1 ∉ ch:=λz=>(Ow p.1 z).2.2.2 p hp rfl;exact⟨keep p.1 p.2 ne nf Vu e n,free p.1 p.2 Vu e n,ne,nf,d⟩
theorem Inv.un{t':Nat}(I:Inv X Ly σ H s)(u:Un X.fs [] H H' s.heap h')(hok:LS X.prog X.w H' h'):Inv X Ly σ H' {s with heap:=h',toks:=t' }:=by
 obtain⟨m,⟨o,es,ep,ho,r⟩,_⟩:=id I.loc;obtain⟨sl,hL⟩:=u.any ho I.free (by simp)
 exact I.step (g':=s.gens) (d':=s.drawn) (ch:=[]) (λ_ z=>nomatch z) (λb o _ hb _ e n=>u.keep b o e n hb (by simp)) (λb o _ hb _ e n=>u.slot b o e n hb (by simp)) (λb o _ e n=>u.free b o e n (by simp)) (λb o _ e=>u.there b o e (by simp)) u.tups u.frzs u.tbls (λm' hm=>by
  obtain⟨o',Z9,ep',MQ,r'⟩:=hm;rw[ho]at MQ;cases MQ
  exact⟨_,Z9,ep',hL,r'⟩) hok I.bare
theorem Inv.call{t':Nat}{d':Drawn}{ch:List Addr}(I:Inv X Ly σ H s)(u:Un (L9 X.stack) ch H H' s.heap h')(hok:LS X.prog X.w H' h')(hg:AllBare g')
  (Ow:∀b∈ch,(b∈X.ex\/X.s₀.heap.objs.size<=b)/\b≠X.env.locals/\(∀x c,X.env.cells.lookup x=some c->c≠b)/\∀p∈X.pn++Ly,p.1≠b) :
  Inv X Ly σ H' {s with heap:=h',gens:=g',drawn:=d',toks:=t' }:=by
 obtain⟨m,⟨o,es,ep,ho,r⟩,_⟩:=id I.loc;obtain⟨sl,hL⟩:=u.any ho I.free λz=>(Ow _ z).2.1 rfl
 exact I.step (ch:=ch) Ow (λb o hL hb hc e n=>u.keep b o e n (λz=>(j6.mp (I.stkSub b z)).elim hL hb) hc) (λb o _ _ hc e n=>u.any e n hc) (λb o hc e n=>u.free b o e n hc) (λb o hc e=>u.there b o e hc) u.tups u.frzs u.tbls (λm' hm=>by
  obtain⟨o',Z9,ep',MQ,r'⟩:=hm;rw[ho]at MQ;cases MQ
  exact⟨_,Z9,ep',hL,r'⟩) hok hg
theorem Inv.turned{t':Nat}(I:Inv X Ly σ H s)(k:∀b o,b≠it->s.heap.get? b=some o->h'.get? b=some o)(hn:H it=none)(hL:it≠X.env.locals)
  (h1:it∈X.ex\/X.s₀.heap.objs.size<=it)(h2:∀x c,X.env.cells.lookup x=some c->c≠it)(h3:∀p∈X.pn++Ly,p.1≠it):Inv X Ly σ H {s with heap:=h',toks:=t' }:=by
 have nit:∀b u,H b=some u->b≠it:=λb u e z=>by rw[z,hn]at e;cases e
 refine I.step (g':=s.gens) (d':=s.drawn) (ch:=[it]) (λb hb=>?_) (λb o _ _ hc e _=>k b o (λz=>hc (by simp[z])) e) (λb o _ _ hc e _=>⟨o.slots,k b o (λz=>hc (by simp[z])) e⟩) (λ_ _ _ _ n=>n)
  (λb o hc e=>⟨o,k b o (λz=>hc (by simp[z])) e⟩) (λ_ _ e=>e) (λ_ _ _ e=>e) (λb ps e=>⟨#[],by rw[e];simp⟩) (λm hm=>?_) (λb u e=>?_) I.bare
 .have e:b=it:=by simpa using hb
  subst e;exact⟨h1,hL,h2,h3⟩
 .obtain⟨o,es,ep,ho,r⟩:=hm;exact⟨o,es,ep,k _ o (Jp hL) ho,r⟩
 .refine(I.hok b u e).stay (λc v hc q=>k c v ?_ q) (λ_ q=>q) λ_ _ q=>q;rcases hc with z | z
  .rw[z];exact nit b u e
  .exact nit c _ z
theorem Inv.tok(I:Inv X Ly σ H s)(t:Nat):Inv X Ly σ H {s with toks:=t}:=I.un (h':=s.heap) (t':=t) Un.refl I.hok
theorem Inv.kept{t':Nat}(I:Inv X Ly σ H s)(k:∀b u,s.heap.get? b=some u->h'.get? b=some u):Inv X Ly σ H {s with heap:=h',toks:=t' }:=I.un (Un.kept k) (I.hok.kept k)
theorem Inv.laid{t':Nat}(I:Inv X Ly σ H s)(k:∀b u,s.heap.get? b=some u->h'.get? b=some u)(hp:s.heap.objs.size<=a)(new:cP X.prog X.w (upd H a o) h' a o) :
  Inv X Ly σ (upd H a o) {s with heap:=h',toks:=t' }:=I.un (Un.laid k hp (I.hok.fresh hp)) (I.hok.laid k hp new)
theorem Inv.write{x e:Addr}{t':Nat}(I:Inv X Ly σ H s)(mu:W3 (H x))(he:e=x\/H e=some (.own x))(k:∀b u,b≠e->s.heap.get? b=some u->h'.get? b=some u)(Us:∃u,h'.get? e=some u)
  (new:cP X.prog X.w (upd H x o) h' x o):Inv X Ly σ (upd H x o) {s with heap:=h',toks:=t' }:=I.un (Un.write mu he k Us) (I.hok.write mu he k Us new)
theorem Inv.pins_of(I:Inv X Ly σ H s)(h:∀p∈QF,s.heap.get? p.1=some p.2/\H p.1=none/\p.1≠X.env.locals/\p.1 ∉ X.fs/\∀v,p.2.data≠.cell v):Inv X QF σ H s:=
 ⟨I.ok,I.os,I.bare,I.base,I.loc,I.cell,I.free,I.freeC,λp hp=>(j9.mp hp).elim (λz=>I.pin p (B2 _ z)) (h p),I.hok,I.len⟩
theorem yL(hN:N.Nodup){i j:Nat}(a:N[i]?=some x)(b:N[j]?=some x):i=j:=by
 obtain⟨h1,e1⟩:=d6.mp a;obtain⟨h2,e2⟩:=d6.mp b;exact(List.getElem_inj hN).mp (e1.trans e2.symm)
theorem DG{E:Value->Shared->Prop}{i:Nat}{v:V}{Q:Unit->Shared->Prop}(I:Inv X Ly σ H s)(hN:X.N.Nodup)(hi:X.N[i]?=some x)(hx:Loc X.env.scope x)(r:RelV v u)
  (h:∀s',Inv X Ly (σ.set i (some v)) H s'->(∃a,Heap.SameBut a s.heap s'.heap/\(a=X.env.locals\/X.env.cells.lookup x=some a))->Q () s')(hf:X.fn x=true\/X.env.scope.names.lookup x=some .local:=by first | exact .inl rfl | exact .inr rfl | assumption):wpAny M A (storeName X.env x u) Q E s:=by
 obtain⟨m,hn,hl⟩:=id I.loc;have ZT:(X.env.scope.kind == .class || (X.env.scope.kind == .module && X.env.locals != X.env.globals))=false:=by rw[I.ok.kind];rfl
 have hiσ:i<σ.length:=by rw[I.len];exact(d6.mp hi).1
 have cne:=I.cne
 have tracked:∀{a:Addr}{h':Heap},(∃o,s.heap.get? a=some o/\H a=none)->Heap.SameBut a s.heap h'->LS X.prog X.w H h':=λ{a h'} ha hs b ob e=>by
  obtain⟨_,_,QQ⟩:=ha;refine(I.hok b ob e).stay (λc w' hc q=>(hs.2 c ?_).trans q) (λ_ q=>q) λ_ _ q=>q;rintro rfl
  rcases hc with rfl | hc
  .rw[QQ]at e;cases e
  .rw[QQ]at hc;cases hc
 rcases hx with hk | hk
 .refine wpAny_storeName_local hk hn (λh' hn' hs=>?_) ZT;obtain⟨oL,_,_,hoL,_⟩:=id hn;refine h _ ⟨I.ok,I.os,I.bare,⟨λb o e n hb hx=>?_,λb o e n hb hx=>?_,I.base.free,λb o e hx=>?_,I.base.tups,I.base.frzs,I.base.tbls⟩,⟨_,hn',λj y v' e1 e2 e3=>?_⟩,λy c e=>?_,I.free,I.freeC,λp hp=>?_,tracked ⟨oL,hoL,I.free⟩ hs,by simpa using I.len⟩ ⟨_,hs,.inl rfl⟩
  .exact(hs.2 b (A4 (i7 (p5 e) I.ok.above))).trans (I.base.keep b o e n hb hx)
  .obtain⟨sl,e1⟩:=I.base.slot b o e n hb hx;exact⟨sl,(hs.2 b (A4 (i7 (p5 e) I.ok.above))).trans e1⟩
  .obtain⟨o',e1⟩:=I.base.there b o e hx;exact⟨o',(hs.2 b (A4 (i7 (p5 e) I.ok.above))).trans e1⟩
  .by_cases hj:j=i
   .subst hj;rw[hi]at e1;cases e1
    rw[List.getElem?_set_self hiσ]at e2;cases e2
    exact⟨u,r,.inl ⟨hk,by simp⟩⟩
   .rw[List.getElem?_set_ne (Jp hj)]at e2;obtain⟨u',r',q⟩:=hl j y v' e1 e2 e3;refine⟨u',r',?_⟩;rcases q with⟨k,e⟩ | ⟨k,c,e,z⟩
    .refine .inl ⟨k,?_⟩;have:y≠x:=λe=>hj (yL hN e1 (e ▸ hi));simp[this,e]
    .exact .inr ⟨k,c,e,z.sameBut hs (cne y c e)⟩
  .obtain⟨w',z⟩:=I.cell y c e;exact⟨w',z.sameBut hs (cne y c e)⟩
  .obtain⟨e,n,ne,nf,d⟩:=I.pin p hp;exact⟨(hs.2 p.1 ne).trans e,n,ne,nf,d⟩
 .have ZS:X.fn x=true:=by
   rcases hf with z | z
   .exact z
   .rw[z]at hk;cases hk
  obtain⟨c,hc⟩:=I.ok.has x (.inl hk);obtain⟨w',z⟩:=I.cell x c hc;refine wpAny_storeName_cell I.ok.kind hk hc z (λh' MA hs=>?_);obtain⟨oc,hoc,ZG⟩:=id z;refine h {s with heap:=h' } ⟨I.ok,I.os,I.bare,⟨λb o e n hb hx=>?_,λb o e n hb hx=>?_,I.base.free,λb o e hx=>?_,I.base.tups,I.base.frzs,I.base.tbls⟩,⟨m,hn.sameBut hs (Jp (cne x c hc)),λj y v' e1 e2 e3=>?_⟩,λy c' e=>?_,I.free,I.freeC,λp hp=>?_,tracked ⟨oc,hoc,I.freeC x c hc⟩ hs,by simpa using I.len⟩ ⟨c,hs,.inr hc⟩
  .exact(hs.2 b (A4 (i7 (p5 e) (I.ok.cab x c ZS hc)))).trans (I.base.keep b o e n hb hx)
  .obtain⟨sl,e1⟩:=I.base.slot b o e n hb hx;exact⟨sl,(hs.2 b (A4 (i7 (p5 e) (I.ok.cab x c ZS hc)))).trans e1⟩
  .obtain⟨o',e1⟩:=I.base.there b o e hx;exact⟨o',(hs.2 b (A4 (i7 (p5 e) (I.ok.cab x c ZS hc)))).trans e1⟩
  .by_cases hj:j=i
   .subst hj;rw[hi]at e1;cases e1
    rw[List.getElem?_set_self hiσ]at e2;cases e2
    exact⟨u,r,.inr ⟨.inl hk,c,hc,MA⟩⟩
   .rw[List.getElem?_set_ne (Jp hj)]at e2;obtain⟨u',r',q⟩:=hl j y v' e1 e2 e3;refine⟨u',r',?_⟩;rcases q with q | ⟨k,c',e,z'⟩
    .exact .inl q
    .refine .inr ⟨k,c',e,z'.sameBut hs ?_⟩;rintro rfl
     exact hj (yL hN e1 (I.ok.inj _ _ _ e hc ▸ hi))
  .by_cases XR:c'=c
   .subst XR;exact⟨_,MA⟩
   .obtain⟨w2,z2⟩:=I.cell y c' e;exact⟨w2,z2.sameBut hs XR⟩
  .obtain⟨e,n,ne,nf,d⟩:=I.pin p hp;refine⟨(hs.2 p.1 ?_).trans e,n,ne,nf,d⟩;intro q;rw[q,hoc]at e;have q':oc=p.2:=l7 e;exact d w' (by rw[<- q'];exact ZG)
theorem ro{E:Value->Shared->Prop}{i:Nat}{v:V}{Q:Unit->Shared->Prop}(I:Inv X Ly σ H s)(hN:X.N.Nodup)(hi:X.N[i]?=some x)(hx:Loc X.env.scope x)(r:RelV v u)
  (h:∀s',Inv X Ly (σ.set i (some v)) H s'->Q () s')(hf:X.fn x=true\/X.env.scope.names.lookup x=some .local:=by first | exact .inl rfl | exact .inr rfl | assumption):wpAny M A (storeName X.env x u) Q E s:=
 DG I hN hi hx r (λs' I' _=>h s' I') hf
theorem Inv.call'(I:Inv X Ly σ H s)(ho:s'.os=s.os)(u:Un (L9 X.stack) ch H H' s.heap s'.heap)(hok:LS X.prog X.w H' s'.heap)(hg:AllBare s'.gens)
  (Ow:∀b∈ch,(b∈X.ex\/X.s₀.heap.objs.size<=b)/\b≠X.env.locals/\(∀x c,X.env.cells.lookup x=some c->c≠b)/\∀p∈X.pn++Ly,p.1≠b):Inv X Ly σ H' s':=by
 obtain⟨h',g',d',t',o'⟩:=s';have e:o'=s.os:=ho;subst e;exact I.call (g':=g') (t':=t') (d':=d') u hok hg Ow
end
noncomputable abbrev XK:=Value->Option Addr->Hp->Prop
noncomputable abbrev St:=List (Option V)
noncomputable abbrev VK:=V->Hp->Prop
noncomputable abbrev TE:=St->Hp->VK->Prop
noncomputable abbrev TT:=St->Hp->(Bool->Hp->Prop)->Prop
noncomputable abbrev TA:=St->Hp->(List V->Hp->Prop)->Prop
structure Ends where
 nx:St->Hp->Prop
 rt:VK
 bk:St->Hp->Prop:=λ_ _=>False
 ct:St->Hp->Prop:=λ_ _=>False
noncomputable abbrev TS:=Ends->St->Hp->Prop
def EP(X:Cx)(Ly:List (Addr×Obj))(σ:St)(Q:VK)(u:Value)(s':Shared):Prop:=∃v H',Inv X Ly σ H' s'/\RelV v u/\Q v H'
def TP(X:Cx)(Ly:List (Addr×Obj))(σ:St)(Q:Bool->Hp->Prop)(b:Bool)(s':Shared):Prop:=∃H',Inv X Ly σ H' s'/\Q b H'
def AP(X:Cx)(Ly:List (Addr×Obj))(σ:St)(Q:List V->Hp->Prop)(us:List Value)(s':Shared):Prop:=∃vs H',Inv X Ly σ H' s'/\Vals vs us/\Q vs H'
def SP(X:Cx)(Ly:List (Addr×Obj))(D:Ends)(f:Flow)(s':Shared):Prop:=
 match f with
 | .next=>∃σ' H',Inv X Ly σ' H' s'/\D.nx σ' H'
 | .brk=>∃σ' H',Inv X Ly σ' H' s'/\D.bk σ' H'
 | .cont=>∃σ' H',Inv X Ly σ' H' s'/\D.ct σ' H'
 | .ret u=>∃v σ' H',Inv X Ly σ' H' s'/\RelV v u/\D.rt v H'
def PE(X:Cx)(e:Expr)(t:TE):Prop:=
 ∀(Ly:List (Addr×Obj))(s:Shared)(σ:St)(H:Hp)(Q:VK),Inv X Ly σ H s->t σ H Q->wpAny (model X.prog X.w) X.A (eval e X.env) (EP X Ly σ Q) X.xe s
def PT(X:Cx)(e:Expr)(t:TT):Prop:=
 ∀(Ly:List (Addr×Obj))(s:Shared)(σ:St)(H:Hp)(Q:Bool->Hp->Prop),Inv X Ly σ H s->t σ H Q->wpAny (model X.prog X.w) X.A (isTrue e X.env (eval e X.env)) (TP X Ly σ Q) X.xe s
def PW(X:Cx)(e:Expr)(t:TT):Prop:=
 ∀(whole:Sem Value)(Ly:List (Addr×Obj))(s:Shared)(σ:St)(H:Hp)(Q:Bool->Hp->Prop),Inv X Ly σ H s->t σ H Q->wpAny (model X.prog X.w) X.A (isTrue e X.env whole) (TP X Ly σ Q) X.xe s
theorem PW.pt{t:TT}(h:PW X e t):PT X e t:=h _
def PA(X:Cx)(es:List Expr)(t:TA):Prop:=
 ∀(pos:Pos)(Ly:List (Addr×Obj))(s:Shared)(σ:St)(H:Hp)(Q:List V->Hp->Prop),Inv X Ly σ H s->t σ H Q->wpAny (model X.prog X.w) X.A (spliced (backTo pos (starEach es X.env))) (AP X Ly σ Q) X.xe s
def PS(X:Cx)(st:Stmt)(t:TS):Prop:=
 ∀(Ly:List (Addr×Obj))(s:Shared)(σ:St)(H:Hp)(D:Ends),Inv X Ly σ H s->t D σ H->wpAny (model X.prog X.w) X.A (exec st X.env) (SP X Ly D) X.xe s
def LV(X:Cx)(st:List Stmt)(t:TS):Prop:=
 ∀(Ly:List (Addr×Obj))(s:Shared)(σ:St)(H:Hp)(D:Ends),Inv X Ly σ H s->t D σ H->wpAny (model X.prog X.w) X.A (execs st X.env) (SP X Ly D) X.xe s
theorem LF{α:Type}{t:Sem α}{Q Q':α->Shared->Prop}{E:Value->Shared->Prop}{s:Shared}(h:wpAny M A t Q E s)(hQ:∀a s,Q a s->Q' a s):wpAny M A t Q' E s:=F5 h hQ λ_ _ x=>x
section
variable{X:Cx}
theorem bin{a b:Expr}{ta tb:TE}(ha:PE X a ta)(hb:PE X b tb){s:Shared}{H:Hp}{R:V->V->Hp->Prop}(I:Inv X Ly σ H s)(h:ta σ H λx H1=>tb σ H1 λy H2=>R x y H2)
  {α:Type}{Q:α->Shared->Prop}{f:Value->Value->Sem α}
  (hf:∀v u s2 x y H2,Inv X Ly σ H2 s2->RelV x v->RelV y u->R x y H2->wpAny (model X.prog X.w) X.A (f v u) Q X.xe s2) :
  wpAny (model X.prog X.w) X.A (eval a X.env) (λv s₁=>wpAny (model X.prog X.w) X.A (eval b X.env) (λu s₂=>wpAny (model X.prog X.w) X.A (f v u) Q X.xe s₂) X.xe s₁) X.xe s:=by
 refine LF (ha Ly s σ H _ I h) λv s1 zz=>?_;obtain⟨x,H1,I1,r1,q1⟩:=zz;refine LF (hb Ly s1 σ H1 _ I1 q1) λu s2 zz=>?_;obtain⟨y,H2,I2,r2,q2⟩:=zz;exact hf v u s2 x y H2 I2 r1 r2 q2
inductive Q9(i:Nat)(σ:St)(H:Hp)(Q:VK):Prop where
 | mk (v:V) (UH:σ[i]?=some (some v)) (UG:Q v H):Q9 i σ H Q
def OK(i:Nat):TE:=λσ H Q=>Q9 i σ H Q
inductive WU(x:V)(P:Bool->Prop):Prop where
 | mk (c:Bool) (e:x=.bl c) (q:P c):WU x P
def tC(v:V):TE:=λ_ H Q=>Q v H
theorem Av{i:Nat}(hN:X.N[i]?=some x)(hv:Rf X.env.scope x)(hd:(x==("__debug__":Str))=false:=by decide)(hcd:(x==("__classdict__":Str))=false:=by decide):PE X (.Name x pos) (OK i):=by
 intro Ly s σ H Q I h;obtain⟨v,e,h⟩:=h;obtain⟨m,hn,hl⟩:=I.loc;obtain⟨u,r,l⟩:=hl i x v hN e hv;have fin:EP X Ly σ Q u s:=⟨v,H,I,r,h⟩;rcases l with⟨hk,hm⟩ | ⟨hk,c,hc,LG⟩
 .exact wpAny_Name (wpAny_loadName_local I.ok.kind hk hn hm fin) hd
 .rcases hk with hk | hk
  .exact wpAny_Name (wpAny_loadName_cell I.ok.kind hk hc LG fin) hd
  .exact wpAny_Name (wpAny_loadName_free I.ok.kind hk hc LG fin hcd) hd
theorem ao{i j pos}:PE X (.Constant (.int i) j pos) (tC (.int i)):=λ_ _ _ H _ I h=>wpAny_Constant_int ⟨.int i,H,I.tok _,⟨_,rfl⟩,h⟩
theorem iw{b j pos}:PE X (.Constant (.bool b) j pos) (tC (.bl b)):=λ_ _ _ H _ I h=>Constant_bool ⟨.bl b,H,I,rfl,h⟩
theorem bN{j pos}:PE X (.Constant .none j pos) (tC .non):=λ_ _ _ H _ I h=>Constant_none ⟨.non,H,I,rfl,h⟩
theorem aR{x j pos}:PE X (.Constant (.str x) j pos) (tC (.str x)):=λ_ _ _ H _ I h=>Calls.Constant_str ⟨.str x,H,I.tok _,⟨_,rfl⟩,h⟩
def Gl(X:Cx)(x:Str):Prop:=X.env.kindOf x=some .globalImplicit
theorem lS{E:Value->Shared->Prop}{s:Shared}{H:Hp}{Q:Value->Shared->Prop}(I:Inv X Ly σ H s)(hg:Gl X x)(hm:X.mg x=some u)(h:Q u s)
  (hd:(x==("__debug__":Str))=false:=by decide):wpAny (model X.prog X.w) X.A (eval (.Name x pos) X.env) Q E s:=
 Calls.Name_function_global I.ok.kind hg (Calls.loadGlobal_global (by rw[I.ok.glob];exact I.mod.glob.keeps I.bk) hm h) hd
theorem lx{E:Value->Shared->Prop}{s:Shared}{H:Hp}{Q:Value->Shared->Prop}(I:Inv X Ly σ H s)(hg:Gl X x)(hm:X.mg x=none)(hv:bootBuiltins x=some u)(h:Q u s)
  (hn:x≠"__name__":=by decide)(hd:(x==("__debug__":Str))=false:=by decide):wpAny (model X.prog X.w) X.A (eval (.Name x pos) X.env) Q E s:=by
 obtain⟨mb,h1,h2⟩:=I.mod.blt;exact Calls.Name_function_global I.ok.kind hg (Calls.loadGlobal_builtin (by rw[I.ok.glob];exact I.mod.glob.keeps I.bk) hm (by rw[I.ok.blt];exact h1.keeps I.bk) ((h2 x hn).trans hv) h) hd
theorem cS{v:V}(hg:Gl X x)(hm:X.mg x=some u)(r:RelV v u)(hd:(x==("__debug__":Str))=false:=by decide):PE X (.Name x pos) (tC v):=
 λ_ _ _ H _ I h=>lS I hg hm ⟨v,H,I,r,h⟩ hd
theorem fq{v:V}(hg:Gl X x)(hm:X.mg x=none)(hv:bootBuiltins x=some u)(r:RelV v u)(hn:x≠"__name__":=by decide)(hd:(x==("__debug__":Str))=false:=by decide):PE X (.Name x pos) (tC v):=
 λ_ _ _ H _ I h=>lx I hg hm hv ⟨v,H,I,r,h⟩ hn hd
variable{a b:Expr}{ta tb:TE}{pos:Pos}
def PC(X:Cx)(op:CmpOp)(a b:Expr)(t:TE):Prop:=
 ∀(
  Ly:List (Addr×Obj)) (s:Shared) (σ:St) (H:Hp) (Q:VK),Inv X Ly σ H s->t σ H Q->
  wpAny (model X.prog X.w) X.A (eval a X.env) (λv s₁=>wpAny (model X.prog X.w) X.A (eval b X.env) (λu s₂=>wpAny (model X.prog X.w) X.A (compareOp op v u) (EP X Ly σ Q) X.xe s₂) X.xe s₁) X.xe s
def tB(t:TE):TT:=λσ H Q=>t σ H λx H1=>WU x λc=>Q c H1
theorem R5{t:TE}(h:PC X op a b t)(h1:behindInMarks op b=false:=by first | exact Vs _ (by decide) (by decide) | rfl):PT X (.Compare a [op] [b] pos) (tB t):=by
 intro Ly s σ H Q I hw;refine wpAny_isTrue_Compare1 (LF (h Ly s σ H _ I hw) λv s1 h1=>LF h1 λu s2 h2=>LF h2 λc s3 zz=>?_) h1;obtain⟨x,H1,I1,r1,q1⟩:=zz;obtain⟨d,rfl,q⟩:=q1;cases r1
 exact C7 ⟨H1,I1,q⟩
theorem dA{t:TE}(h:PE X e t)(he:∀whole,isTrue e X.env whole=(do let v <- whole;standAt e.pos;holding [v] (truthy v)):=by intro _;rfl):PT X e (tB t):=by
 intro Ly s σ H Q I hw;refine isTrue_plain (LF (h Ly s σ H _ I hw) λv s1 zz=>?_) (he _);obtain⟨x,H1,I1,r1,q1⟩:=zz;obtain⟨d,rfl,q⟩:=q1;cases r1
 exact C7 ⟨H1,I1,q⟩
variable{tA Xj:TT}{rest:List Expr}
def Yv(t u:TT):TT:=λσ H Q=>t σ H λc H1=>if c=true then u σ H1 Q else Q false H1
def tOr(t u:TT):TT:=λσ H Q=>t σ H λc H1=>if c=true then Q true H1 else u σ H1 Q
def Yr(t:TT):TT:=λσ H Q=>t σ H λc H1=>Q (!c) H1
theorem wH(ha:PT X a tA):PW X (.BoolOp .And [a] pos) tA:=by
 intro wh Ly s σ H Q I h;refine isTrue_and (LF (ha Ly s σ H Q I h) λc s1 e=>?_);cases c with
 | true=>exact isTrue_and_nil e
 | false=>exact e
theorem fV(ha:PT X a tA):PW X (.BoolOp .Or [a] pos) tA:=by
 intro wh Ly s σ H Q I h;refine isTrue_or (LF (ha Ly s σ H Q I h) λc s1 e=>?_);cases c with
 | false=>exact isTrue_or_nil e
 | true=>exact e
theorem As(ha:PT X a tA)(hb:PW X (.BoolOp .And (b::rest) pos) Xj):PW X (.BoolOp .And (a::b::rest) pos) (Yv tA Xj):=by
 intro wh Ly s σ H Q I h;refine isTrue_and (LF (ha Ly s σ H _ I h) λc s1 zz=>?_);obtain⟨H1,I1,q1⟩:=zz;cases c with
 | true=>exact hb wh Ly s1 σ H1 Q I1 q1
 | false=>exact⟨H1,I1,q1⟩
theorem eM(ha:PT X a tA)(hb:PW X (.BoolOp .Or (b::rest) pos) Xj):PW X (.BoolOp .Or (a::b::rest) pos) (tOr tA Xj):=by
 intro wh Ly s σ H Q I h;refine isTrue_or (LF (ha Ly s σ H _ I h) λc s1 zz=>?_);obtain⟨H1,I1,q1⟩:=zz;cases c with
 | true=>exact⟨H1,I1,q1⟩
 | false=>exact hb wh Ly s1 σ H1 Q I1 q1
theorem eP(ha:PT X a tA):PT X (.UnaryOp .Not a pos) (Yr tA):=by
 intro Ly s σ H Q I h;exact isTrue_not (ha Ly s σ H (λc H1=>Q (!c) H1) I h)
def UT(ta tb:TE):TE:=λσ H Q=>ta σ H λx H1=>WU x λc=>if c=true then tb σ H1 Q else Q (.bl false) H1
def UP(ta:TE):TE:=λσ H Q=>ta σ H λx H1=>WU x λc=>Q (.bl (!c)) H1
theorem mX{op}{t:TE}(h:PE X a t):PE X (.BoolOp op [a] pos) t:=λLy s σ H Q I hw=>BoolOp_one (h Ly s σ H Q I hw)
theorem ke(ha:PE X a ta)(hb:PE X (.BoolOp .And (b::rest) pos) tb):PE X (.BoolOp .And (a::b::rest) pos) (UT ta tb):=by
 intro Ly s σ H Q I h;refine BoolOp_and (LF (ha Ly s σ H _ I h) λv s1 zz=>?_);obtain⟨x,H1,I1,r1,q1⟩:=zz;obtain⟨c,rfl,q1⟩:=q1;cases r1
 refine C7 ?_;cases c with
 | true=>exact hb Ly s1 σ H1 Q I1 q1
 | false=>exact⟨.bl false,H1,I1,rfl,q1⟩
theorem GX(ha:PE X a ta):PE X (.UnaryOp .Not a pos) (UP ta):=by
 intro Ly s σ H Q I h;refine UnaryOp_ (LF (ha Ly s σ H _ I h) λv s1 zz=>?_);obtain⟨x,H1,I1,r1,q1⟩:=zz;obtain⟨c,rfl,q1⟩:=q1;cases r1
 exact not_of (C7 ⟨.bl (!c),H1,I1,rfl,q1⟩)
def tIf(t:TT)(ta tb:TE):TE:=λσ H Q=>t σ H λc H1=>if c=true then ta σ H1 Q else tb σ H1 Q
theorem kY(hc:PT X c tA)(ha:PE X a ta)(hb:PE X b tb):PE X (.IfExp c a b pos) (tIf tA ta tb):=by
 intro Ly s σ H Q I h;refine wpAny_IfExp (LF (hc Ly s σ H _ I h) λd s1 zz=>?_);obtain⟨H1,I1,q1⟩:=zz;cases d with
 | true=>exact ha Ly s1 σ H1 Q I1 q1
 | false=>exact hb Ly s1 σ H1 Q I1 q1
end
def LA(K:W.Frag)(H:Hp)(a:Addr)(xs:List V):Prop:=
 Rd H a (.lst xs)\/
  ∃(o:Obj)(its:Array Value)(n:Nat),K.lookup a=some o/\o.cls=.type "list"/\o.dict=none/\o.data=.seq its n/\its.size<=sizeLine/\Vals xs its.toList
def Lz(K:W.Frag)(H:Hp)(a:Addr)(xs:List V):Prop:=
 Rd H a (.tup xs)\/
  ∃(o:Obj)(its:Array Value)(n:Nat),K.lookup a=some o/\o.cls=.type "tuple"/\o.data=.seq its n/\its.size<=sizeLine/\Vals xs its.toList
noncomputable def absV:Value->Option V
 | .none=>some .non
 | .bool b=>some (.bl b)
 | .int i _=>some (.int i)
 | .str x _=>some (.str x)
 | .bytes b _=>some (.byt b)
 | .float b _=>some (.flt b)
 | .ref a=>some (.ref a)
 | .type n=>some (.ty n)
 | _=>none
theorem RelV.abs{x:V}(r:RelV x u):absV u=some x:=by
 cases x with
 | non=>cases r;rfl
 | bl _=>cases r;rfl
 | int _=>obtain⟨t,rfl⟩:=r;rfl
 | str _=>obtain⟨t,rfl⟩:=r;rfl
 | byt _=>obtain⟨t,rfl⟩:=r;rfl
 | flt _=>obtain⟨t,rfl⟩:=r;rfl
 | ref _=>cases r;rfl
 | ty _=>cases r;rfl
theorem RelV.inj{x y:V}(r:RelV x u)(q:RelV y u):x=y:=l7 (r.abs.symm.trans q.abs)
theorem Vals.inj:∀{xs ys:List V}{us:List Value},Vals xs us->Vals ys us->xs=ys
 | _,_,_,.nil,.nil=>rfl
 | _,_,_,.cons r t,.cons r' t'=>by rw[r.inj r',Vals.inj t t']
section
variable{X:Cx}{Ly:List (Addr×Obj)}{σ:St}{H:Hp}{s:Shared}{a:Addr}{xs ys:List V}
theorem LA.of{K:W.Frag}(h:H a=some (.lst xs)):LA K H a xs:=.inl (.inl h)
theorem Lz.of{K:W.Frag}(h:H a=some (.tup xs)):Lz K H a xs:=.inl (.inl h)
theorem Inv.list(I:Inv X Ly σ H s)(h:LA X.K H a xs):∃its:List Value,Vals xs its/\PlainL s.heap a its.toArray/\xs.length<=sizeLine:=by
 rcases h with h | ⟨o,its,n,hk,hc,hd,hs,hz,r⟩
 .obtain⟨z,its,n,r,e⟩:=h.ok I.hok;exact⟨its,r,⟨_,n,e,rfl,rfl,rfl⟩,z⟩
 .refine⟨its.toList,r,⟨o,n,I.kIn a o hk,hc,hd,by simpa using hs⟩,?_⟩;have e:=r.length;simp only[B7]at e;omega
theorem Inv.tuple(I:Inv X Ly σ H s)(h:Lz X.K H a xs):∃its:List Value,Vals xs its/\IsTup s.heap a its.toArray/\xs.length<=sizeLine:=by
 rcases h with h | ⟨o,its,n,hk,hc,hs,hz,r⟩
 .obtain⟨z,its,r,p⟩:=h.ok I.hok;exact⟨its,r,p,z⟩
 .refine⟨its.toList,r,⟨o,I.kIn a o hk,hc,n,by simpa using hs⟩,?_⟩;have e:=r.length;simp only[B7]at e;omega
theorem Inv.list_inj(I:Inv X Ly σ H s)(h:LA X.K H a xs)(h':LA X.K H a ys):xs=ys:=by
 obtain⟨its,r,⟨o,n,e,_,_,d⟩,_⟩:=I.list h;obtain⟨its',r',⟨o',n',e',_,_,d'⟩,_⟩:=I.list h';rw[e]at e';cases e'
 rw[d]at d';injection d' with d1 _
 have:its=its':=by simpa using z6 Array.toList d1
 subst this;exact r.inj r'
theorem Inv.tuple_inj(I:Inv X Ly σ H s)(h:Lz X.K H a xs)(h':Lz X.K H a ys):xs=ys:=by
 obtain⟨its,r,⟨o,e,_,n,d⟩,_⟩:=I.tuple h;obtain⟨its',r',⟨o',e',_,n',d'⟩,_⟩:=I.tuple h';rw[e]at e';cases e'
 rw[d]at d';injection d' with d1 _
 have:its=its':=by simpa using z6 Array.toList d1
 subst this;exact r.inj r'
end
noncomputable abbrev Cx.wish (X:Cx) (E:Value->Shared->Prop):Cx:={X with xe:=E}
noncomputable abbrev Cx.nox (X:Cx):Cx:=X.wish λ_ _=>False
theorem Cx.Ok.wish(ok:X.Ok)(E:Value->Shared->Prop):(X.wish E).Ok:=
 ⟨ok.mod,ok.kind,ok.glob,ok.blt,ok.above,ok.inj,ok.has,ok.cab,ok.hd,ok.frames,ok.stk,ok.exf,ok.bs,ok.bsz,ok.noex,ok.exfs,ok.funs,ok.frf⟩
theorem Cx.Ok.unwish{E:Value->Shared->Prop}(ok:(X.wish E).Ok):X.Ok:=
 ⟨ok.mod,ok.kind,ok.glob,ok.blt,ok.above,ok.inj,ok.has,ok.cab,ok.hd,ok.frames,ok.stk,ok.exf,ok.bs,ok.bsz,ok.noex,ok.exfs,ok.funs,ok.frf⟩
section
variable{X:Cx}{Ly:List (Addr×Obj)}{σ:St}{H:Hp}{s:Shared}{E:Value->Shared->Prop}
theorem Inv.wish(I:Inv X Ly σ H s)(E:Value->Shared->Prop):Inv (X.wish E) Ly σ H s:=⟨I.ok.wish E,I.os,I.bare,I.base,I.loc,I.cell,I.free,I.freeC,I.pin,I.hok,I.len⟩
theorem Inv.unwish(I:Inv (X.wish E) Ly σ H s):Inv X Ly σ H s:=⟨I.ok.unwish,I.os,I.bare,I.base,I.loc,I.cell,I.free,I.freeC,I.pin,I.hok,I.len⟩
theorem SP.unwish{f:Flow}(h:SP (X.wish E) Ly D f s'):SP X Ly D f s':=by
 cases f with
 | next=>obtain⟨σ',H',I,q⟩:=h;exact⟨σ',H',I.unwish,q⟩
 | brk=>obtain⟨σ',H',I,q⟩:=h;exact⟨σ',H',I.unwish,q⟩
 | cont=>obtain⟨σ',H',I,q⟩:=h;exact⟨σ',H',I.unwish,q⟩
 | ret u=>obtain⟨v,σ',H',I,r,q⟩:=h;exact⟨v,σ',H',I.unwish,r,q⟩
theorem LV.nox{t:TS}(h:LV X.nox st t):LV X st t:=λLy s σ H D I hw =>
 F5 (h Ly s σ H D (I.wish _) hw) (λ_ _ q=>q.unwish) λ_ _ z=>False.elim z
end
section
variable{X:Cx}{st:Stmt}{rest:List Stmt}{t u:TS}{e:Expr}{te:TE}{pos:Pos}
def BP:TS:=λD σ H=>D.nx σ H
def jt(t u:TS):TS:=λD σ H=>t {D with nx:=u D} σ H
theorem aL:LV X [] BP:=λ_ _ σ H _ I h=>Ko ⟨σ,H,I,h⟩
theorem ah(h1:PS X st t)(h2:LV X rest u):LV X (st::rest) (jt t u):=by
 intro Ly s σ H D I h;refine wpAny_execs_cons (LF (h1 Ly s σ H {D with nx:=u D} I h) λf s1 q=>?_)
 cases f with
 | next =>
  obtain⟨σ',H',I',q⟩:=q;exact h2 Ly s1 σ' H' D I' q
 | ret v=>exact q
 | brk=>exact q
 | cont=>exact q
theorem aq(h1:PS X st t):LV X [st] t:=by
 intro Ly s σ H D I h;refine wpAny_execs_cons (LF (h1 Ly s σ H D I h) λf s1 q=>?_);cases f with
 | next=>exact Ko q
 | ret v=>exact q
 | brk=>exact q
 | cont=>exact q
theorem Inv.quiet{H:Hp}{s:Shared}(I:Inv X Ly σ H s):interactive X.env=false:=by simp[interactive,I.ok.kind]
def UQ(te:TE):TS:=λD σ H=>te σ H λ_ H1=>D.nx σ H1
theorem bB(he:PE X e te)(hs:swapsWith e none pos.line X.env=pure false:=by rfl):PS X (.Expr e pos) (UQ te):=by
 intro Ly s σ H D I h;refine wpAny_Expr_any (LF (he Ly s σ H _ I h) λv s1 zz=>?_) I.quiet hs;obtain⟨x,H1,I1,r1,q1⟩:=zz;exact⟨σ,H1,I1,q1⟩
def DF(te:TE):TS:=λD σ H=>te σ H D.rt
theorem av(he:PE X e te):PS X (.Return (some e) pos) (DF te):=by
 intro Ly s σ H D I h;refine wpAny_Return_some (LF (he Ly s σ H _ I h) λv s1 zz=>?_);obtain⟨x,H1,I1,r1,q1⟩:=zz;exact⟨x,σ,H1,I1,r1,q1⟩
def RB(c:TT)(t u:TS):TS:=λD σ H=>c σ H λb H1=>if b=true then t D σ H1 else u D σ H1
theorem aT{a b:List Stmt}(hc:PT X c tc)(ha:LV X a t)(hb:LV X b u):PS X (.If c a b pos) (RB tc t u):=by
 intro Ly s σ H D I h;refine wpAny_If (LF (hc Ly s σ H _ I h) λd s1 zz=>?_);obtain⟨H1,I1,q1⟩:=zz;cases d with
 | true=>exact ha Ly s1 σ H1 D I1 q1
 | false=>exact hb Ly s1 σ H1 D I1 q1
def Rx:TS:=λ_ _ _=>False
theorem yA:PS X st Rx:=λ_ _ _ _ _ _ h=>h.elim
end
noncomputable abbrev TG:=V->St->Hp->(St->Hp->Prop)->Prop
noncomputable abbrev TZ:=List V->St->Hp->(St->Hp->Prop)->Prop
def PG(X:Cx)(target:Expr)(t:TG):Prop:=
 ∀(
  Ly:List (Addr×Obj)) (s:Shared) (σ:St) (H:Hp) (v:V) (u:Value) (Q:St->Hp->Prop),Inv X Ly σ H s->RelV v u->t v σ H Q->
  wpAny (model X.prog X.w) X.A (assign target X.env u) (λ_ s'=>∃σ' H',Inv X Ly σ' H' s'/\Q σ' H') X.xe s
def W0(X:Cx)(ts:List Expr)(t:TZ):Prop:=
 ∀(
  Ly:List (Addr×Obj)) (s:Shared) (σ:St) (H:Hp) (vs:List V) (us:List Value) (Q:St->Hp->Prop),Inv X Ly σ H s->Vals vs us->t vs σ H Q->
  wpAny (model X.prog X.w) X.A (assignInOrder ((assignEach ts X.env).map (·.2)) us) (λ_ s'=>∃σ' H',Inv X Ly σ' H' s'/\Q σ' H') X.xe s
noncomputable abbrev Yc:=V->V->Hp->VK->Prop
def PIp(X:Cx)(op:Operator)(t:Yc):Prop:=
 ∀(
  Ly:List (Addr×Obj)) (s:Shared) (σ:St) (H:Hp) (x y:V) (v u:Value) (Q:VK),Inv X Ly σ H s->RelV x v->RelV y u->t x y H Q->
  wpAny (model X.prog X.w) X.A (inplaceOp op v u) (EP X Ly σ Q) X.xe s
section
variable{X:Cx}{pos:Pos}
def my(i:Nat):TG:=λv σ H Q=>Q (σ.set i (some v)) H
theorem aS{i:Nat}(hN:X.N.Nodup:=by assumption)(hi:X.N[i]?=some x:=by rfl)(hx:Loc X.env.scope x:=by walk_at "oi")(hf:X.fn x=true\/X.env.scope.names.lookup x=some .local:=by first | exact .inl rfl | exact .inr rfl | assumption):PG X (.Name x pos) (my i):=by
 intro Ly s σ H v u Q I r h;exact wpAny_assign_Name (ro I hN hi hx r (λs' I'=>⟨_,H,I',h⟩) hf)
def Wi:TZ:=λvs σ H Q=>vs=[]/\Q σ H
def Iw(t:TG)(u:TZ):TZ:=λvs σ H Q=>∃v r,vs=v::r/\t v σ H λσ' H'=>u r σ' H' Q
theorem cZ:W0 X [] Wi:=by
 intro Ly s σ H vs us Q I r h;obtain⟨e,h⟩:=h;subst e;cases r
 exact assignInOrder_nil ⟨σ,H,I,h⟩
theorem aY{t:TG}{u:TZ}(h1:PG X e t)(h2:W0 X es u)
  (hs:(assignEach (e::es) X.env).map (·.2)=assign e X.env::(assignEach es X.env).map (·.2):=by rfl):W0 X (e::es) (Iw t u):=by
 intro Ly s σ H vs us Q I r h;obtain⟨v,vr,e1,h⟩:=h;subst e1;cases r with
 | cons r rr =>
  rw[hs];refine assignInOrder_cons (LF (h1 Ly s σ H _ _ _ I r h) λ_ s1 zz=>?_);obtain⟨σ1,H1,I1,q1⟩:=zz;exact h2 Ly s1 σ1 H1 _ _ Q I1 rr q1
def S8(K:W.Frag)(n:Nat)(t:TZ):TG:=λv σ H Q=>∃a xs,v=.ref a/\Lz K H a xs/\xs.length=n/\t xs σ H Q
theorem iR{k:Nat}{t:TZ}(hc:X.calm=true)(h:W0 X es t)
  (hn:(assignEach es X.env).length=n:=by rfl)(SG:(assignEach es X.env).findIdx? (·.1)=none:=by rfl):PG X (.Tuple es k pos) (S8 X.K n t):=by
 intro Ly s σ H v u Q I r hw;obtain⟨a,xs,e1,hq,hl,hw⟩:=hw;subst e1;cases r
 obtain⟨its,rv,ht,hz⟩:=I.tuple hq;refine assign_Tuple_tuple (I.ok.hd hc) ht (by simp[hn,<- hl,rv.length]) SG λh' hx=>?_;have I1:Inv X Ly σ H {s with heap:=h' }:=I.kept (t':=s.toks) λb o e=>hx b o (A4 (p5 e)) e
 exact h Ly _ σ H xs _ Q I1 (by simpa using rv) hw
def FI(te:TE)(g:TG):TS:=λD σ H=>te σ H λx H1=>g x σ H1 D.nx
theorem sO{g:TG}(he:PE X e te)(hg:PG X tg g)(hs:swapsWithSole [tg] e pos.line X.env=pure false:=by rfl)(hw:swappedStores [tg] e X.env=pure none:=by rfl)
  (h1:(assignEach [tg] X.env).map (·.2)=[assign tg X.env]:=by rfl):PS X (.Assign [tg] e pos) (FI te g):=by
 intro Ly s σ H D I h;refine wpAny_Assign_stores (LF (he Ly s σ H _ I h) λv s1 zz=>?_) hs hw;obtain⟨x,H1,I1,r1,q1⟩:=zz;rw[h1];exact LF (hg Ly s1 σ H1 x v _ I1 r1 q1) λ_ s2 q=>q
theorem aJ{i:Nat}(he:PE X e te)(hN:X.N.Nodup:=by assumption)(hi:X.N[i]?=some x:=by rfl)(hx:Loc X.env.scope x:=by walk_at "oi")(hs:swapsWith e (some (.Name x pos')) pos.line X.env=pure false:=by rfl)(hf:X.fn x=true\/X.env.scope.names.lookup x=some .local:=by first | exact .inl rfl | exact .inr rfl | assumption) :
  PS X (.Assign [.Name x pos'] e pos) (FI te (my i)):=by
 intro Ly s σ H D I h;refine wpAny_Assign_Name (LF (he Ly s σ H _ I h) λv s1 zz=>?_) hs;obtain⟨y,H1,I1,r1,q1⟩:=zz;exact ro I1 hN hi hx r1 (λs2 I2=>⟨_,H1,I2,q1⟩) hf
def Yu(i:Nat)(te:TE)(ti:Yc):TS:=λD σ H=>∃x,σ[i]?=some (some x)/\te σ H λy H1=>ti x y H1 λz H2=>D.nx (σ.set i (some z)) H2
theorem R6{i:Nat}{op:Operator}(hN:X.N.Nodup)(hi:X.N[i]?=some x)(hx:Loc X.env.scope x)(he:PE X e te)(ho:PIp X op ti)(hf:X.fn x=true\/X.env.scope.names.lookup x=some .local:=by first | exact .inl rfl | exact .inr rfl | assumption) :
  PS X (.AugAssign (.Name x pos') op e pos) (Yu i te ti):=by
 intro Ly s σ H D I h;obtain⟨v,e1,h⟩:=h;obtain⟨m,hn,hl⟩:=I.loc;have vis:Rf X.env.scope x:=by rcases hx with k | k;exact .inl k;exact .inr (.inl k)
 obtain⟨u,r,l⟩:=hl i x v hi e1 vis;refine wpAny_AugAssign_Name ?_
 have go:wpAny (model X.prog X.w) X.A (eval e X.env) (λw s₂=>wpAny (model X.prog X.w) X.A (inplaceOp op u w) (λr s₃=>wpAny (model X.prog X.w) X.A (storeName X.env x r) (λ_=>SP X Ly D .next) X.xe s₃) X.xe s₂) X.xe s:=by
  refine LF (he Ly s σ H _ I h) λw s1 zz=>?_;obtain⟨y,H1,I1,r1,q1⟩:=zz;refine LF (ho Ly s1 σ H1 v y u w _ I1 r r1 q1) λz s2 zz=>?_;obtain⟨zv,H2,I2,r2,q2⟩:=zz;exact ro I2 hN hi hx r2 (λs3 I3=>⟨_,H2,I3,q2⟩) hf
 rcases l with⟨hk,hm⟩ | ⟨hk,c,hc,LG⟩
 .exact wpAny_loadName_local I.ok.kind hk hn hm go
 .rcases hk with hk | hk
  .exact wpAny_loadName_cell I.ok.kind hk hc LG go
  .rcases hx with k | k
   .have:X.env.scope.names.lookup x=some .free:=hk;rw[k]at this;cases this
   .have:X.env.scope.names.lookup x=some .free:=hk;rw[k]at this;cases this
def ipI(f:Int->Int->Int):Yc:=λx y H Q=>∃i j,x=.int i/\y=.int j/\Q (.int (f i j)) H
theorem Sy:PIp X .Add (ipI λi j=>i+j):=by
 intro Ly s σ H x y v u Q I r1 r2 h;obtain⟨i,j,e1,e2,q⟩:=h;subst e1;subst e2;obtain⟨t,rfl⟩:=r1;obtain⟨t',rfl⟩:=r2;exact iadd_int ⟨.int _,H,I.tok _,⟨_,rfl⟩,q⟩
end
section
variable{X:Cx}{pos:Pos}
def Ru(c:TT)(tb:TS):TS:=λD σ H=>∃W:Nat->St->Hp->Prop,(∃m,W m σ H)/\∀m σ H,W m σ H->
 c σ H λb H1=>if b=true then ∃N:St->Hp->Prop,(∀σ' H',N σ' H'->∃m',m'<m/\W m' σ' H')/\tb {D with nx:=N,ct:=N,bk:=D.nx} σ H1 else D.nx σ H1
theorem iQ(hp:PassesOwn (model X.prog X.w) X.A X.env X.xe)(hc:PT X c tc)(hb:LV X body tb):PS X (.While c body [] pos) (Ru tc tb):=by
 intro Ly s σ H D I h;obtain⟨W,⟨m0,w0⟩,turn⟩:=h;refine wpAny_While (codeAny_whileLoop (λn s'=>∃σ' H',Inv X Ly σ' H' s'/\W n σ' H') ?_ m0 ⟨σ,H,I,w0⟩);rintro n s1 ⟨σ1,H1,I1,w1⟩
 refine Jz hp (LF (hc Ly s1 σ1 H1 _ I1 (turn n σ1 H1 w1)) λb s2 zz=>?_);obtain⟨H2,I2,q2⟩:=zz;cases b with
 | true =>
  obtain⟨N,hN,q2⟩:=q2;rw[d8 rfl];refine Jz hp (LF (hb Ly s2 σ1 H2 _ I2 q2) λf s3 q3=>?_);cases f with
  | next =>
   obtain⟨σ3,H3,I3,n3⟩:=q3;obtain⟨m',hm,w3⟩:=hN σ3 H3 n3;exact⟨m',hm,σ3,H3,I3,w3⟩
  | cont =>
   obtain⟨σ3,H3,I3,n3⟩:=q3;obtain⟨m',hm,w3⟩:=hN σ3 H3 n3;exact⟨m',hm,σ3,H3,I3,w3⟩
  | brk=>exact q3
  | ret v=>exact q3
 | false =>
  rw[i5 l9];exact Ko ⟨σ1,H2,I2,q2⟩
end
structure It where
 go:Nat->Hp->Prop
 yld:Nat->Hp->V->Hp->Prop
 stop:Nat->Hp->Prop
def jK(X:Cx)(Ly:List (Addr×Obj))(H:Hp)(b:Addr):Prop:=
 H b=none/\b≠X.env.locals/\b ∉ X.fs/\(b∈X.ex\/X.s₀.heap.objs.size<=b)/\(∀x c,X.env.cells.lookup x=some c->c≠b)/\∀p∈X.pn++Ly,p.1≠b
theorem Inv.fpOk{H H':Hp}{s:Shared}(I:Inv X Ly σ H s)(hb:s.heap.objs.size<=b)(hn:H' b=none):jK X Ly H' b:=by
 refine⟨hn,J8 (i7 I.lt hb),I.nofs hb,.inr (l8 I.sz hb),λx c e z=>?_,λp hp z=>?_⟩
 .obtain⟨v,q⟩:=I.cell x c e;exact absurd (i7 q.lt (by rw[z];exact hb)) (B9 _)
 .exact absurd (i7 (p5 (I.pin p hp).1) (by rw[z];exact hb)) (B9 _)
structure Turn(P:Program)(w:World)(K:W.Frag)(tg:Expr)(J:It)(fp:List Addr)(it:Addr)(tn:Nat->Heap->Prop):Prop where
 mem:it∈fp
 obj:∀i h,tn i h->∀b∈fp,∃o,h.get? b=some o/\∀v,o.data≠.cell v
 keep:∀i h h',tn i h->(∀b∈fp,∀o,h.get? b=some o->h'.get? b=some o)->tn i h'
 item:∀(X:Cx),X.prog=P->X.w=w->X.K=K->X.calm=true->∀(i:Nat)(Ly:List (Addr×Obj))(s:Shared)(σ:St)(H:Hp)(E:Value->Shared->Prop),Inv X Ly σ H s->(∀b∈fp,jK X Ly H b)->tn i s.heap->J.go i H->
  wpAny (model P w) X.A (pyNext (.ref it)) (λr s1=>∃u,r=some u/\
   wpAny (model P w) X.A (letOwnedTupleGo tg (.ref it) u) (λ_ s2=>∃x H',Inv X Ly σ H' s2/\RelV x u/\J.yld i H x H'/\tn (i+1) s2.heap/\∀b∈fp,H' b=none) E s1) E s
 done:∀(X:Cx),X.prog=P->X.w=w->X.K=K->X.calm=true->∀(i:Nat)(Ly:List (Addr×Obj))(s:Shared)(σ:St)(H:Hp)(E:Value->Shared->Prop),Inv X Ly σ H s->(∀b∈fp,jK X Ly H b)->tn i s.heap->J.stop i H->
  wpAny (model P w) X.A (pyNext (.ref it)) (λr s1=>r=none/\Inv X Ly σ H s1) E s
 self:∀(A:Around)(i:Nat)(s:Shared)(Q:Value->Shared->Prop)(E:Value->Shared->Prop),tn i s.heap->Q (.ref it) s->wpAny (model P w) A (pyIter (.ref it)) Q E s
noncomputable abbrev TI:=St->Hp->(It->Hp->Prop)->Prop
def PIE(X:Cx)(Ly:List (Addr×Obj))(σ:St)(tg:Expr)(R:It->Hp->Prop)(XD:Value)(s2:Shared):Prop:=
 ∃(it:Addr)(fp:List Addr)(tn:Nat->Heap->Prop)(J:It)(H':Hp),XD=.ref it/\Inv X Ly σ H' s2/\Turn X.prog X.w X.K tg J fp it tn/\tn 0 s2.heap/\(∀b∈fp,jK X Ly H' b)/\R J H'
def PI(X:Cx)(tg LH:Expr)(wi:TI):Prop:=
 ∀(
  Ly:List (Addr×Obj)) (s:Shared) (σ:St) (H:Hp) (R:It->Hp->Prop),Inv X Ly σ H s->wi σ H R->
  wpAny (model X.prog X.w) X.A (eval LH X.env) (λv s1=>wpAny (model X.prog X.w) X.A (pyIter v) (PIE X Ly σ tg R) X.xe s1) X.xe s
theorem Im{E:Value->Shared->Prop}{s:Shared}{o:Obj}{n:String}{Q:Unit->Shared->Prop}(ho:s.heap.get? it=some o)(hc:o.cls=.type n)(hd:o.data=.fields vs)
  (hn:["enumerate","zip","dict_itemiterator","dict_reverseitemiterator","odict_iterator","itertools.zip_longest","itertools.pairwise"].contains n=false)(hQ:Q () s):wpAny M A (letOwnedTupleGo tg (.ref it) u) Q E s:=by
 unfold letOwnedTupleGo
 cases tg<;>first
  | exact x4 hQ
  | (cases u <;> first
    | exact x4 hQ
    | (
     refine c5 (wpAny_load ho ?_);rw[hc,hd];show wpAny M A (if(["enumerate","zip","dict_itemiterator","dict_reverseitemiterator","odict_iterator","itertools.zip_longest","itertools.pairwise"].contains n && vs[0]? == some (rawInt _))=true then _ else _) Q E s;rw[i5 (by intro h;rw[hn,Bool.false_and]at h;cases h)]
     exact x4 hQ))
def Nr(K:W.Frag)(a:Addr):It:=
 ⟨λi H=>∃xs x,LA K H a xs/\xs[i]?=some x,λi H x H'=>H'=H/\∀xs,LA K H a xs->xs[i]?=some x,λi H=>∃xs,LA K H a xs/\xs.length<=i⟩
def Nq(K:W.Frag)(a:Addr):It:=
 ⟨λi H=>∃xs x,Lz K H a xs/\xs[i]?=some x,λi H x H'=>H'=H/\∀xs,Lz K H a xs->xs[i]?=some x,λi H=>∃xs,Lz K H a xs/\xs.length<=i⟩
def Ri(lo:Int)(n:Nat):It:=⟨λi _=>i<n,λi H x H'=>H'=H/\x=.int (lo+i),λi _=>n<=i⟩
theorem Dx{P:Program}{w:World}{K:W.Frag}(a it:Addr):Turn P w K tg (Nr K a) [it] it (λi h=>h.IsListIter it a i) where
 mem:=by simp
 obj:=λi h st b hb=>by
  have e:b=it:=by simpa using hb
  subst e;obtain⟨o,e,c,d⟩:=st;exact⟨o,e,λv z=>by rw[d]at z;cases z⟩
 keep:=λi h h' st k=>st.at λo e=>k it (by simp) o e
 item:=by
  intro X hP hw hK hc i Ly s σ H E I hf st hg;subst hP hw hK;obtain⟨xs,x,hq,hx⟩:=hg;obtain⟨its,rv,p,hz⟩:=I.list hq;obtain⟨u,hu,ru⟩:=rv.get hx;obtain⟨f0,f1,f2,f3,f4,f5⟩:=hf it (by simp);refine wpAny_pyNext_list_item st p.isList (x:=u) (by simpa using hu) λh' Qr sb=>?_;have I1:Inv X Ly σ H {s with heap:=h' }:=I.turned (t':=s.toks) (λb o hb e=>(sb.2 b hb).trans e) f0 f1 f3 f4 f5
  obtain⟨o,e,c,d⟩:=id Qr;exact⟨u,rfl,Im (s:={s with heap:=h' }) e c d (by decide) ⟨x,H,I1,ru,⟨rfl,λys hy=>by rw[I.list_inj hy hq];exact hx⟩,Qr,λb hb=>(hf b hb).1⟩⟩
 done:=by
  intro X hP hw hK hc i Ly s σ H E I hf st hg;subst hP hw hK;obtain⟨xs,hq,hx⟩:=hg;obtain⟨its,rv,p,hz⟩:=I.list hq;obtain⟨f0,f1,f2,f3,f4,f5⟩:=hf it (by simp);have hl:=rv.length;exact wpAny_pyNext_list_end (I.ok.hd hc) st p.isList (by simp;omega) λh' eb=>⟨rfl,I.turned (t':=s.toks) (λb o hb e=>eb b o hb e) f0 f1 f3 f4 f5⟩
 self:=λ_ _ _ _ _ st h=>wpAny_pyIter_listiter st h
theorem zV{P:Program}{w:World}{K:W.Frag}(a it:Addr):Turn P w K tg (Nq K a) [it] it (λi h=>h.IsTupleIter it a i) where
 mem:=by simp
 obj:=λi h st b hb=>by
  have e:b=it:=by simpa using hb
  subst e;obtain⟨o,e,c,d⟩:=st;exact⟨o,e,λv z=>by rw[d]at z;cases z⟩
 keep:=λi h h' st k=>st.at λo e=>k it (by simp) o e
 item:=by
  intro X hP hw hK hc i Ly s σ H E I hf st hg;subst hP hw hK;obtain⟨xs,x,hq,hx⟩:=hg;obtain⟨its,rv,p,hz⟩:=I.tuple hq;obtain⟨u,hu,ru⟩:=rv.get hx;obtain⟨f0,f1,f2,f3,f4,f5⟩:=hf it (by simp);refine wpAny_pyNext_tuple_item st (show s.heap.IsTuple a its.toArray from p) (x:=u) (by simpa using hu) λh' Qr sb=>?_;have I1:Inv X Ly σ H {s with heap:=h' }:=I.turned (t':=s.toks) (λb o hb e=>(sb.2 b hb).trans e) f0 f1 f3 f4 f5
  obtain⟨o,e,c,d⟩:=id Qr;exact⟨u,rfl,Im (s:={s with heap:=h' }) e c d (by decide) ⟨x,H,I1,ru,⟨rfl,λys hy=>by rw[I.tuple_inj hy hq];exact hx⟩,Qr,λb hb=>(hf b hb).1⟩⟩
 done:=by
  intro X hP hw hK hc i Ly s σ H E I hf st hg;subst hP hw hK;obtain⟨xs,hq,hx⟩:=hg;obtain⟨its,rv,p,hz⟩:=I.tuple hq;obtain⟨f0,f1,f2,f3,f4,f5⟩:=hf it (by simp);have hl:=rv.length;exact wpAny_pyNext_tuple_end (I.ok.hd hc) st (show s.heap.IsTuple a its.toArray from p) (by simp;omega) λh' eb=>⟨rfl,I.turned (t':=s.toks) (λb o hb e=>eb b o hb e) f0 f1 f3 f4 f5⟩
 self:=λ_ _ _ _ _ st h=>wpAny_pyIter_tupleiter st h
theorem zW{P:Program}{w:World}{K:W.Frag}(it:Addr)(lo:Int)(n:Nat):Turn P w K tg (Ri lo n) [it] it (λi h=>IsRangeIter h it (lo+(i:Nat)*1) ((n:Int)-(i:Nat)) 1) where
 mem:=by simp
 obj:=λi h st b hb=>by
  have e:b=it:=by simpa using hb
  subst e
  exact⟨_,st,λv z=>by
   have z':Data.fields _=Data.cell v:=z;cases z'⟩
 keep:=λi h h' st k=>k it (by simp) _ st
 item:=by
  intro X hP hw hK hc i Ly s σ H E I hf st hg;subst hP hw hK;obtain⟨f0,f1,f2,f3,f4,f5⟩:=hf it (by simp);have W:=Walks.range (prog:=X.prog) (w:=X.w) (I.ok.hd hc) it lo 1 n;refine W.item i s _ _ hg st λv h' tk hv Qr kk=>?_;obtain⟨t,rfl⟩:=hv;have I1:Inv X Ly σ H {s with heap:=h',toks:=tk}:=I.turned (λb o hb e=>kk b o (by simpa using hb) e) f0 f1 f3 f4 f5
  refine⟨_,rfl,Im (s:={s with heap:=h',toks:=tk}) (n:="range_iterator") Qr rfl rfl (by decide) ⟨.int (lo+i),H,I1,⟨t,?_⟩,⟨rfl,rfl⟩,Qr,λb hb=>(hf b hb).1⟩⟩
  rw[K0]
 done:=by
  intro X hP hw hK hc i Ly s σ H E I hf st hg;subst hP hw hK;obtain⟨f0,f1,f2,f3,f4,f5⟩:=hf it (by simp);exact wpAny_pyNext_range_end (I.ok.hd hc) st (by have:n<=i:=hg;omega) λh' eb=>⟨rfl,I.turned (t':=s.toks) (λb o hb e=>eb b o hb e) f0 f1 f3 f4 f5⟩
 self:=λ_ _ _ _ _ st h=>wpAny_pyIter_rangeiter st h
section
variable{X:Cx}{tg:Expr}
def VG(K:W.Frag)(tl:TE):TI:=λσ H R=>tl σ H λx H1=>∃a,x=.ref a/\(∃xs,LA K H1 a xs)/\R (Nr K a) H1
def Zp(K:W.Frag)(tl:TE):TI:=λσ H R=>tl σ H λx H1=>∃a,x=.ref a/\(∃xs,Lz K H1 a xs)/\R (Nq K a) H1
theorem cf{l:Expr}{tl:TE}(hl:PE X l tl):PI X tg l (VG X.K tl):=by
 intro Ly s σ H R I h;refine LF (hl Ly s σ H _ I h) λv s1 zz=>?_;obtain⟨x,H1,I1,r1,q1⟩:=zz;obtain⟨a,e,⟨xs,hq⟩,q⟩:=q1;subst e;cases r1
 obtain⟨its,rv,p,hz⟩:=I1.list hq;refine K1 p.isList ?_;refine⟨s1.heap.objs.size,[s1.heap.objs.size],_,_,H1,rfl,I1.kept (t':=s1.toks) λb o e=>i8 _ e,Dx a _,⟨_,x5 _ rfl,rfl,rfl⟩,λb hb=>?_,q⟩;have e:b=s1.heap.objs.size:=by simpa using hb
 subst e;exact I1.fpOk (c7 _) (I1.hok.fresh (c7 _))
theorem kX{l:Expr}{tl:TE}(hl:PE X l tl):PI X tg l (Zp X.K tl):=by
 intro Ly s σ H R I h;refine LF (hl Ly s σ H _ I h) λv s1 zz=>?_;obtain⟨x,H1,I1,r1,q1⟩:=zz;obtain⟨a,e,⟨xs,hq⟩,q⟩:=q1;subst e;cases r1
 obtain⟨its,rv,p,hz⟩:=I1.tuple hq;refine JH (show s1.heap.IsTuple a its.toArray from p) ?_;refine⟨s1.heap.objs.size,[s1.heap.objs.size],_,_,H1,rfl,I1.kept (t':=s1.toks) λb o e=>i8 _ e,zV a _,⟨_,x5 _ rfl,rfl,rfl⟩,λb hb=>?_,q⟩;have e:b=s1.heap.objs.size:=by simpa using hb
 subst e;exact I1.fpOk (c7 _) (I1.hok.fresh (c7 _))
theorem yy{H:Hp}{s:Shared}{R:It->Hp->Prop}{E:Value->Shared->Prop}{hi:Int}{t u v:Tok}{tk:Nat}(I:Inv X Ly σ H s)(h1:-(2^62)<=lo)(h2:lo<2^62)(h3:-(2^62)<=hi)(h4:hi<2^62)
  (q:R (Ri lo (hi-lo).toNat) H):wpAny (model X.prog X.w) X.A (pyIter (.ref s.heap.objs.size)) (PIE X Ly σ tg R) E {s with heap:=s.heap.push {cls:=.type "range",data:=.fields #[.int lo t,.int hi u,.int 1 v] },toks:=tk}:=by
 refine wpAny_pyIter_range (IsRange.new ..) (small_one h1 h2 h3 h4) ?_;have I1:Inv X Ly σ H {s with heap:=s.heap.push {cls:=.type "range",data:=.fields #[.int lo t,.int hi u,.int 1 v] },toks:=tk}:=I.kept λb o e=>i8 _ e
 refine⟨(s.heap.push {cls:=.type "range",data:=.fields #[.int lo t,.int hi u,.int 1 v] }).objs.size,[(s.heap.push {cls:=.type "range",data:=.fields #[.int lo t,.int hi u,.int 1 v] }).objs.size],_,_,H,rfl,
  I1.kept (t':=tk) λb o e=>i8 _ e,zW _ lo (hi-lo).toNat,?_,λb hb=>?_,q⟩
 .have e1:lo+((0:Nat):Int)*1=lo:=by simp
  have e2:(((hi-lo).toNat:Nat):Int)-((0:Nat):Int)=Builtin.Range.rangeSize lo hi 1:=by rw[rangeSize_one];split<;>omega
  show IsRangeIter _ _ (lo+((0:Nat):Int)*1) ((((hi-lo).toNat:Nat):Int)-((0:Nat):Int)) 1;rw[e1,e2];exact x5 _ rfl
 .have e:b=(s.heap.push {cls:=.type "range",data:=.fields #[.int lo t,.int hi u,.int 1 v] }).objs.size:=by simpa using hb
  subst e;exact I1.fpOk (c7 _) (I1.hok.fresh (c7 _))
def VF(ta:TA):TI:=λσ H R=>ta σ H λvs H1=>∃j:Int,vs=[.int j]/\-(2^62)<=j/\j<2^62/\R (Ri 0 j.toNat) H1
def VE(ta:TA):TI:=λσ H R=>ta σ H λvs H1=>∃i j:Int,vs=[.int i,.int j]/\(-(2^62)<=i/\i<2^62/\-(2^62)<=j/\j<2^62)/\R (Ri i (j-i).toNat) H1
theorem vj{a:Expr}{p:Pos}(hm:X.mg "range"=none)(ha:PA X [a] ta)(hg:Gl X "range":=by rfl)(hs:starEach [a] X.env=[(false,eval a X.env)]:=by rfl):PI X tg (.Call (.Name "range" p) [a] [] pos) (VF ta):=by
 intro Ly s σ H R I h;refine Call_ (lx I hg hm boot_range (E6 (LF (ha pos Ly s σ H _ I h) λus s1 zz=>?_) hs rfl));obtain⟨vs,H1,I1,r1,q1⟩:=zz;obtain⟨j,e,q1,q2,q⟩:=q1;subst e;cases r1 with
 | cons r rr =>
  cases rr
  obtain⟨t,rfl⟩:=r;exact call_range_1 (yy I1 (by omega) (by omega) q1 q2 (by simpa using q))
theorem DR{a b:Expr}{p:Pos}(hm:X.mg "range"=none)(ha:PA X [a,b] ta)(hg:Gl X "range":=by rfl)(hs:starEach [a,b] X.env=[(false,eval a X.env),(false,eval b X.env)]:=by rfl)(NV:starEach [b] X.env=[(false,eval b X.env)]:=by rfl) :
  PI X tg (.Call (.Name "range" p) [a,b] [] pos) (VE ta):=by
 intro Ly s σ H R I h;refine Call_ (lx I hg hm boot_range (E6 (LF (ha pos Ly s σ H _ I h) λus s1 zz=>?_) (by rw[hs,NV]) (by rw[NV];rfl)));obtain⟨vs,H1,I1,r1,q1⟩:=zz;obtain⟨i,j,e,⟨q1,q2,q3,q4⟩,q⟩:=q1;subst e;cases r1 with
 | cons r rr =>
  cases rr with
  | cons r' rr =>
   cases rr
   obtain⟨t,rfl⟩:=r;obtain⟨t',rfl⟩:=r';exact call_range_2 (yy I1 q1 q2 q3 q4 q)
def Ys(wi:TI)(g:TG)(tb:TS):TS:=λD σ H=>wi σ H λJ H1=>∃W:Nat->Nat->St->Hp->Prop,(∃m,W 0 m σ H1)/\∀i m σ H,W i m σ H->
 (J.stop i H/\D.nx σ H)\/(J.go i H/\∃N:St->Hp->Prop,(∀σ' H',N σ' H'->∃m',m'<m/\W (i+1) m' σ' H')/\∀x H',J.yld i H x H'->g x σ H' λσ2 H2=>tb {D with nx:=N,ct:=N,bk:=D.nx} σ2 H2)
noncomputable def sP(fp:List Addr)(h:Heap):List (Addr×Obj):=fp.filterMap λb=>(h.get? b).map λo=>(b,o)
theorem gN{o:Obj}(hb:b∈fp)(e:h.get? b=some o):(b,o)∈sP fp h:=KC.mpr ⟨b,hb,by rw[e];rfl⟩
theorem El{p:Addr×Obj}(hp:p∈sP fp h):p.1∈fp/\h.get? p.1=some p.2:=by
 obtain⟨b,hb,e⟩:=KC.mp hp;cases q:h.get? b with
 | none=>rw[q]at e;cases e
 | some o =>
  rw[q]at e;have e':(b,o)=p:=l7 e;subst e';exact⟨hb,q⟩
theorem Inv.pinned{H:Hp}{s:Shared}(I:Inv X Ly σ H s)(hf:∀b∈fp,jK X Ly H b)(ho:∀b∈fp,∃o,s.heap.get? b=some o/\∀v,o.data≠.cell v):Inv X (Ly++sP fp s.heap) σ H s:=
 I.pins_of λp hp=>(j9.mp hp).elim (λz=>I.pin p (p8 _ z)) λz=>by
  obtain⟨hb,e⟩:=El z;obtain⟨f0,f1,f2,_⟩:=hf p.1 hb;obtain⟨o,e',d⟩:=ho p.1 hb;rw[e]at e';cases e'
  exact⟨e,f0,f1,f2,d⟩
theorem Inv.unpinned{pl:List (Addr×Obj)}{H:Hp}{s:Shared}(I:Inv X (Ly++pl) σ H s):Inv X Ly σ H s:=I.pins_of λp hp=>I.pin p (p8 _ (B2 _ hp))
theorem eQ{g:TG}(hp:PassesOwn (model X.prog X.w) X.A X.env X.xe)(hc:X.calm=true)(hi:PI X tg LH wi)(hg:PG X tg g)(hb:LV X body tb)
  (hs:∀x,foldedSetIterable LH X.env x=pure x:=by intro _;rfl):PS X (.For tg LH body [] pos) (Ys wi g tb):=by
 intro Ly s σ H D I h;refine wpAny_For (LF (hi Ly s σ H _ I h) λv s1 h1=>LF h1 λXD s2 h2=>?_) hs;obtain⟨it,fp,tn,J,H2,e,I2,T,Qq,f2,W,⟨m0,w0⟩,turn⟩:=h2;subst e;have Mn:∀{H':Hp},(∀b∈fp,H' b=none)->∀b∈fp,jK X Ly H' b:=λhn b hb=>⟨hn b hb,(f2 b hb).2⟩;refine codeAny_forLoop_any (λn s'=>∃i σ' H',Inv X Ly σ' H' s'/\tn i s'.heap/\(∀b∈fp,H' b=none)/\W i n σ' H') ?_ m0 ⟨0,σ,H2,I2,Qq,λb hb=>(f2 b hb).1,w0⟩;rintro n s3 ⟨i,σ3,H3,I3,st3,fr3,w3⟩
 rcases turn i n σ3 H3 w3 with⟨stop,qn⟩ | ⟨go,N,hN,step⟩
 .refine Jz hp (LF (T.done X rfl rfl rfl hc i Ly s3 σ3 H3 X.xe I3 (Mn fr3) st3 stop) λr s4 zz=>?_);obtain⟨hr,I4⟩:=zz;subst hr;exact Ko ⟨σ3,H3,I4,qn⟩
 .refine Jz hp (LF (T.item X rfl rfl rfl hc i Ly s3 σ3 H3 X.xe I3 (Mn fr3) st3 go) λr s4 zz=>?_);obtain⟨u,hr,h4⟩:=zz;subst hr;refine Jz hp (LF h4 λ_ s5 zz=>?_);obtain⟨x,H5,I5,r5,y5,OP,Tb⟩:=zz;have I5':=I5.pinned (Mn Tb) (T.obj _ _ OP);refine Jz hp (LF (hg _ s5 σ3 H5 x u _ I5' r5 (step x H5 y5)) λ_ s6 zz=>?_);obtain⟨σ6,H6,I6,q6⟩:=zz;refine Jz hp (LF (hb _ s6 σ6 H6 _ I6 q6) λf s7 q7=>?_)
  have again:∀{σ7:St}{H7:Hp},Inv X (Ly++sP fp s5.heap) σ7 H7 s7->N σ7 H7->∃m,m<n/\∃i σ' H',Inv X Ly σ' H' s7/\tn i s7.heap/\(∀b∈fp,H' b=none)/\W i m σ' H':=λ{σ7 H7} I7 n7=>by
   obtain⟨m',hm,w7⟩:=hN σ7 H7 n7;refine⟨m',hm,i+1,σ7,H7,I7.unpinned,T.keep _ _ _ OP λb hb o e=>(I7.pin (b,o) (p8 _ (p8 _ (gN hb e)))).1,λb hb=>?_,w7⟩;obtain⟨o,e,d⟩:=T.obj _ _ OP b hb;exact(I7.pin (b,o) (p8 _ (p8 _ (gN hb e)))).2.1
  cases f with
  | next=>obtain⟨σ7,H7,I7,n7⟩:=q7;exact again I7 n7
  | cont=>obtain⟨σ7,H7,I7,n7⟩:=q7;exact again I7 n7
  | brk=>obtain⟨σ7,H7,I7,q7⟩:=q7;exact⟨σ7,H7,I7.unpinned,q7⟩
  | ret v=>obtain⟨x7,σ7,H7,I7,r7,q7⟩:=q7;exact⟨x7,σ7,H7,I7.unpinned,r7,q7⟩
end
theorem eU{K:W.Frag}{xs:List V}{g:TG}{H:Hp}(Pv:Nat->St->Hp->Prop)(h0:Pv 0 σ H)(hl:∀i σ H,i<=xs.length->Pv i σ H->LA K H a xs)
  (hs:∀i x σ H,xs[i]?=some x->Pv i σ H->g x σ H λσ2 H2=>tb {D with nx:=Pv (i+1),ct:=Pv (i+1),bk:=D.nx} σ2 H2)(hd:∀σ H,Pv xs.length σ H->D.nx σ H) :
  ∃W:Nat->Nat->St->Hp->Prop,(∃m,W 0 m σ H)/\∀i m σ H,W i m σ H->
   ((Nr K a).stop i H/\D.nx σ H)\/((Nr K a).go i H/\∃N:St->Hp->Prop,(∀σ' H',N σ' H'->∃m',m'<m/\W (i+1) m' σ' H')/\∀x H',(Nr K a).yld i H x H'->g x σ H' λσ2 H2=>tb {D with nx:=N,ct:=N,bk:=D.nx} σ2 H2):=by
 refine⟨λi m σ H=>m=xs.length-i/\i<=xs.length/\Pv i σ H,⟨xs.length,by simp,y7 _,h0⟩,?_⟩;rintro i m σ H ⟨rfl,hi,p⟩
 have q:=hl i σ H hi p
 by_cases LI:i<xs.length
 .refine .inr ⟨⟨xs,xs[i],q,by simp[LI]⟩,Pv (i+1),λσ' H' p'=>⟨xs.length-(i+1),by omega,rfl,LI,p'⟩,λx H' y=>?_⟩;obtain⟨e,y⟩:=y;subst e;exact hs i x σ _ (y xs q) p
 .have e:i=xs.length:=by omega
  subst e;exact .inl ⟨⟨xs,q,c7 _⟩,hd σ H p⟩
theorem PJ{K:W.Frag}{xs:List V}{g:TG}{H:Hp}(Pv:Nat->St->Hp->Prop)(h0:Pv 0 σ H)(hl:∀i σ H,i<=xs.length->Pv i σ H->Lz K H a xs)
  (hs:∀i x σ H,xs[i]?=some x->Pv i σ H->g x σ H λσ2 H2=>tb {D with nx:=Pv (i+1),ct:=Pv (i+1),bk:=D.nx} σ2 H2)(hd:∀σ H,Pv xs.length σ H->D.nx σ H) :
  ∃W:Nat->Nat->St->Hp->Prop,(∃m,W 0 m σ H)/\∀i m σ H,W i m σ H->
   ((Nq K a).stop i H/\D.nx σ H)\/((Nq K a).go i H/\∃N:St->Hp->Prop,(∀σ' H',N σ' H'->∃m',m'<m/\W (i+1) m' σ' H')/\∀x H',(Nq K a).yld i H x H'->g x σ H' λσ2 H2=>tb {D with nx:=N,ct:=N,bk:=D.nx} σ2 H2):=by
 refine⟨λi m σ H=>m=xs.length-i/\i<=xs.length/\Pv i σ H,⟨xs.length,by simp,y7 _,h0⟩,?_⟩;rintro i m σ H ⟨rfl,hi,p⟩
 have q:=hl i σ H hi p
 by_cases LI:i<xs.length
 .refine .inr ⟨⟨xs,xs[i],q,by simp[LI]⟩,Pv (i+1),λσ' H' p'=>⟨xs.length-(i+1),by omega,rfl,LI,p'⟩,λx H' y=>?_⟩;obtain⟨e,y⟩:=y;subst e;exact hs i x σ _ (y xs q) p
 .have e:i=xs.length:=by omega
  subst e;exact .inl ⟨⟨xs,q,c7 _⟩,hd σ H p⟩
theorem vD{g:TG}{H:Hp}(Pv:Nat->St->Hp->Prop)(h0:Pv 0 σ H)
  (hs:∀i σ H,i<n->Pv i σ H->g (.int (lo+i)) σ H λσ2 H2=>tb {D with nx:=Pv (i+1),ct:=Pv (i+1),bk:=D.nx} σ2 H2)(hd:∀σ H,Pv n σ H->D.nx σ H) :
  ∃W:Nat->Nat->St->Hp->Prop,(∃m,W 0 m σ H)/\∀i m σ H,W i m σ H->
   ((Ri lo n).stop i H/\D.nx σ H)\/((Ri lo n).go i H/\∃N:St->Hp->Prop,(∀σ' H',N σ' H'->∃m',m'<m/\W (i+1) m' σ' H')/\∀x H',(Ri lo n).yld i H x H'->g x σ H' λσ2 H2=>tb {D with nx:=N,ct:=N,bk:=D.nx} σ2 H2):=by
 refine⟨λi m σ H=>m=n-i/\i<=n/\Pv i σ H,⟨n,by simp,y7 _,h0⟩,?_⟩;rintro i m σ H ⟨rfl,hi,p⟩
 by_cases LI:i<n
 .refine .inr ⟨LI,Pv (i+1),λσ' H' p'=>⟨n-(i+1),by omega,rfl,LI,p'⟩,λx H' y=>?_⟩;obtain⟨e,y⟩:=y;subst e y;exact hs i σ _ LI p
 .have e:i=n:=by omega
  subst e;exact .inl ⟨c7 _,hd σ H p⟩
noncomputable abbrev R2:=V->V->Hp->VK->Prop
def LQ(X:Cx)(f:Value->Value->Sem Value)(r:R2):Prop:=
 ∀(
  Ly:List (Addr×Obj)) (s:Shared) (σ:St) (H:Hp) (x y:V) (v u:Value) (Q:VK),Inv X Ly σ H s->RelV x v->RelV y u->r x y H Q->
  wpAny (model X.prog X.w) X.A (f v u) (EP X Ly σ Q) X.xe s
def Yb(X:Cx)(f:Value->Sem Value)(r:V->Hp->VK->Prop):Prop:=
 ∀(
  Ly:List (Addr×Obj)) (s:Shared) (σ:St) (H:Hp) (x:V) (v:Value) (Q:VK),Inv X Ly σ H s->RelV x v->r x H Q->
  wpAny (model X.prog X.w) X.A (f v) (EP X Ly σ Q) X.xe s
def gy(X:Cx)(f:Value)(r:List V->Hp->VK->Prop):Prop:=
 ∀(
  Ly:List (Addr×Obj)) (s:Shared) (σ:St) (H:Hp) (xs:List V) (us:List Value) (Q:VK),Inv X Ly σ H s->Vals xs us->r xs H Q->
  wpAny (model X.prog X.w) X.A (call f us) (EP X Ly σ Q) X.xe s
def TruR(X:Cx)(r:V->Hp->(Bool->Hp->Prop)->Prop):Prop:=
 ∀(
  Ly:List (Addr×Obj)) (s:Shared) (σ:St) (H:Hp) (x:V) (v:Value) (Q:Bool->Hp->Prop),Inv X Ly σ H s->RelV x v->r x H Q->
  wpAny (model X.prog X.w) X.A (truthy v) (TP X Ly σ Q) X.xe s
def Oi(r:R2)(ta tb:TE):TE:=λσ H Q=>ta σ H λx H1=>tb σ H1 λy H2=>r x y H2 Q
def tUn(r:V->Hp->VK->Prop)(ta:TE):TE:=λσ H Q=>ta σ H λx H1=>r x H1 Q
inductive XrI(C:Int->Int->Prop)(g:Int->Int->V)(x:V)(y:V)(H:Hp)(Q:VK):Prop where
 | mk (i:Int) (j:Int) (UH:x=.int i) (UG:y=.int j) (Xc:C i j) (Yh:Q (g i j) H):XrI C g x y H Q
def rI(C:Int->Int->Prop)(g:Int->Int->V):R2:=λx y H Q=>XrI C g x y H Q
inductive WT(g:Int->Int->V)(x:V)(y:V)(H:Hp)(Q:VK):Prop where
 | mk (i:Int) (j:Int) (UH:x=.int i) (UG:y=.int j) (Xc:Q (g i j) H):WT g x y H Q
def QD(g:Int->Int->V):R2:=λx y H Q=>WT g x y H Q
def rU(g:Int->V):V->Hp->VK->Prop:=λx H Q=>∃i,x=.int i/\Q (g i) H
section
variable{X:Cx}{a b c:Expr}{ta tb tc:TE}{pos:Pos}
theorem TH(ha:PE X a ta)(hb:PE X b tb){s:Shared}{H:Hp}{R:V->V->Hp->Prop}(I:Inv X Ly σ H s)
  (h:ta σ H λx H1=>tb σ H1 λy H2=>R x y H2){Q:Value->Shared->Prop}
  (hf:∀v u s2 x y H2,Inv X Ly σ H2 s2->RelV x v->RelV y u->R x y H2->wpAny (model X.prog X.w) X.A (f v u) Q X.xe s2) :
  wpAny (model X.prog X.w) X.A (eval a X.env) (λv s₁=>wpAny (model X.prog X.w) X.A (eval b X.env) (λu s₂=>wpAny (model X.prog X.w) X.A (f v u) Q X.xe s₂) X.xe s₁) X.xe s:=by
 refine LF (ha Ly s σ H _ I h) λv s1 zz=>?_;obtain⟨x,H1,I1,r1,q1⟩:=zz;refine LF (hb Ly s1 σ H1 _ I1 q1) λu s2 zz=>?_;obtain⟨y,H2,I2,r2,q2⟩:=zz;exact hf v u s2 x y H2 I2 r1 r2 q2
theorem aM{op:Operator}{r:R2}(ho:LQ X (binaryOp op) r)(ha:PE X a ta)(hb:PE X b tb):PE X (.BinOp a op b pos) (Oi r ta tb):=by
 intro Ly s σ H Q I h;exact wpAny_BinOp (TH ha hb I h λv u s2 x y H2 I2 rx ry q=>ho Ly s2 σ H2 x y v u Q I2 rx ry q)
theorem mq{op:UnaryOp}{r:V->Hp->VK->Prop}(ho:Yb X (unaryOp op) r)(ha:PE X a ta):PE X (.UnaryOp op a pos) (tUn r ta):=by
 intro Ly s σ H Q I h;refine UnaryOp_ (LF (ha Ly s σ H _ I h) λv s1 zz=>?_);obtain⟨x,H1,I1,r1,q1⟩:=zz;exact ho Ly s1 σ H1 x v Q I1 r1 q1
theorem Ui{C:Int->Int->Prop}{g:Int->Int->Int}
  (rule:∀(i j:Int)(t u:Tok)(s:Shared)(Q:Value->Shared->Prop)(E:Value->Shared->Prop),C i j->Q (.int (g i j) s.toks) {s with toks:=s.toks+1}->wpAny (model X.prog X.w) X.A (f (.int i t) (.int j u)) Q E s) :
  LQ X f (rI C λi j=>.int (g i j)):=by
 intro Ly s σ H x y v u Q I rx ry h;obtain⟨i,j,rfl,rfl,hc,q⟩:=h;obtain⟨t,rfl⟩:=rx;obtain⟨t',rfl⟩:=ry;exact rule i j t t' s _ _ hc ⟨.int (g i j),H,I.tok _,⟨_,rfl⟩,q⟩
theorem Vm{g:Int->Int->Int}
  (rule:∀(i j:Int)(t u:Tok)(s:Shared)(Q:Value->Shared->Prop)(E:Value->Shared->Prop),Q (.int (g i j) s.toks) {s with toks:=s.toks+1}->wpAny (model X.prog X.w) X.A (f (.int i t) (.int j u)) Q E s) :
  LQ X f (QD λi j=>.int (g i j)):=by
 intro Ly s σ H x y v u Q I rx ry h;obtain⟨i,j,rfl,rfl,q⟩:=h;obtain⟨t,rfl⟩:=rx;obtain⟨t',rfl⟩:=ry;exact rule i j t t' s _ _ ⟨.int (g i j),H,I.tok _,⟨_,rfl⟩,q⟩
theorem Pb{g:Int->Int->Bool}
  (rule:∀(i j:Int)(t u:Tok)(s:Shared)(Q:Value->Shared->Prop)(E:Value->Shared->Prop),Q (.bool (g i j)) s->wpAny (model X.prog X.w) X.A (f (.int i t) (.int j u)) Q E s) :
  LQ X f (QD λi j=>.bl (g i j)):=by
 intro Ly s σ H x y v u Q I rx ry h;obtain⟨i,j,rfl,rfl,q⟩:=h;obtain⟨t,rfl⟩:=rx;obtain⟨t',rfl⟩:=ry;exact rule i j t t' s _ _ ⟨.bl (g i j),H,I,rfl,q⟩
def CDiv(i j:Int):Prop:=0<j/\j<1073741824
def CPow(i j:Int):Prop:=0<=j/\j<=1000000/\i.natAbs<2^64
theorem cA:LQ X (binaryOp .Add) (QD λi j=>.int (i+j)):=Vm λ_ _ _ _ _ _ _ q=>add_int q
theorem dB:LQ X (binaryOp .Sub) (QD λi j=>.int (i-j)):=Vm λ_ _ _ _ _ _ _ q=>sub_int q
theorem CD:LQ X (binaryOp .FloorDiv) (rI CDiv λi j=>.int (i/j)):=Ui λi j _ _ _ _ _ hc q=>by
 have h1:(0:Int)<j:=hc.1;have h2:j<1073741824:=hc.2;exact floordiv_int (by omega) (by rw[G2 i (by omega)];exact q) (.inl (PyProof.noPylong_small (by omega)))
theorem iT:LQ X (binaryOp .Mod) (rI (λ_ j=>0<j) λi j=>.int (i%j)):=Ui λi j _ _ _ _ _ hc q=>by
 have h1:(0:Int)<j:=hc;exact mod_int' (by omega) (by rw[KD i (by omega)];exact q)
theorem iA:LQ X (binaryOp .Mod) (rI (λ_ j=>j≠0) λi j=>.int (i.fmod j)):=Ui λ_ _ _ _ _ _ _ hc q=>mod_int' hc q
theorem R8:LQ X (binaryOp .Pow) (rI CPow λi j=>.int (i^j.toNat)):=Ui λ_ _ _ _ _ _ _ hc q=>pow_int_small hc.1 hc.2.1 hc.2.2 q
theorem unI{f:Value->Sem Value}{g:Int->Int}
  (rule:∀(i:Int)(t:Tok)(s:Shared)(Q:Value->Shared->Prop)(E:Value->Shared->Prop),Q (.int (g i) s.toks) {s with toks:=s.toks+1}->wpAny (model X.prog X.w) X.A (f (.int i t)) Q E s) :
  Yb X f (rU λi=>.int (g i)):=by
 intro Ly s σ H x v Q I rx h;obtain⟨i,rfl,q⟩:=h;obtain⟨t,rfl⟩:=rx;exact rule i t s _ _ ⟨.int (g i),H,I.tok _,⟨_,rfl⟩,q⟩
theorem gE:Yb X (unaryOp .USub) (rU λi=>.int (-i)):=unI λ_ _ _ _ _ q=>neg_int q
end
noncomputable def U1:V->V->Bool
 | .non,.non=>true | .non,.int _=>true | .int _,.non=>true | .non,.bl _=>true | .bl _,.non=>true | .non,.str _=>true | .str _,.non=>true
 | .int _,.int _=>true | .bl _,.bl _=>true | .str _,.str _=>true | .byt _,.byt _=>true
 | .int _,.str _=>true | .str _,.int _=>true | .bl _,.str _=>true | .str _,.bl _=>true
 | _,_=>false
def rEq:R2:=λx y H Q=>U1 x y=true/\Q (.bl (decide (x=y))) H
def rNe:R2:=λx y H Q=>U1 x y=true/\Q (.bl (!decide (x=y))) H
theorem Dj{i j:Int}:decide (V.int i=V.int j)=(i==j):=by
 rw[J4];simp
theorem IL{i j:Bool}:decide (V.bl i=V.bl j)=(i==j):=by
 rw[J4];simp
theorem Di{i j:Str}:decide (V.str i=V.str j)=(i==j):=by
 rw[J4];simp
theorem Dk{i j:Array UInt8}:decide (V.byt i=V.byt j)=(i.toList==j.toList):=by
 rw[J4];cases i
 cases j
 simp
section
variable{X:Cx}{a b c:Expr}{ta tb tc:TE}{pos:Pos}
theorem bQ{H:Hp}{s:Shared}{Q:VK}{k k':Bool}(I:Inv X Ly σ H s)(q:Q (.bl k) H)(e:k=k'):EP X Ly σ Q (.bool k') s:=by
 subst e;exact⟨.bl k,H,I,rfl,q⟩
theorem cy:LQ X (compareOp .Eq) rEq:=by
 intro Ly s σ H x y v u Q I rx ry h;obtain⟨hs,q⟩:=h;cases x with
 | non =>
  cases rx
  cases y with
  | non=>cases ry;exact PySem.EqNone.eq_none_none (bQ I q (by simp))
  | bl j=>cases ry;exact PySem.EqNone.eq_none_bool (bQ I q (by simp))
  | int j=>obtain⟨t',rfl⟩:=ry;exact PySem.EqNone.eq_none_int (bQ I q (by simp))
  | str j=>obtain⟨t',rfl⟩:=ry;exact PySem.EqNone.eq_none_str (bQ I q (by simp))
  | _=>exact absurd (show false=true from hs) l9
 | bl i =>
  cases rx
  cases y with
  | non=>cases ry;exact PySem.EqNone.eq_bool_none (bQ I q (by simp))
  | bl j=>cases ry;exact eq_bool (bQ I q IL)
  | str j=>obtain⟨t',rfl⟩:=ry;exact PySem.EqMixed.eq_bool_str (bQ I q (by simp))
  | _=>exact absurd (show false=true from hs) l9
 | int i =>
  obtain⟨t,rfl⟩:=rx;cases y with
  | non=>cases ry;exact PySem.EqNone.eq_int_none (bQ I q (by simp))
  | int j=>obtain⟨t',rfl⟩:=ry;exact eq_int (bQ I q Dj)
  | str j=>obtain⟨t',rfl⟩:=ry;exact PySem.EqMixed.eq_int_str (bQ I q (by simp))
  | _=>exact absurd (show false=true from hs) l9
 | str i =>
  obtain⟨t,rfl⟩:=rx;cases y with
  | non=>cases ry;exact PySem.EqNone.eq_str_none (bQ I q (by simp))
  | bl j=>cases ry;exact PySem.EqMixed.eq_str_bool (bQ I q (by simp))
  | int j=>obtain⟨t',rfl⟩:=ry;exact PySem.EqMixed.eq_str_int (bQ I q (by simp))
  | str j=>obtain⟨t',rfl⟩:=ry;exact eq_str (bQ I q Di)
  | _=>exact absurd (show false=true from hs) l9
 | byt i =>
  obtain⟨t,rfl⟩:=rx;cases y with
  | byt j=>obtain⟨t',rfl⟩:=ry;exact PySem.W.eq_bytes (bQ I q Dk)
  | _=>exact absurd (show false=true from hs) l9
 | _=>cases y<;>exact absurd (show false=true from hs) l9
theorem ky:LQ X (compareOp .NotEq) rNe:=by
 intro Ly s σ H x y v u Q I rx ry h;obtain⟨hs,q⟩:=h;cases x with
 | non =>
  cases rx
  cases y with
  | non=>cases ry;exact PySem.EqNone.ne_none_none (bQ I q (by simp))
  | bl j=>cases ry;exact PySem.EqNone.ne_none_bool (bQ I q (by simp))
  | int j=>obtain⟨t',rfl⟩:=ry;exact PySem.EqNone.ne_none_int (bQ I q (by simp))
  | str j=>obtain⟨t',rfl⟩:=ry;exact PySem.EqNone.ne_none_str (bQ I q (by simp))
  | _=>exact absurd (show false=true from hs) l9
 | bl i =>
  cases rx
  cases y with
  | non=>cases ry;exact PySem.EqNone.ne_bool_none (bQ I q (by simp))
  | bl j=>cases ry;exact ne_bool (bQ I q (z6 not IL))
  | str j=>obtain⟨t',rfl⟩:=ry;exact PySem.EqMixed.ne_bool_str (bQ I q (by simp))
  | _=>exact absurd (show false=true from hs) l9
 | int i =>
  obtain⟨t,rfl⟩:=rx;cases y with
  | non=>cases ry;exact PySem.EqNone.ne_int_none (bQ I q (by simp))
  | int j=>obtain⟨t',rfl⟩:=ry;exact ne_int (bQ I q (z6 not Dj))
  | str j=>obtain⟨t',rfl⟩:=ry;exact PySem.EqMixed.ne_int_str (bQ I q (by simp))
  | _=>exact absurd (show false=true from hs) l9
 | str i =>
  obtain⟨t,rfl⟩:=rx;cases y with
  | non=>cases ry;exact PySem.EqNone.ne_str_none (bQ I q (by simp))
  | bl j=>cases ry;exact PySem.EqMixed.ne_str_bool (bQ I q (by simp))
  | int j=>obtain⟨t',rfl⟩:=ry;exact PySem.EqMixed.ne_str_int (bQ I q (by simp))
  | str j=>obtain⟨t',rfl⟩:=ry;exact ne_str (bQ I q (z6 not Di))
  | _=>exact absurd (show false=true from hs) l9
 | byt i =>
  obtain⟨t,rfl⟩:=rx;cases y with
  | byt j=>obtain⟨t',rfl⟩:=ry;exact PySem.W.ne_bytes (bQ I q (z6 not Dk))
  | _=>exact absurd (show false=true from hs) l9
 | _=>cases y<;>exact absurd (show false=true from hs) l9
theorem jb:LQ X (compareOp .Lt) (QD λi j=>.bl (decide (i<j))):=Pb λ_ _ _ _ _ _ _ q=>lt_int q
theorem jF:LQ X (compareOp .LtE) (QD λi j=>.bl (decide (i<=j))):=Pb λ_ _ _ _ _ _ _ q=>le_int q
theorem ix:LQ X (compareOp .Gt) (QD λi j=>.bl (decide (j<i))):=Pb λ_ _ _ _ _ _ _ q=>gt_int q
theorem sR:LQ X (compareOp .GtE) (QD λi j=>.bl (decide (j<=i))):=Pb λ_ _ _ _ _ _ _ q=>ge_int q
theorem kg:LQ X (compareOp .Is) (λx y H Q=>y=.non/\Q (.bl (decide (x=.non))) H):=by
 intro Ly s σ H x y v u Q I rx ry h;obtain⟨rfl,q⟩:=h;cases ry
 refine is_none_gen (bQ I q ?_)
 cases x<;>first
  | (cases rx;rfl)
  | (obtain⟨t,rfl⟩:=rx;rfl)
theorem qR:LQ X (compareOp .IsNot) (λx y H Q=>y=.non/\Q (.bl (!decide (x=.non))) H):=by
 intro Ly s σ H x y v u Q I rx ry h;obtain⟨rfl,q⟩:=h;cases ry
 refine isnot_none_gen (bQ I q ?_)
 cases x<;>first
  | (cases rx;rfl)
  | (obtain⟨t,rfl⟩:=rx;rfl)
theorem aI(b:Expr)(h:op≠.In:=by decide)(h2:op≠.NotIn:=by decide):behindInMarks op b=false:=by
 have e1:(op==CmpOp.In)=false:=by cases op<;>first | rfl | exact absurd rfl h
 have e2:(op==CmpOp.NotIn)=false:=by cases op<;>first | rfl | exact absurd rfl h2
 cases b<;>simp[behindInMarks,e1,e2]
theorem dM{r:R2}(ho:LQ X (compareOp op) r)(ha:PE X a ta)(hb:PE X b tb)(hm:behindInMarks op b=false):PE X (.Compare a [op] [b] pos) (Oi r ta tb):=by
 intro Ly s σ H Q I h;exact wpAny_Compare1 (TH ha hb I h λv u s2 x y H2 I2 rx ry q=>ho Ly s2 σ H2 x y v u Q I2 rx ry q) hm
def FE(t:TE):TT:=λσ H Q=>t σ H λx H'=>WU x λk=>Q k H'
theorem aE{r:R2}(ho:LQ X (compareOp op) r)(ha:PE X a ta)(hb:PE X b tb)(hm:behindInMarks op b=false):PT X (.Compare a [op] [b] pos) (FE (Oi r ta tb)):=by
 intro Ly s σ H Q I h
 refine wpAny_isTrue_Compare1 (LF (ha Ly s σ H _ I h) λv s1 ⟨x,H1,I1,r1,q1⟩=>LF (hb Ly s1 σ H1 _ I1 q1) λu s2 ⟨y,H2,I2,r2,q2⟩ =>
  LF (ho Ly s2 σ H2 x y v u _ I2 r1 r2 q2) λc s3 ⟨z,H3,I3,r3,k,e,q3⟩=>?_) hm
 subst e;cases r3
 exact C7 ⟨H3,I3,q3⟩
def FH(r r':R2)(ta tb tc:TE):TE:=λσ H Q=>ta σ H λx H1=>tb σ H1 λy H2=>r x y H2 λz H3=>∃k,z=.bl k/\
 (if k=true then tc σ H3 λw' H4=>r' y w' H4 Q else Q (.bl false) H3)
theorem yC{r:R2}(ho:LQ X (compareOp op) r)(MQ:LQ X (compareOp Uj) r')(ha:PE X a ta)(hb:PE X b tb)(hc:PE X c tc)
  (hm:lastMarks [op,Uj] [b,c]=false:=by with_unfolding_all rfl):PE X (.Compare a [op,Uj] [b,c] pos) (FH r r' ta tb tc):=by
 intro Ly s σ H Q I h
 refine Compare_chain (LF (ha Ly s σ H _ I h) λv s1 ⟨x,H1,I1,r1,q1⟩=>chain_link (LF (hb Ly s1 σ H1 _ I1 q1) λu s2 ⟨y,H2,I2,r2,q2⟩ =>
  LF (ho Ly s2 σ H2 x y v u _ I2 r1 r2 q2) λd s3 ⟨z,H3,I3,r3,k,e,q3⟩=>?_)) hm
 subst e;cases r3
 refine C7 ?_;cases k with
 | false=>exact ite_ff ⟨.bl false,H3,I3,rfl,q3⟩
 | true=>exact ite_tt (chain_last (LF (hc Ly s3 σ H3 _ I3 q3) λw' s4 ⟨z',H4,I4,r4,q4⟩=>MQ Ly s4 σ H4 y z' u w' Q I4 r2 r4 q4))
theorem GP{r:R2}(ho:LQ X (compareOp op) r)(MQ:LQ X (compareOp Uj) r')(ha:PE X a ta)(hb:PE X b tb)(hc:PE X c tc)
  (hm:lastMarks [op,Uj] [b,c]=false:=by with_unfolding_all rfl):PT X (.Compare a [op,Uj] [b,c] pos) (FE (FH r r' ta tb tc)):=by
 intro Ly s σ H Q I h
 refine isTrue_chain (LF (ha Ly s σ H _ I h) λv s1 ⟨x,H1,I1,r1,q1⟩=>test_link (LF (hb Ly s1 σ H1 _ I1 q1) λu s2 ⟨y,H2,I2,r2,q2⟩ =>
  LF (ho Ly s2 σ H2 x y v u _ I2 r1 r2 q2) λd s3 ⟨z,H3,I3,r3,k,e,q3⟩=>?_)) hm
 subst e;cases r3
 refine C7 ?_;cases k with
 | false =>
  obtain⟨k',e',q'⟩:=q3;cases e'
  exact ite_ff ⟨H3,I3,q'⟩
 | true =>
  refine ite_tt (test_last (LF (hc Ly s3 σ H3 _ I3 q3) λw' s4 zz=>?_));obtain⟨z',H4,I4,r4,q4⟩:=zz;refine LF (MQ Ly s4 σ H4 y z' u w' _ I4 r2 r4 q4) λd' s5 zz=>?_;obtain⟨z2,H5,I5,r5,k2,e2,q5⟩:=zz;subst e2;cases r5
  exact C7 ⟨H5,I5,q5⟩
def WV(K:W.Frag)(x:V)(H:Hp)(k:Bool):Prop:=
 match x with
 | .non=>k=false
 | .bl b=>k=b
 | .int i=>k=(i != 0)
 | .str y=>y.length<=sizeLine/\k=((y.length:Int) != 0)
 | .byt y=>y.size<=sizeLine/\k=((y.size:Int) != 0)
 | .ref p=>(∃xs,LA K H p xs/\k = !xs.isEmpty)\/(∃xs,Lz K H p xs/\k = !xs.isEmpty)\/∃LB,H p=some (.dK LB)/\k = !LB.isEmpty
 | _=>False
theorem Ba{κ:Type}{LB:List (κ×V)}{vs:List (κ×Value)}(r:KV LB vs):(!vs.isEmpty) = !LB.isEmpty:=by
 cases r<;>rfl
theorem tq{xs:List V}(r:Vals xs its):(!its.toArray.isEmpty) = !xs.isEmpty:=by
 cases r<;>simp
theorem xb:(sizeLine:Nat)<2^63:=by rw[K2];decide
theorem Rq:TruR X (λx H Q=>∃k,WV X.K x H k/\Q k H):=by
 intro Ly s σ H x v Q I rx h;obtain⟨k,e,q⟩:=h;have hl:=xb;have hs:sizeLine=16777216:=K2;cases x with
 | non =>
  cases rx
  have e':k=false:=e;subst e';exact truthy_none ⟨H,I,q⟩
 | bl b =>
  cases rx
  have e':k=b:=e;subst e';exact C7 ⟨H,I,q⟩
 | int i =>
  obtain⟨t,rfl⟩:=rx;have e':k=(i != 0):=e;subst e';exact PySem.P.truthy_int ⟨H,I,q⟩
 | str y =>
  obtain⟨t,rfl⟩:=rx;obtain⟨hy,e'⟩:y.length<=sizeLine/\k=((y.length:Int) != 0):=e;subst e';exact PySem.P.truthy_str (by omega) ⟨H,I.tok _,q⟩
 | byt y =>
  obtain⟨t,rfl⟩:=rx;obtain⟨hy,e'⟩:y.size<=sizeLine/\k=((y.size:Int) != 0):=e;subst e';exact PySem.W.truthy_bytes (by omega) ⟨H,I.tok _,q⟩
 | ref p =>
  cases rx
  have e':(∃xs,LA X.K H p xs/\k = !xs.isEmpty)\/(∃xs,Lz X.K H p xs/\k = !xs.isEmpty)\/∃LB,H p=some (.dK LB)/\k = !LB.isEmpty:=e;rcases e' with⟨xs,hx,e'⟩ | ⟨xs,hx,e'⟩ | ⟨LB,hx,e'⟩
  .subst e';obtain⟨its,r,pl,hz⟩:=I.list hx;have hlen:=r.length;exact wpAny_truthy_list pl.isList (by simp only[l6];omega) ⟨H,I.tok _,by rw[tq r];exact q⟩
  .subst e';obtain⟨its,r,pl,hz⟩:=I.tuple hx;have hlen:=r.length;exact truthy_tuple pl (by simp only[l6];omega) ⟨H,I.tok _,by rw[tq r];exact q⟩
  .subst e';obtain⟨hz,hS,vs,r,m⟩:LB.length<=sizeLine/\(p==sysModules)=false/\∃vs,KV LB vs/\s.heap.DictOf (de X.prog X.w) p vs:=I.hok p _ hx;have hlen:LB.length=vs.length:=K8 r;exact wpAny_truthy_dict hS m (by omega) ⟨H,I.tok _,by rw[Ba r];exact q⟩
 | _=>exact(show False from e).elim
theorem sN(ha:PE X a ta)(he:∀whole,isTrue a X.env whole=(do let v <- whole;standAt a.pos;holding [v] (truthy v))) :
  PT X a (λσ H Q=>ta σ H λx H'=>∃k,WV X.K x H' k/\Q k H'):=by
 intro Ly s σ H Q I h;refine isTrue_plain (LF (ha Ly s σ H _ I h) λv s1 zz=>?_) (he _);obtain⟨x,H1,I1,r1,q1⟩:=zz;exact Rq Ly s1 σ H1 x v Q I1 r1 q1
theorem vals1{x:V}(r:Vals [x] us):∃u,us=[u]/\RelV x u:=by
 cases r with
 | cons r1 r2=>cases r2;exact⟨_,rfl,r1⟩
theorem vals2{x y:V}(r:Vals [x,y] us):∃u w',us=[u,w']/\RelV x u/\RelV y w':=by
 cases r with
 | cons r1 r2 =>
  cases r2 with
  | cons r3 r4=>cases r4;exact⟨_,_,rfl,r1,r3⟩
theorem gk:gy X (.builtin "abs") (λxs H Q=>∃i,xs=[.int i]/\Q (.int (if i<0 then -i else i)) H):=by
 intro Ly s σ H xs us Q I r h;obtain⟨i,rfl,q⟩:=h;obtain⟨u,rfl,t,rfl⟩:=vals1 r;exact call_abs_int λu tk=>⟨.int (if i<0 then -i else i),H,I.tok _,⟨_,rfl⟩,q⟩
theorem iJ(hc:X.calm=true):gy X (.builtin "max") (λxs H Q=>∃i j,xs=[.int i,.int j]/\Q (.int (if j>i then j else i)) H):=by
 intro Ly s σ H xs us Q I r h;obtain⟨i,j,rfl,q⟩:=h;obtain⟨u,w',rfl,⟨t,rfl⟩,⟨t',rfl⟩⟩:=vals2 r;refine max_two_ints (I.ok.hd hc) λh' tk k=>⟨_,H,I.kept k,?_,q⟩
 by_cases hj:j>i
 .rw[d8 hj,d8 hj];exact⟨_,rfl⟩
 .rw[i5 hj,i5 hj];exact⟨_,rfl⟩
theorem fH(hc:X.calm=true):gy X (.builtin "min") (λxs H Q=>∃i j,xs=[.int i,.int j]/\Q (.int (if j<i then j else i)) H):=by
 intro Ly s σ H xs us Q I r h;obtain⟨i,j,rfl,q⟩:=h;obtain⟨u,w',rfl,⟨t,rfl⟩,⟨t',rfl⟩⟩:=vals2 r;refine min_two_ints (I.ok.hd hc) λh' tk k=>⟨_,H,I.kept k,?_,q⟩
 by_cases hj:j<i
 .rw[d8 hj,d8 hj];exact⟨_,rfl⟩
 .rw[i5 hj,i5 hj];exact⟨_,rfl⟩
theorem jJ:gy X (.type "int") (λxs H Q=>(∃i,xs=[.int i]/\Q (.int i) H)\/∃k,xs=[.bl k]/\Q (.int (if k then 1 else 0)) H):=by
 intro Ly s σ H xs us Q I r h;rcases h with⟨i,rfl,q⟩ | ⟨k,rfl,q⟩
 .obtain⟨u,rfl,t,rfl⟩:=vals1 r;exact call_int_int ⟨.int i,H,I,⟨_,rfl⟩,q⟩
 .obtain⟨u,rfl,r1⟩:=vals1 r;cases r1
  exact call_int_bool ⟨.int (if k then 1 else 0),H,I.tok _,⟨_,rfl⟩,q⟩
def LenV(K:W.Frag)(x:V)(H:Hp)(n:Nat):Prop:=
 match x with
 | .str y=>y.length<=sizeLine/\n=y.length
 | .byt y=>y.size<=sizeLine/\n=y.size
 | .ref p=>(∃xs,LA K H p xs/\n=xs.length)\/∃xs,Lz K H p xs/\n=xs.length
 | _=>False
theorem bL:gy X (.builtin "len") (λxs H Q=>∃x n,xs=[x]/\LenV X.K x H n/\Q (.int n) H):=by
 intro Ly s σ H xs us Q I r h;obtain⟨x,n,rfl,e,q⟩:=h;obtain⟨u,rfl,rx⟩:=vals1 r;have hl:=xb;have hs:sizeLine=16777216:=K2;cases x with
 | str y =>
  obtain⟨t,rfl⟩:=rx;obtain⟨hy,e'⟩:y.length<=sizeLine/\n=y.length:=e;subst e';exact len_str (by omega) ⟨.int _,H,I.tok _,⟨_,rfl⟩,q⟩
 | byt y =>
  obtain⟨t,rfl⟩:=rx;obtain⟨hy,e'⟩:y.size<=sizeLine/\n=y.size:=e;subst e';exact PySem.W.len_bytes (by omega) ⟨.int _,H,I.tok _,⟨_,rfl⟩,q⟩
 | ref p =>
  cases rx
  have e':(∃xs,LA X.K H p xs/\n=xs.length)\/∃xs,Lz X.K H p xs/\n=xs.length:=e;rcases e' with⟨xs,hx,e'⟩ | ⟨xs,hx,e'⟩
  .subst e';obtain⟨its,r',pl,hz⟩:=I.list hx;have hlen:=r'.length;exact Calls.call_len_list pl.isList (by simp only[l6];omega) ⟨.int xs.length,H,I.tok _,⟨_,by simp only[l6];rw[hlen]⟩,q⟩
  .subst e';obtain⟨its,r',pl,hz⟩:=I.tuple hx;have hlen:=r'.length;exact len_tuple pl (by simp only[l6];omega) ⟨.int xs.length,H,I.tok _,⟨_,by simp only[l6];rw[hlen]⟩,q⟩
 | _=>exact(show False from e).elim
end
structure BC(h:Heap)(x dx C:Addr)(mA:Str->Option Value):Prop where
 obj:h.get? x=some (PySem.W.instObj C dx)
 ns:h.Ns1 dx mA
 ne:dx≠x
theorem EB(n:h.Ns1 dx mA):∃od,h.get? dx=some od/\∀name,PySem.W.lookIn name od=some (mA name):=by
 obtain⟨o,es,ep,ho,hd,hk,_,hm⟩:=n;refine⟨o,ho,λname=>?_⟩;have e:=hm name;unfold nsFind findBy at e;rw[<- Array.find?_toList]at e;unfold PySem.W.lookIn;rw[hd];dsimp only;split
 .rename_i y q;rw[q]at e;exact z6 some e
 .rename_i q;rw[q]at e
  have a:es.toList.any (·.refKey)=false:=by
   rw[List.any_eq_false];intro y hy;obtain⟨z,t,ZP⟩:=hk y (Array.mem_toList_iff.mp hy);simp[DictEntry.refKey,ZP]
  have a':¬es.toList.any (·.refKey)=true:=by rw[a];exact l9
  rw[i5 a'];exact z6 some e
theorem BC.look{x:Addr}(I:BC h x dx C mA):∃od,PySem.W.InstAt h x (PySem.W.instObj C dx) C (some od)/\∀name,PySem.W.lookIn name od=some (mA name):=
 let ⟨od,ho,hl⟩:=EB I.ns
 ⟨od,⟨I.obj,rfl,rfl,ho⟩,hl⟩
section
variable{prog:Program}{w:World}{A:Around}{E:Value->Shared->Prop}{s:Shared}{K:W.Frag}{x dx C f:Addr}{mA:Str->Option Value}{name:Str}{v:Value}
theorem get_map{Q:Value->Shared->Prop}(X:K.In s.heap)(I:BC s.heap x dx C mA)(hg:PySem.W.plainGet K C name=true)(hh:PySem.W.hasDictIn K C=true)
  (ha:PySem.W.findIn K (.ref C) name=some none)(hv:mA name=some v)(ML:PySem.W.handedIn v=true)(h:Q v {s with toks:=s.toks+1}) :
  wpAny (model prog w) A (getAttr (.ref x) name expr) Q E s:=by
 obtain⟨od,J,hl⟩:=I.look;exact PySem.W.get_value X J (Kw hg).1 (PySem.W.findObj_own hh ha rfl (by rw[hl,hv])) ML h
theorem Iu{pl:Sem Bool}{Q:Value×List Value->Shared->Prop}(X:K.In s.heap)(I:BC s.heap x dx C mA)(hg:PySem.W.plainGet K C name=true)
  (hf:PySem.W.findIn K (.ref C) name=some (some (.ref f)))(ht:PySem.W.isFn K (.ref f)=true)(hv:mA name=none)(h:Q (.ref f,[.ref x]) s) :
  wpAny (model prog w) A (getMethod (.ref x) name pl) Q E s:=by
 obtain⟨od,J,hl⟩:=I.look;exact PySem.W.method_fn X J (Kw hg).1 (Kw hg).2 hf (JB.mp ht) (by show(PySem.W.lookIn name od).map (·.isSome)=some false;rw[hl,hv];rfl) h
theorem OT{Q:Unit->Shared->Prop}(X:K.In s.heap)(I:BC s.heap x dx C mA)
  (hs:PySem.W.findIn K (.ref C) "__setattr__"=some (some (.builtin "object.__setattr__")))(hp:PySem.W.plainOver K C=true)(ht:PySem.W.takerIn K C name=some none)(hh:PySem.W.hasDictIn K C=true)
  (hw:PySem.Within mA ns)(hsz:ns.length<=sizeLine)
  (h:∀h',BC h' x dx C (λy=>if y=name then some v else mA y)->Heap.SameBut dx s.heap h'->Q () {s with heap:=h',toks:=s.toks+2}) :
  wpAny (model prog w) A (setAttr (.ref x) name v) Q E s:=by
 obtain⟨od,J,hl⟩:=I.look;refine PySem.W.set_plain X J hs (PySem.W.osa_open (s:={s with toks:=s.toks+1}) (r:=none) X J hp ht λb=>?_)
 obtain⟨cd,hc,VW⟩:=PySem.W.any_some hh;have hx:s.heap.get? x=some ⟨.ref C,some dx,.plain,#[]⟩:=I.obj;refine c5 (x4 (c5 (c5 (wpAny_loadPart hx (c5 (PySem.W.Looks.here (s:={s with toks:=s.toks+1}) (PySem.W.looks_clsIn X hc) ?_))))))
 rw[VW];refine x4 (a:=some dx) (c5 (x4 (c5 ?_)));refine wpAny_nsSet1 (s:={s with toks:=s.toks+1}) I.ns λh' XJ NV=>?_
 obtain⟨oD,esD,epD,hoD,hdD,hcD⟩:=XJ.count (PySem.Within.cons name v hw);refine c5 (wpAny_lookBehind hoD (by rw[hdD];exact pastItsLine_dict (l8 hcD (by rw[m6];omega))) ?_);exact x4 (h _ ⟨(NV.2 _ (Jp I.ne)).trans I.obj,XJ,I.ne⟩ NV)
theorem HX{R:Result->Shared->Prop}{vs:List Value}(X:K.In s.heap)(hm:PySem.W.makesIn K C=true)
  (hi:PySem.W.findIn K (.ref C) "__init__"=some (some (.ref f)))(hf:PySem.W.typeIn K (.ref f)=some (.type "function"))
  (h:codeAny (model prog w) (A.under (.builtin "type.__call__" ⟨.ref C::vs,kw⟩)) (.call (.ref f) ⟨.ref (s.heap.objs.size+1)::vs,kw⟩) (PySem.W.InitBack (s.heap.objs.size+1) R)
   {s with heap:=(s.heap.push PySem.W.emptyDict).push (PySem.W.instObj C s.heap.objs.size) }) :
  codeAny (model prog w) A (.call (.ref C) ⟨vs,kw⟩) R s:=by
 obtain⟨hh,g,d,t,os⟩:=s;exact PySem.W.make_core (Le X hm) (PySem.W.looks_findIn X hi) (λself=>PySem.W.bind_fn X self hf) (.inl rfl) h
theorem Ey{R:Result->Shared->Prop}(X:K.In s.heap)(hm:PySem.W.makesIn K C=true)
  (hi:PySem.W.findIn K (.ref C) "__init__"=some (some (.builtin "object.__init__")))
  (hb:∀self,PySem.W.Looks (model prog w) s.heap (bindSpecial (.builtin "object.__init__") self) (.builtin "object.__init__",[self]))
  (h:codeAny (model prog w) (A.under (.builtin "type.__call__" ⟨[.ref C],[]⟩)) (.call (.builtin "object.__init__") ⟨[.ref (s.heap.objs.size+1)],[]⟩) (PySem.W.InitBack (s.heap.objs.size+1) R)
   {s with heap:=(s.heap.push PySem.W.emptyDict).push (PySem.W.instObj C s.heap.objs.size) }) :
  codeAny (model prog w) A (.call (.ref C) ⟨[],[]⟩) R s:=by
 obtain⟨hh,g,d,t,os⟩:=s;exact PySem.W.make_core (Le X hm) (PySem.W.looks_findIn X hi) hb (.inr ⟨rfl,rfl⟩) h
end
noncomputable def jV(f:Str)(v:V):List (Str×V)->List (Str×V)
 | []=>[(f,v)]
 | (g,x)::r=>if g=f then(g,v)::r else(g,x)::jV f v r
theorem qk(f g:Str)(v:V):∀fs:List (Str×V),(jV f v fs).lookup g=if g=f then some v else fs.lookup g
 | []=>by
  show List.lookup g [(f,v)]=_
  by_cases h:g=f
  .have hb:(g==f)=true:=JB.mpr h;simp only[List.lookup,hb,d8 h]
  .have hb:(g==f)=false:=G6.mpr h;simp only[List.lookup,hb,i5 h]
 | (k,x)::r=>by
  have ih:=qk f g v r;rw[show jV f v ((k,x)::r)=(if k=f then(k,v)::r else(k,x)::jV f v r) from rfl]
  by_cases hk:k=f
  .rw[d8 hk]
   by_cases h:g=k
   .have hb:(g==k)=true:=JB.mpr h;simp only[List.lookup,hb,d8 (h.trans hk)]
   .have hb:(g==k)=false:=G6.mpr h;simp only[List.lookup,hb,i5 (λe:g=f=>h (e.trans hk.symm))]
  .rw[i5 hk]
   by_cases h:g=k
   .have hb:(g==k)=true:=JB.mpr h;simp only[List.lookup,hb,i5 (λe:g=f=>hk (h.symm.trans e))]
   .have hb:(g==k)=false:=G6.mpr h;simp only[List.lookup,hb];exact ih
theorem pK(f:Str)(v:V):∀fs:List (Str×V),f∈(jV f v fs).map (·.1)/\∀g,g∈fs.map (·.1)->g∈(jV f v fs).map (·.1)
 | []=>⟨by simp[jV],λg h=>by simp at h⟩
 | (k,x)::r=>by
  obtain⟨i1,i2⟩:=pK f v r;rw[show jV f v ((k,x)::r)=(if k=f then(k,v)::r else(k,x)::jV f v r) from rfl]
  by_cases hk:k=f
  .rw[d8 hk];subst hk;exact⟨by simp,λg h=>by simpa using h⟩
  .rw[i5 hk];refine⟨?_,λg h=>?_⟩
   .rw[A5];exact y8 _ i1
   .rw[A5]at h ⊢;rcases j6.mp h with e | e
    .exact j6.mpr (.inl e)
    .exact y8 _ (i2 g e)
theorem ql(f:Str)(v:V):∀fs:List (Str×V),(jV f v fs).length<=fs.length+1
 | []=>by simp[jV]
 | (k,x)::r=>by
  have ih:=ql f v r;rw[show jV f v ((k,x)::r)=(if k=f then(k,v)::r else(k,x)::jV f v r) from rfl]
  by_cases hk:k=f
  .rw[d8 hk,m6,m6];omega
  .rw[i5 hk,m6,m6];omega
theorem lY.some_of{v:V}{o:Option Value}(r:lY (some v) o):∃u,o=some u/\RelV v u:=by
 cases o with
 | none=>exact(show False from r).elim
 | some u=>exact⟨u,rfl,r⟩
theorem lY.none_of{o:Option Value}(r:lY none o):o=none:=by
 cases o with
 | none=>rfl
 | some u=>exact(show False from r).elim
theorem EI{v:V}(r:RelV v u):PySem.W.handedIn u=true:=by
 cases v with
 | non=>cases(show u=Value.none from r);rfl
 | bl b=>cases(show u=Value.bool b from r);rfl
 | int i=>obtain⟨t,e⟩:=(show ∃t,u=Value.int i t from r);cases e;rfl
 | str x=>obtain⟨t,e⟩:=(show ∃t,u=Value.str x t from r);cases e;rfl
 | byt b=>obtain⟨t,e⟩:=(show ∃t,u=Value.bytes b t from r);cases e;rfl
 | flt b=>obtain⟨t,e⟩:=(show ∃t,u=Value.float b t from r);cases e;rfl
 | ref a=>cases(show u=Value.ref a from r);rfl
 | ty n=>cases(show u=Value.type n from r);rfl
section
variable{P:Program}{w:World}{H H':Hp}{h h':Heap}{a C dx:Addr}{fs Z5:List (Str×V)}
theorem qT(hok:LS P w H h)(e:H a=some (.ins C dx fs)):∃mA,BC h a dx C mA/\(∀f,lY (fs.lookup f) (mA f))/\PySem.Within mA (fs.map (·.1))/\fs.length<=1000/\H dx=some (.own a):=by
 obtain⟨d,z,ne,ob,mA,n,r,q⟩:=(show cP P w H h a (.ins C dx fs) from hok a _ e);exact⟨mA,⟨ob,n,ne⟩,r,q,z,d⟩
end
structure Cls(K:W.Frag)(C:Addr):Prop where
 pg:PySem.W.plainGet K C Str.empty=true
 hd:PySem.W.hasDictIn K C=true
 po:PySem.W.plainOver K C=true
 sa:PySem.W.findIn K (.ref C) "__setattr__"=some (some (.builtin "object.__setattr__"))
theorem Cls.get{K:W.Frag}(c:Cls K C)(f:Str):PySem.W.plainGet K C f=true:=c.pg
def gu(K:W.Frag)(C:Addr)(f:Str):Prop:=PySem.W.findIn K (.ref C) f=some none
theorem gu.taker{K:W.Frag}{f:Str}(n:gu K C f):PySem.W.takerIn K C f=some none:=by
 unfold PySem.W.takerIn;rw[show PySem.W.findIn K (.ref C) f=some none from n];rfl
structure Meth(K:W.Frag)(C:Addr)(m:Str)(f:Addr):Prop where
 at_:PySem.W.findIn K (.ref C) m=some (some (.ref f))
 fn:PySem.W.isFn K (.ref f)=true
 kp:PySem.W.keepIn K (.ref f)=true
section
variable{X:Cx}{Ly:List (Addr×Obj)}{σ:St}{H:Hp}{s:Shared}{a C dx:Addr}{fs:List (Str×V)}{f:Str}{v:V}{A:Around}{E:Value->Shared->Prop}
theorem Bf{b:Bool}{Q:Value->Shared->Prop}(I:Inv X Ly σ H s)(e:H a=some (.ins C dx fs))(c:Cls X.K C)(n:gu X.K C f)(l:fs.lookup f=some v)
  (h:∀u s',Inv X Ly σ H s'->RelV v u->Q u s'):wpAny (model X.prog X.w) A (getAttr (.ref a) f b) Q E s:=by
 obtain⟨mA,O,r,_,_,_⟩:=qT I.hok e;obtain⟨u,hu,ru⟩:=lY.some_of (v:=v) (o:=mA f) (by rw[<- l];exact r f);exact get_map I.kIn O (c.get f) c.hd n hu (EI ru) (h u _ (I.tok _) ru)
theorem tD{m:Str}{g:Addr}{pl:Sem Bool}{Q:Value×List Value->Shared->Prop}(I:Inv X Ly σ H s)(e:H a=some (.ins C dx fs))(c:Cls X.K C)(k:Meth X.K C m g)(l:fs.lookup m=none)
  (h:Q (.ref g,[.ref a]) s):wpAny (model X.prog X.w) A (getMethod (.ref a) m pl) Q E s:=by
 obtain⟨mA,O,r,_,_,_⟩:=qT I.hok e;have hn:mA m=none:=lY.none_of (by rw[<- l];exact r m);exact Iu I.kIn O (c.get m) k.at_ k.fn hn h
theorem Ak{y:V}{Q:Unit->Shared->Prop}(I:Inv X Ly σ H s)(e:H a=some (.ins C dx fs))(c:Cls X.K C)(n:gu X.K C f)(hl:fs.length<1000)(ry:RelV y u)
  (h:∀s',Inv X Ly σ (upd H a (.ins C dx (jV f y fs))) s'->Q () s'):wpAny (model X.prog X.w) A (setAttr (.ref a) f u) Q E s:=by
 obtain⟨mA,O,r,wi,_,ho⟩:=qT I.hok e;have hz:(fs.map (·.1)).length<=sizeLine:=by rw[j4,K2];omega
 refine OT I.kIn O c.sa c.po n.taker c.hd wi hz λh' O' sb=>h _ ?_;have hd:∃o,h'.get? dx=some o:=let ⟨o,_,_,e',_⟩:=O'.ns;⟨o,e'⟩;refine I.write (x:=a) (e:=dx) (by rw[e];exact True.intro) (.inr ho) (λb q hb z=>(sb.2 b hb).trans z) hd ?_;refine⟨by rw[aA O.ne];exact ho,?_,O.ne,O'.obj,_,O'.ns,λg=>?_,λg hg=>?_⟩
 .have:=ql f y fs;omega
 .show lY ((jV f y fs).lookup g) (if g=f then some u else mA g);rw[qk]
  by_cases q:g=f
  .rw[d8 q,d8 q];exact ry
  .rw[i5 q,i5 q];exact r g
 .by_cases q:g=f
  .rw[q];exact(pK f y fs).1
  .refine(pK f y fs).2 g (wi g λz=>hg ?_);show(if g=f then some u else mA g)=none;rw[i5 q];exact z
theorem Inv.made(I:Inv X Ly σ H s):Inv X Ly σ (upd (upd H s.heap.objs.size (.own (s.heap.objs.size+1))) (s.heap.objs.size+1) (.ins C s.heap.objs.size []))
  {s with heap:=(s.heap.push PySem.W.emptyDict).push (PySem.W.instObj C s.heap.objs.size) }:=by
 have e1:(s.heap.push PySem.W.emptyDict).get? s.heap.objs.size=some PySem.W.emptyDict:=x5 s.heap rfl
 have e2:((s.heap.push PySem.W.emptyDict).push (PySem.W.instObj C s.heap.objs.size)).get? (s.heap.objs.size+1)=some (PySem.W.instObj C s.heap.objs.size):=by
  have:=x5 (s.heap.push PySem.W.emptyDict) (o:=PySem.W.instObj C s.heap.objs.size) rfl
  rwa [F4]at this
 have e3:(s.heap.push PySem.W.emptyDict).Ns s.heap.objs.size (λ_=>none):=⟨PySem.W.emptyDict,#[],_,e1,rfl,(λe he=>absurd he (by simp)),λ_=>rfl⟩;have I1:=I.laid (a:=s.heap.objs.size) (o:=.own (s.heap.objs.size+1)) (h':=s.heap.push PySem.W.emptyDict) (t':=s.toks) (λb u q=>i8 _ q) (c7 _) ⟨_,e1⟩;refine I1.laid (a:=s.heap.objs.size+1) (o:=.ins C s.heap.objs.size []) (t':=s.toks) (λb u q=>i8 _ q) (Nat.le_of_eq (F4 _ _)) ?_;have ne:s.heap.objs.size≠s.heap.objs.size+1:=A4 (Js _);refine⟨by rw[aA ne,ae],y7 _,ne,e2,λ_=>none,(Heap.Ns1.of_empty e3).at λo q=>i8 _ q,λ_=>True.intro,λy hy=>absurd rfl hy⟩
theorem P6{w:World}{Q:Value->Shared->Prop}(hb:attributeBase e f env (eval e env)=eval e env)
  (h:wpAny (model prog w) A (eval e env) (λo s₁=>wpAny (model prog w) A (getAttr o f true) Q E s₁) E s):wpAny (model prog w) A (eval (.Attribute e f pos) env) Q E s:=
 Attribute_any_ h (by rw[arm_eval_Attribute,hb])
end
def Yt(K:W.Frag)(ta:TE)(f:Str):TE:=λσ H Q=>ta σ H λx H1=>∃a C dx fs v,x=.ref a/\H1 a=some (.ins C dx fs)/\Cls K C/\gu K C f/\fs.lookup f=some v/\Q v H1
def YF(K:W.Frag)(ta tv:TE)(f:Str):TS:=λD σ H=>tv σ H λy H1=>ta σ H1 λx H2=>∃a C dx fs,x=.ref a/\H2 a=some (.ins C dx fs)/\Cls K C/\gu K C f/\fs.length<1000/\
 D.nx σ (upd H2 a (.ins C dx (jV f y fs)))
section
variable{X:Cx}{o e value:Expr}{f:Str}{pos pos' Mm:Pos}{ta tv:TE}
theorem mY(he:PE X e ta)(hb:attributeBase e f X.env (eval e X.env)=eval e X.env):PE X (.Attribute e f pos) (Yt X.K ta f):=by
 intro Ly s σ H Q I h;refine P6 hb (LF (he Ly s σ H _ I h) λu s1 zz=>?_);obtain⟨x,H1,I1,rx,a,C,dx,fs,v,ex,ea,c,n,l,q⟩:=zz;subst ex;obtain rfl:u=Value.ref a:=rx;exact Bf I1 ea c n l λu' s2 I2 ru=>⟨v,H1,I2,ru,q⟩
theorem wI(ha:PE X o ta)(hv:PE X value tv)(hs:swapsWith value (some (.Attribute o f pos')) pos.line X.env=pure false):PS X (.Assign [.Attribute o f pos'] value pos) (YF X.K ta tv f):=by
 intro Ly s σ H D I h;refine plainObj_wpAny_Assign_Attribute (LF (hv Ly s σ H _ I h) λu s1 zz=>?_) hs;obtain⟨y,H1,I1,ry,q⟩:=zz;refine LF (ha Ly s1 σ H1 _ I1 q) λov s2 zz=>?_;obtain⟨x,H2,I2,rx,a,C,dx,fs,ex,ea,c,n,l,q2⟩:=zz;subst ex;obtain rfl:ov=Value.ref a:=rx;exact Ak I2 ea c n l ry λs3 I3=>⟨σ,_,I3,q2⟩
end
section
variable{X:Cx}{Ly:List (Addr×Obj)}{σ:St}{H:Hp}{s:Shared}{A:Around}{E:Value->Shared->Prop}{Q:Value->Shared->Prop}{c:Value}{b:Bool}
inductive ko(K:W.Frag)(H:Hp):V->Value->Prop where
 | non:ko K H .non (.type "NoneType")
 | bl (x:Bool):ko K H (.bl x) (.type "bool")
 | int (i:Int):ko K H (.int i) (.type "int")
 | str (x:Str):ko K H (.str x) (.type "str")
 | flt (x:UInt64):ko K H (.flt x) (.type "float")
 | lst {a:Addr} {xs:List V} (e:H a=some (.lst xs)):ko K H (.ref a) (.type "list")
 | frz {a:Addr} {o:Obj} {xs:List V} (e:H a=some (.frz o (.lst xs))):ko K H (.ref a) (.type "list")
 | tup {a:Addr} {xs:List V} (e:H a=some (.tup xs)):ko K H (.ref a) (.type "tuple")
 | dK {a:Addr} {LB:List (Key×V)} (e:H a=some (.dK LB)):ko K H (.ref a) (.type "dict")
 | dT {a:Addr} {LB:List (List Key×V)} (e:H a=some (.dT LB)):ko K H (.ref a) (.type "dict")
 | ins {a C dx:Addr} {fs:List (Str×V)} (e:H a=some (.ins C dx fs)) (cl:Cls K C) (ha:PySem.W.findIn K (.ref C) "__class__"=some (some (.builtin "object.__class__")))
   (hn:PySem.W.specialIn K (.builtin "object.__class__") "__get__"=some (some (.builtin "getset_descriptor.__get__"))) (htk:PySem.W.takesIn K (.builtin "object.__class__")=some true)
   (hm:PySem.W.mroIn K C (.type "object")=some true):ko K H (.ref a) (.ref C)
theorem EE{x:V}{t:Value}(I:Inv X Ly σ H s)(rx:RelV x u)(ty:ko X.K H x t)(e:PySem.W.kitOne X.K t c=some b)(h:∀tk,Q (.bool b) {s with toks:=tk}) :
  wpAny (model X.prog X.w) A (call (.builtin "isinstance") [u,c]) Q E s:=by
 cases ty with
 | non=>cases(show u=Value.none from rx);exact D8 PySem.W.kitx_none I.kIn True.intro e (λz=>nomatch z) h
 | bl y=>cases(show u=Value.bool y from rx);exact D8 PySem.W.kitx_bool I.kIn True.intro e (λz=>nomatch z) h
 | int i=>obtain⟨t,q⟩:=(show ∃t,u=Value.int i t from rx);cases q;exact D8 PySem.W.kitx_int I.kIn True.intro e (λz=>nomatch z) h
 | str y=>obtain⟨t,q⟩:=(show ∃t,u=Value.str y t from rx);cases q;exact D8 PySem.W.kitx_str I.kIn True.intro e (λz=>nomatch z) h
 | flt y=>obtain⟨t,q⟩:=(show ∃t,u=Value.float y t from rx);cases q;exact D8 PySem.W.kitx_float I.kIn True.intro e (λz=>nomatch z) h
 | @lst a xs ea =>
  cases(show u=Value.ref a from rx)
  obtain⟨_,_,n,_,h1⟩:=(show cP X.prog X.w H s.heap a (.lst xs) from I.hok a _ ea);exact D8 PySem.W.kitx_list I.kIn ⟨_,h1,rfl⟩ e (λz=>nomatch z) h
 | @frz a ob xs ea =>
  cases(show u=Value.ref a from rx)
  obtain⟨_,_,_,n,_,h1⟩:=(show cP X.prog X.w H s.heap a (.frz ob (.lst xs)) from I.hok a _ ea);exact D8 PySem.W.kitx_list I.kIn ⟨_,h1,rfl⟩ e (λz=>nomatch z) h
 | @tup a xs ea =>
  cases(show u=Value.ref a from rx)
  obtain⟨_,_,_,p⟩:=(show cP X.prog X.w H s.heap a (.tup xs) from I.hok a _ ea);obtain⟨o,h1,h2,_⟩:=p;exact D8 PySem.W.kitx_tuple I.kIn ⟨o,h1,h2⟩ e (λz=>nomatch z) h
 | @dK a LB ea =>
  cases(show u=Value.ref a from rx)
  obtain⟨_,_,vs,_,p⟩:=(show cP X.prog X.w H s.heap a (.dK LB) from I.hok a _ ea);obtain⟨o,es,ep,h1,h2,_⟩:=p;exact D8 PySem.W.kitx_dict I.kIn ⟨o,h1,h2.1⟩ e (λz=>nomatch z) h
 | @dT a LB ea =>
  cases(show u=Value.ref a from rx)
  obtain⟨_,_,xs,_,o,es,ep,h1,h2,_⟩:=(show cP X.prog X.w H s.heap a (.dT LB) from I.hok a _ ea);exact D8 PySem.W.kitx_dict I.kIn ⟨o,h1,h2.1⟩ e (λz=>nomatch z) h
 | @ins a C dx fs ea cl ha hn htk hm =>
  cases(show u=Value.ref a from rx)
  obtain⟨mA,O,_⟩:=qT I.hok ea;obtain⟨od,J,_⟩:=O.look;exact D8 (PySem.W.kitx_own (cl.get _) cl.hd ha hn htk hm) I.kIn J e (λz=>nomatch z) h
end
structure dY(k:Nat)(A:Around):Prop where
 hd:A.handled=none
 dp:A.depth+3*k+5<recursionLimit
 un:A.units+16*k+200<cLine
theorem dY.mono{j k:Nat}(r:dY k A)(h:j<=k):dY j A:=⟨r.hd,by have:=r.dp;omega,by have:=r.un;omega⟩
theorem dY.deeper{k:Nat}(r:dY (k+1) A)(env:Env):dY k (A.deeper env):=
 ⟨r.hd,by have:=r.dp;show A.depth+1+3*k+5<_;omega,by have:=r.un;show A.units+3+16*k+200<_;omega⟩
theorem AW:(A.under (.builtin "type.__call__" ⟨.ref C::us,kw⟩)).depth=A.depth+1:=by
 first | rfl | simp[Around.under,Code.weight,Code.isCreation,Code.isGuard,Code.isCaller,Code.frames,Code.isFrame,guardIds]
theorem AV:(A.under (.builtin "type.__call__" ⟨.ref C::us,kw⟩)).units=A.units+1:=by
 first | rfl | simp[Around.under,Code.cUnits,Code.frames,Code.isFrame]
theorem dY.make{k:Nat}(r:dY (k+1) A)(C:Addr)(us:List Value)(kw:List (Str×Value)):dY k (A.under (.builtin "type.__call__" ⟨.ref C::us,kw⟩)):=
 ⟨r.hd,by have:=r.dp;rw[AW];omega,by have:=r.un;rw[AV];omega⟩
theorem dY.depth{k:Nat}(r:dY k A):A.depth<recursionLimit:=by have:=r.dp;omega
theorem dY.units{k:Nat}(r:dY k A):A.units+64<cLine:=by have:=r.un;omega
def kE:TA:=λ_ H Q=>Q [] H
def eZ(ta:TE)(tr:TA):TA:=λσ H Q=>ta σ H λx H1=>tr σ H1 λxs H2=>Q (x::xs) H2
section
variable{X:Cx}{e:Expr}{es:List Expr}{te:TE}{t:TA}{pos:Pos}
theorem af:PA X [] kE:=λ_ _ _ _ H Q I h=>J9 ⟨[],H,I,.nil,h⟩
theorem aa(ha:PE X e te)(hr:PA X es t)(hs:starEach (e::es) X.env=(false,eval e X.env)::starEach es X.env:=by rfl):PA X (e::es) (eZ te t):=by
 intro pos Ly s σ H Q I h;rw[hs];show wpAny _ _ (spliced ((false,eval e X.env)::backTo pos (starEach es X.env))) _ _ s;refine Ju (LF (ha Ly s σ H _ I h) λu s1 zz=>?_);obtain⟨x,H1,I1,r1,q1⟩:=zz;refine LF (hr pos Ly s1 σ H1 _ I1 q1) λus s2 zz=>?_;obtain⟨xs,H2,I2,r2,q2⟩:=zz;exact⟨x::xs,H2,I2,.cons r1 r2,q2⟩
def OL(t:TA):TE:=λσ H Q=>t σ H λxs H1=>xs.length<=sizeLine/\∀p,H1 p=none->Q (.ref p) (upd H1 p (.tup xs))
def OM(t:TA):TE:=λσ H Q=>t σ H λxs H1=>xs.length<=sizeLine/\∀p,H1 p=none->Q (.ref p) (upd H1 p (.lst xs))
theorem bc{x1}(h:PA X es t):PE X (.Tuple es x1 pos) (OL t):=by
 intro Ly s σ H Q I hq;refine wpAny_Tuple_spliced (LF (h pos Ly s σ H _ I hq) λus s1 zz=>?_);obtain⟨xs,H1,I1,r,z,q⟩:=zz;refine⟨by rw[<- r.length];exact z,?_⟩;have hf:H1 s1.heap.objs.size=none:=I1.hok.fresh (c7 _);refine⟨.ref s1.heap.objs.size,upd H1 s1.heap.objs.size (.tup xs),I1.laid (t':=s1.toks) (λb u e=>i8 _ e) (c7 _) ?_,rfl,q _ hf⟩;exact⟨z,us,r,⟨_,x5 _ rfl,rfl,_,rfl⟩⟩
theorem bW(h:PA X es t):PE X (.List es pos) (OM t):=by
 intro Ly s σ H Q I hq;refine wpAny_List_spliced (LF (h pos Ly s σ H _ I hq) λus s1 zz=>?_);obtain⟨xs,H1,I1,r,z,q⟩:=zz;refine⟨by rw[<- r.length];exact z,?_⟩;have hf:H1 s1.heap.objs.size=none:=I1.hok.fresh (c7 _);refine⟨.ref s1.heap.objs.size,upd H1 s1.heap.objs.size (.lst xs),I1.laid (t':=s1.toks) (λb u e=>i8 _ e) (c7 _) ?_,rfl,q _ hf⟩;exact⟨z,us,0,r,x5 _ rfl⟩
end
noncomputable abbrev Sp:=List V->Hp->VK->XK->Prop
noncomputable abbrev NL:=List Env->Hp->Shared->XK->Value->Shared->Prop
structure BF(P:Program)(w:World)(K:W.Frag)(mg:Str->Option Value)(base:Heap)(A:Around)(outer:List Env)(s:Shared)(H:Hp):Prop where
 frames:A.frames=some outer
 mod:Mod K mg base
 bs:∀b o,base.get? b=some o->s.heap.get? b=some o/\H b=none
 bsz:base.objs.size<=s.heap.objs.size
 funs:s.heap.FunFrames base outer
 frf:∀b∈L9 outer,H b=none
 hok:LS P w H s.heap
 bare:AllBare s.gens
def CE(outer:List Env)(P:Program)(w:World)(H:Hp)(s:Shared)(Q:VK)(u:Value)(s':Shared):Prop:=
 ∃v H',s'.os=s.os/\AllBare s'.gens/\Un (L9 outer) [] H H' s.heap s'.heap/\LS P w H' s'.heap/\RelV v u/\Q v H'
def CR(CX:NL)(outer:List Env)(P:Program)(w:World)(H:Hp)(s:Shared)(Q:VK)(E:XK)(r:Result)(s':Shared):Prop:=
 match r with
 | .ok (.ret u)=>CE outer P w H s Q u s'
 | .ok _=>False
 | .error e=>CX outer H s E e s'
structure oM(P:Program)(w:World)(K:W.Frag)(mg:Str->Option Value)(base:Heap)(CX:NL)(k:Nat)(f:Addr)(fd:FuncData)(ps:List Str)(sp:Sp):Prop where
 len:∀vs H Q E,sp vs H Q E->vs.length=ps.length
 run:∀(A:Around)(outer:List Env)(s:Shared)(H:Hp)(args:Args)(us:List Value)(vs:List V)(Q:VK)(E:XK),dY k A->BF P w K mg base A outer s H->BindsTo s fd args (ps.zip us)->Vals vs us->sp vs H Q E->
  codeAny (model P w) A (.call (.ref f) args) (CR CX outer P w H s Q E) s
theorem BF.make{P:Program}{w:World}{K:W.Frag}{outer:List Env}{s:Shared}{H:Hp}(e:BF P w K mg base A outer s H)(C:Addr)(us:List Value)(kw:List (Str×Value)) :
  BF P w K mg base (A.under (.builtin "type.__call__" ⟨.ref C::us,kw⟩)) outer s H:=⟨by first | exact e.frames | (simpa [Around.under,Code.envs,Code.isFrame,pushEnvs] using e.frames),e.mod,e.bs,e.bsz,e.funs,e.frf,e.hok,e.bare⟩
section
variable{X:Cx}{Ly:List (Addr×Obj)}{σ:St}{H:Hp}{s s':Shared}
theorem Inv.env0(I:Inv X Ly σ H s):BF X.prog X.w X.K X.mg X.base X.A X.stack s H:=
 ⟨I.ok.frames,I.ok.mod,I.bs,l8 I.ok.bsz I.sz,I.stack,I.stkFree,I.hok,I.bare⟩
theorem Inv.after{Q:VK}(I:Inv X Ly σ H s)(h:CE X.stack X.prog X.w H s Q u s'):EP X Ly σ Q u s':=by
 obtain⟨v,H',os,bare,un,hok,r,q⟩:=h;obtain⟨hh,g,d,t,os'⟩:=s';obtain rfl:os'=s.os:=os;exact⟨v,H',I.call (h':=hh) (g':=g) (d':=d) (t':=t) (ch:=[]) un hok bare (λb z=>absurd z (by simp)),r,q⟩
end
def rn(sp:Sp)(dvs:List V)(E:XK)(t:TA):TE:=λσ H Q=>t σ H λvs H1=>sp (vs++dvs) H1 Q E
def Qn(C:Addr)(sp:Sp)(dvs:List V)(E:XK)(t:TA):TE:=λσ H Q=>t σ H λvs H1=>∀x dx,H1 x=none->H1 dx=none->dx≠x->
 sp (.ref x::(vs++dvs)) (upd (upd H1 dx (.own x)) x (.ins C dx [])) (λv H2=>v=.non/\Q (.ref x) H2) E
def Binds(K:W.Frag)(fd:FuncData)(ps:List Str)(ds:List Value):Prop:=
 ∀(s:Shared)(us:List Value),K.In s.heap->(us++ds).length=ps.length->BindsTo s fd ⟨us,[]⟩ (ps.zip (us++ds))
theorem Binds.all{K:W.Frag}{fd:FuncData}(h:∀us:List Value,us.length=ps.length->bindArgs fd ⟨us,[]⟩=pure (ps.zip us)):Binds K fd ps []:=λs us _ hl=>by
 rw[B0]at hl ⊢;exact .of_eq (h us hl)
def Passes(CX:NL)(X:Cx)(E:XK):Prop:=∀(Ly:List (Addr×Obj))(σ:St)(H:Hp)(s:Shared)(e:Value)(s':Shared),Inv X Ly σ H s->CX X.stack H s E e s'->X.xe e s'
section
variable{X:Cx}{CX:NL}{k:Nat}{f C:Addr}{fd:FuncData}{ps:List Str}{sp:Sp}{dvs:List V}{ds:List Value}{E:XK}{x m:Str}{p pos apos:Pos}{e o:Expr}{es:List Expr}{ta:TE}{t:TA}
theorem wz{H:Hp}{s:Shared}{Q:VK}{vs:List V}(F:oM X.prog X.w X.K X.mg X.base CX k f fd ps sp)(hr:dY k X.A)(hb:Binds X.K fd ps ds)(hd:Vals dvs ds)(hx:Passes CX X E)
  (I:Inv X Ly σ H s)(r:Vals vs us)(h:sp (vs++dvs) H Q E):wpAny (model X.prog X.w) X.A (call (.ref f) us) (EP X Ly σ Q) X.xe s:=by
 have r2:Vals (vs++dvs) (us++ds):=r.append hd;have hl:(us++ds).length=ps.length:=by rw[<- r2.length];exact F.len _ _ _ _ h
 refine wpAny_call (Li (F.run X.A X.stack s H ⟨us,[]⟩ (us++ds) (vs++dvs) Q E hr I.env0 (hb s us I.kIn hl) r2 h) λr s' hq=>?_);cases r with
 | error e=>exact hx Ly σ H s e s' I hq
 | ok fl =>
  cases fl with
  | ret u=>exact I.after hq
  | next=>exact False.elim hq
  | brk=>exact False.elim hq
  | cont=>exact False.elim hq
theorem wN(F:oM X.prog X.w X.K X.mg X.base CX k f fd ps sp)(hr:dY k X.A)(hg:Gl X x)(hm:X.mg x=some (.ref f))(hk:PySem.W.keepIn X.K (.ref f)=true)(hb:Binds X.K fd ps ds)(hd:Vals dvs ds)(hx:Passes CX X E)
  (ha:PA X (e::es) t)(hdb:(x==("__debug__":Str))=false:=by decide)(he:starEach (e::es) X.env=(false,eval e X.env)::starEach es X.env:=by rfl)(hpl:(backTo pos (starEach es X.env)).any (·.1)=false:=by rfl) :
  PE X (.Call (.Name x p) (e::es) [] pos) (rn sp dvs E t):=by
 intro Ly s σ H Q I h;refine E8 (lS I hg hm ?_ hdb);refine KG (h₀:=X.base) I.ok.mod.kin hk (LF (ha pos Ly s σ H _ I h) λus s1 zz=>?_) he hpl;obtain⟨vs,H1,I1,r,q⟩:=zz;refine⟨I1.kIn,?_⟩;exact wz F hr hb hd hx I1 r q
theorem Hb(F:oM X.prog X.w X.K X.mg X.base CX k f fd ps sp)(hr:dY k X.A)(hg:Gl X x)(hm:X.mg x=some (.ref f))(hk:PySem.W.keepIn X.K (.ref f)=true)(hb:Binds X.K fd ps ds)(hd:Vals dvs ds)(hx:Passes CX X E)
  (hdb:(x==("__debug__":Str))=false:=by decide):PE X (.Call (.Name x p) [] [] pos) (rn sp dvs E kE):=by
 intro Ly s σ H Q I h;refine E8 (lS I hg hm ?_ hdb);exact Kx I.kIn hk (wz (us:=[]) F hr hb hd hx I .nil h)
structure Mk(K:W.Frag)(C f:Addr):Prop where
 makes:PySem.W.makesIn K C=true
 init:PySem.W.findIn K (.ref C) "__init__"=some (some (.ref f))
 fn:PySem.W.isFn K (.ref f)=true
 kp:PySem.W.keepIn K (.ref C)=true
theorem Gp{H:Hp}{s:Shared}{Q:VK}{vs:List V}(M:Mk X.K C f)(F:oM X.prog X.w X.K X.mg X.base CX k f fd ps sp)(hr:dY (k+1) X.A)(hb:Binds X.K fd ps ds)(hd:Vals dvs ds)
  (hx:Passes CX X E)(I:Inv X Ly σ H s)(r:Vals vs us)
  (h:∀x dx,H x=none->H dx=none->dx≠x->sp (.ref x::(vs++dvs)) (upd (upd H dx (.own x)) x (.ins C dx [])) (λv H2=>v=.non/\Q (.ref x) H2) E) :
  wpAny (model X.prog X.w) X.A (call (.ref C) us) (EP X Ly σ Q) X.xe s:=by
 have hq:=h (s.heap.objs.size+1) s.heap.objs.size (I.hok.fresh (Lu _)) (I.hok.fresh (c7 _)) (A4 (Js _));have I2:=Inv.made (C:=C) I;have r2:Vals (V.ref (s.heap.objs.size+1)::(vs++dvs)) (Value.ref (s.heap.objs.size+1)::(us++ds)):=.cons rfl (r.append hd)
 have hl:(Value.ref (s.heap.objs.size+1)::us++ds).length=ps.length:=by
  have e:=r2.length;rw[F.len _ _ _ _ hq]at e;exact e.symm
 refine wpAny_call (HX (f:=f) I.kIn M.makes M.init (JB.mp M.fn) (Li (F.run _ X.stack _ _ ⟨Value.ref (s.heap.objs.size+1)::us,[]⟩ (Value.ref (s.heap.objs.size+1)::(us++ds)) _ _ E (hr.make C us [])
  (I2.env0.make C us []) (hb _ (Value.ref (s.heap.objs.size+1)::us) I2.kIn hl) r2 hq) λr s' VP=>?_))
 cases r with
 | error e=>exact hx Ly σ _ _ e s' I2 VP
 | ok fl =>
  cases fl with
  | ret u =>
   obtain⟨v,H',I3,rv,ev,q3⟩:=I2.after VP;subst ev;exact⟨rv,⟨V.ref (s.heap.objs.size+1),H',I3,rfl,q3⟩⟩
  | next=>exact False.elim VP
  | brk=>exact False.elim VP
  | cont=>exact False.elim VP
theorem O6(M:Mk X.K C f)(F:oM X.prog X.w X.K X.mg X.base CX k f fd ps sp)(hr:dY (k+1) X.A)(hg:Gl X x)(hm:X.mg x=some (.ref C))(hb:Binds X.K fd ps ds)(hd:Vals dvs ds)(hx:Passes CX X E)
  (ha:PA X (e::es) t)(hdb:(x==("__debug__":Str))=false:=by decide)(he:starEach (e::es) X.env=(false,eval e X.env)::starEach es X.env:=by rfl)(hpl:(backTo pos (starEach es X.env)).any (·.1)=false:=by rfl) :
  PE X (.Call (.Name x p) (e::es) [] pos) (Qn C sp dvs E t):=by
 intro Ly s σ H Q I h;refine E8 (lS I hg hm ?_ hdb);refine KG (h₀:=X.base) I.ok.mod.kin M.kp (LF (ha pos Ly s σ H _ I h) λus s1 zz=>?_) he hpl;obtain⟨vs,H1,I1,r,q⟩:=zz;refine⟨I1.kIn,?_⟩;exact Gp M F hr hb hd hx I1 r q
end
section
variable{X:Cx}{CX:NL}{k:Nat}{f C:Addr}{fd:FuncData}{ps ks:List Str}{sp:Sp}{E:XK}{x m:Str}{p pos apos kpos:Pos}{e o:Expr}{es:List Expr}{kws:List Keyword}{te ta:TE}{t tk:TA}{nm:Option Str}
variable{g:List Value->List Value->List Value}{gV:List V->List V->List V}
end
structure aD(N P:List Str)(sc:Scope):Prop where
 kind:sc.kind=.function
 co:sc.isCoroutine=false
 gen:sc.isGenerator=false
 nd:N.Nodup
 pre:N.take P.length=P
 par:∀x∈P,sc.names.lookup x=some .local\/sc.names.lookup x=some .cell
 nofree:∀y∈sc.names,y.2≠.free
theorem ar0(h:p [])(us:List Value)(e:us.length=0):p us:=by
 rw[F1 e];exact h
theorem WQ(h:∀a us,us.length=n->p (a::us))(us:List Value)(e:us.length=n+1):p us:=by
 cases us with
 | nil=>exact absurd e.symm (Nat.succ_ne_zero n)
 | cons a t=>exact h a t (Nat.succ.inj e)
theorem ar1(h:∀a,p [a]):∀us:List Value,us.length=1->p us:=WQ λa=>ar0 (h a)
theorem ar2(h:∀a b,p [a,b]):∀us:List Value,us.length=2->p us:=WQ λa=>ar1 (h a)
theorem ar3(h:∀a b c,p [a,b,c]):∀us:List Value,us.length=3->p us:=WQ λa=>ar2 (h a)
theorem ar4(h:∀a b c d,p [a,b,c,d]):∀us:List Value,us.length=4->p us:=WQ λa=>ar3 (h a)
theorem ar5(h:∀a b c d e,p [a,b,c,d,e]):∀us:List Value,us.length=5->p us:=WQ λa=>ar4 (h a)
theorem fsc{P:List Str}(k:sc.kind=.function)(h:(sc.isCoroutine=false)/\(sc.isGenerator=false)/\(N.Nodup)/\(N.take P.length=P)/\(∀x∈P,sc.names.lookup x=some .local\/sc.names.lookup x=some .cell)/\(∀y∈sc.names,y.2≠.free)):aD N P sc:=⟨k,h.1,h.2.1,h.2.2.1,h.2.2.2.1,h.2.2.2.2.1,h.2.2.2.2.2⟩
theorem vI:∀{binds:List (Str×Value)}{m:Str->Option Value},(∀v,(x,v) ∉ binds)->bindL kindOf binds m x=m x
 | [],_,_=>rfl
 | (n,v)::r,m,h=>by
  unfold bindL;rw[vI λw hw=>h w (y8 _ hw)];split
  .have:x≠n:=by rintro rfl;exact h v x8
   simp[this]
  .rfl
theorem vK:∀{binds:List (Str×Value)}{m:Str->Option Value},(∀v,(x,v) ∉ binds)->bindC kindOf binds m x=m x
 | [],_,_=>rfl
 | (n,v)::r,m,h=>by
  unfold bindC;rw[vK λw hw=>h w (y8 _ hw)];split
  .rfl
  .have:x≠n:=by rintro rfl;exact h v x8
   simp[this]
theorem vJ{v:Value}:∀{P:List Str}{vs:List Value}{i:Nat}{m:Str->Option Value},P.Nodup->P[i]?=some x->vs[i]?=some v->kindOf x=some .local->
  bindL kindOf (P.zip vs) m x=some v
 | [],_,_,_,_,h,_,_=>by simp at h
 | _::_,[],_,_,_,_,h,_=>by simp at h
 | p::P,w::vs,0,m,nd,h1,h2,hk=>by
  simp at h1 h2;subst h1;subst h2;show bindL kindOf ((p,w)::P.zip vs) m p=_;unfold bindL;rw[vI λv hv=>(Kq.mp nd).1 (Lp hv).1,d8 hk];simp
 | p::P,w::vs,i+1,m,nd,h1,h2,hk=>by
  show bindL kindOf ((p,w)::P.zip vs) m x=_;unfold bindL;exact vJ (i:=i) (Kq.mp nd).2 (by simpa using h1) (by simpa using h2) hk
theorem vL{v:Value}:∀{P:List Str}{vs:List Value}{i:Nat}{m:Str->Option Value},P.Nodup->P[i]?=some x->vs[i]?=some v->kindOf x≠some .local->
  bindC kindOf (P.zip vs) m x=some v
 | [],_,_,_,_,h,_,_=>by simp at h
 | _::_,[],_,_,_,_,h,_=>by simp at h
 | p::P,w::vs,0,m,nd,h1,h2,hk=>by
  simp at h1 h2;subst h1;subst h2;show bindC kindOf ((p,w)::P.zip vs) m p=_;unfold bindC;rw[vK λv hv=>(Kq.mp nd).1 (Lp hv).1,i5 hk];simp
 | p::P,w::vs,i+1,m,nd,h1,h2,hk=>by
  show bindC kindOf ((p,w)::P.zip vs) m x=_;unfold bindC;exact vL (i:=i) (Kq.mp nd).2 (by simpa using h1) (by simpa using h2) hk
noncomputable def start(N:List Str)(vs:List V):St:=vs.map some++List.replicate (N.length-vs.length) none
noncomputable def cN(CX:NL)(P:Program)(w:World)(K:W.Frag)(mg:Str->Option Value)(base:Heap)(N:List Str)(qual:Str)(scope:Scope)(f:Addr)(cd:Value)(A:Around)(outer:List Env)(s:Shared)(H:Hp)(E:XK):Cx where
 prog:=P
 w:=w
 K:=K
 mg:=mg
 base:=base
 A:=A.deeper (envOfC qual scope s.heap.objs.size f cd)
 N:=N
 s₀:=s
 H₀:=H
 env:=envOfC qual scope s.heap.objs.size f cd
 outer:=outer
 stack:=envOfC qual scope s.heap.objs.size f cd::outer
 ex:=[]
 calm:=true
 fn:=λ_=>true
 pn:=[]
 xe:=λe s'=>wpAny (model P w) (A.deeper (envOfC qual scope s.heap.objs.size f cd)) (leaving (envOfC qual scope s.heap.objs.size f cd) e) (λ_ NP=>CX outer H s E e NP) (λe' NP=>CX outer H s E e' NP) s'
theorem zt(h:sc.names.lookup x=some .cell):∃c,(cellsFrom n sc.names []).lookup x=some c:=by
 have q:=PySem.W.cellsFrom_some sc.names n [] (.inl h);exact K9.mp q
theorem EF{CX:NL}{P:Program}{w:World}{K:W.Frag}{f:Addr}{outer:List Env}{s s1:Shared}{H:Hp}{E:XK}{vs:List V}
  (S:aD N ps scope)(hd:A.handled=none)(e0:BF P w K mg base A outer s H)(hl:vs.length=ps.length)(r:Vals vs us)
  (x:InCallC s s.heap.objs.size (bindL (envOfC qual scope s.heap.objs.size f cd).kindOf (ps.zip us) λ_=>none) (cellsFrom (s.heap.objs.size+1) scope.names []) (bindC (envOfC qual scope s.heap.objs.size f cd).kindOf (ps.zip us) λ_=>none) s1) :
  Inv (cN CX P w K mg base N qual scope f cd A outer s H E) [] (start N vs) H s1:=by
 have hpl:ps.length<=N.length:=by have:=z6 List.length S.pre;rw[I0]at this;omega
 obtain⟨h1,tk,rfl,hk⟩:=x.done;have Vt:∀b:Addr,b ∉ (cN CX P w K mg base N qual scope f cd A outer s H E).ex:=λb z=>absurd (show b∈([]:List Addr) from z) (by simp)
 refine⟨⟨e0.mod,S.kind,rfl,rfl,c7 _,λy z c h1 h2=>?_,λy hy=>?_,λy c _ h=>?_,λ_=>hd,Around.frames_deeper e0.frames,.inr ⟨rfl,rfl⟩,λb z=>absurd z (Vt b),e0.bs,e0.bsz,λb _ _=>Vt b,λb z=>absurd z (Vt b),e0.funs,e0.frf⟩,
  rfl,e0.bare,Un.kept hk,⟨_,x.toInCall.ns,λi y v h1 h2 h3=>?_⟩,λy c h=>⟨_,x.cell y c h⟩,e0.hok.fresh (c7 _),λy c h=>?_,λp hp=>absurd (show p∈([]:List (Addr×Obj)) from hp) (by simp),e0.hok.kept hk,?_⟩
 .exact name_of_addr x.apart (JD h1) (JD h2)
 .have hy:scope.names.lookup y=some .cell\/scope.names.lookup y=some .free:=hy;rcases hy with hy | hy
  .exact zt hy
  .exact absurd rfl (S.nofree _ (JD hy))
 .exact JX (x.above y c (JD h))
 .have hi:i<vs.length:=by
   unfold start at h2
   by_cases hi:i<vs.length
   .exact hi
   .rw[G3 (by simpa using hi)]at h2;rw[List.getElem?_replicate]at h2;split at h2<;>cases h2
  have ha:vs[i]?=some v:=by
   unfold start at h2;rw[B8 (by simpa using hi),x6]at h2;cases e:vs[i]? with
   | none=>rw[e]at h2;cases h2
   | some a=>rw[e]at h2;cases h2;rfl
  obtain⟨u,hu,rv⟩:=r.get ha
  have hp:ps[i]?=some y:=by
   rw[<- S.pre,List.getElem?_take_of_lt (by omega)];exact h1
  have ndP:ps.Nodup:=by rw[<- S.pre];exact S.nd.sublist (List.take_sublist _ _)
  refine⟨u,rv,?_⟩;rcases S.par y (w8 hp) with k | k
  .exact .inl ⟨k,vJ ndP hp hu k⟩
  .obtain⟨c,e⟩:=zt (n:=s.heap.objs.size+1) k;refine .inr ⟨.inl k,c,e,?_⟩;have q:=x.cell y c e;rw[vL ndP hp hu (by show scope.names.lookup y≠_;rw[k];decide)]at q;exact q
 .exact e0.hok.fresh (JX (x.above y c (JD h)))
 .unfold start;show _=N.length;rw[c8,j4,Kg];omega
theorem QU{CX:NL}{P:Program}{w:World}{K:W.Frag}{k:Nat}{f:Addr}{name:Str}{dV kV doc pm cdv ct oc:Value}(lk:K.lookup f=some ⟨oc,od,.func (PySem.W.fnOf name qual params body scope dV kV doc pm an cdv ct),osl⟩)(hcd:PySem.W.codeIn K cdv qual=true)(S:aD N ps scope)
  (len:∀vs H Q E,sp vs H Q E->vs.length=ps.length)
  (N0:∀(A:Around)(outer:List Env)(s:Shared)(H:Hp)(vs:List V)(Q:VK)(E:XK),dY k (A.deeper (envOfC qual scope s.heap.objs.size f cdv))->sp vs H Q E->
   ∃t,LV (cN CX P w K mg base N qual scope f cdv A outer s H E) body t/\t {nx:=λ_ H'=>Q .non H',rt:=Q} (start N vs) H) :
  oM P w K mg base CX (k+1) f (PySem.W.fnOf name qual params body scope dV kV doc pm an cdv ct) ps sp:=by
 refine⟨len,λA outer s H args us vs Q E hr e0 hb r QM=>?_⟩;have hl:=len _ _ _ _ QM;have KX:K.In s.heap:=e0.mod.kin.keeps λb o e=>(e0.bs b o e).1;have lim:s.heap.NoLimit:=e0.mod.nolimit.keeps λb o e=>(e0.bs b o e).1
 have VS:∀y∈ps.zip us,scope.names.lookup y.1=some .local\/(scope.names.lookup y.1=some .cell/\((cellsFrom (s.heap.objs.size+1) scope.names []).lookup y.1).isSome=true):=λ⟨n,v⟩ hy=>by
  rcases S.par n (Lp hy).1 with q | q
  .exact .inl q
  .exact .inr ⟨q,PySem.W.cellsFrom_some _ _ _ (.inl q)⟩
 refine codeAny_call_function hr.depth (KX _ _ lk) rfl S.co S.gen rfl (PySem.W.codeRec_of KX hcd) (hb _ _ _ _ ?_);refine wpAny_newFunctionEnv_cells S.kind VS λenv he s1 x=>?_;subst he;refine⟨lim.keeps x.toInCall.keep,codeAny_func ?_⟩;obtain⟨t,ht,hq⟩:=N0 A outer s H vs Q E (hr.deeper _) QM;have I:Inv (cN CX P w K mg base N qual scope f cdv A outer s H E) [] (start N vs) H s1:=EF S hr.hd e0 hl r x;refine F5 (ht [] s1 (start N vs) H _ I hq) (λfl s' hs=>?_) λe s' hs=>hs
 have fin:∀{σ':St}{H':Hp}{v:V}{u:Value},Inv (cN CX P w K mg base N qual scope f cdv A outer s H E) [] σ' H' s'->RelV v u->Q v H'->CE outer P w H s Q u s':=
  λ{σ' H' v u} J rv q=>⟨v,H',J.os,J.bare,J.base,J.hok,rv,q⟩
 cases fl with
 | ret u =>
  obtain⟨v,σ',H',J,rv,q⟩:=hs;exact fin J rv q
 | next =>
  obtain⟨σ',H',J,q⟩:=hs;exact fin (v:=V.non) (u:=Value.none) J rfl q
 | brk =>
  obtain⟨_,_,_,q⟩:=hs;exact False.elim q
 | cont =>
  obtain⟨_,_,_,q⟩:=hs;exact False.elim q
section
variable{X:Cx}{x:Str}{p pos:Pos}{e:Expr}{es:List Expr}{t:TA}{id T:String}{r:List V->Hp->VK->Prop}
def Oj(r:List V->Hp->VK->Prop)(t:TA):TE:=λσ H Q=>t σ H λvs H1=>r vs H1 Q
theorem aG(hc:gy X (.builtin id) r)(hm:X.mg x=none)(ha:PA X (e::es) t)(hg:Gl X x:=by rfl)(hv:bootBuiltins x=some (.builtin id):=by decide+kernel)(hn:x≠"__name__":=by decide)(hdb:(x==("__debug__":Str))=false:=by decide)(he:starEach (e::es) X.env=(false,eval e X.env)::starEach es X.env:=by rfl)(hpl:(backTo pos (starEach es X.env)).any (·.1)=false:=by rfl):PE X (.Call (.Name x p) (e::es) [] pos) (Oj r t):=by
 intro Ly s σ H Q I h;refine E8 (lx I hg hm hv ?_ hn hdb);refine PyProof.Rows.callWith_builtin1 (LF (ha pos Ly s σ H _ I h) λus s1 zz=>?_) he hpl;obtain⟨vs,H1,I1,r1,q1⟩:=zz;exact hc Ly s1 σ H1 vs us Q I1 r1 q1
theorem cJ(hc:gy X (.type T) r)(hm:X.mg x=none)(ha:PA X (e::es) t)(hg:Gl X x:=by rfl)(hv:bootBuiltins x=some (.type T):=by decide+kernel)(hn:x≠"__name__":=by decide)(hdb:(x==("__debug__":Str))=false:=by decide)(he:starEach (e::es) X.env=(false,eval e X.env)::starEach es X.env:=by rfl)(hpl:(backTo pos (starEach es X.env)).any (·.1)=false:=by rfl):PE X (.Call (.Name x p) (e::es) [] pos) (Oj r t):=by
 intro Ly s σ H Q I h;refine E8 (lx I hg hm hv ?_ hn hdb);refine E6 (LF (ha pos Ly s σ H _ I h) λus s1 zz=>?_) he hpl;obtain⟨vs,H1,I1,r1,q1⟩:=zz;exact hc Ly s1 σ H1 vs us Q I1 r1 q1
end
end L2
namespace HT
open PySem PyProof.Rows
variable{vs ws:List Value}{Q:Value->Shared->Prop}{v vl vu:Value}{o lo hi:Option Int}{sl:Addr}{n:Nat}{items:Array Value}
section
open PySem.SeqAt
open PySem.AutoSeq1 (wpAny_loadPart')
open PySem.MeetsSeq PySem.MeetsSeq2 PySem.MeetsSeq3
end
section
variable{prog:Program}{w:World}{A:Around}{E:Value->Shared->Prop}{s:Shared}
theorem cat_tup{t b:Addr}(ht:IsTup s.heap t vs.toArray)(hb:IsTup s.heap b ws.toArray)(hv:vs≠[])
  (h1:ws=[]->Q (.ref t) s)(h2:ws≠[]->Q (.ref s.heap.objs.size) {s with heap:=s.heap.push {cls:=.type "tuple",data:=.seq (vs++ws).toArray} })
  (hsz:vs.length+ws.length<=sizeLine):wpAny (model prog w) A (binaryOp .Add (.ref t) (.ref b)) Q E s:=by
 obtain⟨⟨cls,dd,data,sl⟩,ho,hc,n,hd⟩:=id ht;obtain⟨⟨cls2,dd2,data2,sl2⟩,XI,QR,n2,hd2⟩:=id hb;simp only at hc hd QR hd2;subst hc hd QR hd2;have e:vs.toArray++ws.toArray=(vs++ws).toArray:=by simp
 by_cases hw:ws=[]
 .exact concat_meets ⟨_,ho,rfl⟩ ⟨_,XI,rfl⟩ noFill_tuple_add seq_tuple_add PySem.F.slot_tuple_add PySem.F.entry_tuple_add (La _ _)
   (tuple_addW1 t b vs.toArray ws.toArray n n2 dd dd2 sl sl2 (by simpa using hv) (by simp[hw])) ⟨ho,XI,h1 hw⟩
 .refine concat_meets ⟨_,ho,rfl⟩ ⟨_,XI,rfl⟩ noFill_tuple_add seq_tuple_add PySem.F.slot_tuple_add PySem.F.entry_tuple_add (La _ _)
   (tuple_addW2 t b vs.toArray ws.toArray n n2 dd dd2 sl sl2 (by simpa using hv) (by simpa using hw) (by rw[l6,l6];exact hsz)) ⟨ho,XI,?_⟩
  rw[e];exact h2 hw
noncomputable def sIx(n d:Nat):Option Int->Nat
 | none=>d
 | some v=>if v<0 then(v+(n:Int)).toNat else min v.toNat n
theorem sI(n d:Nat):sIx n d none=d:=rfl
theorem oi(n d k:Nat):sIx n d (some (k:Int))=min k n:=by
 show(if(k:Int)<0 then((k:Int)+(n:Int)).toNat else min (k:Int).toNat n)=min k n;rw[i5 (by omega),K3]
theorem RR(n d:Nat)(hd:d<=n)(o:Option Int):sIx n d o<=n:=by
 cases o with
 | none=>exact hd
 | some v =>
  show(if v<0 then(v+(n:Int)).toNat else min v.toNat n)<=n
  by_cases hv:v<0
  .rw[d8 hv];omega
  .rw[i5 hv];exact Nat.min_le_right _ _
theorem Dn(v:Int)(n d:Nat):(if v<0 then max (v+(n:Int)) 0 else min v (n:Int))=((sIx n d (some v):Nat):Int):=by
 show(if v<0 then max (v+(n:Int)) 0 else min v (n:Int))=(((if v<0 then(v+(n:Int)).toNat else min v.toNat n):Nat):Int)
 by_cases hv:v<0
 .simp only[d8 hv];omega
 .simp only[i5 hv];omega
theorem Bq(lo hi:Option Int)(n:Nat):Builtin.Slice.sliceAdjust lo hi 1 (n:Int)=(((sIx n 0 lo:Nat):Int),((sIx n n hi:Nat):Int)):=by
 have h1:¬((1:Int)<0):=by omega
 unfold Builtin.Slice.sliceAdjust;simp only[h1,if_false];refine Prod.ext ?_ ?_
 .cases lo with
  | none=>rfl
  | some v=>exact Dn v n 0
 .cases hi with
  | none=>rfl
  | some v=>exact Dn v n n
theorem Au(i j:Nat):Builtin.Slice.slicePlaces (i:Int) (j:Int) 1=j-i:=by
 unfold Builtin.Slice.slicePlaces;have h1:(1:Int)>0:=by omega
 simp only[h1,Lj,Int.ediv_one];split<;>omega
theorem rN{Q:Option Int->Shared->Prop}(p:IsPart v o)(h:Q o s):wpAny (model prog w) A (Builtin.Slice.slicePartIndex v) Q E s:=by
 cases p with
 | none=>exact slicePart_none h
 | int i t=>exact slicePart_int h
theorem jw{Q:Int×Int×Nat->Shared->Prop}(hs:s.heap.IsSliceOf sl vl vu .none)(pl:IsPart vl lo)(pu:IsPart vu hi)
  (h:Q (((sIx n 0 lo:Nat):Int),1,sIx n n hi-sIx n 0 lo) s):wpAny (model prog w) A (Builtin.Slice.sliceApplied (.ref sl) (pure (n:Int))) Q E s:=by
 obtain⟨os,SN,XQ,SR⟩:=id hs;unfold Builtin.Slice.sliceApplied Builtin.Slice.sliceFields;refine c5 (c5 (F2 SN SR (x:=vl) rfl (c5 (F2 SN SR (x:=vu) rfl (c5 (F2 SN SR (x:=.none) rfl (x4 ?_)))))));refine c5 (slicePart_none ?_);show wpAny _ _ (if((1:Int)==0)=true then _ else _) _ _ s;rw[i5 (by decide)];refine c5 (rN pl (c5 (rN pu (c5 (x4 ?_)))));show wpAny _ _ (match Builtin.Slice.sliceAdjust lo hi 1 (n:Int) with | (lo,hi)=>pure (lo,(1:Int),Builtin.Slice.slicePlaces lo hi 1)) _ _ s
 rw[Bq lo hi n];show wpAny _ _ (pure (((sIx n 0 lo:Nat):Int),(1:Int),Builtin.Slice.slicePlaces ((sIx n 0 lo:Nat):Int) ((sIx n n hi:Nat):Int) 1)) _ _ s;rw[Au];exact x4 h
theorem GW(xs:Array Value)(i k:Nat):((List.range k).filterMap λ(m:Nat)=>xs[((i:Int)+(m:Int)*1).toNat]?).toArray=((xs.toList.drop i).take k).toArray:=by
 have e:(λ(m:Nat)=>xs[((i:Int)+(m:Int)*1).toNat]?)=λm=>xs[i+m]?:=by
  funext m;have:((i:Int)+(m:Int)*1).toNat=i+m:=by omega
  rw[this]
 rw[e];have:=pick_run xs i k;rw[List.filterMap_map]at this;have e2:((λx=>xs[x]?) ∘ λx=>i+x)=λm=>xs[i+m]?:=rfl;rw[e2]at this;rw[this]
theorem oB{t:Addr}(ht:IsTup s.heap t items)(hs:s.heap.IsSliceOf sl vl vu .none)(pl:IsPart vl lo)(pu:IsPart vu hi)
  (hw:¬(sIx items.size 0 lo=0/\sIx items.size items.size hi=items.size))
  (h:Q (.ref s.heap.objs.size) {s with heap:=s.heap.push {cls:=.type "tuple",data:=.seq ((items.toList.drop (sIx items.size 0 lo)).take (sIx items.size items.size hi-sIx items.size 0 lo)).toArray} })
  (hsz:items.size<=sizeLine):wpAny (model prog w) A (getItem (.ref t) (.ref sl)) Q E s:=by
 have Nk:sizeOk (.seq ((items.toList.drop (sIx items.size 0 lo)).take (sIx items.size items.size hi-sIx items.size 0 lo)).toArray):=by
  show((items.toList.drop (sIx items.size 0 lo)).take (sIx items.size items.size hi-sIx items.size 0 lo)).toArray.size<=sizeLine;rw[l6,I0,JE,B7];omega
 have hj:sIx items.size items.size hi<=items.size:=RR _ _ (c7 _) hi;obtain⟨os,SN,XQ,SR⟩:=id hs;have ZV:s.TypeIs (.ref sl) "slice":=⟨os,SN,XQ⟩;unfold getItem
 try with_reducible refine wpAny_holding ?_
 first | refine c5 (x4 ?_) | skip
 refine c5 (wpAny_sequenceKey ht.typeIs (by decide) ?_)
 refine c5 (E7 (name:=Str.ofString "__getitem__") ht.typeIs C2
  (Jt C2 ht.typeIs entry_tuple_getitem ?_ (args_tuple_getitem _ _)))
 show wpAny _ _ (Builtin.Tuple.tupleItemsOf (.ref t) >>= _) _ _ s;refine c5 (tupleItemsOf_ ht ?_);refine c5 (wpAny_typeOf ZV ?_);rw[d8 (by decide)];refine c5 (jw hs pl pu ?_)
 have ZI:¬((((sIx items.size 0 lo:Nat):Int)==0 && (1:Int)==1 && (sIx items.size items.size hi-sIx items.size 0 lo)==items.size)=true):=by
  intro q;rw[B6,B6]at q;have q1:((sIx items.size 0 lo:Nat):Int)=0:=eq_of_beq q.1.1;have q2:sIx items.size items.size hi-sIx items.size 0 lo=items.size:=eq_of_beq q.2;exact hw ⟨by omega,by omega⟩
 show wpAny _ _ (if(((sIx items.size 0 lo:Nat):Int)==0 && (1:Int)==1 && (sIx items.size items.size hi-sIx items.size 0 lo)==items.size)=true then _ else _) _ _ s;rw[i5 ZI,GW]
 first
  | exact c5 (m:=Builtin.Tuple.tupleExact _) (G4 (x4 ⟨_,rfl,x4 h⟩) Nk)
  | exact c5 (m:=Builtin.Tuple.tupleExact _) (G4 (c5 (x4 (x4 ⟨_,rfl,x4 h⟩))) Nk)
  | exact c5 (c5 (m:=Builtin.Tuple.tupleExact _) (G4 (x4 (x4 ⟨_,rfl,x4 h⟩)) Nk))
  | exact c5 (c5 (m:=Builtin.Tuple.tupleExact _) (G4 (x4 ⟨_,rfl,x4 h⟩) Nk))
end
end HT
namespace L2
open PySem PySem.Spec PyProof.Rows
variable{ns:List Int}{us its its':List Value}{n j t':Nat}{i:Int}{A:Around}{s:Shared}{u v:Value}{Ly:List (Addr×Obj)}{σ:St}{H:Hp}{T:String}{f:Array Value->Array Value}
noncomputable abbrev TO:=St->Hp->(Option Int->Hp->Prop)->Prop
def PO(X:Cx)(e:Option Expr)(t:TO):Prop:=
 ∀(
  Ly:List (Addr×Obj)) (s:Shared) (σ:St) (H:Hp) (Q:Option Int->Hp->Prop),Inv X Ly σ H s->t σ H Q->
  wpAny (model X.prog X.w) X.A (evalPart e X.env) (λu s'=>∃o H',Inv X Ly σ H' s'/\IsPart u o/\Q o H') X.xe s
noncomputable def nM:TO:=λ_ H Q=>Q none H
noncomputable def UO(t:TE):TO:=λσ H Q=>t σ H λx H1=>∃i,x=.int i/\Q (some i) H1
theorem intsAre_of:∀{us:List Value},Vals (ns.map V.int) us->IntsAre us ns:=by
 induction ns with
 | nil=>intro us r;rw[Kz]at r;cases r;exact .nil
 | cons n ns ih =>
  intro us r;rw[A5]at r;cases r with
  | cons r1 r2 =>
   obtain⟨t,e⟩:=r1;subst e;exact .cons n t (ih r2)
section
variable{X:Cx}{e:Expr}{te:TE}{lo hi:Option Expr}{tl th:TO}{pos p2:Pos}
theorem jZ:PO X none nM:=by
 intro Ly s σ H Q I h;rw[evalPart_none];exact x4 ⟨none,H,I,.none,h⟩
theorem jY(h:PE X e te):PO X (some e) (UO te):=by
 intro Ly s σ H Q I hw;rw[evalPart_some];refine LF (h Ly s σ H _ I hw) λu s1 zz=>?_;obtain⟨x,H1,I1,r1,q1⟩:=zz;obtain⟨i,rfl,q⟩:=q1;obtain⟨t,rfl⟩:=r1;exact⟨some i,H1,I1,.int i t,q⟩
def Yd(X:Cx)(r:V->Option Int->Option Int->Hp->VK->Prop):Prop:=
 ∀(
  Ly:List (Addr×Obj)) (s:Shared) (σ:St) (H:Hp) (x:V) (v vl vu:Value) (lo hi:Option Int) (sl:Addr) (Q:VK),Inv X Ly σ H s->RelV x v->s.heap.IsSliceOf sl vl vu .none->IsPart vl lo->IsPart vu hi->r x lo hi H Q->
  ∃T id,typeLookup (.type T) "__getitem__"=pure (some (.builtin id))/\s.TypeIs v T/\wpAny (model X.prog X.w) X.A (getItem v (.ref sl)) (EP X Ly σ Q) X.xe s
def tSl(r:V->Option Int->Option Int->Hp->VK->Prop)(te:TE)(tl th:TO):TE:=λσ H Q=>te σ H λx H1=>tl σ H1 λl H2=>th σ H2 λu H3=>r x l u H3 Q
theorem iS{r:V->Option Int->Option Int->Hp->VK->Prop}(hr:Yd X r)(he:PE X e te)(hl:PO X lo tl)(hu:PO X hi th):PE X (.Subscript e (.Slice lo hi none p2) pos) (tSl r te tl th):=by
 intro Ly s σ H Q I h;refine Subscript_ (LF (he Ly s σ H _ I h) λv s1 zz=>?_);obtain⟨x,H1,I1,r1,q1⟩:=zz;refine wpAny_Slice (LF (hl Ly s1 σ H1 _ I1 q1) λvl s2 zz=>?_);obtain⟨l,H2,I2,pl,q2⟩:=zz;refine LF (hu Ly s2 σ H2 _ I2 q2) λvu s3 zz=>?_;obtain⟨u,H3,I3,pu,q3⟩:=zz;rw[evalPart_none];refine x4 ?_;have I4:Inv X Ly σ H3 {s3 with heap:=s3.heap.push {cls:=.type "slice",data:=.fields #[vl,vu,.none] } }:=I3.kept (t':=s3.toks) λb ob q=>i8 _ q
 obtain⟨T,id,hT,ht,hg⟩:=hr Ly {s3 with heap:=s3.heap.push {cls:=.type "slice",data:=.fields #[vl,vu,.none] } } σ H3 x v vl vu l u s3.heap.objs.size Q I4 r1 (Heap.IsSliceOf.new ..) pl pu q3
 show wpAny (model X.prog X.w) X.A (subscriptTail e (.Slice lo hi none p2) v (.ref s3.heap.objs.size)) (EP X Ly σ Q) X.xe {s3 with heap:=s3.heap.push {cls:=.type "slice",data:=.fields #[vl,vu,.none] } }
 exact tail_any (ops:=[.ref s3.heap.objs.size,v]) ht hT hg (by with_unfolding_all rfl)
noncomputable def ki(xs:List V)(lo hi:Option Int):List V:=(xs.drop (HT.sIx xs.length 0 lo)).take (HT.sIx xs.length xs.length hi-HT.sIx xs.length 0 lo)
theorem qp(xs:List V)(lo hi:Option Int):(ki xs lo hi).length<=xs.length:=by
 unfold ki;rw[I0,JE];omega
def YN(K:W.Frag):V->Option Int->Option Int->Hp->VK->Prop:=λx lo hi H Q=>∃a xs,x=.ref a/\Lz K H a xs/\
 ¬(HT.sIx xs.length 0 lo=0/\HT.sIx xs.length xs.length hi=xs.length)/\∀p,H p=none->Q (.ref p) (upd H p (.tup (ki xs lo hi)))
theorem RO:Yd X (YN X.K):=by
 intro Ly s σ H x v vl vu lo hi sl Q I rx hs pl pu h;obtain⟨a,xs,rfl,hx,hw,q⟩:=h;cases rx
 obtain⟨its,r,ht,hz⟩:=I.tuple hx;have hlen:its.toArray.size=xs.length:=by rw[l6];exact r.length.symm
 refine⟨"tuple",_,C2.lookup,ht.typeIs,?_⟩;refine HT.oB ht hs pl pu (by rw[hlen];exact hw) ?_ (by rw[hlen];exact hz);rw[hlen];refine⟨.ref s.heap.objs.size,_,I.laid (t':=s.toks) (o:=.tup (ki xs lo hi)) (λb ob q=>i8 _ q) (c7 _) ?_,rfl,q _ (I.hok.fresh (c7 _))⟩;exact⟨l8 (qp xs lo hi) hz,_,(r.drop (HT.sIx xs.length 0 lo)).take (HT.sIx xs.length xs.length hi-HT.sIx xs.length 0 lo),IsTup.new _ _⟩
def QE(K:W.Frag):R2:=λx y H Q=>∃a b xs ys,x=.ref a/\y=.ref b/\Lz K H a xs/\Lz K H b ys/\xs≠[]/\xs.length+ys.length<=sizeLine/\
 (ys=[]->Q (.ref a) H)/\(ys≠[]->∀p,H p=none->Q (.ref p) (upd H p (.tup (xs++ys))))
theorem Vals.nil_iff{xs:List V}(r:Vals xs us):us=[]↔xs=[]:=by
 cases r with
 | nil=>simp
 | cons _ _=>simp
theorem CG:LQ X (binaryOp .Add) (QE X.K):=by
 intro Ly s σ H x y v u Q I rx ry h;obtain⟨a,b,xs,ys,rfl,rfl,ha,hb,hx,hz,q1,q2⟩:=h;cases rx
 cases ry
 obtain⟨its,r1,p1,_⟩:=I.tuple ha;obtain⟨LN,r2,p2,_⟩:=I.tuple hb;refine HT.cat_tup p1 p2 (λz=>hx (r1.nil_iff.mp z)) (λz=>⟨.ref a,H,I,rfl,q1 (r2.nil_iff.mp z)⟩) (λz=>?_) (by rw[<- r1.length,<- r2.length];exact hz);refine⟨.ref s.heap.objs.size,_,I.laid (t':=s.toks) (o:=.tup (xs++ys)) (λb ob q=>i8 _ q) (c7 _) ?_,rfl,q2 (λw=>z (r2.nil_iff.mpr w)) _ (I.hok.fresh (c7 _))⟩;exact⟨by rw[c8];exact hz,_,r1.append r2,IsTup.new _ _⟩
end
noncomputable def QK(n:Nat)(i:Int):Option Nat:=if 0<=i then(if i<n then some i.toNat else none) else if -(n:Int)<=i then some (i+n).toNat else none
noncomputable def MW{α:Type}(xs:List α)(i:Int):Option α:=(QK xs.length i).bind λj=>xs[j]?
theorem Pw(h:QK n i=some j):seqIndex? i n=some j/\j<n/\-(n:Int)<=i/\i<n:=by
 unfold QK at h
 by_cases h0:0<=i
 .rw[d8 h0]at h
  by_cases h1:i<n
  .rw[d8 h1]at h;have e:i.toNat=j:=l7 h;exact⟨by rw[seqIndex_of h0 h1,e],by omega,by omega,h1⟩
  .rw[i5 h1]at h;cases h
 .rw[i5 h0]at h
  by_cases h1:-(n:Int)<=i
  .rw[d8 h1]at h;have e:(i+n).toNat=j:=l7 h;exact⟨by rw[seqIndex_neg (by omega) h1,e],by omega,h1,by omega⟩
  .rw[i5 h1]at h;cases h
theorem Dq{α:Type}{xs:List α}{v:α}(h:MW xs i=some v):∃j,seqIndex? i xs.length=some j/\xs[j]?=some v/\j<xs.length/\-(xs.length:Int)<=i/\i<xs.length:=by
 unfold MW at h;cases e:QK xs.length i with
 | none=>rw[e]at h;cases h
 | some j =>
  rw[e]at h;obtain⟨h1,h2,h3,h4⟩:=Pw e;exact⟨j,h1,h,h2,h3,h4⟩
theorem cF{α:Type}{xs:List α}{v:α}(h:xs[j]?=some v):MW xs (j:Int)=some v:=by
 have hj:j<xs.length:=(d6.mp h).1
 have e:QK xs.length (j:Int)=some j:=by
  unfold QK;rw[d8 (by omega),d8 (by omega)];simp
 unfold MW;rw[e];exact h
def Ds(b:Expr):Prop:=∀o i,subscripted b false o i=operate [o,i] (getItem o i)
def UC(X:Cx)(r:R2):Prop:=
 ∀(
  value slice:Expr) (Ly:List (Addr×Obj)) (s:Shared) (σ:St) (H:Hp) (x y:V) (v u:Value) (Q:VK),Inv X Ly σ H s->RelV x v->RelV y u->r x y H Q->
  subscripted slice false v u=operate [v,u] (getItem v u)->wpAny (model X.prog X.w) X.A (subscriptTail value slice v u) (EP X Ly σ Q) X.xe s
def MtR(X:Cx)(id:String)(r:V->List V->Hp->VK->Prop):Prop:=
 ∀(
  Ly:List (Addr×Obj)) (s:Shared) (σ:St) (H:Hp) (x:V) (xs:List V) (v:Value) (us:List Value) (Q:VK),Inv X Ly σ H s->RelV x v->Vals xs us->r x xs H Q->
  wpAny (model X.prog X.w) X.A (call (.builtin id) (v::us)) (EP X Ly σ Q) X.xe s
section
variable{X:Cx}{a b:Expr}{ta tb:TE}{pos:Pos}
theorem aB{r:R2}(hr:UC X r)(ha:PE X a ta)(hb:PE X b tb)(hs:Ds b:=by intro _ _;rfl):PE X (.Subscript a b pos) (Oi r ta tb):=by
 intro Ly s σ H Q I h;exact Subscript_ (TH ha hb I h λv u s2 x y H2 I2 rx ry q=>hr a b Ly s2 σ H2 x y v u Q I2 rx ry q (hs _ _))
inductive Rc(K:W.Frag)(x:V)(y:V)(H:Hp)(Q:VK):Prop where
 | mk (p:Addr) (xs:List V) (i:Int) (v:V) (UH:x=.ref p) (UG:y=.int i) (Xc:LA K H p xs) (Yh:MW xs i=some v) (z_4:Q v H):Rc K x y H Q
def Vd(K:W.Frag):R2:=λx y H Q=>Rc K x y H Q
inductive Ra(K:W.Frag)(x:V)(y:V)(H:Hp)(Q:VK):Prop where
 | mk (p:Addr) (xs:List V) (i:Int) (v:V) (UH:x=.ref p) (UG:y=.int i) (Xc:Lz K H p xs) (Yh:MW xs i=some v) (z_4:Q v H):Ra K x y H Q
def Vc(K:W.Frag):R2:=λx y H Q=>Ra K x y H Q
theorem bC:UC X (Vd X.K):=by
 intro value slice Ly s σ H x y v u Q I rx ry h hs;obtain⟨p,xs,i,z,rfl,rfl,hq,he,q⟩:=h;cases rx
 obtain⟨t,rfl⟩:=ry;obtain⟨its,r,pl,hz⟩:=I.list hq;obtain⟨j,h1,h2,h3,h4,h5⟩:=Dq he;obtain⟨w,ew,Mb⟩:=r.get h2;have hl:=r.length;have hn:=xb;have fin:EP X Ly σ Q w s:=⟨z,H,I,Mb,q⟩
 by_cases h0:0<=i
 .have hj:i.toNat=j:=by
   rw[seqIndex_of h0 h5]at h1;exact l7 h1
  exact item_listR pl.isList h0 (by omega) (by rw[hj];simpa using ew) fin hs
 .have hj:(i+(its.toArray.size:Int)).toNat=j:=by
   rw[seqIndex_neg (by omega) h4]at h1;rw[l6,<- hl];exact l7 h1
  exact subscriptTail_builtinR (x:=w) pl.isList.typeIs slot_list_getitem.lookup
   (wpAny_getItem_list_neg (Q:=λr s'=>r=w/\EP X Ly σ Q r s') pl.isList (by omega) (by rw[l6]<;>omega) (by omega) (by rw[hj];simpa using ew) ⟨rfl,fin⟩) hs
theorem az:UC X (Vc X.K):=by
 intro value slice Ly s σ H x y v u Q I rx ry h hs;obtain⟨p,xs,i,z,rfl,rfl,hq,he,q⟩:=h;cases rx
 obtain⟨t,rfl⟩:=ry;obtain⟨its,r,pl,hz⟩:=I.tuple hq;obtain⟨j,h1,h2,h3,h4,h5⟩:=Dq he;obtain⟨w,ew,Mb⟩:=r.get h2;have hl:=r.length;have hn:=xb;have fin:EP X Ly σ Q w s:=⟨z,H,I,Mb,q⟩
 exact subscriptTail_builtinR (x:=w) pl.typeIs slot_tuple_getitem.lookup
  (getItem_tuple (j:=j) (Q:=λr s'=>r=w/\EP X Ly σ Q r s') pl (by omega) (by omega) (by rw[l6,<- hl];exact h1) (by simpa using ew) ⟨rfl,fin⟩) hs
theorem wg(lo hi:Option Int)(n:Nat):(sliceBounds lo hi none n).1=((HT.sIx n 0 lo:Nat):Int)/\(sliceBounds lo hi none n).2.1=((HT.sIx n n hi:Nat):Int)/\(sliceBounds lo hi none n).2.2=1:=by
 refine⟨?_,?_,rfl⟩
 .cases lo with
  | none=>simp[sliceBounds,HT.sIx]
  | some i =>
   simp only[sliceBounds,HT.sIx,Option.getD_none,show(1:Int)>0 by decide,Lj]
   by_cases h:i<0
   .simp only[h,Lj]<;>omega
   .simp only[h,if_false]<;>omega
 .cases hi with
  | none=>simp[sliceBounds,HT.sIx]
  | some i =>
   simp only[sliceBounds,HT.sIx,Option.getD_none,show(1:Int)>0 by decide,Lj]
   by_cases h:i<0
   .simp only[h,Lj]<;>omega
   .simp only[h,if_false]<;>omega
theorem ug(its:List Value)(lo hi:Option Int):slicePick its.toArray lo hi none=((its.drop (HT.sIx its.length 0 lo)).take (HT.sIx its.length its.length hi-HT.sIx its.length 0 lo)).toArray:=by
 obtain⟨h1,h2,h3⟩:=wg lo hi its.toArray.size;unfold slicePick;rw[h1,h2,h3];simp only[sliceRange_one,pick_run,l6]<;>rfl
def YO(K:W.Frag):V->Option Int->Option Int->Hp->VK->Prop:=λx lo hi H Q=>∃a xs,x=.ref a/\LA K H a xs/\∀p,H p=none->Q (.ref p) (upd H p (.lst (ki xs lo hi)))
theorem wj:Yd X (YO X.K):=by
 intro Ly s σ H x v vl vu lo hi sl Q I rx hs pl pu h;obtain⟨a,xs,rfl,hx,q⟩:=h;cases rx
 obtain⟨its,r,ht,hz⟩:=I.list hx;have hlen:=r.length;refine⟨"list",_,slot_list_getitem.lookup,ht.isList.typeIs,?_⟩;refine wpAny_getItem_list_slice ht.isList hs pl pu .none (by simp) ?_ (by rw[l6]<;>omega);rw[ug,<- hlen];refine⟨.ref s.heap.objs.size,_,I.laid (t':=s.toks) (o:=.lst (ki xs lo hi)) (λb ob q=>i8 _ q) (c7 _) ?_,rfl,q _ (I.hok.fresh (c7 _))⟩;exact⟨l8 (qp xs lo hi) hz,_,0,(r.drop (HT.sIx xs.length 0 lo)).take (HT.sIx xs.length xs.length hi-HT.sIx xs.length 0 lo),x5 _ rfl⟩
noncomputable def qo:V->Bool
 | .non=>true
 | .bl _=>true
 | .int _=>true
 | .str _=>true
 | _=>false
noncomputable def QV:V->V->Bool
 | .non,.non=>true
 | .bl a,.bl b=>a==b
 | .bl a,.int b=>(if a then 1 else 0)==b
 | .int a,.bl b=>a==(if b then 1 else 0)
 | .int a,.int b=>a==b
 | .str a,.str b=>a==b
 | _,_=>false
theorem Th{y x:V}(ry:RelV y u)(rx:RelV x v)(fy:qo y=true)(fx:qo x=true):SeqAt.EqAt A s u v (QV y x):=by
 cases y with
 | non =>
  cases ry
  cases x with
  | non=>cases rx;exact SeqAt.EqAt.same _
  | bl b=>cases rx;exact SeqAt.EqAt.none_bool b
  | int b=>obtain⟨t,rfl⟩:=rx;exact SeqAt.EqAt.none_int b t
  | str b=>obtain⟨t,rfl⟩:=rx;exact SeqAt.EqAt.none_str b t
  | _=>exact absurd (show false=true from fx) l9
 | bl a =>
  cases ry
  cases x with
  | non=>cases rx;exact SeqAt.EqAt.bool_none a
  | bl b=>cases rx;exact SeqAt.EqAt.bool_bool a b
  | int b=>obtain⟨t,rfl⟩:=rx;exact SeqAt.EqAt.bool_int a b t
  | str b=>obtain⟨t,rfl⟩:=rx;exact SeqAt.EqAt.bool_str a b t
  | _=>exact absurd (show false=true from fx) l9
 | int a =>
  obtain⟨t',rfl⟩:=ry;cases x with
  | non=>cases rx;exact SeqAt.EqAt.int_none a t'
  | bl b=>cases rx;exact SeqAt.EqAt.int_bool a t' b
  | int b=>obtain⟨t,rfl⟩:=rx;exact SeqAt.EqAt.int_int a t' b t
  | str b=>obtain⟨t,rfl⟩:=rx;exact SeqAt.EqAt.int_str a t' b t
  | _=>exact absurd (show false=true from fx) l9
 | str a =>
  obtain⟨t',rfl⟩:=ry;cases x with
  | non=>cases rx;exact SeqAt.EqAt.str_none a t'
  | bl b=>cases rx;exact SeqAt.EqAt.str_bool a t' b
  | int b=>obtain⟨t,rfl⟩:=rx;exact SeqAt.EqAt.str_int a t' b t
  | str b=>obtain⟨t,rfl⟩:=rx;exact SeqAt.EqAt.str_str a t' b t
  | _=>exact absurd (show false=true from fx) l9
 | _=>exact absurd (show false=true from fy) l9
noncomputable def PN(x:V)(u:Value):Bool:=match u with
 | .none=>QV .non x
 | .bool b=>QV (.bl b) x
 | .int i _=>QV (.int i) x
 | .str z _=>QV (.str z) x
 | _=>false
theorem IE{x y:V}(r:RelV y u)(f:qo y=true):PN x u=QV y x:=by
 cases y with
 | non=>cases r;rfl
 | bl b=>cases r;rfl
 | int i=>obtain⟨t,rfl⟩:=r;rfl
 | str z=>obtain⟨t,rfl⟩:=r;rfl
 | _=>exact absurd (show false=true from f) l9
theorem xw{x:V}:∀{xs:List V}{us:List Value},Vals xs us->xs.all qo=true->us.any (PN x)=xs.any λy=>QV y x
 | _,_,.nil,_=>rfl
 | y::xs,u::us,.cons r t,f=>by
  rw[List.all_cons,B6]at f;rw[J1,J1,IE r f.1,xw t f.2]
theorem sY{x:V}(rx:RelV x v)(fx:qo x=true):∀{xs:List V}{us:List Value},Vals xs us->xs.all qo=true->∀u∈us,SeqAt.EqAt A s u v (PN x u)
 | _,_,.nil,_=>λu hu=>by cases hu
 | y::xs,u::us,.cons r t,f=>λu' hu=>by
  rw[List.all_cons,B6]at f;rcases j6.mp hu with rfl | hu
  .rw[IE r f.1];exact Th r rx f.1 fx
  .exact sY rx fx t f.2 u' hu
noncomputable def MK(x:V)(xs:List V):Bool:=xs.any λy=>QV y x
def rIn(K:W.Frag)(neg:Bool):R2:=λx y H Q=>∃p xs,y=.ref p/\(LA K H p xs\/Lz K H p xs)/\qo x=true/\xs.all qo=true/\Q (.bl (if neg then !MK x xs else MK x xs)) H
theorem lQ:LQ X (compareOp .In) (rIn X.K false):=by
 intro Ly s σ H x y v u Q I rx ry h;obtain⟨p,xs,rfl,hq,fx,fs,q⟩:=h;cases ry
 rcases hq with hq | hq
 .obtain⟨its,r,pl,hz⟩:=I.list hq;refine SeqAt.in_listAt (PN x) pl.isList (λw hw=>sY rx fx r fs w (by simpa using hw)) ⟨.bl _,H,I,rfl,?_⟩;rw[show its.toArray.any (PN x)=its.any (PN x) by simp,xw r fs];exact q
 .obtain⟨its,r,pl,hz⟩:=I.tuple hq;refine SeqAt.in_tupleAt (PN x) pl (λw hw=>sY rx fx r fs w (by simpa using hw)) ⟨.bl _,H,I,rfl,?_⟩;rw[show its.toArray.any (PN x)=its.any (PN x) by simp,xw r fs];exact q
theorem cH:gy X (.type "tuple") (λxs H Q=>∃p ys,xs=[.ref p]/\((LA X.K H p ys/\∀l,H l=none->Q (.ref l) (upd H l (.tup ys)))\/(Lz X.K H p ys/\Q (.ref p) H))):=by
 intro Ly s σ H xs us Q I r h;obtain⟨p,ys,rfl,h⟩:=h;obtain⟨u,rfl,rx⟩:=vals1 r;cases rx
 rcases h with⟨hq,q⟩ | ⟨hq,q⟩
 .obtain⟨its,r',pl,hz⟩:=I.list hq;have hlen:=r'.length;refine call_tuple_list pl.isList (λh' kp=>?_) (by simp only[l6]<;>omega);have I1:Inv X Ly σ H {s with heap:=h' }:=I.kept (t':=s.toks) kp
  have I2:Inv X Ly σ (upd H h'.objs.size (.tup ys)) {s with heap:=h'.push {cls:=.type "tuple",data:=.seq its.toArray} }:=
   I1.laid (t':=s.toks) (λb o e=>i8 _ e) (c7 _) (show cP X.prog X.w _ _ _ (.tup ys) from⟨hz,its,r',IsTup.new _ _⟩)
  exact⟨.ref h'.objs.size,_,I2,rfl,q _ (I1.hok.fresh (c7 _))⟩
 .obtain⟨its,r',pl,hz⟩:=I.tuple hq;exact call_tuple_same pl ⟨.ref p,H,I,rfl,q⟩
def Yp(K:W.Frag)(T:String)(x:V)(H:Hp):Prop:=match x with
 | .str _=>T="str"
 | .int _=>T="int"
 | .ref p=>(T="list"/\∃ xs,LA K H p xs)\/(T="tuple"/\∃ o,K.lookup p=some o/\o.cls=.type "tuple"/\o.dict=none)\/
   (T="dict"/\((∃LB,H p=some (.dK LB))\/∃LB,H p=some (.dT LB)))\/(T="set"/\∃S n,H p=some (.set S n))
 | _=>False
theorem Fu{x:V}(I:Inv X Ly σ H s)(r:RelV x v)(ty:Yp X.K T x H) :
  s.TypeIs v T/\∀a,v=.ref a->∃ob,s.heap.get? a=some ob/\ob.dict=none:=by
 cases x with
 | str z =>
  obtain⟨t,rfl⟩:=r;cases(show T="str" from ty)
  exact⟨typeIs_str s z t,λ_ e=>nomatch e⟩
 | int i =>
  obtain⟨t,rfl⟩:=r;cases(show T="int" from ty)
  exact⟨typeIs_int s i t,λ_ e=>nomatch e⟩
 | ref p =>
  cases r
  rcases ty with⟨rfl,xs,hq⟩ | ⟨rfl,o,hk,hc,hd⟩ | ⟨rfl,hk⟩ | ⟨rfl,S,n,hk⟩
  .obtain⟨its,_,pl,_⟩:=I.list hq;refine⟨pl.isList.typeIs,λa e=>?_⟩;cases e
   obtain⟨o,n,e,c,hd,_⟩:=pl;exact⟨o,e,hd⟩
  .refine⟨⟨o,I.kIn p o hk,hc⟩,λa e=>?_⟩;cases e
   exact⟨o,I.kIn _ o hk,hd⟩
  .have z:∃o,s.heap.get? p=some o/\o.ExactDict:=by
    rcases hk with⟨LB,hk⟩ | ⟨LB,hk⟩
    .obtain⟨_,_,_,_,o,_,_,e,ex,_⟩:=I.hok p _ hk;exact⟨o,e,ex⟩
    .obtain⟨_,_,_,_,o,_,_,e,ex,_⟩:=I.hok p _ hk;exact⟨o,e,ex⟩
   obtain⟨o,e,ex⟩:=z;refine⟨⟨o,e,ex.1⟩,λa e2=>?_⟩;cases e2
   exact⟨o,e,ex.2.1⟩
  .obtain⟨o,_,_,_,e,ex,_⟩:=I.hok p _ hk;refine⟨⟨o,e,ex.1⟩,λa e2=>?_⟩;cases e2
   exact⟨o,e,ex.2.1⟩
 | _=>exact False.elim ty
def US(K:W.Frag)(T:String)(r:V->List V->Hp->VK->Prop)(to:TE):TE:=λσ H Q=>to σ H λx H1=>Yp K T x H1/\r x [] H1 Q
def tBM(K:W.Frag)(T:String)(r:V->List V->Hp->VK->Prop)(to:TE)(t:TA):TE:=λσ H Q=>to σ H λx H1=>Yp K T x H1/\t σ H1 λxs H2=>r x xs H2 Q
variable{o e:Expr}{es:List Expr}{to:TE}{t:TA}{name:Str}{apos LP:Pos}{T id:String}{r:V->List V->Hp->VK->Prop}
theorem jk(pa:PlainAttrs T)(slot:Slot T name id)(VL:typeOf (.builtin id)=pure (.type "method_descriptor"))(hm:MtR X id r)(ho:PE X o to)
  (MU:attributeBase o name X.env (eval o X.env)=eval o X.env:=by rfl)(MS:(apos.endLine==LP.line)=true:=by rfl):PE X (.Call (.Attribute o name apos) [] [] LP) (US X.K T r to):=by
 intro Ly s σ H Q I h;refine wpAny_Call_method0_late MU MS (LF (ho Ly s σ H _ I h) λv s1 zz=>?_);obtain⟨x,H1,I1,r1,ty,q1⟩:=zz;obtain⟨h1,h2⟩:=Fu I1 r1 ty;exact⟨T,id,pa,slot,VL,h1,h2,Calls.callWith_builtin rfl (PySem.evalArgs_none (hm Ly s1 σ H1 x [] v [] Q I1 r1 .nil q1))⟩
theorem cO(pa:PlainAttrs T)(slot:Slot T name id)(VL:typeOf (.builtin id)=pure (.type "method_descriptor"))(hm:MtR X id r)(ho:PE X o to)(ha:PA X (e::es) t)
  (MU:attributeBase o name X.env (eval o X.env)=eval o X.env:=by rfl)
  (Mz:((backTo LP (starEach (e::es) X.env)).all (λx=>!x.1) && (backToKw LP (keywordEach [] X.env)).all (λx=>x.1.isSome)
   && decide ((e::es).length+([]:List Keyword).length+(if([]:List Keyword).isEmpty then 0 else 1)<30))=true:=by rfl)
  (MS:(apos.endLine==LP.line)=true:=by rfl)(hs:starEach (e::es) X.env=(false,eval e X.env)::starEach es X.env:=by rfl)(SM:(backTo LP (starEach es X.env)).any (·.1)=false:=by rfl) :
  PE X (.Call (.Attribute o name apos) (e::es) [] LP) (tBM X.K T r to t):=by
 intro Ly s σ H Q I h;refine wpAny_Call_method_late MU Mz MS rfl (LF (ho Ly s σ H _ I h) λv s1 zz=>?_);obtain⟨x,H1,I1,r1,ty,q1⟩:=zz;obtain⟨h1,h2⟩:=Fu I1 r1 ty;refine⟨T,id,pa,slot,VL,h1,h2,?_⟩;have hA:=ha LP Ly s1 σ H1 _ I1 q1;rw[hs]at hA ⊢;refine Calls.callWith_builtin (by show(false || (backTo LP (starEach es X.env)).any (·.1))=false;rw[SM]<;>rfl) (Calls.evalArgs_plain ?_);refine LF hA λus s2 zz=>?_;obtain⟨vs,H2,I2,r2,q2⟩:=zz;exact hm Ly s2 σ H2 x vs v us Q I2 r1 r2 q2
end
def UB(X:Cx)(id:String)(r:V->List V->Hp->VK->Prop):Prop:=
 ∀(
  Ly:List (Addr×Obj)) (s:Shared) (σ:St) (H:Hp) (x:V) (xs:List V) (v:Value) (us:List Value) (Q:VK),Inv X Ly σ H s->RelV x v->Vals xs us->r x xs H Q->
  wpAny (model X.prog X.w) X.A (call (.builtin id) (v::us)) (EP X Ly σ Q) X.xe s
theorem Vals.one{x:V}(h:Vals [x] us):∃u,us=[u]/\RelV x u:=by
 cases h with
 | cons r t =>
  cases t
  exact⟨_,rfl,r⟩
theorem Vals.zero:∀{us:List Value},Vals [] us->us=[]
 | _,.nil=>rfl
theorem Vals.dropLast{xs:List V}(h:Vals xs us):Vals xs.dropLast us.dropLast:=by
 induction h with
 | nil=>exact .nil
 | cons r t ih =>
  cases t with
  | nil=>exact .nil
  | cons q t'=>exact .cons r ih
theorem Vals.eraseIdx:∀{xs:List V}{us:List Value}(i:Nat),Vals xs us->Vals (xs.eraseIdx i) (us.eraseIdx i)
 | _,_,_,.nil=>.nil
 | _,_,0,.cons _ t=>t
 | _,_,i+1,.cons r t=>.cons r (Vals.eraseIdx i t)
theorem Vals.reverse{xs:List V}(h:Vals xs us):Vals xs.reverse us.reverse:=by
 induction h with
 | nil=>exact .nil
 | cons r t ih=>rw[C8,C8];exact Vals.append ih (.cons r .nil)
theorem Bj{α:Type}(l:List α):l.eraseIdx (l.length-1)=l.dropLast:=by
 induction l with
 | nil=>rfl
 | cons a r ih =>
  cases r with
  | nil=>rfl
  | cons b r =>
   have e:(a::b::r).length-1=((b::r).length-1)+1:=by
    have h1:(a::b::r).length=r.length+2:=rfl;have h2:(b::r).length=r.length+1:=rfl;omega
   rw[e,List.eraseIdx_cons_succ,ih]
   all_goals rfl
theorem vv{α:Type}:∀(l:List α)(i:Nat),(l.eraseIdx i).length<=l.length
 | [],_=>c7 _
 | _::_,0=>Lu _
 | _::r,i+1=>Nat.succ_le_succ (vv r i)
section
variable{X:Cx}{Ly:List (Addr×Obj)}{σ:St}{H:Hp}{s:Shared}{l b:Addr}{xs ys zs:List V}
theorem Inv.lset{t':Nat}(I:Inv X Ly σ H s)(hH:H l=some (.lst xs))
  (e:s.heap.get? l=some {cls:=.type "list",data:=.seq its.toArray n})(hf:f its.toArray=its'.toArray)(hv:Vals ys its')(hz:ys.length<=sizeLine) :
  Inv X Ly σ (upd H l (.lst ys)) {s with heap:=s.heap.update l (Obj.mapSeq f),toks:=t' }:=by
 have q:=PySem.IsL.update e f;rw[hf]at q;refine I.write (x:=l) (e:=l) (by rw[hH];exact trivial) (.inl rfl) (λb' u hb hu=>(Heap.get?_update_other s.heap (Obj.mapSeq f) (Jp hb)).trans hu) ⟨_,q⟩ ?_;exact⟨hz,its',_,hv,q⟩
theorem Inv.lnew{t':Nat}(I:Inv X Ly σ H s)(hv:Vals ys its)(hz:ys.length<=sizeLine) :
  Inv X Ly σ (upd H s.heap.objs.size (.lst ys)) {s with heap:=s.heap.push {cls:=.type "list",data:=.seq its.toArray},toks:=t' }:=
 I.laid (λ_ _ q=>i8 _ q) (c7 _) ⟨hz,its,0,hv,x5 _ rfl⟩
theorem Inv.fresh(I:Inv X Ly σ H s):H s.heap.objs.size=none:=I.hok.fresh (c7 _)
theorem Inv.lstM(I:Inv X Ly σ H s)(hH:H l=some (.lst xs)):xs.length<=sizeLine/\∃(its:List Value)(n:Nat),Vals xs its/\xs.length=its.length/\s.heap.get? l=some {cls:=.type "list",data:=.seq its.toArray n}:=by
 obtain⟨z,its,n,r,e⟩:=I.hok l _ hH;exact⟨z,its,n,r,r.length,e⟩
theorem HD(h:n<=sizeLine):Builtin.List.listTooLong n=false:=by
 unfold Builtin.List.listTooLong;exact D7 (by omega)
end
section
variable{X:Cx}
inductive zD(x:V)(vs:List V)(H:Hp)(Q:VK):Prop where
 | mk (l:Addr) (xs:List V) (y:V) (UH:x=.ref l) (UG:vs=[y]) (Xc:H l=some (.lst xs)) (Yh:xs.length<sizeLine) (z_4:Q .non (upd H l (.lst (xs++[y])))):zD  x vs H Q
def O0:V->List V->Hp->VK->Prop:=λx vs H Q=>zD  x vs H Q
theorem bj:UB X "list.append" O0:=by
 intro Ly s σ H x vs v us Q I rx rv h;obtain⟨l,xs,y,rfl,rfl,hH,hz,q⟩:=h;cases rx
 obtain⟨u,rfl,ru⟩:=rv.one;obtain⟨z,its,n,r,hl,e⟩:=I.lstM hH;refine KH F.slot_list_append ⟨_,e,rfl⟩ F.entry_list_append (F.args_list_append_2 _ _) (PySem.list_append l its.toArray n u (by rw[l6];omega)) ⟨e,?_⟩;refine⟨.non,_,I.lset (its':=its++[u]) hH e (by simp) (r.append (.cons ru .nil)) ?_,rfl,q⟩;rw[c8,G9];omega
def OZ:V->List V->Hp->VK->Prop:=λx vs H Q=>∃l b xs zs,x=.ref l/\vs=[.ref b]/\H l=some (.lst xs)/\H b=some (.lst zs)/\xs.length+zs.length<=sizeLine/\Q .non (upd H l (.lst (xs++zs)))
theorem pH:UB X "list.extend" OZ:=by
 intro Ly s σ H x vs v us Q I rx rv h;obtain⟨l,b,xs,zs,rfl,rfl,hH,hB,hz,q⟩:=h;cases rx
 obtain⟨u,rfl,ru⟩:=rv.one;cases ru
 obtain⟨z,its,n,r,hl,e⟩:=I.lstM hH;obtain⟨z2,LN,n2,r2,hl2,e2⟩:=I.lstM hB;have hsz:its.toArray.size+LN.toArray.size<=sizeLine:=by rw[l6,l6];omega
 have VR:¬(!its.toArray.isEmpty && Builtin.List.listTooLong (its.toArray.size+LN.toArray.size))=true:=by
  rw[HD hsz,Bool.and_false];exact l9
 refine KH F.slot_list_extend ⟨_,e,rfl⟩ F.entry_list_extend (F.args_list_extend_2 _ _)
  (AutoSeq1.list_extend_list_list_0 l its.toArray n b LN.toArray n2 VR (by rw[l6];omega) (by omega)) ⟨e,e2,?_⟩
 refine⟨.non,_,I.lset (its':=its++LN) hH e (by simp) (r.append r2) ?_,rfl,q⟩;rw[c8];omega
def YR:V->List V->Hp->VK->Prop:=λx vs H Q=>∃l xs y,x=.ref l/\vs=[]/\H l=some (.lst xs)/\xs[xs.length-1]?=some y/\Q y (upd H l (.lst xs.dropLast))
theorem kZ:UB X "list.pop" YR:=by
 intro Ly s σ H x vs v us Q I rx rv h;obtain⟨l,xs,y,rfl,rfl,hH,hy,q⟩:=h;cases rx
 have Zs:=rv.zero;subst Zs;obtain⟨z,its,n,r,hl,e⟩:=I.lstM hH;obtain⟨u,hu,ru⟩:=r.get hy
 have Py:its.toArray[its.toArray.size-1]?=some u:=by
  show its.toArray[its.length-1]?=some u;rw[<- Array.getElem?_toList,<- hl];exact hu
 refine KH F.slot_list_pop ⟨_,e,rfl⟩ F.entry_list_pop (F.args_list_pop_1 _) (MeetsSeq.list_pop_last l its.toArray n u Py (by rw[l6];omega)) ⟨e,?_⟩;refine⟨y,_,I.lset (its':=its.dropLast) hH e ?_ r.dropLast ?_,ru,q⟩
 .show its.toArray.eraseIdxIfInBounds (its.toArray.size-1)=its.dropLast.toArray;rw[l6,Kf,Bj]
 .rw[List.length_dropLast];omega
def RZ:V->List V->Hp->VK->Prop:=λx vs H Q=>∃l xs i k y,x=.ref l/\vs=[.int i]/\H l=some (.lst xs)/\-(2^63)<=i/\i<2^63/\seqIndex? i xs.length=some k/\xs[k]?=some y/\Q y (upd H l (.lst (xs.eraseIdx k)))
theorem HQ:UB X "list.pop" RZ:=by
 intro Ly s σ H x vs v us Q I rx rv h;obtain⟨l,xs,i,k,y,rfl,rfl,hH,h1,h2,hk,hy,q⟩:=h;cases rx
 obtain⟨u,rfl,ru⟩:=rv.one;obtain⟨t,rfl⟩:=ru;obtain⟨z,its,n,r,hl,e⟩:=I.lstM hH;obtain⟨w,hw,Mb⟩:=r.get hy
 refine KH F.slot_list_pop ⟨_,e,rfl⟩ F.entry_list_pop (F.args_list_pop_2 _ _)
  (MeetsSeq.list_pop_at l its.toArray n i t k w (fitsIndex_both h1 h2) (by rw[l6,<- hl];exact hk) (by rw[<- Array.getElem?_toList];exact hw) (by rw[l6];omega)) ⟨e,?_⟩
 refine⟨y,_,I.lset (its':=its.eraseIdx k) hH e ?_ (r.eraseIdx k) ?_,Mb,q⟩
 .show its.toArray.eraseIdxIfInBounds k=(its.eraseIdx k).toArray;rw[Kf]
 .have:=vv xs k;omega
def GG:V->List V->Hp->VK->Prop:=λx vs H Q=>∃l xs,x=.ref l/\vs=[]/\H l=some (.lst xs)/\Q .non (upd H l (.lst xs.reverse))
theorem sW:UB X "list.reverse" GG:=by
 intro Ly s σ H x vs v us Q I rx rv h;obtain⟨l,xs,rfl,rfl,hH,q⟩:=h;cases rx
 have Zs:=rv.zero;subst Zs;obtain⟨z,its,n,r,hl,e⟩:=I.lstM hH;refine KH F.slot_list_reverse ⟨_,e,rfl⟩ F.entry_list_reverse (F.args_list_reverse_1 _) (AutoSeq1.list_reverse_list_0 l its.toArray n (by rw[l6];omega)) ⟨e,?_⟩;refine⟨.non,_,I.lset (its':=its.reverse) hH e (by simp) r.reverse ?_,rfl,q⟩;rw[E5];omega
def YU:R2:=λx y H Q=>∃l b xs zs,x=.ref l/\y=.ref b/\H l=some (.lst xs)/\H b=some (.lst zs)/\xs.length+zs.length<=sizeLine/\∀p,H p=none->Q (.ref p) (upd H p (.lst (xs++zs)))
theorem Ax:LQ X (binaryOp .Add) YU:=by
 intro Ly s σ H x y v u Q I rx ry h;obtain⟨l,b,xs,zs,rfl,rfl,hH,hB,hz,q⟩:=h;cases rx
 cases ry
 obtain⟨z,its,n,r,hl,e⟩:=I.lstM hH;obtain⟨z2,LN,n2,r2,hl2,e2⟩:=I.lstM hB;refine PySem.P.add_list e e2 ?_ (by rw[l6,l6];omega);have ea:its.toArray++LN.toArray=(its++LN).toArray:=by simp
 rw[ea];exact⟨.ref _,_,I.lnew (t':=s.toks) (r.append r2) (by rw[c8];omega),rfl,q _ I.fresh⟩
end
section
variable{prog:Program}{w:World}{A:Around}{E:Value->Shared->Prop}{s:Shared}
set_option maxRecDepth 100000 in
end
section
variable{X:Cx}
end
end L2
namespace Att
open PySem PySem.W PySem.Calls PyProof.Rows
variable{P:Params}{h:Heap}{n:Nat}{args:List WData}{LW:List Value}
theorem qv:∀(ns:List Int)(vs:List Value),WellAll P h vs (ns.map WData.int)->IntsAre vs ns:=by
 intro ns
 induction ns with
 | nil =>
  intro vs w;rw[Kz]at w;cases w
  exact .nil
 | cons n ns ih =>
  intro vs w;rw[A5]at w;cases w with
  | cons a b =>
   cases a
   exact .cons _ _ (ih _ b)
theorem DJ{l:OpenLaw}(hn:l.most=some n)
  (Pz:l.row.toRowW.claim.pre args=true)(Zr:WellAll P h LW args) :
  ∃a vs ns,LW=[Value.ref a]/\args=[WData.list (ns.map WData.int)]/\h.get? a=some {cls:=.type "list",data:=.seq vs.toArray}/\IntsAre vs ns/\ns.length<=n:=by
 have hsh:WShape.hasAll [] args [.list .int]=true:=(pre_splitW Pz).1;have hc:l.pre.holds [] {args:=args}=true:=(pre_splitW Pz).2;obtain⟨d,r,rfl,h1,h2⟩:=hasAllW_cons hsh;obtain rfl:=hasAllW_nil h2;obtain⟨xs,rfl,h3⟩:=hasW_list h1;obtain⟨ns,rfl⟩:=items_int h3
 have hlen:ns.length<=n:=by
  unfold OpenLaw.pre at hc
  have h4:(WTm.not (.lt (.lit (.int (n:Int))) (.len (.arg 0)))).holds [] {args:=[.list (ns.map .int)] }=true:=by
   have h4:=(holds_andW hc).1;rw[hn]at h4;exact h4
  have h5:=condW_of h4 (w_not (w_lt w_lit (w_len_list (w_arg rfl))));rw[j4]at h5;refine Nat.le_of_not_lt λq=>?_;have q':(n:Int)<((ns.length:Nat):Int):=by omega
  first
   | (rw[i6 q']at h5;exact absurd h5 (by decide))
   | (simp at h5;omega)
 cases Zr with
 | cons w1 w2 =>
  cases w2
  cases w1 with
  | list ho N3=>exact⟨_,_,ns,rfl,rfl,ho,qv ns _ N3,hlen⟩
theorem DQ(l:OpenLaw)(args:List WData):l.row.toRowW.claim.post args (.bool true) args=true:=
 postW_of (r:=l.row.toRowW) (X:=(true==true))
  (show WShape.has [] (.bool true) .bool=true by first | rfl | decide | simp[WShape.has,WShape.arms,WShape.armsAll])
  (show(WTm.eq .res (.lit (.bool true))).value [] {args:=args,res:=some (.bool true),after:=args}=some (.bool (true==true)) from w_eq_bool (w_res rfl) w_lit) rfl
section
variable{prog:Program}{w:World}{A:Around}{E:Value->Shared->Prop}{s:Shared}{K:Frag}
end
end Att
namespace L2
open PySem PySem.Spec PyProof.Rows
variable{P:Program}{w:World}{mg mb:Str->Option Value}{CX:NL}{a f:Addr}{x qual:Str}{sp:Sp}{s₁:Shared}{vs:List Value}{ns:List Int}{X:Cx}{N ps:List Str}{oc:Value}{od an:Option Addr}{osl:Array (Option Value)}{A:Around}{n:Nat}{pos:Pos}{H H':Hp}
theorem uM:∀{vs:List Value}{ns:List Int},IntsAre vs ns->Vals (ns.map V.int) vs
 | _,_,.nil=>.nil
 | _,_,.cons n t h=>.cons ⟨t,rfl⟩ (uM h)
def Qb(H:Hp):Prop:=∀b,H b=none\/∃o xs,H b=some (.frz o (.lst xs))
theorem Ia{K:W.Frag}{k:Nat}{fa:Addr}{fd:FuncData}
  (KX:K.In s₁.heap)(Ur:s₁.heap.Ns mainGlobals mg)(hb:s₁.heap.Ns builtinsNs mb)(hbb:∀x:Str,x≠"__name__"->mb x=bootBuiltins x)(ZK:s₁.heap.NoLimit)(hg:s₁.gens=#[])
  (ha:s₁.heap.get? a=some {cls:=.type "list",data:=.seq vs.toArray})(hi:IntsAre vs ns)(hl:ns.length<=sizeLine)(hr:dY k callerA)
  (F:∀base:Heap,K.In base->base.Ns mainGlobals mg->oM P w K mg base CX k fa fd [x] sp)(VX:∀(s:Shared)(u:Value),BindsTo s fd ⟨[u],[]⟩ [(x,u)])
  (QM:∀H:Hp,Qb H->LA K H a (ns.map V.int)->sp [.ref a] H (λv _=>v=.bl true) λ_ _ _=>False)
  (ZW:∀H e s',CX [] H s₁ (λ_ _ _=>False) e s'->False) :
  codeAny (model P w) callerA (.call (.ref fa) ⟨[.ref a],[]⟩) (λr s'=>r=.ok (.ret (.bool true))/\OldK s₁.heap s'.heap/\s'.os=s₁.os/\AllBare s'.gens) s₁:=by
 have rv:=uM hi;have Pq:=hi.length
 have core:∀H:Hp,Qb H->LA K H a (ns.map V.int)->LS P w H s₁.heap->(∀b,H b≠none->b=a)->(H a≠none->K.lookup a=none)->
   codeAny (model P w) callerA (.call (.ref fa) ⟨[.ref a],[]⟩) (λr s'=>r=.ok (.ret (.bool true))/\OldK s₁.heap s'.heap/\s'.os=s₁.os/\AllBare s'.gens) s₁:=by
  intro H hO hS hok hA hK;have Nm:∀{b:Addr}{o:Obj},s₁.heap.get? b=some o->H b=none->(xh s₁.heap H).get? b=some o:=λe n=>Ii e n
  have Vt:∀{b:Addr}{o:Obj}{es:Array DictEntry}{ep:Nat},s₁.heap.get? b=some o->o.data=.dict es ep->H b=none:=λ{b o es ep} e d=>by
   cases q:H b with
   | none=>rfl
   | some u =>
    have e':b=a:=hA b (by rw[q];simp);subst e';rw[ha]at e;cases e
    have d':Data.seq vs.toArray _=Data.dict es ep:=d;cases d'
  have XA:∀{b:Addr}{m:Str->Option Value},s₁.heap.Ns b m->(xh s₁.heap H).Ns b m:=λ{b m} ⟨o,es,ep,e,d,r⟩=>⟨o,es,ep,Nm e (Vt e d),d,r⟩
  have hKb:K.In (xh s₁.heap H):=λb o e=>Nm (KX b o e) (by
   cases q:H b with
   | none=>rfl
   | some u =>
    have e':b=a:=hA b (by rw[q];simp);subst e';rw[hK (by rw[q];simp)]at e;cases e)
  have hM:Mod K mg (xh s₁.heap H):=⟨hKb,XA Ur,⟨mb,XA hb,hbb⟩,let ⟨mc,h1,h2⟩:=ZK;⟨mc,XA h1,h2⟩⟩;have e0:BF P w K mg (xh s₁.heap H) callerA [] s₁ H:=⟨rfl,hM,λb o e=>Pk e,Nat.le_of_eq (EH _ _),trivial,λb hb=>absurd (show b∈([]:List Addr) from hb) (by simp),hok,.of_eq hg⟩;refine Li ((F _ hKb (XA Ur)).run callerA [] s₁ H ⟨[.ref a],[]⟩ [.ref a] [.ref a] _ _ hr e0 (VX s₁ (.ref a)) (.cons rfl .nil) (QM H hO hS)) λr s' h=>?_;cases r with
  | error e=>exact(ZW H e s' h).elim
  | ok fl =>
   cases fl with
   | next=>exact False.elim h
   | brk=>exact False.elim h
   | cont=>exact False.elim h
   | ret u =>
    obtain⟨v,H',os,bare,un,ZF,r',q⟩:=h;have q':v=.bl true:=q;subst q';obtain rfl:u=Value.bool true:=r';refine⟨rfl,OldK.of_keep λb o e=>?_,os,bare⟩;cases q:H b with
    | none=>exact un.keep b o e q (by intro z;exact absurd (show b∈([]:List Addr) from z) (by simp)) (by simp)
    | some u =>
     rcases hO b with z | ⟨ob,xs,z⟩
     .rw[q]at z;cases z
     .have z2:=un.frzs b ob _ z;obtain⟨e1,_⟩:=hok b _ z;obtain⟨e2,_⟩:=ZF b _ z2;rw[e]at e1;cases e1
      exact e2
 cases hk:K.lookup a with
 | some o =>
  have e:=KX a o hk;rw[ha]at e;cases e
  refine core (λ_=>none) (λ_=>.inl rfl) (.inr ⟨_,vs.toArray,_,hk,rfl,rfl,rfl,by rw[l6,Pq];exact hl,by simpa using rv⟩) (λb u z=>by have z':(none:Option HO)=some u:=z;cases z') (λb z=>absurd rfl z) λz=>absurd rfl z
 | none =>
  refine core (λb=>if b=a then some (.frz {cls:=.type "list",data:=.seq vs.toArray} (.lst (ns.map V.int))) else none) (λb=>?_) (.inl (.inr ⟨{cls:=.type "list",data:=.seq vs.toArray},d8 rfl⟩)) (λb u z=>?_) (λb z=>?_) λ_=>hk
  .by_cases hb:b=a
   .exact .inr ⟨_,_,d8 hb⟩
   .exact .inl (i5 hb)
  .by_cases hb:b=a
   .have z':=(d8 hb).symm.trans z;cases z'
    subst hb;exact⟨ha,by rw[j4];exact hl,vs,_,rv,ha⟩
   .have z':=(i5 hb).symm.trans z;cases z'
  .by_cases hb:b=a
   .exact hb
   .exact absurd (i5 hb) z
noncomputable abbrev KOf {K:W.Frag} {h:Heap} (_:K.In h):W.Frag:=K
noncomputable def inClass(s:Stmt)(j:Nat):Stmt:=match s with
 | .ClassDef _ _ _ body _ _ _ _ _ _ _=>body.getD j (.Pass ⟨0,0,0,0⟩)
 | _=>.Pass ⟨0,0,0,0⟩
noncomputable def gi(s:Stmt):Arguments:=match s with
 | .FunctionDef _ a _ _ _ _ _ _ _ _=>a
 | _=>{posonlyargs:=[],args:=[],vararg:=none,kwonlyargs:=[],kw_defaults:=[],kwarg:=none,defaults:=[] }
noncomputable def bI(s:Stmt):List Stmt:=match s with
 | .FunctionDef _ _ b _ _ _ _ _ _ _=>b
 | _=>[]
noncomputable def au(s:Stmt):Scope:=match s with
 | .FunctionDef _ _ _ _ _ _ sc _ _ _=>sc
 | _=>{kind:=.function,names:=[],isGenerator:=false,isCoroutine:=false}
noncomputable abbrev CX0:NL:=λ_ _ _ _ _ _=>False
noncomputable abbrev E0:XK:=λ_ _ _=>False
theorem yD:Passes CX0 X E0:=λ_ _ _ _ _ _ _ h=>h.elim
structure OE(K:W.Frag)(x qual:Str)(st:Stmt)(f:Addr)(fd:FuncData):Prop where
 ex:∃(oc:Value)(od:Option Addr)(kV doc pm:Value)(an:Option Addr)(cdv ct:Value)(osl:Array (Option Value)),
  fd=PySem.W.fnOf x qual (gi st) (bI st) (au st) .none kV doc pm an cdv ct/\K.lookup f=some ⟨oc,od,.func fd,osl⟩/\PySem.W.codeIn K cdv qual=true
 kp:PySem.W.keepIn K (.ref f)=true
variable{P:Program}{w:World}{K:W.Frag}{mg:Str->Option Value}{base:Heap}
theorem OE.ok{st:Stmt}{fd:FuncData}{k:Nat}(F:OE K x qual st f fd)(S:aD N ps (au st))(len:∀vs H Q E,sp vs H Q E->vs.length=ps.length)
  (N0:∀(cdv:Value)(A:Around)(outer:List Env)(s:Shared)(H:Hp)(vs:List V)(Q:VK)(E:XK),dY k (A.deeper (envOfC qual (au st) s.heap.objs.size f cdv))->sp vs H Q E->
   ∃t,LV (cN CX0 P w K mg base N qual (au st) f cdv A outer s H E).nox (bI st) t/\t {nx:=λ_ H'=>Q .non H',rt:=Q} (start N vs) H):oM P w K mg base CX0 (k+1) f fd ps sp:=by
 obtain⟨oc,od,kV,doc,pm,an,cdv,ct,osl,rfl,lk,hcd⟩:=F.ex;refine QU lk hcd S len λA outer s H vs Q E hr QM=>?_;obtain⟨t,h,q⟩:=N0 cdv A outer s H vs Q E hr QM;exact⟨t,h.nox,q⟩
theorem OE.binds{st:Stmt}{fd:FuncData}(F:OE K x qual st f fd)
  (h:∀(kV doc pm:Value)(an:Option Addr)(cdv ct:Value)(us:List Value),us.length=ps.length->bindArgs (PySem.W.fnOf x qual (gi st) (bI st) (au st) .none kV doc pm an cdv ct) ⟨us,[]⟩=pure (ps.zip us)):Binds K fd ps []:=by
 obtain⟨oc,od,kV,doc,pm,an,cdv,ct,osl,rfl,lk,hcd⟩:=F.ex;exact .all (h kV doc pm an cdv ct)
theorem Iy{st:Stmt}{kV doc pm cdv ct:Value}(l:K.lookup f=some ⟨oc,od,.func (PySem.W.fnOf x qual (gi st) (bI st) (au st) .none kV doc pm an cdv ct),osl⟩)
  (c:PySem.W.codeIn K cdv qual=true)(k:PySem.W.keepIn K (.ref f)=true):OE K x qual st f (PySem.W.fnOf x qual (gi st) (bI st) (au st) .none kV doc pm an cdv ct):=⟨⟨oc,od,kV,doc,pm,an,cdv,ct,osl,rfl,l,c⟩,k⟩
theorem CZ{k:Nat}(hr:dY k A):A.units+1<cLine:=d9 (Nat.add_le_add_left (by decide:1<=64) _) hr.units
theorem aZ(h:n<=1000):n<sizeLine:=d9 h (by decide)
section
variable{X:Cx}
theorem pv(i:Nat)(hN:X.N[i]?=some x:=by rfl)(hv:Rf X.env.scope x:=by first | exact Or.inl rfl | exact Or.inr (Or.inl rfl) | exact Or.inr (Or.inr rfl))(hd:(x==("__debug__":Str))=false:=by decide)
  (hcd:(x==("__classdict__":Str))=false:=by decide):PE X (.Name x pos) (OK i):=Av hN hv hd hcd
end
theorem bJ{A B:Prop}(h:B):if false=true then A else B:=by
 rw[i5 l9];exact h
theorem dR{A B:Prop}(h:A):if true=true then A else B:=by
 rw[d8 rfl];exact h
theorem cU{c A B:Prop}[Decidable c](h1:c->A)(h2:¬c->B):if c then A else B:=by
 by_cases h:c
 .rw[d8 h];exact h1 h
 .rw[i5 h];exact h2 h
theorem QL{c A B:Prop}[Decidable c](hc:c)(h:B):if(!decide c)=true then A else B:=by
 rw[i6 hc];exact bJ h
def aK(H H':Hp):Prop:=∀b o,H b=some o->H' b=some o
theorem aK.refl(H:Hp):aK H H:=λ_ _ h=>h
theorem aK.trans{H1 H2:Hp}(a:aK H H1)(b:aK H1 H2):aK H H2:=λc o h=>b c o (a c o h)
theorem aK.free(e:aK H H'){l:Addr}(h:H' l=Option.none):H l=Option.none:=by
 cases q:H l with
 | none=>rfl
 | some o =>
  rw[e l o q]at h;cases h
theorem aK.seq{xs:List V}(e:aK H H')(h:LA K H a xs):LA K H' a xs:=by
 rcases h with(h | ⟨o,h⟩) | h
 .exact .inl (.inl (e _ _ h))
 .exact .inl (.inr ⟨o,e _ _ h⟩)
 .exact .inr h
end L2
set_option maxHeartbeats 4000000
namespace L2
open PySem PySem.Spec PyProof.Rows
variable{scope:Scope}{j tk i n t':Nat}{js:List Nat}{y x:Str}{env:Env}{Ly:List (Addr×Obj)}{s:Shared}{σ:St}{H:Hp}{h base B h6:Heap}{mg:Str->Option Value}{st:Stmt}{f ea C b a:Addr}{od an:Option Addr}{osl:Array (Option Value)}{N ps loose:List Str}{sp:Sp}{K:Frag}{bmB:List Value}{newId:String}{e₀:Expr}{es:List Expr}{ta:TA}{pos:Pos}{ns:List Int}{q prog:Program}{XP:(Str->Option Value)->Heap->Prop}{YP:World->Heap->Prop}{d:DefRec}{CX:NL}{A:Around}{E:Value->Shared->Prop}
noncomputable def bK(X:Cx)(scope:Scope)(cl:List (Str×Addr))(N:List Str)(s:Shared)(H:Hp)(fp:List Addr):Cx:=
 {prog:=X.prog,w:=X.w,K:=X.K,mg:=X.mg,base:=X.base,A:=X.A,N:=N,s₀:=s,H₀:=H,env:=compEnvC scope cl s.heap.objs.size X.env,
  outer:=X.stack,stack:=X.stack,ex:=fp,fn:=λ_=>false,calm:=X.calm,pn:=[],xe:=λ_ _=>False}
noncomputable def bZ(X:Cx)(x:Str)(js:List Nat):List Str:=x::js.map λj=>X.N.getD j ""
noncomputable def bR(js:List Nat)(σ:St):St:=js.map λj=>(σ[j]?).getD none
structure gv(X:Cx)(scope:Scope)(js:List Nat):Prop where
 all:∀j∈js,∃y,X.N[j]?=some y/\(X.env.kindOf y=some .cell\/X.env.kindOf y=some .free)/\(y,NameKind.free)∈scope.names/\
  ((relabel scope X.env).names.lookup y=some .cell\/(relabel scope X.env).names.lookup y=some .free)
theorem cC:gv X scope []:=⟨λ_ h=>nomatch h⟩
theorem cq(r:gv X scope js)(h1:X.N[j]?=some y:=by rfl)(h2:X.env.kindOf y=some .cell\/X.env.kindOf y=some .free:=by exact Or.inl rfl)(h3:(y,NameKind.free)∈scope.names:=by decide+kernel)(h4:(relabel scope X.env).names.lookup y=some .cell\/(relabel scope X.env).names.lookup y=some .free:=by exact Or.inl rfl):gv X scope (j::js):=
 ⟨λk hk=>by
  rcases j6.mp hk with e | e
  .subst e;exact⟨y,h1,h2,h3,h4⟩
  .exact r.all k e⟩
theorem dC:∀{names:List (Str×NameKind)}{y:Str}{k:NameKind},
  (names.map λ(n,k)=>if(k==NameKind.free && env.scope.kind == .function && env.kindOf n==some .cell) then(n,NameKind.cell) else(n,k)).lookup y=some k->
  ∃k',(y,k')∈names/\(k'=k\/(k=.cell/\k'=.free))
 | [],_,_,h=>by simp at h
 | (n,k0)::r,y,k,h=>by
  by_cases hc:(k0==NameKind.free && env.scope.kind == .function && env.kindOf n==some .cell)=true
  .rw[A5]at h;dsimp only at h;rw[d8 hc]at h;simp only[E4]at h
   have hf:k0=.free:=by
    rw[B6,B6]at hc;exact JB.mp hc.1.1
   cases hx:y==n with
   | true =>
    rw[hx]at h;have e:=JB.mp hx;subst e;have e2:=l7 h;exact⟨k0,x8,.inr ⟨e2.symm,hf⟩⟩
   | false =>
    rw[hx]at h;obtain⟨k',m,q⟩:=dC h;exact⟨k',y8 _ m,q⟩
  .rw[A5]at h;dsimp only at h;rw[i5 hc]at h;simp only[E4]at h;cases hx:y==n with
   | true =>
    rw[hx]at h;have e:=JB.mp hx;subst e;have e2:=l7 h;exact⟨k0,x8,.inl e2⟩
   | false =>
    rw[hx]at h;obtain⟨k',m,q⟩:=dC h;exact⟨k',y8 _ m,q⟩
section
variable{X:Cx}{Ly:List (Addr×Obj)}{σ:St}{H:Hp}{s:Shared}{scope:Scope}{cl:List (Str×Addr)}{x:Str}{js:List Nat}{fp:List Addr}
theorem P2(I:Inv X Ly σ H s)(hk:scope.kind=.function)(LG:∀y∈scope.names,y.2≠.cell)
  (LJ:∀y c,cl.lookup y=some c->X.env.cells.lookup y=some c)(LM:∀y,(y,NameKind.free)∈scope.names->∃c,cl.lookup y=some c)
  (hf:∀b∈fp,jK X Ly H b)(LI:∀b∈fp,b<s.heap.objs.size):(bK X scope cl (bZ X x js) s H fp).Ok where
 mod:=I.ok.mod
 kind:=hk
 glob:=I.ok.glob
 blt:=I.ok.blt
 above:=c7 _
 inj:=λy z c h1 h2=>I.ok.inj y z c (LJ y c h1) (LJ z c h2)
 has:=λy hy=>by
  have Py:(relabel scope X.env).names.lookup y=some .cell\/(relabel scope X.env).names.lookup y=some .free:=hy;rcases Py with h | h
  .obtain⟨k',m,q⟩:=dC h;rcases q with q | ⟨_,q⟩
   .exact absurd q (LG _ m)
   .subst q;exact LM y m
  .obtain⟨k',m,q⟩:=dC h;rcases q with q | ⟨q,_⟩
   .subst q;exact LM y m
   .cases q
 cab:=λy c h _=>by cases h
 hd:=I.ok.hd
 frames:=I.ok.frames
 stk:=.inl rfl
 exf:=λb hb=>⟨A4 (LI b hb),λy c h=>(hf b hb).2.2.2.2.1 y c (LJ y c h)⟩
 bs:=I.bs
 bsz:=l8 I.ok.bsz I.sz
 noex:=λb o e hb=>by
  rcases(hf b hb).2.2.2.1 with z | z
  .exact I.ok.noex b o e z
  .exact absurd (i7 (p5 e) (l8 I.ok.bsz z)) (B9 _)
 exfs:=λb hb hz=>(j6.mp (I.stkSub b hz)).elim (hf b hb).2.1 (hf b hb).2.2.1
 funs:=I.stack
 frf:=I.stkFree
theorem Bm{tk:Nat}(I:Inv X Ly σ H s)(hk:scope.kind=.function)(LG:∀y∈scope.names,y.2≠.cell)
  (LJ:∀y c,cl.lookup y=some c->X.env.cells.lookup y=some c)(LM:∀y,(y,NameKind.free)∈scope.names->∃c,cl.lookup y=some c)(My:gv X scope js)
  (hf:∀b∈fp,jK X Ly H b)(LI:∀b∈fp,b<s.heap.objs.size)(hn:h₁.Ns s.heap.objs.size m)(L5:∀b o,s.heap.get? b=some o->h₁.get? b=some o) :
  Inv (bK X scope cl (bZ X x js) s H fp) [] (none::bR js σ) H {s with heap:=h₁,toks:=tk} where
 ok:=P2 I hk LG LJ LM hf LI
 os:=rfl
 bare:=I.bare
 base:=Un.kept L5
 loc:=by
  refine⟨m,hn,λi y v h1 h2 h3=>?_⟩;cases i with
  | zero =>
   have z:(some none:Option (Option V))=some (some v):=h2;cases z
  | succ k =>
   have NF:(js.map λj=>X.N.getD j "")[k]?=some y:=h1;have MM:(js.map λj=>(σ[j]?).getD none)[k]?=some (some v):=h2;rw[x6]at NF MM;cases hj:js[k]? with
   | none=>rw[hj]at NF;cases NF
   | some j =>
    rw[hj]at NF MM;have e1:X.N.getD j ""=y:=l7 NF;have e2:(σ[j]?).getD none=some v:=l7 MM;obtain⟨y',n1,n2,n3,n4⟩:=My.all j (w8 hj);have e3:y'=y:=by rw[<- e1,A3,n1];rfl
    subst e3
    have e4:σ[j]?=some (some v):=by
     cases q:σ[j]? with
     | none=>rw[q]at e2;cases e2
     | some a=>rw[q]at e2;exact z6 some e2
    obtain⟨m0,_,hl⟩:=I.loc;obtain⟨u,r,l⟩:=hl j y' v n1 e4 (n2.elim (λz=>Or.inr (Or.inl z)) λz=>Or.inr (Or.inr z));refine⟨u,r,.inr ⟨n4,?_⟩⟩;rcases l with⟨l,_⟩ | ⟨_,c,hc,hi⟩
    .exfalso;rcases n2 with z | z<;>(rw[z]at l;cases l)
    .obtain⟨c',MA⟩:=LM y' n3;have e5:=LJ y' c' MA;rw[hc]at e5;have e6:=l7 e5;subst e6;obtain⟨o,ho,hd⟩:=hi;exact⟨c,MA,o,L5 c o ho,hd⟩
 cell:=λy c h=>by
  obtain⟨v,o,ho,hd⟩:=I.cell y c (LJ y c h);exact⟨v,o,L5 c o ho,hd⟩
 free:=I.hok.fresh (c7 _)
 freeC:=λy c h=>I.freeC y c (LJ y c h)
 pin:=λp hp=>absurd (show p∈([]:List (Addr×Obj)) from hp) (by simp)
 hok:=I.hok.kept L5
 len:=by
  show(none::bR js σ).length=(bZ X x js).length;simp[bR,bZ]
end
def T5(X:Cx)(ifs:List Expr)(t:TT):Prop:=
 ∀Ly s σ H Q,Inv X Ly σ H s->t σ H Q->
  wpAny (model X.prog X.w) X.A (forIn ifs true λc r=>if r=true then do let ok <- isTrue c X.env (eval c X.env);pure (ForInStep.yield ok) else pure (ForInStep.yield r)) (TP X Ly σ Q) X.xe s
def kq:TT:=λ_ H Q=>Q true H
theorem cM:T5 X [] kq:=λ_ _ _ H _ I h=>wpAny_tests_nil ⟨H,I,h⟩
theorem O5(h:PT X c t):T5 X [c] t:=λLy s σ H Q I q=>wpAny_tests_one (h Ly s σ H Q I q)
def iW(wi:TI)(tc:TT)(te:TE)(js:List Nat):TE:=λσ H Q=>wi σ H λJ H1=>∀D,H1 D=none->
 ∃W:Nat->Nat->Hp->Prop,(∃m,W 0 m (upd H1 D (.lst [])))/\∀i m H2,W i m H2->(J.stop i H2/\Q (.ref D) H2)\/
  (J.go i H2/\∀v H3,J.yld i H2 v H3->tc (some v::bR js σ) H3 λb H4=>if b=true then te (some v::bR js σ) H4 λy H5 =>
   ∃ys,H5 D=some (.lst ys)/\ys.length<sizeLine/\∃m',m'<m/\W (i+1) m' (upd H5 D (.lst (ys++[y]))) else ∃m',m'<m/\W (i+1) m' H4)
section
variable{X:Cx}{elt LH:Expr}{x:Str}{px pos:Pos}{ifs:List Expr}{scope:Scope}{cl:List (Str×Addr)}{wi:TI}{tc:TT}{te:TE}{js:List Nat}
theorem vH
  (hc:X.calm=true) (hi:PI X (.Name x px) LH wi) (hk:scope.kind=.function) (LG:∀y∈scope.names,y.2≠.cell) (hx:(relabel scope X.env).names.lookup x=some .local)
  (LJ:∀y c,cl.lookup y=some c->X.env.cells.lookup y=some c) (LM:∀y,(y,NameKind.free)∈scope.names->∃c,cl.lookup y=some c) (My:gv X scope js) (MZ:(bZ X x js).Nodup)
  (ht:∀s' H' fp,T5 (bK X scope cl (bZ X x js) s' H' fp) ifs tc) (he:∀s' H' fp,PE (bK X scope cl (bZ X x js) s' H' fp) elt te)
  (I:Inv X Ly σ H s) (h:iW wi tc te js σ H Q)
  (fin:∀D C H' s',Inv X Ly σ H' s'->jK X Ly H' C->(∃m,s'.heap.Ns C m)->Q (.ref D) H'->compPost (model X.prog X.w) X.A X.xe use Qv (.ref D) C (.ok .next) s') :
  wpAny (model X.prog X.w) X.A (eval LH X.env) (λxv s₁=>wpAny (model X.prog X.w) X.A (pyIter xv) (λit s₂=>wpAny (model X.prog X.w) X.A (newList []) (λacc s₃ =>
   wpAny (model X.prog X.w) X.A (newFunctionEnv scope X.env.globals cl [] X.env.qual none .none (some X.env)) (λOc s₄ =>
    codeAny (model X.prog X.w) X.A (.compStart (.ListComp elt [⟨.Name x px,LH,ifs,0⟩] scope pos) 0 it acc {Oc with scope:=relabel scope X.env})
     (compPost (model X.prog X.w) X.A X.xe use Qv acc Oc.locals) s₄) X.xe s₃) X.xe s₂) X.xe s₁) X.xe s:=by
 refine LF (hi Ly s σ H _ I h) λv s1 h1=>LF h1 λXD s2 h2=>?_;obtain⟨it,fp,tn,J,H2,e,I2,T,Qq,f2,hW⟩:=h2;subst e;obtain⟨W,⟨m0,w0⟩,turn⟩:=hW s2.heap.objs.size (I2.hok.fresh (c7 _));have NX:∀b∈fp,b<s2.heap.objs.size:=λb hb=>let ⟨_,e,_⟩:=T.obj _ _ Qq b hb;p5 e
 have I3:Inv X Ly σ (upd H2 s2.heap.objs.size (.lst [])) {s2 with heap:=s2.heap.push {cls:=.type "list",data:=.seq ([]:List Value).toArray} }:=
  I2.lnew (t':=s2.toks) (its:=[]) .nil (y7 _)
 refine G4 ?_;have Zm:∀b o,s2.heap.get? b=some o->(s2.heap.push {cls:=.type "list",data:=.seq ([]:List Value).toArray}).get? b=some o:=λb o e=>i8 _ e;have Yw:(s2.heap.push {cls:=.type "list",data:=.seq ([]:List Value).toArray}).objs.size=s2.heap.objs.size+1:=F4 ..;generalize Zx:({s2 with heap:=s2.heap.push {cls:=.type "list",data:=.seq ([]:List Value).toArray} }:Shared)=s3 at I3
 have NU:s3.heap=s2.heap.push {cls:=.type "list",data:=.seq ([]:List Value).toArray}:=by rw[<- Zx]
 have NW:∀b∈fp,b<s3.heap.objs.size:=λb hb=>by rw[NU,Yw];exact Ka (NX b hb)
 have f3:∀b∈fp,jK X Ly (upd H2 s2.heap.objs.size (.lst [])) b:=λb hb=>⟨by rw[aA (A4 (NX b hb))];exact(f2 b hb).1,(f2 b hb).2⟩;refine wpAny_newFunctionEnv LG (by intro y hy;simp at hy) (λh₁ Ur Zw=>?_) hk;have VA:∀b o,s3.heap.get? b=some o->h₁.get? b=some o:=λb o e=>Zw.extBut b o (A4 (p5 e)) (i8 _ e);have I4:=Bm (x:=x) (js:=js) (tk:=s3.toks+([]:List (Str×Value)).length) I3 hk LG LJ LM My f3 NW Ur VA;have UU:tn 0 h₁:=T.keep 0 _ _ Qq λb hb o e=>VA b o (by rw[NU];exact Zm b o e)
 have Mn:∀{H':Hp},(∀b∈fp,H' b=none)->∀b∈fp,jK (bK X scope cl (bZ X x js) s3 (upd H2 s2.heap.objs.size (.lst [])) fp) [] H' b:=λhn b hb =>
  ⟨hn b hb,A4 (NW b hb),λhz=>(j6.mp (I3.stkSub b hz)).elim (f2 b hb).2.1 (f2 b hb).2.2.1,.inl hb,λy c q=>(f2 b hb).2.2.2.2.1 y c (LJ y c q),λp hp=>absurd (show p∈([]:List (Addr×Obj)) from hp) (by simp)⟩
 have back:∀{σ':St}{H':Hp}{s':Shared},Inv (bK X scope cl (bZ X x js) s3 (upd H2 s2.heap.objs.size (.lst [])) fp) [] σ' H' s'->Inv X Ly σ H' s':=λ{σ' H' s'} J' =>
  I3.call' (ch:=fp) J'.os J'.base J'.hok J'.bare λb hb=>⟨(f2 b hb).2.2.2.1,(f2 b hb).2.1,(f2 b hb).2.2.2.2.1,(f2 b hb).2.2.2.2.2⟩
 have loop:codeAny (model X.prog X.w) X.A (.compLoop (.ListComp elt [⟨.Name x px,LH,ifs,0⟩] scope pos) 0 (.ref it) (.ref s2.heap.objs.size) (compEnvC scope cl s3.heap.objs.size X.env))
   (compPost (model X.prog X.w) X.A X.xe use Qv (.ref s2.heap.objs.size) s3.heap.objs.size) {s3 with heap:=h₁,toks:=s3.toks+([]:List (Str×Value)).length}:=by
  refine codeAny_compLoop_tests (λn s'=>∃i o H',Inv (bK X scope cl (bZ X x js) s3 (upd H2 s2.heap.objs.size (.lst [])) fp) [] (o::bR js σ) H' s'/\tn i s'.heap/\(∀b∈fp,H' b=none)/\W i n H') ?_ m0
   ⟨0,none,_,I4,UU,λb hb=>(f3 b hb).1,w0⟩
  rintro n s5 ⟨i,o,H5,I5,OP,Tb,w5⟩
  rcases turn i n H5 w5 with⟨stop,q⟩ | ⟨go,step⟩
  .refine LF (T.done (bK X scope cl (bZ X x js) s3 (upd H2 s2.heap.objs.size (.lst [])) fp) rfl rfl rfl hc i [] s5 _ H5 _ I5 (Mn Tb) OP stop) λr s6 zz=>?_;obtain⟨hr,I6⟩:=zz;subst hr;exact fin _ _ H5 s6 (back I6) (I3.fpOk (c7 _) I6.free) (let ⟨m,hm,_⟩:=I6.loc;⟨m,hm⟩) q
  .refine LF (T.item (bK X scope cl (bZ X x js) s3 (upd H2 s2.heap.objs.size (.lst [])) fp) rfl rfl rfl hc i [] s5 _ H5 _ I5 (Mn Tb) OP go) λr s6 zz=>?_;obtain⟨u,hr,h6⟩:=zz;subst hr;show wpAny _ _ (assign (.Name x px) _ u) _ _ s6;intro Γ p hΓ;have h6':=h6 Γ p hΓ;obtain⟨v,H6,I6,r6,y6,RE,Z6⟩:=h6';refine(?_:wpAny _ _ _ _ _ s6) Γ p hΓ;have I6':=I6.pinned (Mn Z6) (T.obj _ _ RE);have hg:PG (bK X scope cl (bZ X x js) s3 (upd H2 s2.heap.objs.size (.lst [])) fp) (.Name x px) (my 0):=aS (i:=0) MZ rfl (Or.inl hx) (.inr hx);refine F5 (hg _ s6 _ H6 v u (λσ' H'=>σ'=some v::bR js σ/\H'=H6) I6' r6 ⟨rfl,rfl⟩) (λ_ s7 q7=>?_) (λ_ _ f=>False.elim f);obtain⟨σ7,H7,I7,e7,e8⟩:=q7;subst e7 e8;refine F5 (ht s3 _ fp _ s7 _ H7 _ I7 (step v H7 y6)) (λok s8 q8=>?_) (λ_ _ f=>False.elim f);obtain⟨H8,I8,q8⟩:=q8
   have again:∀{s9:Shared}{σ9:St}{H9:Hp}{m':Nat},Inv (bK X scope cl (bZ X x js) s3 (upd H2 s2.heap.objs.size (.lst [])) fp) ([]++sP fp s6.heap) (some v::bR js σ) H9 s9->m'<n->W (i+1) m' H9->
     ∃m,m<n/\∃i o H',Inv (bK X scope cl (bZ X x js) s3 (upd H2 s2.heap.objs.size (.lst [])) fp) [] (o::bR js σ) H' s9/\tn i s9.heap/\(∀b∈fp,H' b=none)/\W i m H':=λ{s9 σ9 H9 m'} I9 hm w9=>by
    refine⟨m',hm,i+1,some v,H9,I9.unpinned,T.keep _ _ _ RE λb hb o e=>(I9.pin (b,o) (p8 _ (p8 _ (gN hb e)))).1,λb hb=>?_,w9⟩;obtain⟨o,e,d⟩:=T.obj _ _ RE b hb;exact(I9.pin (b,o) (p8 _ (p8 _ (gN hb e)))).2.1
   cases ok with
   | false =>
    rw[i5 l9]at q8 ⊢;obtain⟨m',hm,w9⟩:=q8;exact again (σ9:=[]) I8 hm w9
   | true =>
    rw[d8 rfl]at q8 ⊢;refine F5 (he s3 _ fp _ s8 _ H8 _ I8 q8) (λy s9 q9=>?_) (λ_ _ f=>False.elim f);obtain⟨yv,H9,I9,r9,ys,hD,hl,m',hm,w9⟩:=q9;refine F5 (bj (X:=bK X scope cl (bZ X x js) s3 (upd H2 s2.heap.objs.size (.lst [])) fp) _ s9 _ H9 (.ref s2.heap.objs.size) [yv] (.ref s2.heap.objs.size) [y] (λ_ H'=>H'=upd H9 s2.heap.objs.size (.lst (ys++[yv]))) I9 rfl (.cons r9 .nil) ⟨_,ys,yv,rfl,rfl,hD,hl,rfl⟩) (λ_ Om YV=>?_) (λ_ _ f=>False.elim f);obtain⟨_,Rj,W6,_,Wz⟩:=YV;subst Wz;exact again (σ9:=[]) W6 hm w9
 exact codeAny_compStart_list loop (T.self _ 0 _ _ _ UU loop)
theorem O9(hc:X.calm=true)(hi:PI X (.Name x px) LH wi)(hk:scope.kind=.function)(LG:∀y∈scope.names,y.2≠.cell)(LK:∀y∈scope.names,y.2=.local->scope.names.lookup y.1=some .local)(hx:(relabel scope X.env).names.lookup x=some .local)
  (MT:closureFor scope X.env=pure cl)(LJ:∀y c,cl.lookup y=some c->X.env.cells.lookup y=some c)(LM:∀y,(y,NameKind.free)∈scope.names->∃c,cl.lookup y=some c)(My:gv X scope js)(MZ:(bZ X x js).Nodup)
  (ht:∀s' H' fp,T5 (bK X scope cl (bZ X x js) s' H' fp) ifs tc)(he:∀s' H' fp,PE (bK X scope cl (bZ X x js) s' H' fp) elt te)
  (hs:∀x,foldedSetIterable LH X.env x=pure x:=by intro _;rfl):PE X (.ListComp elt [⟨.Name x px,LH,ifs,0⟩] scope pos) (iW wi tc te js):=by
 intro Ly s σ H Q I h;rw[eval_ListComp];refine JC (use:=none) rfl hs MT hk LK (vH hc hi hk LG hx LJ LM My MZ ht he I h λD C H' s' I' fC hC q=>?_);obtain⟨m,hm⟩:=hC;refine⟨m,hm,λh' sb=>?_⟩;obtain⟨f0,f1,f2,f3,f4,f5⟩:=fC;exact⟨.ref D,H',I'.turned (t':=s'.toks) (λb o hb e=>(sb.2 b hb).trans e) f0 f1 f3 f4 f5,rfl,q⟩
def nO(i:Nat)(te:TE):TS:=λD σ H=>te σ H λv H1=>D.nx (σ.set i (some v)) H1
theorem O1(hN:X.N.Nodup)(hy:X.N[i]?=some y)(VI:Loc X.env.scope y)(VJ:X.fn y=true\/X.env.scope.names.lookup y=some .local)
  (VN:swapsWith (.ListComp elt [⟨.Name x px,LH,ifs,0⟩] scope pos) (some (.Name y py)) Nt.line X.env=pure true)
  (hc:X.calm=true)(hi:PI X (.Name x px) LH wi)(hk:scope.kind=.function)(LG:∀y∈scope.names,y.2≠.cell)(LK:∀y∈scope.names,y.2=.local->scope.names.lookup y.1=some .local)(hx:(relabel scope X.env).names.lookup x=some .local)
  (MT:closureFor scope X.env=pure cl)(LJ:∀y c,cl.lookup y=some c->X.env.cells.lookup y=some c)(LM:∀y,(y,NameKind.free)∈scope.names->∃c,cl.lookup y=some c)(My:gv X scope js)(MZ:(bZ X x js).Nodup)
  (ht:∀s' H' fp,T5 (bK X scope cl (bZ X x js) s' H' fp) ifs tc)(he:∀s' H' fp,PE (bK X scope cl (bZ X x js) s' H' fp) elt te)
  (hs:∀x,foldedSetIterable LH X.env x=pure x:=by intro _;rfl) :
  PS X (.Assign [.Name y py] (.ListComp elt [⟨.Name x px,LH,ifs,0⟩] scope pos) Nt) (nO i (iW wi tc te js)):=by
 intro Ly s σ H D I h;rw[exec_Assign_Name_used _ _ _ _ VN];refine c5 (wpAny_standAt (c5 ?_));show wpAny _ _ (do let _ <- comprehension (.ListComp elt [⟨.Name x px,LH,ifs,0⟩] scope pos) scope X.env _ (newList []) false (eval LH X.env) (some (assign (.Name y py) X.env))) _ _ s
 refine c5 (F5 (JC (use:=some (assign (.Name y py) X.env)) (Q:=λ_ s'=>SP X Ly D .next s') rfl hs MT hk LK
  (vH hc hi hk LG hx LJ LM My MZ ht he I h λD' C H' s' I' fC hC q=>?_)) (λ_ s' hq=>x4 (x4 hq)) λ_ _ e=>e)
 obtain⟨m,o,es,ep,ho,hd,hr⟩:=hC;obtain⟨f0,f1,f2,f3,f4,f5⟩:=fC
 have Ip:Inv X (Ly++[(C,o)]) σ H' s':=I'.pins_of λp hp=>(j9.mp hp).elim (λz=>I'.pin p (p8 _ z)) λz=>by
  have e:p=(C,o):=by simpa using z
  subst e;exact⟨ho,f0,f1,f2,λv z=>by rw[hd]at z;cases z⟩
 have hg:PG X (.Name y py) (my i):=aS hN hy VI VJ;refine LF (hg _ s' σ H' (.ref D') (.ref D') (λσ' LD=>σ'=σ.set i (some (.ref D'))/\LD=H') Ip rfl ⟨rfl,rfl⟩) λ_ NP YW=>?_;obtain⟨σ'',LD,W7,e1,e2⟩:=YW;subst e1 e2;have hp:=(W7.pin (C,o) (by simp)).1;refine⟨m,⟨o,es,ep,hp,hd,hr⟩,λh' sb=>?_⟩;exact⟨_,_,(W7.unpinned).turned (t':=NP.toks) (λb o hb e=>(sb.2 b hb).trans e) f0 f1 f3 f4 f5,q⟩
end
structure aC(K:W.Frag)(mg:Str->Option Value)(x:Str)(st:Stmt):Prop where
 ex:∃(f:Addr)(fd:FuncData),OE K x x st f fd/\mg x=some (.ref f)
theorem aU{K:W.Frag}{oc kV doc pm cdv ct:Value}(X:K.In h)(G:h.Ns mainGlobals mg)
  (a:PySem.W.nsIn K mainGlobals x=some (some (.ref f)))
  (l:K.lookup f=some ⟨oc,od,.func (PySem.W.fnOf x x (gi st) (bI st) (au st) .none kV doc pm an cdv ct),osl⟩)
  (c:PySem.W.codeIn K cdv x=true)(k:PySem.W.keepIn K (.ref f)=true):aC K mg x st:=
 ⟨_,_,Iy l c k,Lb X G a⟩
structure Def(P:Program)(w:World)(K:W.Frag)(mg:Str->Option Value)(base:Heap)(n:Nat)(x:Str)(ps:List Str)(sp:Sp):Prop where
 ex:∃(f:Addr)(fd:FuncData),oM P w K mg base CX0 n f fd ps sp/\Binds K fd ps []/\PySem.W.keepIn K (.ref f)=true/\mg x=some (.ref f)
variable{P:Program}{w:World}{K:W.Frag}{mg:Str->Option Value}{base:Heap}
theorem aQ{k:Nat}(T:aC K mg x st)(S:aD N ps (au st))(len:∀vs H Q E,sp vs H Q E->vs.length=ps.length)(body:∀f cdv A outer s H vs Q E,dY k (A.deeper (envOfC x (au st) s.heap.objs.size f cdv))->sp vs H Q E->
   ∃t,LV (cN CX0 P w K mg base N x (au st) f cdv A outer s H E).nox (bI st) t/\t {nx:=λ_ H'=>Q .non H',rt:=Q} (start N vs) H)
  (bd:∀kV doc pm an cdv ct us,us.length=ps.length->bindArgs (PySem.W.fnOf x x (gi st) (bI st) (au st) .none kV doc pm an cdv ct) ⟨us,[]⟩=pure (ps.zip us):=by walk_at "ar") :
  Def P w K mg base (k+1) x ps sp:=by
 obtain⟨f,fd,F,m⟩:=T.ex;exact⟨f,fd,F.ok S len (body f),F.binds bd,F.kp,m⟩
section
variable{X:Cx}{n:Nat}{x:Str}{ps:List Str}{sp:Sp}{e a b:Expr}{es:List Expr}{t:TA}{ta tb:TE}{p pos:Pos}
theorem aH(D:Def X.prog X.w X.K X.mg X.base n x ps sp)(ha:PA X (e::es) t)(hr:dY n X.A:=by walk_at "rm")(hg:Gl X x:=by rfl)(hdb:(x==("__debug__":Str))=false:=by decide)(he:starEach (e::es) X.env=(false,eval e X.env)::starEach es X.env:=by rfl)(hpl:(backTo pos (starEach es X.env)).any (·.1)=false:=by rfl) :
  PE X (.Call (.Name x p) (e::es) [] pos) (rn sp [] E0 t):=by
 obtain⟨f,fd,F,b,kp,m⟩:=D.ex;exact wN F hr hg m kp b .nil yD ha hdb he hpl
theorem bu:LQ X (binaryOp .Mult) (rI IntMulOk λi j=>.int (i*j)):=Ui λ_ _ _ _ _ _ _ hc q=>PyProof.Rows.mul_int q hc
def Rk(_ j:Int):Prop:=j≠0/\j.natAbs.log2<9000
theorem hV:LQ X (binaryOp .FloorDiv) (rI Rk λi j=>.int (i.fdiv j)):=Ui λ_ _ _ _ _ _ _ hc q=>PyProof.Rows.floordiv_int hc.1 q (.inl (PyProof.noPylong_of_log2 hc.2))
theorem lF:gy X (.builtin "isinstance") (λxs H Q=>∃y c cv t k,xs=[y,c]/\(∀u,RelV c u->u=cv)/\ko X.K H y t/\PySem.W.kitOne X.K t cv=some k/\Q (.bl k) H):=by
 intro Ly s σ H xs us Q I r h;obtain⟨y,c,cv,t,k,rfl,hc,ty,kt,q⟩:=h;obtain⟨u,w',rfl,r1,r2⟩:=vals2 r;have e:=hc _ r2;subst e;exact EE I r1 ty kt λtk=>⟨.bl k,H,I.tok tk,rfl,q⟩
end
open PySem.Calls PySem.W PySem.Builtin.Getset_descriptor
section
variable{prog:Program}{w:World}{A:Around}{E:Value->Shared->Prop}{s:Shared}{K:Frag}{x D:Addr}
end
section
variable{P:Program}{w:World}{H:Hp}{h:Heap}{a:Addr}{o:HO}
theorem cP.there(x:cP P w H h a o):∃ob,h.get? a=some ob:=by
 cases o with
 | lst xs=>obtain⟨_,_,_,_,e⟩:=x;exact⟨_,e⟩
 | tup xs=>obtain⟨_,_,_,⟨_,e,_⟩⟩:=x;exact⟨_,e⟩
 | dK LB=>obtain⟨_,_,_,_,o,_,_,e,_⟩:=x;exact⟨_,e⟩
 | dT LB=>obtain⟨_,_,_,_,o,_,_,e,_⟩:=x;exact⟨_,e⟩
 | set S n=>obtain⟨o,_,_,_,e,_⟩:=x;exact⟨_,e⟩
 | ins C dx fs=>obtain⟨_,_,_,e,_⟩:=x;exact⟨_,e⟩
 | own y=>exact x
 | xd fs=>obtain⟨_,⟨_,_,_,e,_⟩,_⟩:=x;exact⟨_,e⟩
 | rng lo hi=>obtain⟨_,_,_,e⟩:=x;exact⟨_,e⟩
 | frz ob u=>obtain⟨e,_⟩:=x;exact⟨_,e⟩
 | tbl ps=>exact⟨_,(show h.get? a=some _ from x)⟩
 | met f y=>exact⟨_,(show h.get? a=some _ from x)⟩
 | ext φ=>obtain⟨_,e,_⟩:=x;exact e
end
def W9(P:Program)(w:World)(outer:List Env)(H:Hp)(s:Shared)(ea:Addr)(C:Value)(H':Hp)(s':Shared):Prop:=∃t B,
 s'.os=s.os/\AllBare s'.gens/\Un (L9 outer) [] H H' s.heap s'.heap/\LS P w H' s'.heap/\Heap.FlyingW B outer ea C (.ref t) s'.heap/\H' ea=none/\s.heap.get? ea=none/\
 ∀b o,s'.heap.get? b=some o->b ∉ L9 outer->((∃u,H' b=some u)\/∃o',s.heap.get? b=some o')->B.get? b=some o
def Mw(P:Program)(w:World):NL:=λouter H s E e s'=>∃ea C H',e=.ref ea/\W9 P w outer H s ea C H' s'/\E C none H'
theorem Vl:Passes (Mw P w) X E0:=λ_ _ _ _ _ _ _ ⟨_,_,_,_,_,h⟩=>h.elim
section
variable{P:Program}{w:World}{K:W.Frag}{mg:Str->Option Value}{base:Heap}{N:List Str}{qual:Str}{scope:Scope}{f:Addr}{cd:Value}{A:Around}{outer:List Env}{s:Shared}{H:Hp}{E:XK}
theorem wF(I:Inv (cN (Mw P w) P w K mg base N qual scope f cd A outer s H E) Ly σ H1 s₂)
  (hx:Heap.MadeExcOf s₂.heap h' ea (.ref C) vs)(q:E (.ref C) none H1):(cN (Mw P w) P w K mg base N qual scope f cd A outer s H E).xe (.ref ea) {s₂ with heap:=h' }:=by
 have hin:∀en∈(envOfC qual scope s.heap.objs.size f cd::outer),∀b,en.frame=some b->b∈L9 (envOfC qual scope s.heap.objs.size f cd::outer):=λen he b hb=>KC.mpr ⟨en,he,hb⟩;show wpAny (model P w) (A.deeper (envOfC qual scope s.heap.objs.size f cd)) (leaving (envOfC qual scope s.heap.objs.size f cd) (.ref ea)) _ _ _;refine wpAny_leaves_madeW (base:=PySem.W.hideAll s₂.heap (L9 (envOfC qual scope s.heap.objs.size f cd::outer))) (h:=s₂.heap) I.ok.frames rfl (λb o z=>PySem.W.of_hideAll _ z) (PySem.W.funFrames_hide I.stack hin) hx λh'' t fl _ _ up=>?_;have Nj:∀b o,s₂.heap.get? b=some o->b ∉ L9 (envOfC qual scope s.heap.objs.size f cd::outer)->h''.get? b=some o:=λb o e n=>fl.1 b o (Ku _ e n)
 have Se:∀b o,s.heap.get? b=some o->b ∉ L9 outer->b ∉ L9 (envOfC qual scope s.heap.objs.size f cd::outer):=λb o e n z =>
  (j6.mp (I.stkSub b z)).elim (λz=>absurd (i7 (p5 e) I.ok.above) (by rw[z];exact B9 _)) n
 have Qm:∀b u,H1 b=some u->b ∉ L9 (envOfC qual scope s.heap.objs.size f cd::outer):=λb u e z=>by
  have:=I.stkFree b z;rw[e]at this;cases this
 have Y6:∀b,s₂.heap.get? b=none->H1 b=none:=λb e=>by
  cases z:H1 b with
  | none=>rfl
  | some u=>obtain⟨ob,e2⟩:=(I.hok b u z).there;rw[e]at e2;cases e2
 have Mc:∀b o,s.heap.get? b=some o->∃o',s₂.heap.get? b=some o':=λb o e=>I.base.there b o e (λz=>nomatch z);refine⟨ea,.ref C,H1,rfl,⟨t,_,I.os,I.bare,⟨?_,?_,λb o e n z=>I.base.free b o e n z,?_,I.base.tups,I.base.frzs,I.base.tbls⟩,?_,fl,Y6 _ hx.new,?_,?_⟩,q⟩
 .exact λb o e n hb z=>Nj b o (I.base.keep b o e n hb z) (Se b o e hb)
 .intro b o e n hb z;obtain⟨sl,e1⟩:=I.base.slot b o e n hb z;obtain⟨_,o',e2,nf⟩:=I.ok.funs.mem hb;have e3:some o'=some o:=e2.symm.trans e;cases e3
  obtain⟨Uh,e4⟩:=up b _ (hx.keeps b _ e1) nf;exact⟨Uh,e4⟩
 .intro b o e z
  by_cases hb:b∈L9 outer
  .obtain⟨sl,e1⟩:=I.base.slot b o e (I.ok.frf b hb) hb z;obtain⟨_,o',e2,nf⟩:=I.ok.funs.mem hb;have e3:some o'=some o:=e2.symm.trans e;cases e3
   obtain⟨Uh,e4⟩:=up b _ (hx.keeps b _ e1) nf;exact⟨_,e4⟩
  .obtain⟨o',e1⟩:=Mc b o e;exact⟨o',Nj b o' e1 (Se b o e hb)⟩
 .intro b u e;exact(I.hok b u e).stay (λc v hc e'=>Nj c v e' (hc.elim (λz=>by subst z;exact Qm _ _ e) λz=>Qm _ _ z)) (λ_ z=>z) λ_ _ z=>z
 .cases z:s.heap.get? ea with
  | none=>rfl
  | some o=>obtain⟨o',e⟩:=Mc ea o z;rw[hx.new]at e;cases e
 .intro b o e n hb
  have key:∃o2,s₂.heap.get? b=some o2/\b ∉ L9 (envOfC qual scope s.heap.objs.size f cd::outer):=by
   rcases hb with⟨u,hu⟩ | ⟨o',ho⟩
   .obtain⟨ob,e2⟩:=(I.hok b u hu).there;exact⟨ob,e2,Qm b u hu⟩
   .obtain⟨o2,e2⟩:=Mc b o' ho;exact⟨o2,e2,Se b o' ho n⟩
  obtain⟨o2,e2,n2⟩:=key;have e3:=Nj b o2 e2 n2;rw[e]at e3;cases e3
  exact Ku _ e2 n2
end
abbrev bmV:List Value:=[.type "ValueError",.type "Exception",.type "BaseException",.type "object"]
theorem PM{K:Frag}(X:K.In h)(q:excIn K C bmB newId=true) :
  ∃bm N nm qn bs hd sn sub ab col dd k0 k1 k2 k3 k5 mN,h.get? C=some (excClassObj nm qn C N bs bm hd sn sub ab col dd k0 k1 k2 k3 k5 newId)/\h.Ns N mN/\mN "__init__"=none/\OwnTail h bmB bm:=by
 unfold excIn at q;split at q
 .rename_i d0 c0 sl0 lk;split at q
  .rename_i C1 bm1 j0 j1 j2 j3 n1 j5 em es;simp only[Bool.not_eq_true',JB,B6]at q;obtain⟨⟨⟨⟨⟨e1,e2⟩,QG⟩,tl⟩,ok⟩,ni⟩:=q;subst e1 e2;obtain⟨nm1,bs1,mro1,ns1,qn1,MC,sn1,sub1,ab1,col1,del1⟩:=c0;dsimp only at em QG ok ni;subst em QG
   have esl:sl0=#[j0,j1,j2,j3,some (.builtin n1),j5]:=by
    obtain⟨l0⟩:=sl0;simp only at es;rw[es]
   subst esl;exact⟨_,_,_,_,_,_,_,_,_,_,_,_,_,_,_,_,_,X _ _ lk,.of_isNs (isNs_of_in X ok),nsMap_none_of_in X ok ni,tail_of_in X tl⟩
  .cases q
 .cases q
def Rv(C:Addr)(E:XK)(ta:TA):TS:=λ_ σ H=>ta σ H λvs H1=>vs.length<=sizeLine/\E (.ref C) none H1
section
variable{P:Program}{w:World}{K:Frag}{mg:Str->Option Value}{base:Heap}{N:List Str}{qual:Str}{scope:Scope}{f:Addr}{cd:Value}{A:Around}{outer:List Env}{s:Shared}{H:Hp}{E:XK}
theorem GQ{C:Addr}{np LP:Pos}(hg:Gl (cN (Mw P w) P w K mg base N qual scope f cd A outer s H E) x)(hm:mg x=some (.ref C))(q:excIn K C bmV "ValueError.__new__"=true)
  (ha:PA (cN (Mw P w) P w K mg base N qual scope f cd A outer s H E) (e₀::es) ta)(hdb:(x==("__debug__":Str))=false:=by decide)
  (he:starEach (e₀::es) (envOfC qual scope s.heap.objs.size f cd)=(false,eval e₀ (envOfC qual scope s.heap.objs.size f cd))::starEach es (envOfC qual scope s.heap.objs.size f cd):=by rfl)
  (hpl:(backTo LP (starEach (e₀::es) (envOfC qual scope s.heap.objs.size f cd))).any (·.1)=false:=by rfl) :
  PS (cN (Mw P w) P w K mg base N qual scope f cd A outer s H E) (.Raise (some (.Call (.Name x np) (e₀::es) [] LP)) none pos) (Rv C E ta):=by
 intro Ly s₁ σ H1 D I h;obtain⟨bm,N1,nm,qn,bs,hd,sn,sub,ab,col,dd,k0,k1,k2,k3,k5,mN,gC,nN,ni,T⟩:=PM I.mod.kin q
 refine wpAny_Raise_call_subT (C:=C) (nm:=nm) (q:=qn) (N:=N1) (bs:=bs) (bm:=bm) (hdct:=hd) (sn:=sn) (sub:=sub) (ab:=ab) (col:=col) (dd:=dd) (k0:=k0) (k1:=k1) (k2:=k2) (k3:=k3) (k5:=k5) F.excBase_ValueError (mN:=mN)
  (T.hasType F.excBase_ValueError.hasBase) (I.ok.hd rfl) hpl ni (lS I hg hm ⟨rfl,?_⟩ hdb)
 have hA:=ha LP Ly s₁ σ H1 _ I h;have he':starEach (e₀::es) (cN (Mw P w) P w K mg base N qual scope f cd A outer s H E).env=(false,eval e₀ (cN (Mw P w) P w K mg base N qual scope f cd A outer s H E).env)::starEach es (cN (Mw P w) P w K mg base N qual scope f cd A outer s H E).env:=he;rw[he']at hA ⊢;refine Calls.evalArgs_plain (LF hA λus s₂ z=>?_);obtain⟨vs,H2,I2,r,z,q2⟩:=z;exact⟨rfl,by rw[<- r.length];exact z,I2.bk _ _ gC,nN.keeps I2.bk,T.keeps I2.bk,λh' e hx=>wF I2 hx q2⟩
end
structure xE(P:Program)(w:World)(K:Frag)(mg:Str->Option Value)(base:Heap)(n:Nat)(x:Str)(ps:List Str)(sp:Sp):Prop where
 ex:∃(f:Addr)(fd:FuncData),oM P w K mg base (Mw P w) n f fd ps sp/\Binds K fd ps []/\keepIn K (.ref f)=true/\mg x=some (.ref f)
theorem Dh{K:Frag}{k:Nat}(T:aC K mg x st)(S:aD N ps (au st))(len:∀vs H Q E,sp vs H Q E->vs.length=ps.length)(body:∀f cdv A outer s H vs Q E,dY k (A.deeper (envOfC x (au st) s.heap.objs.size f cdv))->sp vs H Q E->
   ∃t,LV (cN (Mw P w) P w K mg base N x (au st) f cdv A outer s H E) (bI st) t/\t {nx:=λ_ H'=>Q .non H',rt:=Q} (start N vs) H)
  (bd:∀kV doc pm an cdv ct us,us.length=ps.length->bindArgs (fnOf x x (gi st) (bI st) (au st) .none kV doc pm an cdv ct) ⟨us,[]⟩=pure (ps.zip us):=by walk_at "ar") :
  xE P w K mg base (k+1) x ps sp:=by
 obtain⟨f,fd,F,m⟩:=T.ex;obtain⟨oc,od,kV,doc,pm,an,cdv,ct,osl,rfl,lk,hcd⟩:=id F.ex;exact⟨f,_,QU lk hcd S len λA outer s H vs Q E hr h=>body f cdv A outer s H vs Q E hr h,F.binds bd,F.kp,m⟩
theorem wM(D:xE X.prog X.w X.K X.mg X.base n x ps sp)(hr:dY n X.A)(hg:Gl X x)(ha:PA X (e::es) t)
  (hdb:(x==("__debug__":Str))=false:=by decide)(he:starEach (e::es) X.env=(false,eval e X.env)::starEach es X.env:=by rfl)(hpl:(backTo pos (starEach es X.env)).any (·.1)=false:=by rfl) :
  PE X (.Call (.Name x p) (e::es) [] pos) (rn sp [] E0 t):=by
 obtain⟨f,fd,F,b,kp,m⟩:=D.ex;exact wN F hr hg m kp b .nil Vl ha hdb he hpl
structure zT(K:Frag)(D:Addr):Prop where
 cl:∃cd,clsIn K D=some cd
 ty:typeIn K (.ref D)=some (.type "type")
 hb:mroIn K D (.type "BaseException")=some true
section
variable{X:Cx}{Ly:List (Addr×Obj)}{σ:St}{H H':Hp}{s s':Shared}
theorem Inv.caught{ea:Addr}{C:Value}(I:Inv X Ly σ H s){t:Addr}{tk:Nat}(ho:s'.os=s.os)(hg:AllBare s'.gens)(un:Un (L9 X.stack) [] H H' s.heap s'.heap)(hok:LS X.prog X.w H' s'.heap)
  (Ux:∀b o,s'.heap.get? b=some o->b ∉ L9 X.stack->((∃u,H' b=some u)\/∃o',s.heap.get? b=some o')->B.get? b=some o)(st:B.StaysIn h6)(up:s'.heap.UpToSlots h6):Inv X Ly σ H' {s' with heap:=h6,toks:=tk}:=by
 have fr:=I.stack
 have frf:∀b u,H' b=some u->b ∉ L9 X.stack:=λb u e z=>by
  obtain⟨_,o,e2,_⟩:=fr.mem z;have q:=un.free b o e2 (I.stkFree b z) (by simp);rw[e]at q;cases q
 have Qt:∀b o,s.heap.get? b=some o->b∈L9 X.stack->∃sl,h6.get? b=some {o with slots:=sl}:=λb o e hb=>by
  obtain⟨_,o',e2,nf⟩:=fr.mem hb;have e3:some o'=some o:=e2.symm.trans e;cases e3
  obtain⟨sl,e4⟩:=un.slot b _ e (I.stkFree b hb) hb (by simp);obtain⟨Uh,e5⟩:=up b _ e4 nf;exact⟨Uh,e5⟩
 have u6:Un (L9 X.stack) [] H H' s.heap h6:=by
  refine⟨λb o e n hb hx=>st b o (Ux b o (un.keep b o e n hb hx) hb (.inr ⟨o,e⟩)),λb o e n hb hx=>Qt b o e hb,un.free,λb o e hx=>?_,un.tups,un.frzs,un.tbls⟩
  by_cases hb:b∈L9 X.stack
  .obtain⟨sl,z⟩:=Qt b o e hb;exact⟨_,z⟩
  .obtain⟨o',z⟩:=un.there b o e hx;exact⟨o',st b o' (Ux b o' z hb (.inr ⟨o,e⟩))⟩
 have k6:LS X.prog X.w H' h6:=λb u e=>(hok b u e).stay (λc z hc q=>by
  have tr:∃v,H' c=some v:=hc.elim (λk=>⟨u,by rw[k];exact e⟩) λk=>⟨_,k⟩;obtain⟨v,hv⟩:=tr;exact st c z (Ux c z q (frf c v hv) (.inl ⟨v,hv⟩))) (λ_ z=>z) λ_ _ z=>z
 exact I.call' (s':={s' with heap:=h6,toks:=tk}) (ch:=[]) ho u6 k6 hg λb hb=>nomatch hb
end
section
variable{X:Cx}
theorem xr:∀(names:List (Str×NameKind))(acc:List (Str×Addr)),(∀y,(y,NameKind.free)∈names->∃c,env.cells.lookup y=some c)->
  ∃ cl:List (Str×Addr),(forIn names acc (λx r=>match x with
    | (name,kind)=>if(kind==NameKind.free)=true then do let a <- cellOf env name;pure (ForInStep.yield ((name,a)::r)) else pure (ForInStep.yield r)):Sem _)=pure cl/\
   (∀y c,cl.lookup y=some c->acc.lookup y=some c\/env.cells.lookup y=some c)/\(∀y,(y,NameKind.free)∈names->∃c,cl.lookup y=some c)/\∀y,(∃c,acc.lookup y=some c)->∃c,cl.lookup y=some c
 | [],acc,_=>⟨acc,rfl,λ_ _ h=>.inl h,(λ_ h=>nomatch h),λ_ h=>h⟩
 | (nm,kd)::r,acc,h=>by
  by_cases hk:kd=.free
  .subst hk;obtain⟨c,hc⟩:=h nm x8;obtain⟨cl,e,p1,p2,p3⟩:=xr r ((nm,c)::acc) λy hy=>h y (y8 _ hy);refine⟨cl,?_,λy d hd=>?_,λy hy=>?_,λy hy=>?_⟩
   .rw[Kr];have z:cellOf env nm=pure c:=by unfold cellOf;rw[hc]
    simp only[z,F7,Lj];exact e
   .rcases p1 y d hd with q | q
    .rw[E4]at q;cases hy:y==nm with
     | true =>
      rw[hy]at q;have e1:=JB.mp hy;subst e1;cases q
      exact .inr hc
     | false=>rw[hy]at q;exact .inl q
    .exact .inr q
   .rcases j6.mp hy with q | q
    .cases q
     exact p3 nm ⟨c,by rw[E4,F7]⟩
    .exact p2 y q
   .obtain⟨d,hd⟩:=hy;refine p3 y ?_;rw[E4];cases y==nm with
    | true=>exact⟨c,rfl⟩
    | false=>exact⟨d,hd⟩
  .obtain⟨cl,e,p1,p2,p3⟩:=xr r acc λy hy=>h y (y8 _ hy);refine⟨cl,?_,p1,λy hy=>?_,p3⟩
   .rw[Kr];have z:(kd==NameKind.free)=false:=by simpa using hk
    simp only[z,Bool.false_eq_true,if_false];exact e
   .rcases j6.mp hy with q | q
    .cases q;exact absurd rfl hk
    .exact p2 y q
theorem xq{env:Env}(h:∀y,(y,NameKind.free)∈scope.names->∃c,env.cells.lookup y=some c) :
  ∃cl,closureFor scope env=pure cl/\(∀y c,cl.lookup y=some c->env.cells.lookup y=some c)/\∀y,(y,NameKind.free)∈scope.names->∃c,cl.lookup y=some c:=by
 obtain⟨cl,e,p1,p2,_⟩:=xr (env:=env) scope.names [] h;refine⟨cl,?_,λy c hc=>(p1 y c hc).elim (λz=>by cases z) λz=>z,p2⟩;unfold closureFor;show(forIn scope.names [] _ >>= λs=>pure s)=pure cl;rw[bind_pure];exact e
theorem qW{js:List Nat}(I:Inv X Ly σ H s)(hf:∀y,(y,NameKind.free)∈scope.names->X.env.kindOf y=some .cell\/X.env.kindOf y=some .free) :
  ∀y,(y,NameKind.free)∈scope.names->∃c,X.env.cells.lookup y=some c:=λy hy=>I.ok.has y (hf y hy)
variable{elt LH:Expr}{x:Str}{px pos:Pos}{ifs:List Expr}{scope:Scope}{wi:TI}{tc:TT}{te:TE}{js:List Nat}
theorem dQ(hi:PI X (.Name x px) LH wi)(My:gv X scope js)(ht:∀cl s' H' fp,T5 (bK X scope cl (bZ X x js) s' H' fp) ifs tc)(he:∀cl s' H' fp,PE (bK X scope cl (bZ X x js) s' H' fp) elt te)(hc:X.calm=true:=by rfl)(hk:scope.kind=.function:=by rfl)(LG:∀y∈scope.names,y.2≠.cell:=by decide+kernel)(LK:∀y∈scope.names,y.2=.local->scope.names.lookup y.1=some .local:=by decide+kernel)(hx:(relabel scope X.env).names.lookup x=some .local:=by rfl)(hf:∀p∈scope.names,p.2=.free->X.env.kindOf p.1=some .cell\/X.env.kindOf p.1=some .free:=by walk_at "kr")(MZ:(bZ X x js).Nodup:=by walk_at "kr")(hs:∀x,foldedSetIterable LH X.env x=pure x:=by intro _;rfl):PE X (.ListComp elt [⟨.Name x px,LH,ifs,0⟩] scope pos) (iW wi tc te js):=by
 intro Ly s σ H Q I h;obtain⟨cl,e,p1,p2⟩:=xq (qW (js:=js) I λy hy=>hf (y,.free) hy rfl);exact O9 hc hi hk LG LK hx e p1 p2 My MZ (ht cl) (he cl) hs Ly s σ H Q I h
theorem jX{py Nt:Pos}(hi:PI X (.Name x px) LH wi)(My:gv X scope js)(ht:∀cl s' H' fp,T5 (bK X scope cl (bZ X x js) s' H' fp) ifs tc)(he:∀cl s' H' fp,PE (bK X scope cl (bZ X x js) s' H' fp) elt te)(hN:X.N.Nodup:=by assumption)(hy:X.N[i]?=some y:=by rfl)(VI:Loc X.env.scope y:=by walk_at "oi")(VJ:X.fn y=true\/X.env.scope.names.lookup y=some .local:=by walk_at "oi")(VN:swapsWith (.ListComp elt [⟨.Name x px,LH,ifs,0⟩] scope pos) (some (.Name y py)) Nt.line X.env=pure true:=by rfl)(hc:X.calm=true:=by rfl)(hk:scope.kind=.function:=by rfl)(LG:∀y∈scope.names,y.2≠.cell:=by decide+kernel)(LK:∀y∈scope.names,y.2=.local->scope.names.lookup y.1=some .local:=by decide+kernel)(hx:(relabel scope X.env).names.lookup x=some .local:=by rfl)(hf:∀p∈scope.names,p.2=.free->X.env.kindOf p.1=some .cell\/X.env.kindOf p.1=some .free:=by walk_at "kr")(MZ:(bZ X x js).Nodup:=by walk_at "kr")(hs:∀x,foldedSetIterable LH X.env x=pure x:=by intro _;rfl) :
  PS X (.Assign [.Name y py] (.ListComp elt [⟨.Name x px,LH,ifs,0⟩] scope pos) Nt) (nO i (iW wi tc te js)):=by
 intro Ly s σ H D I h;obtain⟨cl,e,p1,p2⟩:=xq (qW (js:=js) I λy hy=>hf (y,.free) hy rfl);exact O1 hN hy VI VJ VN hc hi hk LG LK hx e p1 p2 My MZ (ht cl) (he cl) hs Ly s σ H D I h
end
theorem rf:∀{ns:List Int}{n:Int},n∈ns->WData.weight (.int n)<=WData.weightAll (ns.map WData.int)
 | [],_,h=>nomatch h
 | m::r,n,h=>by
  show _<=WData.weight (.int m)+1+WData.weightAll (r.map WData.int);rcases j6.mp h with e | e
  .subst e;omega
  .have:=rf (ns:=r) e;omega
theorem zB(n:Int):Builtin.Int.intBits n=WData.weight (.int n):=by
 show _=if n==0 then 0 else n.natAbs.log2+1
 unfold Builtin.Int.intBits
 by_cases h:n=0
 .subst h;rfl
 .simp[h]
theorem xZ(h:WData.layableAll [.list (ns.map .int)]=true):∀n∈ns,Builtin.Int.intBits n<=1048576:=λn hn=>by
 have h1:WData.layable (.list (ns.map .int))=true:=by
  simpa [WData.layableAll] using h
 have h2:WData.weight (.list (ns.map .int))<=2^20:=by
  unfold WData.layable at h1;rw[B6,B6]at h1;exact i9 h1.2
 have h3:WData.weightAll (ns.map WData.int)<=2^20:=h2;have h4:=rf hn;rw[zB];omega
theorem Du{l:OpenLaw}{k:Nat}{K:Params->Frag}{sp:Frag->Sp}
  (hn:l.most=some n)(XJ:n<=sizeLine)(hdf:d.params.defaults=[])(hr:dY k callerA)(hY:∀(w:World)(h:Heap),YP w h->(K w.params).In h)
  (F:∀(w:World)(mg:Str->Option Value)(fa:Addr)(h:Heap),(K w.params).In h->h.Ns mainGlobals mg->mg d.name=some (.ref fa)->
   ∃fd:FuncData,(∀(s:Shared)(u:Value),BindsTo s fd ⟨[u],[]⟩ [(x,u)])/\∀base:Heap,(K w.params).In base->base.Ns mainGlobals mg->oM l.prog w (K w.params) mg base CX k fa fd [x] (sp (K w.params)))
  (QM:∀(K:Frag)(H:Hp)(a:Addr)(ns:List Int),ns.length<=n->(∀m∈ns,Builtin.Int.intBits m<=1048576)->Qb H->LA K H a (ns.map V.int)->sp K [.ref a] H (λv _=>v=.bl true) λ_ _ _=>False)
  (ZW:∀(H:Hp)(s:Shared)(e:Value)(s':Shared),CX [] H s (λ_ _ _=>False) e s'->False):WalkO q loose XP YP l.row.toRowW d [] (λf vs=>PySem.call f vs):=by
 intro w s₀ s₁ mg mb G Y fa o pm cd doc dV kV ho hd hcd hD ZJ hg args LW as Pz ZM hrd Zr L7;obtain rfl:dV=.none:=Dflts.none hD hdf;obtain rfl:kV=.none:=Dflts.noKw hD;obtain⟨a,vs,ns,rfl,rfl,ZH,hints,hlen⟩:=Att.DJ hn Pz Zr;have KX:=hY w _ Y;obtain⟨fd,hb,hF⟩:=F w mg fa _ KX G.T.g ZJ;have c:=Ia KX G.T.g G.T.b G.T.builtins G.T.nolimit hg ZH hints (l8 hlen XJ) hr hF hb (λH hO hS=>QM (K w.params) H a ns hlen (xZ ZM) hO hS) λH e s'=>ZW H s₁ e s';refine enter_call (Li c λr s' hq=>?_);obtain⟨rfl,h2,h3,h4⟩:=hq;exact⟨.inl ⟨.bool true,.bool true,[],rfl,λ_=>rfl,.bool true,Att.DQ l _,λ_=>⟨List.Pairwise.nil,λ_ hm=>(nomatch hm)⟩⟩,h2,h3,h4⟩
section
variable{κ:Type}[DecidableEq κ]
noncomputable def fM(LB:List (κ×V))(k:κ):Option V:=(LB.find? λkv=>decide (kv.1=k)).map (·.2)
noncomputable def putK(LB:List (κ×V))(k:κ)(v:V):List (κ×V):=
 if(LB.any λkv=>decide (kv.1=k))=true then LB.map (λkv=>if kv.1=k then(kv.1,v) else kv) else LB++[(k,v)]
theorem eI{p:κ×V}{r:List (κ×V)}{k:κ}(e:p.1=k):fM (p::r) k=some p.2:=by simp[fM,JO,e]
theorem eJ{p:κ×V}{r:List (κ×V)}{k:κ}(e:¬p.1=k):fM (p::r) k=fM r k:=by simp[fM,JO,e]
theorem kB(k:κ):∀LB:List (κ×V),(LB.any λkv=>decide (kv.1=k))=(fM LB k).isSome
 | []=>rfl
 | p::r=>by
  rw[J1]
  by_cases e:p.1=k
  .simp only[eI e,i6 e,Bool.true_or,Option.isSome_some]
  .rw[eJ e,D7 e,Bool.false_or];exact kB k r
theorem xJ(k j:κ)(y:V):∀LB:List (κ×V),fM (LB.map λkv=>if kv.1=k then(kv.1,y) else kv) j=(fM LB j).map λx=>if j=k then y else x
 | []=>rfl
 | p::r=>by
  have ih:=xJ k j y r;rw[A5]
  by_cases h:p.1=k
  .rw[d8 h]
   by_cases e:p.1=j
   .rw[eI (p:=(p.1,y)) e,eI e,J5,d8 (e.symm.trans h)]
   .rw[eJ (p:=(p.1,y)) e,eJ e,ih]
  .rw[i5 h]
   by_cases e:p.1=j
   .rw[eI (p:=p) e,eI e,J5,i5 (λz=>h (e.trans z))]
   .rw[eJ (p:=p) e,eJ e,ih]
theorem uN(k j:κ)(y:V):∀LB:List (κ×V),fM LB k=none->fM (LB++[(k,y)]) j=if j=k then some y else fM LB j
 | [],_=>by
  by_cases e:k=j
  .rw[d8 e.symm];exact eI (p:=(k,y)) e
  .rw[i5 (λz=>e z.symm)];exact eJ (p:=(k,y)) e
 | p::r,hn=>by
  rw[z9];have hk:¬p.1=k:=λz=>by rw[eI z]at hn;cases hn
  rw[eJ hk]at hn;have ih:=uN k j y r hn
  by_cases e:p.1=j
  .rw[eI e,eI e,i5 (λz=>hk (e.trans z))]
  .rw[eJ e,eJ e,ih]
theorem jq(LB:List (κ×V))(k j:κ)(y:V):fM (putK LB k y) j=if j=k then some y else fM LB j:=by
 unfold putK
 by_cases a:(LB.any λkv=>decide (kv.1=k))=true
 .rw[d8 a,xJ];rw[kB]at a
  by_cases e:j=k
  .obtain⟨x,hx⟩:=K9.mp a;rw[d8 e,e,hx,J5,d8 rfl]
  .rw[i5 e];cases fM LB j with
   | none=>rfl
   | some x=>rw[J5,i5 e]
 .rw[i5 a];refine uN k j y LB ?_;rw[kB]at a;cases q:fM LB k with
  | none=>rfl
  | some x=>rw[q]at a;exact(a rfl).elim
theorem lj(LB:List (κ×V))(k:κ)(v:V):(putK LB k v).length<=LB.length+1:=by
 unfold putK;split
 .rw[j4];omega
 .rw[c8,m6,J6];omega
theorem GK{LB:List (κ×V)}{k:κ}(v:V)(h:fM LB k=none):putK LB k v=LB++[(k,v)]:=by
 unfold putK;rw[kB,h];exact i5 (by decide)
theorem lY.isSome_eq(r:lY o u):o.isSome=u.isSome:=by
 cases o with
 | none=>cases u with
  | none=>rfl
  | some _=>exact(show False from r).elim
 | some _=>cases u with
  | none=>exact(show False from r).elim
  | some _=>rfl
theorem KV.val(r:KV LB vs)(k:κ):lY (fM LB k) (valueAt vs k):=by
 unfold KV at r
 induction r with
 | nil=>exact True.intro
 | @cons p q ps qs h t ih =>
  obtain⟨h1,h2⟩:=h
  by_cases e:p.1=k
  .have e':q.1=k:=h1.symm.trans e;have b:valueAt (q::qs) k=some q.2:=by simp[valueAt,JO,e']
   rw[eI e,b];exact h2
  .have e':¬q.1=k:=λz=>e (h1.trans z);have b:valueAt (q::qs) k=valueAt qs k:=by simp[valueAt,JO,e']
   rw[eJ e,b];exact ih
theorem KV.any(r:KV LB vs)(k:κ):(LB.any λkv=>decide (kv.1=k))=vs.any λkv=>decide (kv.1=k):=by
 unfold KV at r
 induction r with
 | nil=>rfl
 | cons h t ih=>rw[J1,J1,ih,h.1]
theorem KV.repl(r:KV LB vs)(k:κ){y:V}(ry:RelV y u) :
  KV (LB.map λkv=>if kv.1=k then(kv.1,y) else kv) (vs.map λkv=>if kv.1=k then(kv.1,u) else kv):=by
 unfold KV at r ⊢
 induction r with
 | nil=>exact .nil
 | @cons p q ps qs h t ih =>
  rw[A5,A5];refine .cons ?_ ih;obtain⟨h1,h2⟩:=h
  by_cases e:p.1=k
  .rw[d8 e,d8 (h1.symm.trans e)];exact⟨h1,ry⟩
  .rw[i5 e,i5 (λz=>e (h1.trans z))];exact⟨h1,h2⟩
theorem KV.put(r:KV LB vs)(k:κ){y:V}(ry:RelV y u):KV (putK LB k y) (stored vs k u):=by
 unfold putK stored;rw[r.any k]
 by_cases e:(vs.any λkv=>decide (kv.1=k))=true
 .rw[d8 e,d8 e];exact r.repl k ry
 .rw[i5 e,i5 e];exact Paired.snoc r ⟨rfl,ry⟩
theorem KV.length(r:KV LB vs):LB.length=vs.length:=K8 r
end
theorem zc(r:RelV (kV k) u):(de P w).is k u=true:=by
 cases k with
 | inl i=>obtain⟨t,e⟩:=(show ∃t,u=Value.int i t from r);subst e;exact yZ P w i t
 | inr x=>obtain⟨t,e⟩:=(show ∃t,u=Value.str x t from r);subst e;exact yY P w x t
theorem vA:∀{ks:List Key}{us:List Value},Vals (ks.map kV) us->ItemsAre (de P w) ks us
 | [],_,r=>by rw[Kz]at r;cases r;exact .nil
 | k::ks,_,r=>by
  rw[A5]at r;cases r with
  | cons h t=>exact .cons (zc h) (vA t)
abbrev KT(H:Hp):List (List Key×V)->List (List Key×Addr×Value)->Prop:=Paired λp q=>p.1=q.1/\H q.2.1=some (.tup (p.1.map kV))/\RelV p.2 q.2.2
theorem KT.val(r:KT H LB xs)(k:List Key):lY (fM LB k) ((atKey xs k).map (·.2)):=by
 induction r with
 | nil=>exact True.intro
 | @cons p q ps qs h t ih =>
  obtain⟨h1,_,h2⟩:=h
  by_cases e:p.1=k
  .have e':q.1=k:=h1.symm.trans e;have b:atKey (q::qs) k=some q.2:=by simp[atKey,JO,e']
   rw[eI e,b];exact h2
  .have e':¬q.1=k:=λz=>e (h1.trans z);have b:atKey (q::qs) k=atKey qs k:=by simp[atKey,JO,e']
   rw[eJ e,b];exact ih
theorem KT.repl(r:KT H LB xs)(k:List Key){y:V}(ry:RelV y u) :
  KT H (LB.map λkv=>if kv.1=k then(kv.1,y) else kv) (xs.map (putAt k u)):=by
 induction r with
 | nil=>exact .nil
 | @cons p q ps qs h t ih =>
  rw[A5,A5];refine .cons ?_ ih;obtain⟨h1,h2,h3⟩:=h;unfold putAt
  by_cases e:p.1=k
  .rw[d8 e,d8 (h1.symm.trans e)];exact⟨h1,h2,ry⟩
  .rw[i5 e,i5 (λz=>e (h1.trans z))];exact⟨h1,h2,h3⟩
theorem KT.put(r:KT H LB xs)(k:List Key){y:V}(hb:H b=some (.tup (k.map kV)))(ry:RelV y u) :
  KT H (putK LB k y) (storedH xs k b u):=by
 have e:(LB.any λkv=>decide (kv.1=k))=(atKey xs k).isSome:=by
  rw[kB,(r.val k).isSome_eq,Option.isSome_map]
 unfold putK storedH;rw[e]
 by_cases q:(atKey xs k).isSome=true
 .rw[d8 q,d8 q];exact r.repl k ry
 .rw[i5 q,i5 q];exact Paired.snoc r ⟨rfl,hb,ry⟩
theorem KT.keeps(r:KT H LB xs)(ht:∀b ys,H b=some (.tup ys)->H' b=some (.tup ys)):KT H' LB xs:=
 Paired.mapP r λ_ _ z=>⟨z.1,ht _ _ z.2.1,z.2.2⟩
section
variable{P:Program}{w:World}{H:Hp}{h:Heap}{a:Addr}
theorem QC(ok:LS P w H h)(e:Rd H a u):cP P w H h a u:=e.ok ok
theorem Dg(ok:LS P w H h)(e:Rd H a (.dK LB)):LB.length<=sizeLine/\(a==sysModules)=false/\∃vs,KV LB vs/\h.DictOf (de P w) a vs:=
 show cP P w H h a (.dK LB) from QC ok e
theorem QY(ok:LS P w H h)(e:H a=some (.dK LB)):LB.length<=sizeLine/\(a==sysModules)=false/\∃vs,KV LB vs/\h.DictOf (de P w) a vs:=Dg ok (.inl e)
theorem xc(ok:LS P w H h)(e:H a=some (.tup (ks.map kV))):(tupleKind (de P w)).is h ks a:=by
 obtain⟨_,its,r,o,h1,h2,n,h3⟩:=(show cP P w H h a (.tup (ks.map kV)) from ok a _ e);exact⟨o,its.toArray,n,h1,h2,h3,by simpa using vA r⟩
theorem De(ok:LS P w H h)(e:Rd H a (.dT LB)):LB.length<=sizeLine/\(a==sysModules)=false/\
  ∃xs,KT H LB xs/\h.DictOfH (tupleKind (de P w)) a xs:=by
 obtain⟨z,y,xs,r,o,es,ep,h1,h2,h3,h4,h5⟩:=(show cP P w H h a (.dT LB) from QC ok e);refine⟨z,y,xs,r,o,es,ep,h1,h2,h3,h4,λx hx=>?_,h5⟩
 have all:∀{l:List (List Key×V)}{m:List (List Key×Addr×Value)},KT H l m->∀x∈m,(tupleKind (de P w)).is h x.1 x.2.1:=by
  intro l m q
  induction q with
  | nil=>intro x hx;exact nomatch hx
  | @cons p q ps qs hq t ih =>
   intro x hx;rcases j6.mp hx with e | hx
   .subst e;exact xc ok (by rw[<- hq.1];exact hq.2.1)
   .exact ih x hx
 exact all r x hx
theorem WA(ok:LS P w H h)(e:H a=some (.dT LB)):LB.length<=sizeLine/\(a==sysModules)=false/\
  ∃xs,KT H LB xs/\h.DictOfH (tupleKind (de P w)) a xs:=De ok (.inl e)
end
def kA(H:Hp)(a:Addr)(y:V)(r:Option V):Prop:=
 (∃LB k,Rd H a (.dK LB)/\y=kV k/\r=fM LB k)\/∃LB k b,Rd H a (.dT LB)/\y=.ref b/\H b=some (.tup (k.map kV))/\r=fM LB k
def Jm(H:Hp)(a:Addr)(y v:V)(H':Hp):Prop:=
 (∃LB k,H a=some (.dK LB)/\y=kV k/\LB.length<sizeLine/\H'=upd H a (.dK (putK LB k v)))\/
 ∃LB k b,H a=some (.dT LB)/\y=.ref b/\H b=some (.tup (k.map kV))/\LB.length<sizeLine/\H'=upd H a (.dT (putK LB k v))
theorem kA.k{LB:List (Key×V)}{k:Key}(e:H a=some (.dK LB)):kA H a (kV k) (fM LB k):=.inl ⟨LB,k,.inl e,rfl,rfl⟩
theorem kA.t{LB:List (List Key×V)}{k:List Key}(e:H a=some (.dT LB))(eb:H b=some (.tup (k.map kV))):kA H a (.ref b) (fM LB k):=.inr ⟨LB,k,b,.inl e,rfl,eb,rfl⟩
theorem Jm.t{LB:List (List Key×V)}{k:List Key}{v:V}(e:H a=some (.dT LB))(eb:H b=some (.tup (k.map kV)))(hl:LB.length<sizeLine) :
  Jm H a (.ref b) v (upd H a (.dT (putK LB k v))):=.inr ⟨LB,k,b,e,rfl,eb,hl,rfl⟩
section
variable{X:Cx}{Ly:List (Addr×Obj)}{σ:St}{H:Hp}{s:Shared}{a:Addr}{y v:V}{u r:Value}{o:Option V}{A:Around}{E:Value->Shared->Prop}
theorem Inv.big(I:Inv X Ly σ H s):sysModules<s.heap.objs.size:=by
 have h:mainGlobals<s.heap.objs.size:=(I.mod.glob.keeps I.bk).lt;exact Nat.lt_trans (by decide) h
theorem EM(hu:A.units+1<cLine)(I:Inv X Ly σ H s)(g:kA H a y (some v))(ry:RelV y u)(h:∀w' s',Inv X Ly σ H s'->RelV v w'->Q w' s') :
  wpAny (model X.prog X.w) A (getItem (.ref a) u) Q E s:=by
 rcases g with⟨LB,k,e,ey,l⟩ | ⟨LB,k,b,e,ey,eb,l⟩
 .subst ey;obtain⟨z,hd,vs,rel,dd⟩:=Dg I.hok e;obtain⟨w',hw,Mb⟩:=lY.some_of (v:=v) (o:=valueAt vs k) (by rw[l];exact rel.val k);exact wpAny_getItem_of (zc ry) dd.mapOf hw (h w' _ (I.tok _) Mb)
 .subst ey;cases(show u=Value.ref b from ry)
  obtain⟨z,hd,xs,rel,dd⟩:=De I.hok e;obtain⟨w',hw,Mb⟩:=lY.some_of (v:=v) (o:=(atKey xs k).map (·.2)) (by rw[l];exact rel.val k);obtain⟨p,hp,LO⟩:=JI.mp hw;refine wpAny_getItem_heap (KI hu) (xc I.hok eb) dd hp ?_;rw[LO];exact h w' _ (I.tok _) Mb
theorem PU(hu:A.units+1<cLine)(I:Inv X Ly σ H s)(g:kA H a y o)(ry:RelV y u)(h:∀s',Inv X Ly σ H s'->Q (.bool (!o.isSome)) s') :
  wpAny (model X.prog X.w) A (compareOp .NotIn u (.ref a)) Q E s:=by
 rcases g with⟨LB,k,e,ey,l⟩ | ⟨LB,k,b,e,ey,eb,l⟩
 .subst ey;obtain⟨z,hd,vs,rel,dd⟩:=Dg I.hok e;refine wpAny_notIn_of (zc ry) hd dd.mapOf ?_;rw[<- (rel.val k).isSome_eq,<- l];exact h _ (I.tok _)
 .subst ey;cases(show u=Value.ref b from ry)
  obtain⟨z,hd,xs,rel,dd⟩:=De I.hok e;refine wpAny_notIn_heap (KI hu) (xc I.hok eb) hd dd ?_;have q:=(rel.val k).isSome_eq;rw[Option.isSome_map]at q;rw[<- q,<- l];exact h _ (I.tok _)
theorem xo{t':Nat}(I:Inv X Ly σ H s)(mu:W3 (H a))(hs:Heap.SameBut a s.heap h')(he:∃q,h'.get? a=some q)(new:cP X.prog X.w (upd H a ob) h' a ob) :
  Inv X Ly σ (upd H a ob) {s with heap:=h',toks:=t' }:=
 I.write (x:=a) (e:=a) mu (.inl rfl) (λb q hb z=>(hs.2 b hb).trans z) he new
theorem II(z:LB.length<=sizeLine)(hd:(a==sysModules)=false)(rel:KV LB vs)(dd:h'.DictOf (de P w) a vs) :
  cP P w H' h' a (.dK LB):=⟨z,hd,vs,rel,dd⟩
theorem EL(hu:A.units+1<cLine)(I:Inv X Ly σ H s)(g:Jm H a y v H')(ry:RelV y u)(rv:RelV v r)(h:∀s',Inv X Ly σ H' s'->Q () s') :
  wpAny (model X.prog X.w) A (setItem (.ref a) u r) Q E s:=by
 rcases g with⟨LB,k,e,ey,l,eH⟩ | ⟨LB,k,b,e,ey,eb,l,eH⟩
 .subst ey eH;obtain⟨z,hd,vs,rel,dd⟩:=QY I.hok e;have hz:vs.length<=sizeLine:=by rw[<- rel.length];exact z
  have hl:(putK LB k v).length<=sizeLine:=by have:=lj LB k v;omega
  refine wpAny_setItem_pairs (hsz:=hz) (zc ry) dd λh' Tn hs=>h _ ?_;have he:∃q,h'.get? a=some q:=let ⟨q,_,_,hq,_⟩:=Tn;⟨q,hq⟩;exact xo I (by rw[e];exact True.intro) hs he (II hl hd (rel.put k rv) Tn)
 .subst ey eH;cases(show u=Value.ref b from ry)
  obtain⟨z,hd,xs,rel,dd⟩:=WA I.hok e;have hz:xs.length<=sizeLine:=by rw[<- K8 rel];exact z
  have hl:(putK LB k v).length<=sizeLine:=by have:=lj LB k v;omega
  refine wpAny_setItem_heap (hsz:=hz) (KI hu) (xc I.hok eb) dd λh' Tn hs=>h _ ?_;obtain⟨q,es,ep,hq,h2,h3,h4,_,h5⟩:=Tn;refine xo I (by rw[e];exact True.intro) hs ⟨q,hq⟩ ⟨hl,hd,_,(rel.put k eb rv).keeps λc ys ec=>?_,q,es,ep,hq,h2,h3,h4,h5⟩;rw[aA (sT ec e (λz=>nomatch z))];exact ec
end
section
variable{X:Cx}{Ly:List (Addr×Obj)}{σ:St}{H:Hp}{s:Shared}{a:Addr}{LB:List (Key×V)}{k:Key}{u:Value}{A:Around}{E:Value->Shared->Prop}
end
def T6(i:Expr):Prop:=∀ov iv,subscripted i false ov iv=operate [ov,iv] (getItem ov iv)
theorem OO{value slice:Expr}{T id:String}{Q:Value->Shared->Prop}
  (hl:typeLookup (.type T) "__getitem__"=pure (some (.builtin id)))(hs:T6 slice)
  (h:wpAny (model prog w) A (eval value env) (λo s₁=>wpAny (model prog w) A (eval slice env) (λi s₂=>s₂.TypeIs o T/\wpAny (model prog w) A (getItem o i) Q E s₂) E s₁) E s) :
  wpAny (model prog w) A (eval (.Subscript value slice pos) env) Q E s:=by
 refine Subscript_ (F5 h (λo s₁ h₁=>F5 h₁ (λi s₂ h₂=>?_) λ_ _ x=>x) λ_ _ x=>x);obtain⟨hT,h₂⟩:=h₂;unfold subscriptTail;refine c5 ?_;rw[getitemInPython_of_ne hT.not_modules];refine c5 (wpAny_specialOf hT hl ?_)
 have fin:wpAny (model prog w) A (subscripted slice false o i) (λr s₃=>wpAny (model prog w) A (letTemporaryGo value o r >>= λ_=>pure r) Q E s₃) E s₂:=by
  rw[hs o i];exact wpAny_operating (F5 h₂ (λr s₃ h₃=>c5 (wpAny_letTemporaryGo (x4 h₃))) λ_ _ x=>x)
 first
  | exact x4 (c5 fin)
  | exact c5 (x4 (c5 fin))
  | exact c5 fin
theorem zm{y:V}(I:Inv X Ly σ H s)(g:kA H a y o):s.TypeIs (.ref a) "dict":=by
 rcases g with⟨LB,k,e,_,_⟩ | ⟨LB,k,b,e,_,_,_⟩
 .obtain⟨_,_,vs,_,dd⟩:=Dg I.hok e;exact dd.typeIs
 .obtain⟨_,_,xs,_,dd⟩:=De I.hok e;exact dd.typeIs
def Qp(td ty:TE):TE:=λσ H Q=>td σ H λx H1=>ty σ H1 λy H2=>∃a v,x=.ref a/\kA H2 a y (some v)/\Q v H2
def ON(ty td:TE):TE:=λσ H Q=>ty σ H λy H1=>td σ H1 λx H2=>∃a o,x=.ref a/\kA H2 a y o/\Q (.bl (!o.isSome)) H2
def U5(td ty tv:TE):TS:=λD σ H=>tv σ H λv H1=>td σ H1 λx H2=>ty σ H2 λy H3=>∃a H4,x=.ref a/\Jm H3 a y v H4/\D.nx σ H4
section
variable{X:Cx}{o i e value:Expr}{pos pos' Mm:Pos}{td ty tv:TE}
theorem qQ(hu:X.A.units+1<cLine)(ho:PE X o td)(hi:PE X i ty)(hs:T6 i:=by intro _ _;rfl):PE X (.Subscript o i pos) (Qp td ty):=by
 intro Ly s σ H Q I h;refine OO PySem.F.slot_dict_getitem.lookup hs (LF (ho Ly s σ H _ I h) λu s1 zz=>?_);obtain⟨x,H1,I1,rx,q1⟩:=zz;refine LF (hi Ly s1 σ H1 _ I1 q1) λiv s2 zz=>?_;obtain⟨y,H2,I2,ry,a,v,ex,g,q2⟩:=zz;subst ex;obtain rfl:u=Value.ref a:=rx;exact⟨zm I2 g,EM hu I2 g ry λw' s3 I3 Mb=>⟨v,H2,I3,Mb,q2⟩⟩
theorem DS(hu:X.A.units+1<cLine)(hi:PE X i ty)(ho:PE X o td):PC X .NotIn i o (ON ty td):=by
 intro Ly s σ H Q I h;refine LF (hi Ly s σ H _ I h) λiv s1 zz=>?_;obtain⟨y,H1,I1,ry,q1⟩:=zz;refine LF (ho Ly s1 σ H1 _ I1 q1) λu s2 zz=>?_;obtain⟨x,H2,I2,rx,a,ov,ex,g,q2⟩:=zz;subst ex;obtain rfl:u=Value.ref a:=rx;exact PU hu I2 g ry λs3 I3=>⟨.bl (!ov.isSome),H2,I3,rfl,q2⟩
theorem O2(hu:X.A.units+1<cLine)(ho:PE X o td)(hi:PE X i ty)(hv:PE X value tv)(hs:swapsWith value (some (.Subscript o i pos')) pos.line X.env=pure false) :
  PS X (.Assign [.Subscript o i pos'] value pos) (U5 td ty tv):=by
 intro Ly s σ H D I h;refine wpAny_Assign_Subscript (LF (hv Ly s σ H _ I h) λr s1 zz=>?_) hs;obtain⟨v,H1,I1,rv,q1⟩:=zz;refine LF (ho Ly s1 σ H1 _ I1 q1) λu s2 zz=>?_;obtain⟨x,H2,I2,rx,q2⟩:=zz;refine LF (hi Ly s2 σ H2 _ I2 q2) λiv s3 zz=>?_;obtain⟨y,H3,I3,ry,a,H4,ex,g,q3⟩:=zz;subst ex;obtain rfl:u=Value.ref a:=rx;exact EL hu I3 g ry rv λs4 I4=>⟨σ,H4,I4,q3⟩
end
theorem zk(h:Heap)(hb:sysModules<h.objs.size):cP P w H (h.push {cls:=.type "dict",data:=.dict #[] }) h.objs.size (.dK []):=
 ⟨y7 _,G6.mpr (Jp (A4 hb)),[],.nil,Heap.DictOf.new h⟩
theorem IH(h:Heap)(hb:sysModules<h.objs.size):cP P w H (h.push {cls:=.type "dict",data:=.dict #[] }) h.objs.size (.dT []):=
 ⟨y7 _,G6.mpr (Jp (A4 hb)),[],.nil,_,#[],0,x5 _ rfl,⟨rfl,rfl,rfl⟩,rfl,rfl,List.nodup_nil⟩
def FG:TE:=λ_ H Q=>∀p,H p=none->Q (.ref p) (upd H p (.dK []))
def RC:TE:=λ_ H Q=>∀p,H p=none->Q (.ref p) (upd H p (.dT []))
section
variable{X:Cx}{pos:Pos}
theorem GZ:PE X (.Dict [] [] pos) FG:=λLy s σ H Q I h =>
 wpAny_Dict_empty ⟨.ref s.heap.objs.size,_,I.laid (a:=s.heap.objs.size) (o:=.dK []) (t':=s.toks) (λ_ _ q=>i8 _ q) (c7 _) (zk s.heap I.big),rfl,h _ (I.hok.fresh (c7 _))⟩
theorem GY:PE X (.Dict [] [] pos) RC:=λLy s σ H Q I h =>
 wpAny_Dict_empty ⟨.ref s.heap.objs.size,_,I.laid (a:=s.heap.objs.size) (o:=.dT []) (t':=s.toks) (λ_ _ q=>i8 _ q) (c7 _) (IH s.heap I.big),rfl,h _ (I.hok.fresh (c7 _))⟩
end
def Ac:List (TE×TE)->St->Hp->(List (V×V)->Hp->Prop)->Prop
 | [],_,H,Q=>Q [] H
 | (tk,tv)::r,σ,H,Q=>tk σ H λx H1=>tv σ H1 λy H2=>Ac r σ H2 λps H3=>Q ((x,y)::ps) H3
abbrev VV:List (V×V)->List (Value×Value)->Prop:=Paired λp q=>RelV p.1 q.1/\RelV p.2 q.2
def WZ(X:Cx)(pos:Pos)(keys:List (Option Expr))(values:List Expr)(Ni:List (TE×TE)):Prop:=
 ∀Ly s σ H Q,Inv X Ly σ H s->Ac Ni σ H Q->
  wpAny (model X.prog X.w) X.A (evalPairs (pairTrees keys values X.env pos)) (λvs s'=>∃ps H',Inv X Ly σ H' s'/\VV ps vs/\Q ps H') X.xe s
theorem O4:WZ X pos [] [] []:=λLy s σ H Q I h=>pairTrees_nil_walk ⟨[],H,I,.nil,h⟩
theorem GU{tk:TE}(hk:PE X k tk)(hv:PE X v tv)(hr:WZ X pos ks vs Ni) :
  WZ X pos (some k::ks) (v::vs) ((tk,tv)::Ni):=λLy s σ H Q I h =>
 pairTrees_cons_walk (LF (hk Ly s σ H _ I h) λu s1 ⟨x,H1,I1,rx,q1⟩=>LF (hv Ly s1 σ H1 _ I1 q1) λw2 s2 ⟨y,H2,I2,ry,q2⟩ =>
  LF (hr Ly s2 σ H2 _ I2 q2) λws s3 ⟨ps,H3,I3,rel,q3⟩=>⟨(x,y)::ps,H3,I3,.cons ⟨rx,ry⟩ rel,q3⟩)
noncomputable def bX(LB more:List (Key×V)):List (Key×V):=more.foldl (λacc kv=>putK acc kv.1 kv.2) LB
theorem KV.merge:∀{more:List (Key×V)}{rs:List (Key×Value)}{LB:List (Key×V)}{vs:List (Key×Value)},KV more rs->KV LB vs->KV (bX LB more) (merged vs rs):=by
 intro more rs LB vs r;unfold KV at r
 induction r generalizing LB vs with
 | nil=>intro q;exact q
 | @cons p q ps qs h t ih =>
  intro r0
  have e:KV (putK LB p.1 p.2) (stored vs q.1 q.2):=by
   have:=r0.put p.1 h.2;rw[<- h.1];exact this
  exact ih e
theorem mw:∀more LB,(bX LB more).length<=LB.length+more.length
 | [],LB=>by show LB.length<=LB.length+0;omega
 | p::r,LB=>by
  have h1:=mw r (putK LB p.1 p.2);have h2:=lj LB p.1 p.2;show(bX (putK LB p.1 p.2) r).length<=_;rw[m6];omega
theorem tU{P:Program}{w:World}:∀{LB:List (Key×V)}{ws:List (Value×Value)},VV (LB.map λkv=>(kV kv.1,kv.2)) ws->∃rs,Carries (de P w) ws rs/\KV LB rs
 | [],_,r=>by rw[Kz]at r;cases r;exact⟨[],True.intro,.nil⟩
 | p::LB,_,r=>by
  rw[A5]at r;cases r with
  | @cons a b as bs h t =>
   obtain⟨rs,c,q⟩:=tU (P:=P) (w:=w) t;obtain⟨b1,b2⟩:=b;exact⟨(p.1,b2)::rs,⟨zc h.1,rfl,c⟩,.cons ⟨rfl,h.2⟩ q⟩
def Qo(Ni:List (TE×TE)):TE:=λσ H Q=>∀p,H p=none->Ac Ni σ (upd H p (.dK [])) λps H2=>H2 p=some (.dK [])/\∃LB:List (Key×V),ps=LB.map (λkv=>(kV kv.1,kv.2))/\LB.length<=15/\Q (.ref p) (upd H2 p (.dK (bX [] LB)))
theorem O7(h:WZ X pos keys values Ni)(N3:keys.all (·.isSome)=true)(hl:keys.length=values.length)(h0:keys≠[])
  (ZZ:keys.length<=15):PE X (.Dict keys values pos) (Qo Ni):=by
 intro Ly s σ H Q I q;have hn:=I.hok.fresh (c7 s.heap.objs.size);have I1:=I.laid (a:=s.heap.objs.size) (o:=.dK []) (h':=s.heap.push {cls:=.type "dict",data:=.dict #[] }) (t':=s.toks) (λ_ _ q=>i8 _ q) (c7 _) (zk s.heap I.big);refine wpAny_Dict_walk (knd:=de X.prog X.w) N3 hl h0 ZZ (LF (h Ly _ σ _ _ I1 (q _ hn)) λws s2 zz=>?_);obtain⟨ps,H2,I2,rel,e,LB,ep,lk,q2⟩:=zz;subst ep;obtain⟨rs,c,rk⟩:=tU (P:=X.prog) (w:=X.w) rel;obtain⟨z,hd,vs0,r0,dd⟩:=QY I2.hok e;cases r0
 refine⟨rs,c,dd,λh' Tn hs=>⟨.ref s.heap.objs.size,_,?_,rfl,q2⟩⟩
 have hz:(bX [] LB).length<=sizeLine:=by
  have h1:=mw LB [];rw[J6]at h1;rw[K2];omega
 have he:∃q,h'.get? s.heap.objs.size=some q:=let ⟨q,_,_,hq,_⟩:=Tn;⟨q,hq⟩;exact xo I2 (by rw[e];exact True.intro) hs he (II hz hd (rk.merge .nil) Tn)
section
variable{X:Cx}{Ly:List (Addr×Obj)}{σ:St}{H:Hp}{s:Shared}{a:Addr}{y d:V}{u r:Value}{o:Option V}{A:Around}{E:Value->Shared->Prop}
end
section
variable{X:Cx}{o e f:Expr}{apos LP:Pos}{td ty tx:TE}
end
section
variable{X:Cx}{Ly:List (Addr×Obj)}{σ:St}{H:Hp}{s:Shared}{a:Addr}{LB:List (Key×V)}{A:Around}{E:Value->Shared->Prop}
end
section
variable{X:Cx}{Ly:List (Addr×Obj)}{σ:St}{H:Hp}{s:Shared}{a:Addr}{y:V}{u:Value}{A:Around}{E:Value->Shared->Prop}
end
section
variable{prog:Program}{w:World}{A:Around}{E:Value->Shared->Prop}{s:Shared}{R:Result->Shared->Prop}{l it S:Addr}{items:Array Value}
end
structure bF(P:Program)(w:World)(K:W.Frag)(mg:Str->Option Value)(base:Heap)(C:Addr)(m:Str)(k:Nat)(ps:List Str)(sp:Sp):Prop where
 cl:Cls K C
 ex:∃(f:Addr)(fd:FuncData),Meth K C m f/\oM P w K mg base CX0 k f fd ps sp/\Binds K fd ps []
section
variable{X:Cx}{o e:Expr}{es:List Expr}{ta te:TE}{t:TA}{m x:Str}{k:Nat}{p pos apos p2 pos2:Pos}{C:Addr}
def FF(X:Cx)(k:Nat)(m:Str)(ta:TE)(t:TA):TE:=λσ H Q=>ta σ H λx H1=>∃a C dx fs ps sp,x=.ref a/\H1 a=some (.ins C dx fs)/\fs.lookup m=none/\
 bF X.prog X.w X.K X.mg X.base C m k ps sp/\t σ H1 λvs H2=>sp (.ref a::vs) H2 Q E0
theorem gM{pl:Sem Bool}(he:PE X o ta)(hr:dY k X.A)
  (ht:eval (.Call (.Attribute o m apos) [] [] pos) X.env=(do
   let ov <- eval o X.env
   standAt apos.atName
   let (f,first) <- holding [ov] (getMethod ov m pl)
   callWith pos f first (backTo pos (starEach [] X.env)) (backToKw pos (keywordEach [] X.env))):=by rfl) :
  PE X (.Call (.Attribute o m apos) [] [] pos) (FF X k m ta kE):=by
 intro Ly s σ H Q I h;refine PySem.W.methodCall_KW (pl:=pl) (LF (he Ly s σ H _ I h) λu s1 zz=>?_) ht;obtain⟨y,H1,I1,ry,a,C,dx,fs,ps,sp,ey,ea,lo,M,q⟩:=zz;subst ey;have eu:u=Value.ref a:=ry;subst eu;obtain⟨f,fd,hm,G,hb⟩:=M.ex;refine tD I1 ea M.cl hm lo ?_;exact Kx (first:=[.ref a]) I1.kIn hm.kp (wz (us:=[.ref a]) (vs:=[.ref a]) G hr hb .nil yD I1 (.cons rfl .nil) q)
theorem sQ{pl:Sem Bool}(he:PE X o ta)(hr:dY k X.A)(ha:PA X (e::es) t)
  (SG:starEach (e::es) X.env=(false,eval e X.env)::starEach es X.env:=by rfl)(hpl:(backTo pos (starEach es X.env)).any (·.1)=false:=by rfl)
  (ht:eval (.Call (.Attribute o m apos) (e::es) [] pos) X.env=(do
   let ov <- eval o X.env
   standAt apos.atName
   let (f,first) <- holding [ov] (getMethod ov m pl)
   callWith pos f first (backTo pos (starEach (e::es) X.env)) (backToKw pos (keywordEach [] X.env))):=by rfl) :
  PE X (.Call (.Attribute o m apos) (e::es) [] pos) (FF X k m ta t):=by
 intro Ly s σ H Q I h;refine PySem.W.methodCall_KW (pl:=pl) (LF (he Ly s σ H _ I h) λu s1 zz=>?_) ht;obtain⟨y,H1,I1,ry,a,C,dx,fs,ps,sp,ey,ea,lo,M,q⟩:=zz;subst ey;have eu:u=Value.ref a:=ry;subst eu;obtain⟨f,fd,hm,G,hb⟩:=M.ex;refine tD I1 ea M.cl hm lo ?_;refine KG (first:=[.ref a]) (h₀:=X.base) I.ok.mod.kin hm.kp (LF (ha pos Ly s1 σ H1 _ I1 q) λus s2 zz=>?_) SG hpl;obtain⟨vs,H2,I2,r2,q2⟩:=zz;refine⟨I2.kIn,?_⟩;refine wz (us:=.ref a::us) (vs:=.ref a::vs) (dvs:=[]) G hr hb .nil yD I2 (.cons rfl r2) ?_;rw[B0];exact q2
structure Mk0(K:W.Frag)(C:Addr):Prop where
 makes:PySem.W.makesIn K C=true
 init:PySem.W.findIn K (.ref C) "__init__"=some (some (.builtin "object.__init__"))
 kp:PySem.W.keepIn K (.ref C)=true
def Ry(C:Addr):TE:=λ_ H Q=>∀a dx,H a=none->H dx=none->dx≠a->Q (.ref a) (upd (upd H dx (.own a)) a (.ins C dx []))
theorem yB(M:Mk0 X.K C)(hg:Gl X x)(hm:X.mg x=some (.ref C))(hdb:(x==("__debug__":Str))=false:=by decide):PE X (.Call (.Name x p) [] [] pos) (Ry C):=by
 intro Ly s σ H Q I h;refine E8 (lS I hg hm ?_ hdb);refine Kx I.kIn M.kp (wpAny_call ?_);have Y:=Le (M:=model X.prog X.w) I.kIn M.makes;refine Ey I.kIn M.makes M.init (λself=>PySem.W.Looks.of_pure (PySem.W.oi_bind self)) ?_;have I2:=Inv.made (C:=C) I
 have e2:((s.heap.push PySem.W.emptyDict).push (PySem.W.instObj C s.heap.objs.size)).get? (s.heap.objs.size+1)=some (PySem.W.instObj C s.heap.objs.size):=by
  have z:=x5 (s.heap.push PySem.W.emptyDict) (o:=PySem.W.instObj C s.heap.objs.size) rfl
  rwa [F4]at z
 have t1:PySem.W.Looks (model X.prog X.w) ((s.heap.push PySem.W.emptyDict).push (PySem.W.instObj C s.heap.objs.size)) (typeOf (.ref (s.heap.objs.size+1))) (.ref C):=(PySem.W.Looks.ld e2).andThen .now
 have t2:PySem.W.Looks (model X.prog X.w) ((s.heap.push PySem.W.emptyDict).push (PySem.W.instObj C s.heap.objs.size)) (isInstance (.ref (s.heap.objs.size+1)) (.type "object")) true:=
  t1.andThen (Y.top.keeps λb q z=>i8 _ (i8 _ z))
 have z:=h (s.heap.objs.size+1) s.heap.objs.size (I.hok.fresh (Lu _)) (I.hok.fresh (c7 _)) (A4 (Js _));refine codeAny_call_builtin PySem.W.oi_plain PySem.W.entry_oi (PySem.W.check_slot (i:="object.__init__") (owner:="object") (n:="__init__") (self:=.ref (s.heap.objs.size+1)) (rest:=[]) (kw:=[]) PySem.W.oi_kind PySem.W.oi_split t2 (PySem.W.oi_args _) ?_);rw[PySem.W.oi_run];exact x4 (And.intro rfl ⟨V.ref (s.heap.objs.size+1),_,I2,rfl,z⟩)
end
end L2
namespace Mine
open PySem
inductive W5 where
 | more | less | greater | lesser | leads
noncomputable def W5.str:W5->Str
 | .more=>"more" | .less=>"less" | .greater=>"greater" | .lesser=>"lesser" | .leads=>"leads"
inductive Tr where
 | never | always | lp | lq
 | no (t:Tr)
 | fold (w:W5) (a b:Tr)
noncomputable def Tr.size:Tr->Nat
 | .no t=>t.size+1
 | .fold _ a b=>a.size+b.size+1
 | _=>1
theorem Tr.size_pos:∀t:Tr,1<=t.size
 | .never | .always | .lp | .lq=>c7 _
 | .no _=>Lq _ _
 | .fold _ _ _=>Lq _ _
noncomputable def W5.worth(w:W5)(n a b:Int):Int:=match w with
 | .more=>min (a+b) n
 | .less=>max (a+b-n) 0
 | .greater=>max a b
 | .lesser=>min a b
 | .leads=>min (n-a+b) n
structure Alg(α:Type) where
 leaf:Tr->α
 no:α->α
 fold:W5->α->α->α
noncomputable def Alg.val{α:Type}(G:Alg α):Tr->α
 | .no t=>G.no (G.val t)
 | .fold w a b=>G.fold w (G.val a) (G.val b)
 | t=>G.leaf t
noncomputable def Tr.post:Tr->List Tr
 | .no t=>t.post++[.no t]
 | .fold w a b=>a.post++b.post++[.fold w a b]
 | t=>[t]
theorem fX:∀t:Tr,t.post.length=t.size
 | .no t=>by simp[Tr.post,Tr.size,fX t]
 | .fold w a b=>by simp[Tr.post,Tr.size,fX a,fX b];omega
 | .never=>rfl
 | .always=>rfl
 | .lp=>rfl
 | .lq=>rfl
noncomputable def Alg.step{α:Type}(G:Alg α):List α->Tr->Option (List α)
 | a::R,.no _=>some (G.no a::R)
 | b::a::R,.fold w _ _=>some (G.fold w a b::R)
 | [],.no _=>none
 | [],.fold _ _ _=>none
 | [_],.fold _ _ _=>none
 | R,t=>some (G.leaf t::R)
noncomputable def Alg.run{α:Type}(G:Alg α):List α->List Tr->Option (List α)
 | R,[]=>some R
 | R,t::r=>(G.step R t).bind λR'=>G.run R' r
theorem oj{α:Type}(G:Alg α):∀t R r,G.run R (t.post++r)=G.run (G.val t::R) r
 | .no t,R,r=>by
  show G.run R (t.post++[.no t]++r)=_;rw[w6,oj G t R];cases R<;>rfl
 | .fold w a b,R,r=>by
  show G.run R (a.post++b.post++[.fold w a b]++r)=_;rw[w6,w6,oj G a R,oj G b _];cases R<;>rfl
 | .never,R,r=>by cases R with
  | nil=>rfl
  | cons a R=>cases R<;>rfl
 | .always,R,r=>by cases R with
  | nil=>rfl
  | cons a R=>cases R<;>rfl
 | .lp,R,r=>by cases R with
  | nil=>rfl
  | cons a R=>cases R<;>rfl
 | .lq,R,r=>by cases R with
  | nil=>rfl
  | cons a R=>cases R<;>rfl
theorem OX{α:Type}(G:Alg α)(t:Tr):G.run [] t.post=some [G.val t]:=by
 have h:=oj G t [] [];rw[B0]at h;rw[h];rfl
noncomputable def iK(n x y:Int):Alg Int where
 leaf:=λt=>match t with
  | .always=>n
  | .lp=>x
  | .lq=>y
  | _=>0
 no:=λa=>n-a
 fold:=λw a b=>w.worth n a b
noncomputable abbrev Tr.worth (n x y:Int) (t:Tr):Int:=(iK n x y).val t
end Mine
namespace L2
open PySem PySem.Spec PyProof.Rows
variable{H H':Hp}{a:Addr}{ds:List PyData}{i n:Nat}{d:PyData}{h:Heap}{mg:Str->Option Value}{x:Str}{od:Option Addr}{its:Array Value}{osl:Array (Option Value)}{ns:List Int}{v:Value}
mutual
def Dat(K:W.Frag)(H:Hp):PyData->V->Prop
 | .none,v=>v=.non
 | .bool b,v=>v=.bl b
 | .int i,v=>v=.int i
 | .str x,v=>v=.str x
 | .tuple ds,v=>∃a xs,v=.ref a/\Lz K H a xs/\DatAll K H ds xs
 | .list _,_=>False
 | .dict _,_=>False
def DatAll(K:W.Frag)(H:Hp):List PyData->List V->Prop
 | [],xs=>xs=[]
 | d::ds,xs=>∃x r,xs=x::r/\Dat K H d x/\DatAll K H ds r
end
structure Mv(H H':Hp):Prop where
 t:∀b xs,H b=some (.tup xs)->H' b=some (.tup xs)
 f:∀b o u,H b=some (.frz o u)->H' b=some (.frz o u)
theorem aK.ts(e:aK H H'):Mv H H':=⟨λb xs h=>e b _ h,λb o u h=>e b _ h⟩
theorem dj(e:H l=some (.lst xs)):Mv H (upd H l o):=
 ⟨λb ys h=>by rw[aA (sT h e (by intro z;cases z))];exact h,λb o u h=>by rw[aA (sT h e (by intro z;cases z))];exact h⟩
theorem Lz.ts{K:W.Frag}{xs:List V}(h:Lz K H a xs)(e:Mv H H'):Lz K H' a xs:=by
 rcases h with(h | ⟨o,h⟩) | h
 .exact .inl (.inl (e.t _ _ h))
 .exact .inl (.inr ⟨o,e.f _ _ _ h⟩)
 .exact .inr h
mutual
theorem Dat.ts{K:W.Frag}(e:Mv H H'):∀{d:PyData}{v:V},Dat K H d v->Dat K H' d v
 | .none,_,h=>h
 | .bool _,_,h=>h
 | .int _,_,h=>h
 | .str _,_,h=>h
 | .tuple _,_,⟨a,xs,h1,h2,h3⟩=>⟨a,xs,h1,h2.ts e,DatAll.ts e h3⟩
 | .list _,_,h=>h
 | .dict _,_,h=>h
theorem DatAll.ts{K:W.Frag}(e:Mv H H'):∀{ds:List PyData}{xs:List V},DatAll K H ds xs->DatAll K H' ds xs
 | [],_,h=>h
 | _::_,_,⟨x,r,h1,h2,h3⟩=>⟨x,r,h1,Dat.ts e h2,DatAll.ts e h3⟩
end
theorem DatAll.len{K:W.Frag}:∀{ds:List PyData}{xs:List V},DatAll K H ds xs->xs.length=ds.length
 | [],_,h=>by subst h;rfl
 | _::_,_,⟨x,r,h1,_,h3⟩=>by subst h1;simp[h3.len]
theorem DatAll.get{K:W.Frag}:∀{ds:List PyData}{xs:List V}{i:Nat}{d:PyData},DatAll K H ds xs->ds[i]?=some d->∃x,xs[i]?=some x/\Dat K H d x
 | [],_,_,_,_,e=>by cases e
 | _::_,_,0,_,⟨x,r,h1,h2,_⟩,e=>by subst h1;cases e;exact⟨x,rfl,h2⟩
 | _::_,_,i+1,_,⟨x,r,h1,_,h3⟩,e=>by
  subst h1;obtain⟨y,e1,e2⟩:=h3.get (i:=i) (by simpa using e);exact⟨y,by simpa using e1,e2⟩
theorem DatAll.get'{K:W.Frag}{xs:List V}{x:V}(h:DatAll K H ds xs)(e:xs[i]?=some x):∃d,ds[i]?=some d/\Dat K H d x:=by
 have hl:=h.len;have hi:=(d6.mp e).1;have hd:ds[i]?=some (ds[i]'(by omega)):=c9 (by omega);obtain⟨y,e1,e2⟩:=h.get hd;rw[e]at e1;cases e1
 exact⟨_,hd,e2⟩
theorem DatAll.append{K:W.Frag}:∀{ds es:List PyData}{xs ys:List V},DatAll K H ds xs->DatAll K H es ys->DatAll K H (ds++es) (xs++ys)
 | [],_,_,_,h,g=>by subst h;exact g
 | _::_,_,_,_,⟨x,r,h1,h2,h3⟩,g=>by subst h1;exact⟨x,_,rfl,h2,h3.append g⟩
theorem DatAll.snoc{K:W.Frag}{xs:List V}{x:V}(h:DatAll K H ds xs)(g:Dat K H d x):DatAll K H (ds++[d]) (xs++[x]):=h.append ⟨x,[],rfl,g,rfl⟩
mutual
theorem Dat.reads(I:Inv X Ly σ H s):∀d {v:V} {u:Value},Dat X.K H d v->RelV v u->∃as,Reads s.heap u d as
 | .none,_,_,h,r=>by
  cases(show _=V.non from h)
  cases(show _=Value.none from r)
  exact⟨[],.none⟩
 | .bool b,_,_,h,r=>by
  cases(show _=V.bl b from h)
  cases(show _=Value.bool b from r)
  exact⟨[],.bool b⟩
 | .int i,_,_,h,r=>by
  cases(show _=V.int i from h)
  obtain⟨t,q⟩:=(show ∃t,_=Value.int i t from r);cases q
  exact⟨[],.int i t⟩
 | .str x,_,_,h,r=>by
  cases(show _=V.str x from h)
  obtain⟨t,q⟩:=(show ∃t,_=Value.str x t from r);cases q
  exact⟨[],.str x t⟩
 | .tuple ds,_,_,⟨a,xs,h1,h2,h3⟩,r=>by
  cases h1
  cases(show _=Value.ref a from r)
  obtain⟨its,rv,⟨o,ho,hc,n,hd⟩,_⟩:=I.tuple h2;obtain⟨as,ra⟩:=DatAll.reads I ds h3 rv;exact⟨as,.tuple ho hc hd (by simpa using ra)⟩
 | .list _,_,_,h,_=>False.elim h
 | .dict _,_,_,h,_=>False.elim h
theorem DatAll.reads(I:Inv X Ly σ H s):∀ds {xs:List V} {us:List Value},DatAll X.K H ds xs->Vals xs us->∃as,ReadsAll s.heap us ds as
 | [],_,_,h,r=>by
  cases(show _=([]:List V) from h)
  cases r
  exact⟨[],.nil⟩
 | d::ds,_,_,⟨x,t,h1,h2,h3⟩,r=>by
  cases h1
  cases r with
  | cons r1 r2 =>
   obtain⟨as,a1⟩:=Dat.reads I d h2 r1;obtain⟨bs,b1⟩:=DatAll.reads I ds h3 r2;exact⟨as++bs,.cons a1 b1⟩
end
def xF(K:W.Frag)(H:Hp)(d:PyData)(v:V):Prop:=Dat K H d v\/∃ds a xs,d=.list ds/\v=.ref a/\LA K H a xs/\DatAll K H ds xs
theorem xF.reads{v:V}(I:Inv X Ly σ H s)(h:xF X.K H d v)(r:RelV v u):∃as,Reads s.heap u d as:=by
 rcases h with h | ⟨ds,a,xs,rfl,rfl,h2,h3⟩
 .exact Dat.reads I d h r
 .cases(show _=Value.ref a from r)
  obtain⟨its,rv,⟨o,n,ho,hc,_,hd⟩,_⟩:=I.list h2;obtain⟨as,ra⟩:=DatAll.reads I ds h3 rv;exact⟨a::as,.list ho hc hd (by simpa using ra)⟩
section
variable{X:Cx}
def YT(K:W.Frag):R2:=λx y H Q=>∃d e,xF K H d x/\xF K H e y/\SeqAt.shaped d=true/\SeqAt.shaped e=true/\Q (.bl (PyData.eqv d e)) H
def YS(K:W.Frag):R2:=λx y H Q=>∃d e,xF K H d x/\xF K H e y/\SeqAt.shaped d=true/\SeqAt.shaped e=true/\Q (.bl (!PyData.eqv d e)) H
theorem Aw(hu:X.A.units+64<cLine):LQ X (compareOp .Eq) (YT X.K):=by
 intro Ly s σ H x y v u Q I rx ry h;obtain⟨d,e,hd,he,sd,se,q⟩:=h;obtain⟨as,ra⟩:=hd.reads I rx;obtain⟨bs,rb⟩:=he.reads I ry;exact eq_dataH ra rb sd se hu ⟨.bl _,H,I,rfl,q⟩
theorem He(hu:X.A.units+64<cLine):LQ X (compareOp .NotEq) (YS X.K):=by
 intro Ly s σ H x y v u Q I rx ry h;obtain⟨d,e,hd,he,sd,se,q⟩:=h;obtain⟨as,ra⟩:=hd.reads I rx;obtain⟨bs,rb⟩:=he.reads I ry;exact ne_dataH ra rb sd se hu ⟨.bl _,H,I,rfl,q⟩
theorem fJ:gy X (.builtin "isinstance") (λxs H Q=>∃a ys c cv k,xs=[.ref a,c]/\(∀u,RelV c u->u=cv)/\Lz X.K H a ys/\PySem.W.kitOne X.K (.type "tuple") cv=some k/\Q (.bl k) H):=by
 intro Ly s σ H xs us Q I r h;obtain⟨a,ys,c,cv,k,rfl,hc,hq,kt,q⟩:=h;obtain⟨u,w',rfl,r1,r2⟩:=vals2 r;have e:=hc _ r2;subst e;cases(show u=Value.ref a from r1)
 obtain⟨its,rv,⟨o,h1,h2,_⟩,_⟩:=I.tuple hq;exact D8 PySem.W.kitx_tuple I.kIn ⟨o,h1,h2⟩ kt (λz=>nomatch z) λtk=>⟨.bl k,H,I.tok tk,rfl,q⟩
theorem zw{bs:List Bool}:∀{us:List Value},Vals (bs.map V.bl) us->LSm.BoolsAre us bs:=by
 induction bs with
 | nil=>intro us r;cases r;exact .nil
 | cons b r ih =>
  intro us q;cases q with
  | cons a t =>
   cases(show _=Value.bool b from a)
   exact .cons b (ih t)
theorem tV(hc:X.calm=true):gy X (.builtin "all") (λxs H Q=>∃(l:Addr)(bs:List Bool),xs=[.ref l]/\LA X.K H l (bs.map V.bl)/\Q (.bl (bs.all id)) H):=by
 intro Ly s σ H xs us Q I r h;obtain⟨l,bs,rfl,hq,q⟩:=h;obtain⟨u,rfl,rx⟩:=vals1 r;cases rx
 obtain⟨its,rv,pl,_⟩:=I.list hq;have hl:=pl.isList;have hb:=zw rv;have LI:l<s.heap.objs.size:=by obtain⟨_,e,_⟩:=hl;exact p5 e
 refine call_all_walk (K1 hl ?_)
 refine⟨s.heap.objs.size,[s.heap.objs.size,l],[s.heap.objs.size],its.toArray.size,_,_,λi=>(bs[i]?).getD true,rfl,Walks.list (A:=X.A.in1) (I.ok.hd hc) _ l (A4 LI) its.toArray,
  ⟨⟨_,x5 _ rfl,rfl,rfl⟩,hl.push _⟩,λi v s' Q' E' hP hQ=>?_,λh' tk hk=>?_⟩
 .obtain⟨b,e,rfl⟩:=hb.get i v (by simpa using hP);simp only[e,Option.getD_some]at hQ;exact C7 hQ
 .have e:((List.range its.toArray.size).all λi=>(bs[i]?).getD true)=bs.all id:=by
   rw[l6,hb.length];exact LSm.range_all bs
  rw[e];exact⟨.bl _,H,I.kept (t':=tk) (LSm.kept_iter hk),rfl,q⟩
theorem IX(hc:X.calm=true):gy X (.builtin "any") (λxs H Q=>∃(l:Addr)(bs:List Bool),xs=[.ref l]/\LA X.K H l (bs.map V.bl)/\Q (.bl (bs.any id)) H):=by
 intro Ly s σ H xs us Q I r h;obtain⟨l,bs,rfl,hq,q⟩:=h;obtain⟨u,rfl,rx⟩:=vals1 r;cases rx
 obtain⟨its,rv,pl,_⟩:=I.list hq;have hl:=pl.isList;have hb:=zw rv;have LI:l<s.heap.objs.size:=by obtain⟨_,e,_⟩:=hl;exact p5 e
 refine call_any_walk (K1 hl ?_)
 refine⟨s.heap.objs.size,[s.heap.objs.size,l],[s.heap.objs.size],its.toArray.size,_,_,λi=>(bs[i]?).getD false,rfl,Walks.list (A:=X.A.in1) (I.ok.hd hc) _ l (A4 LI) its.toArray,
  ⟨⟨_,x5 _ rfl,rfl,rfl⟩,hl.push _⟩,λi v s' Q' E' hP hQ=>?_,λh' tk hk=>?_⟩
 .obtain⟨b,e,rfl⟩:=hb.get i v (by simpa using hP);simp only[e,Option.getD_some]at hQ;exact C7 hQ
 .have e:((List.range its.toArray.size).any λi=>(bs[i]?).getD false)=bs.any id:=by
   rw[l6,hb.length];exact LSm.range_any bs
  rw[e];exact⟨.bl _,H,I.kept (t':=tk) (LSm.kept_iter hk),rfl,q⟩
end
section
variable{X:Cx}{K:W.Frag}
theorem lT(e:X.K=K):UC X (Vc K):=e ▸ az
theorem Ie(e:X.K=K):UC X (Vd K):=e ▸ bC
theorem EV(e:X.K=K):gy X (.builtin "isinstance") (λxs H Q=>∃y c cv t k,xs=[y,c]/\(∀u,RelV c u->u=cv)/\ko K H y t/\PySem.W.kitOne K t cv=some k/\Q (.bl k) H):=e ▸ lF
end
theorem Dd{α:Type}[DecidableEq α]{f:α->PyData}(h:∀a b,PyData.eqv (f a) (f b)=decide (a=b)):∀L M:List α,PyData.eqvAll (L.map f) (M.map f)=decide (L=M)
 | [],[]=>by simp[PyData.eqvAll]
 | [],_::_=>by simp[PyData.eqvAll]
 | _::_,[]=>by simp[PyData.eqvAll]
 | a::r,b::t=>by
  simp only[A5,PyData.eqvAll,h a b,Dd h r t]
  by_cases h1:a=b<;>by_cases h2:r=t<;>simp[h1,h2]
structure fA(K:W.Frag)(mg:Str->Option Value)(x:Str)(ns:List Int):Prop where
 ex:∃a,mg x=some (.ref a)/\∀H,Lz K H a (ns.map V.int)
theorem jr{K:W.Frag}(X:K.In h)(G:h.Ns mainGlobals mg)
  (e:PySem.W.nsIn K mainGlobals x=some (some (.ref a)))(l:K.lookup a=some ⟨.type "tuple",od,.seq its n,osl⟩)(hz:its.size<=sizeLine)(v:Vals (ns.map V.int) its.toList):fA K mg x ns:=
 ⟨a,Lb X G e,λ_=>.inr ⟨_,its,n,l,rfl,rfl,hz,v⟩⟩
theorem DB{K:W.Frag}{n:Int}(X:K.In h)(G:h.Ns mainGlobals mg)(e:PySem.W.nsIn K mainGlobals x=some (some v))(q:∃t,v=.int n t):∃t,mg x=some (.int n t):=by
 obtain⟨t,rfl⟩:=q;exact⟨t,Lb X G e⟩
end L2
namespace Mine
variable{H H' H1 H2:Hp}{p:Addr}{c:CCs}
namespace Lo
noncomputable def gc(a b:Int):Int:=(Int.gcd a b:Nat)
theorem pL(a b:Int):0<=gc a b:=Int.natCast_nonneg _
theorem Bh{a b:Int}(h:b≠0):0<gc a b:=by
 have:=Int.gcd_pos_of_ne_zero_right a h;unfold gc;omega
theorem xi{a:Int}(h:0<=a):gc a 0=a:=by
 unfold gc;rw[Int.gcd_zero_right];omega
theorem EK(a b:Int):gc a.natAbs b.natAbs=gc a b:=by
 unfold gc Int.gcd;simp
theorem xj(g l:Int):gc l (g.fmod l)=gc g l:=by
 unfold gc;congr 1;rw[Int.fmod_def];rw[Int.gcd_comm g l];have:g-l*g.fdiv l=g+l*(-(g.fdiv l)):=by rw[Int.mul_neg];omega
 rw[this];exact Int.gcd_add_mul_left_right ..
theorem eT(a b:Int):gc a b∣a:=Int.gcd_dvd_left ..
theorem gh(a b:Int):gc a b∣b:=Int.gcd_dvd_right ..
noncomputable def sg(t b:Int):Int:=if b<0 then -(gc t b) else gc t b
noncomputable def za(t b:Int):Int:=t.fdiv (sg t b)
noncomputable def zb(t b:Int):Int:=b.fdiv (sg t b)
theorem uQ{t b:Int}(h:b≠0):sg t b≠0:=by
 have:=Bh (a:=t) h;unfold sg;split<;>omega
theorem xX(t b:Int):sg t b∣t:=by
 unfold sg;split
 .exact Int.neg_dvd.mpr (eT t b)
 .exact eT t b
theorem xY(t b:Int):sg t b∣b:=by
 unfold sg;split
 .exact Int.neg_dvd.mpr (gh t b)
 .exact gh t b
theorem CQ(t b:Int):sg t b*za t b=t:=by
 unfold za;rw[J7 (xX t b)];exact Kl (xX t b)
theorem CV(t b:Int):sg t b*zb t b=b:=by
 unfold zb;rw[J7 (xY t b)];exact Kl (xY t b)
theorem Bi(f t b:Int):gc (f*t) (f*b)=f.natAbs*gc t b:=by
 unfold gc;rw[Int.gcd_mul_left];rfl
theorem jG{s x n:Int}(hs:s≠0)(e:s*x=n):x.natAbs<=n.natAbs:=by
 rw[<- e,Lv];have:1<=s.natAbs:=by omega
 exact Nat.le_mul_of_pos_left _ this
theorem CP{t b:Int}(hb:b≠0):(za t b).natAbs<=t.natAbs:=jG (uQ hb) (CQ t b)
theorem CU{t b:Int}(hb:b≠0):(zb t b).natAbs<=b.natAbs:=jG (uQ hb) (CV t b)
theorem V1{t b:Int}(hb:b≠0):(gc t b).natAbs<=b.natAbs:=by
 have h:=Int.gcd_dvd_right (a:=t) (b:=b);have:=Nat.le_of_dvd (by omega) (Int.natAbs_dvd_natAbs.mpr h);unfold gc;exact this
theorem sg_le{t b:Int}(hb:b≠0):(sg t b).natAbs<=b.natAbs:=by
 have:=V1 (t:=t) hb;unfold sg;split<;>omega
theorem low_gc{t b:Int}(hb:b≠0):gc (za t b) (zb t b)=1:=by
 have h1:=CQ t b;have h2:=CV t b;have h3:=Bi (sg t b) (za t b) (zb t b);rw[h1,h2]at h3;have h4:=Bh (a:=t) hb
 have h5:((sg t b).natAbs:Int)=gc t b:=by
  unfold sg;split<;>omega
 rw[h5]at h3;have h6:gc t b*gc (za t b) (zb t b)=gc t b*1:=by rw[<- h3,K0]
 exact Jy (by omega) h6
end Lo
namespace Ln
end Ln
open PySem L2
noncomputable abbrev bits (x:Int):Nat:=Builtin.Int.intBits x
theorem Dp{x:Int}{m:Nat}(h:x.natAbs<2^m):bits x<=m:=intBits_le_iff.mpr h
theorem dH(i:Int):(if i<0 then -i else i)=(i.natAbs:Int):=by split<;>omega
structure Of(K:W.Frag)(H:Hp)(a:Addr)(ns:List Int):Prop where
 sq:(∃o,H a=some (.frz o (.lst (ns.map V.int))))\/∃(o:Obj)(its:Array Value)(n:Nat),K.lookup a=some o/\o.cls=.type "list"/\o.dict=none/\o.data=.seq its n/\its.size<=sizeLine/\Vals (ns.map V.int) its.toList
 few:ns.length<=63
 bit:∀n∈ns,bits n<=1048576
theorem Of.l(S:Of K H a ns):LA K H a (ns.map V.int):=S.sq.elim (λh=>.inl (.inr h)) .inr
theorem Of.ts(S:Of K H a ns)(e:Mv H H'):Of K H' a ns:=⟨S.sq.elim (λ⟨o,h⟩=>.inl ⟨o,e.f _ _ _ h⟩) .inr,S.few,S.bit⟩
theorem scr_of(O:Qb H)(h:LA K H a (ns.map V.int))(few:ns.length<=63)(bit:∀n∈ns,bits n<=1048576):Of K H a ns:=by
 refine⟨?_,few,bit⟩;rcases h with(h | h) | h
 .exfalso;rcases O a with z | ⟨o,xs,z⟩
  .rw[h]at z;cases z
  .rw[h]at z;cases z
 .exact .inl h
 .exact .inr h
theorem ak(h:H p=none)(o:HO):aK H (upd H p o):=λb u q=>by rw[aA (aF q h)];exact q
theorem aX(e:aK H H')(h:H l=none)(o:HO):aK H (upd H' l o):=λb u q=>by rw[aA (aF q h)];exact e b u q
noncomputable def NH(p q:Int):PyData:=.tuple [.int p,.int q]
section
variable{K:W.Frag}{H H':Hp}{a:Addr}{v e:V}{p q m h:Int}{s:St4}{L:List St4}
end
theorem S9(p q:Int):(NH p q).canLay0=true:=by simp[NH,PyData.canLay0,PyData.canLayAll0]
theorem Iz(p q:Int):(NH p q).depth=1:=by simp[NH,PyData.depth,PyData.depthAll]
theorem dE(p q:Int):SeqAt.shaped (NH p q)=true:=by simp[SeqAt.shaped,S9,Iz]
theorem Ta(p q r s:Int):PyData.eqv (NH p q) (NH r s)=decide (p=r/\q=s):=by
 simp only[NH,PyData.eqv,PyData.eqvAll,Bool.and_true]
 by_cases h1:p=r<;>by_cases h2:q=s<;>simp[h1,h2]
mutual
theorem zj:∀d:PyData,d.canLay0=true->PyData.eqv d d=true
 | .none,_=>by simp[PyData.eqv]
 | .bool _,_=>by simp[PyData.eqv]
 | .int _,_=>by simp[PyData.eqv]
 | .str _,_=>by simp[PyData.eqv]
 | .list xs,h=>by simp only[PyData.eqv];exact lD xs (by simpa [PyData.canLay0] using h)
 | .tuple xs,h=>by simp only[PyData.eqv];exact lD xs (by simpa [PyData.canLay0] using h)
 | .dict _,h=>by simp[PyData.canLay0]at h
theorem lD:∀xs:List PyData,PyData.canLayAll0 xs=true->PyData.eqvAll xs xs=true
 | [],_=>by simp[PyData.eqvAll]
 | x::xs,h=>by
  have h':x.canLay0=true/\PyData.canLayAll0 xs=true:=by simpa [PyData.canLayAll0] using h
  simp[PyData.eqvAll,zj x h'.1,lD xs h'.2]
end
theorem nu(h:SeqAt.shaped d=true):PyData.eqv d d=true:=zj d (SeqAt.canLay_of_shaped h)
noncomputable def PL:HO->Bool
 | .tup _=>true
 | .ins _ _ _=>true
 | .own _=>true
 | .frz _ _=>true
 | _=>false
def Kp(H H':Hp):Prop:=∀b o,H b=some o->PL o=true->H' b=some o
theorem Kp.trans(a:Kp H H1)(b:Kp H1 H2):Kp H H2:=λc o h f=>b c o (a c o h f) f
theorem Kp.of(e:aK H H'):Kp H H':=λb o h _=>e b o h
theorem Sn(h:H p=none)(o:HO):Kp H (upd H p o):=Kp.of (λb u z=>by rw[aA (aF z h)];exact z)
theorem iU{l:Addr}{o u:HO}(h:H l=some o)(f:PL o=false):Kp H (upd H l u):=λb z hb fz=>by
 rw[aA (sT hb h λe=>by rw[e,f]at fz;cases fz)]
 exact hb
theorem ff{K:W.Frag}{t:Value}:PySem.W.kitOne K t t=some true:=by unfold PySem.W.kitOne;rw[d8 (F7 t)]
def SB(c:V)(H H':Hp):Prop:=∀b o,H b=some o->V.ref b≠c->H' b=some o
theorem SB.refl(c:V)(H:Hp):SB c H H:=λ_ _ h _=>h
theorem SB.trans{c:V}(a:SB c H H1)(b:SB c H1 H2):SB c H H2:=λd o h n=>b d o (a d o h n) n
theorem SB.of{c:V}(e:aK H H'):SB c H H':=λb o h _=>e b o h
theorem SB.kp{c:V}(e:SB c H H')(hc:∀a o,c=.ref a->H a=some o->PL o=false):Kp H H':=λb o h f=>e b o h λz=>by
 rw[hc b o z.symm h]at f;cases f
theorem jf{a:Addr}(H:Hp)(u:HO):SB (.ref a) H (upd H a u):=λb o h n=>by
 rw[aA λz=>n (by rw[z])];exact h
inductive Tu(H:Hp):Addr->Tr->Prop where
 | never {a}:H a=some (.tup [.str "never"])->Tu H a .never
 | always {a}:H a=some (.tup [.str "always"])->Tu H a .always
 | lp {a}:H a=some (.tup [.str "p"])->Tu H a .lp
 | lq {a}:H a=some (.tup [.str "q"])->Tu H a .lq
 | no {a b t}:H a=some (.tup [.str "not",.ref b])->Tu H b t->Tu H a (.no t)
 | fold {a b d w x y}:H a=some (.tup [.str (W5.str w),.ref b,.ref d])->Tu H b x->Tu H d y->Tu H a (.fold w x y)
theorem Tu.to{a:Addr}{t:Tr}(h:Tu H a t)(e:Kp H H'):Tu H' a t:=by
 induction h with
 | never h=>exact .never (e _ _ h rfl)
 | always h=>exact .always (e _ _ h rfl)
 | lp h=>exact .lp (e _ _ h rfl)
 | lq h=>exact .lq (e _ _ h rfl)
 | no h _ ih=>exact .no (e _ _ h rfl) ih
 | fold h _ _ i1 i2=>exact .fold (e _ _ h rfl) i1 i2
structure CCs where
 (ne al le no mo ls gr lr ld:Addr)
noncomputable def CCs.fold(c:CCs):W5->Addr
 | .more=>c.mo | .less=>c.ls | .greater=>c.gr | .lesser=>c.lr | .leads=>c.ld
noncomputable def oE(x:V):List (Str×V):=[("name",x)]
noncomputable def lC(x:V):List (Str×V):=[("part",x)]
noncomputable def uu(x y:V):List (Str×V):=[("one",x),("other",y)]
inductive Ob(c:CCs)(H:Hp):Addr->Tr->Prop where
 | never {a dx}:H a=some (.ins c.ne dx [])->Ob c H a .never
 | always {a dx}:H a=some (.ins c.al dx [])->Ob c H a .always
 | lp {a dx}:H a=some (.ins c.le dx (oE (.str "p")))->Ob c H a .lp
 | lq {a dx}:H a=some (.ins c.le dx (oE (.str "q")))->Ob c H a .lq
 | no {a dx b t}:H a=some (.ins c.no dx (lC (.ref b)))->Ob c H b t->Ob c H a (.no t)
 | fold {a dx b d w x y}:H a=some (.ins (c.fold w) dx (uu (.ref b) (.ref d)))->Ob c H b x->Ob c H d y->Ob c H a (.fold w x y)
theorem Ob.to{a:Addr}{t:Tr}(h:Ob c H a t)(e:Kp H H'):Ob c H' a t:=by
 induction h with
 | never h=>exact .never (e _ _ h rfl)
 | always h=>exact .always (e _ _ h rfl)
 | lp h=>exact .lp (e _ _ h rfl)
 | lq h=>exact .lq (e _ _ h rfl)
 | no h _ ih=>exact .no (e _ _ h rfl) ih
 | fold h _ _ i1 i2=>exact .fold (e _ _ h rfl) i1 i2
inductive cB{α β:Type}(R:α->β->Prop):List α->List β->Prop where
 | nil:cB R [] []
 | cons {a b as bs}:R a b->cB R as bs->cB R (a::as) (b::bs)
theorem cB.imp{α β:Type}{R R':α->β->Prop}(f:∀a b,R a b->R' a b){as:List α}{bs:List β}(h:cB R as bs):cB R' as bs:=by
 induction h with
 | nil=>exact .nil
 | cons r _ ih=>exact .cons (f _ _ r) ih
theorem cB.app{α β:Type}{R:α->β->Prop}{as cs:List α}{bs ds:List β}(h:cB R as bs)(k:cB R cs ds):cB R (as++cs) (bs++ds):=by
 induction h with
 | nil=>exact k
 | cons r _ ih=>exact .cons r ih
theorem cB.rev{α β:Type}{R:α->β->Prop}{as:List α}{bs:List β}(h:cB R as bs):cB R as.reverse bs.reverse:=by
 induction h with
 | nil=>exact .nil
 | cons r _ ih=>rw[C8,C8];exact ih.app (.cons r .nil)
theorem cB.len{α β:Type}{R:α->β->Prop}{as:List α}{bs:List β}(h:cB R as bs):as.length=bs.length:=by
 induction h with
 | nil=>rfl
 | cons _ _ ih=>rw[m6,m6,ih]
theorem cB.get{α β:Type}{R:α->β->Prop}{as:List α}{bs:List β}(h:cB R as bs):∀(i:Nat)(a:α),as[i]?=some a->∃b,bs[i]?=some b/\R a b:=by
 induction h with
 | nil=>intro i a z;cases z
 | cons r _ ih =>
  intro i x z;cases i with
  | zero=>cases z;exact⟨_,rfl,r⟩
  | succ i=>exact ih i x z
theorem cB.last{α β:Type}{R:α->β->Prop}{as:List α}{bs:List β}(h:cB R as bs)(n:as≠[]):∃as' a bs' b,as=as'++[a]/\bs=bs'++[b]/\R a b/\cB R as' bs':=by
 have h':=h.rev;have n':as.reverse≠[]:=λz=>n (List.reverse_eq_nil_iff.mp z);have e1:as=as.reverse.reverse:=(Km _).symm;have e2:bs=bs.reverse.reverse:=(Km _).symm;rw[e1,e2]
 revert h' n'
 generalize as.reverse=u;generalize bs.reverse=v;intro h' n';cases h' with
 | nil=>exact absurd rfl n'
 | cons r k=>exact⟨_,_,_,_,C8,C8,r,k.rev⟩
theorem jv{α:Type}(ys:List α)(a:α):(ys++[a])[(ys++[a]).length-1]?=some a:=by simp
abbrev Np(c:CCs)(H:Hp)(v:V)(t:Tr):Prop:=∃a,v=.ref a/\Ob c H a t
theorem Np.to(e:Kp H H')(v:V)(t:Tr)(h:Np c H v t):Np c H' v t:=by
 obtain⟨a,r,o⟩:=h;exact⟨a,r,o.to e⟩
noncomputable def Tr.kids:Tr->List Tr
 | .no t=>[t]
 | .fold _ a b=>[a,b]
 | _=>[]
noncomputable def bY(ts:List Tr):Nat:=(ts.map Tr.size).sum
theorem lK(a b:List Tr):bY (a++b)=bY a+bY b:=by simp[bY]
theorem vx(t:Tr):bY t.kids+1=t.size:=by cases t<;>simp[bY,Tr.kids,Tr.size]
theorem GV(t:Tr):t.post.reverse=t::(t.kids.reverse.flatMap λx=>x.post.reverse):=by
 cases t<;>simp[Tr.post,Tr.kids]
inductive Pc where
 | w (x:Str)
 | t (t:Tr)
noncomputable def Tr.pieces:Tr->List Pc
 | .never=>[.w "never"]
 | .always=>[.w "always"]
 | .lp=>[.w "p"]
 | .lq=>[.w "q"]
 | .no t=>[.w "not",.t t]
 | .fold w a b=>[.w "(",.t a,.w w.str,.t b,.w ")"]
inductive PcV(c:CCs)(H:Hp):V->Pc->Prop where
 | w (x:Str):PcV c H (.str x) (.w x)
 | t {a:Addr} {t:Tr}:Ob c H a t->PcV c H (.ref a) (.t t)
theorem kh(i j:Int):(if j<i then j else i)=min i j:=by
 rw[Int.min_def];split<;>split<;>omega
theorem nh(i j:Int):(if j>i then j else i)=max i j:=by
 rw[Int.max_def];split<;>split<;>omega
end Mine
namespace L2
open PySem PySem.Spec PyProof.Rows
variable{C:Addr}{qual:Str}{st:Stmt}{N ps:List Str}{sp:Sp}
structure bH(K:W.Frag)(C:Addr)(m qual:Str)(st:Stmt):Prop where
 cl:Cls K C
 ex:∃(f:Addr)(fd:FuncData),Meth K C m f/\OE K m qual st f fd
variable{P:Program}{w:World}{K:W.Frag}{mg:Str->Option Value}{base:Heap}
theorem bM{m:Str}{k:Nat}(T:bH K C m qual st)(S:aD N ps (au st))(len:∀vs H Q E,sp vs H Q E->vs.length=ps.length)(body:∀(f:Addr)(cdv:Value)(A:Around)(outer:List Env)(s:Shared)(H:Hp)(vs:List V)(Q:VK)(E:XK),dY k (A.deeper (envOfC qual (au st) s.heap.objs.size f cdv))->sp vs H Q E->
   ∃t,LV (cN CX0 P w K mg base N qual (au st) f cdv A outer s H E).nox (bI st) t/\t {nx:=λ_ H'=>Q .non H',rt:=Q} (start N vs) H)
  (bd:∀(kV doc pm:Value)(an:Option Addr)(cdv ct:Value)(us:List Value),us.length=ps.length->bindArgs (PySem.W.fnOf m qual (gi st) (bI st) (au st) .none kV doc pm an cdv ct) ⟨us,[]⟩=pure (ps.zip us):=by walk_at "ar") :
  bF P w K mg base C m (k+1) ps sp:=by
 obtain⟨f,fd,hm,G⟩:=T.ex;exact⟨T.cl,f,fd,hm,G.ok S len (body f),G.binds bd⟩
structure MkF(K:W.Frag)(mg:Str->Option Value)(x:Str)(C:Addr)(qual:Str)(st:Stmt):Prop where
 cl:Cls K C
 mg_:mg x=some (.ref C)
 ex:∃(f:Addr)(fd:FuncData),Mk K C f/\OE K "__init__" qual st f fd
structure qC(P:Program)(w:World)(K:W.Frag)(mg:Str->Option Value)(base:Heap)(x:Str)(C:Addr)(k:Nat)(ps:List Str)(sp:Sp):Prop where
 mg_:mg x=some (.ref C)
 ex:∃(f:Addr)(fd:FuncData),Mk K C f/\oM P w K mg base CX0 k f fd ps sp/\Binds K fd ps []
theorem HR{x:Str}{k:Nat}(T:MkF K mg x C qual st)(S:aD N ps (au st))(len:∀vs H Q E,sp vs H Q E->vs.length=ps.length)(body:∀(f:Addr)(cdv:Value)(A:Around)(outer:List Env)(s:Shared)(H:Hp)(vs:List V)(Q:VK)(E:XK),dY k (A.deeper (envOfC qual (au st) s.heap.objs.size f cdv))->sp vs H Q E->
   ∃t,LV (cN CX0 P w K mg base N qual (au st) f cdv A outer s H E).nox (bI st) t/\t {nx:=λ_ H'=>Q .non H',rt:=Q} (start N vs) H)
  (bd:∀(kV doc pm:Value)(an:Option Addr)(cdv ct:Value)(us:List Value),us.length=ps.length->bindArgs (PySem.W.fnOf "__init__" qual (gi st) (bI st) (au st) .none kV doc pm an cdv ct) ⟨us,[]⟩=pure (ps.zip us):=by walk_at "ar") :
  qC P w K mg base x C (k+1) ps sp:=by
 obtain⟨f,fd,hm,G⟩:=T.ex;exact⟨T.mg_,f,fd,hm,G.ok S len (body f),G.binds bd⟩
section
variable{X:Cx}{x:Str}{C:Addr}{k:Nat}{ps:List Str}{sp:Sp}{e:Expr}{es:List Expr}{t:TA}{p pos:Pos}
theorem mr(M:qC X.prog X.w X.K X.mg X.base x C k ps sp)(ha:PA X (e::es) t)(hr:dY (k+1) X.A:=by walk_at "rm")(hg:Gl X x:=by rfl)(hdb:(x==("__debug__":Str))=false:=by decide)(he:starEach (e::es) X.env=(false,eval e X.env)::starEach es X.env:=by rfl)(hpl:(backTo pos (starEach es X.env)).any (·.1)=false:=by rfl) :
  PE X (.Call (.Name x p) (e::es) [] pos) (Qn C sp [] E0 t):=by
 obtain⟨f,fd,hm,G,hb⟩:=M.ex;exact O6 hm G hr hg M.mg_ hb .nil yD ha hdb he hpl
end
end L2
namespace Mine
open PySem L2
variable{a dz:Addr}{c:CCs}{H:Hp}{w u:W5}{t':Tr}{o:HO}{z:Int}{Q:VK}{i:Nat}
noncomputable def CCs.of(c:CCs):Tr->Addr
 | .never=>c.ne
 | .always=>c.al
 | .lp=>c.le
 | .lq=>c.le
 | .no _=>c.no
 | .fold w _ _=>c.fold w
theorem lR(x:V):(oE x).lookup ("name":Str)=some x:=by unfold oE;rw[E4,F7]
theorem EA(x:V):(lC x).lookup ("part":Str)=some x:=by unfold lC;rw[E4,F7]
theorem HY(x y:V):(uu x y).lookup ("one":Str)=some x:=by unfold uu;rw[E4,F7]
theorem AX(x y:V):(uu x y).lookup ("other":Str)=some y:=by
 unfold uu;rw[E4,show(("other":Str)==("one":Str))=false by decide+kernel];show List.lookup ("other":Str) [("other",y)]=some y;rw[E4,F7]
abbrev NoF(m:Str):Prop:=m≠"name"/\m≠"part"/\m≠"one"/\m≠"other"
theorem jH{m a:Str}{x:V}{r:List (Str×V)}(h:m≠a)(k:r.lookup m=none):((a,x)::r).lookup m=none:=by
 rw[E4,G6.mpr h];exact k
theorem Ob.cls{t:Tr}(h:Ob c H a t):∃dx fs,H a=some (.ins (c.of t) dx fs)/\∀m,NoF m->fs.lookup m=none:=by
 cases h with
 | never h=>exact⟨_,_,h,λm _=>rfl⟩
 | always h=>exact⟨_,_,h,λm _=>rfl⟩
 | lp h=>exact⟨_,_,h,λm n=>jH n.1 rfl⟩
 | lq h=>exact⟨_,_,h,λm n=>jH n.1 rfl⟩
 | no h _=>exact⟨_,_,h,λm n=>jH n.2.1 rfl⟩
 | fold h _ _=>exact⟨_,_,h,λm n=>jH n.2.2.1 (jH n.2.2.2 rfl)⟩
structure Fx(K:W.Frag)(c:CCs):Prop where
 cl:∀t,Cls K (c.of t)
 ha:∀t,PySem.W.findIn K (.ref (c.of t)) "__class__"=some (some (.builtin "object.__class__"))
 hm:∀t,PySem.W.mroIn K (c.of t) (.type "object")=some true
 ks:∀t,PySem.W.kitOne K (.ref (c.of t)) (.type "str")=some false
 hn:PySem.W.specialIn K (.builtin "object.__class__") "__get__"=some (some (.builtin "getset_descriptor.__get__"))
 tk:PySem.W.takesIn K (.builtin "object.__class__")=some true
 nName:gu K c.le "name"
 nPart:gu K c.no "part"
 nOne:∀w,gu K (c.fold w) "one"
 nOther:∀w,gu K (c.fold w) "other"
theorem Fx.ty{K:W.Frag}(T:Fx K c){t:Tr}(h:Ob c H a t):ko K H (.ref a) (.ref (c.of t)):=by
 obtain⟨dx,fs,e,_⟩:=h.cls;exact .ins e (T.cl t) (T.ha t) T.hn T.tk (T.hm t)
noncomputable def Tr.word:Tr->Str
 | .never=>"never"
 | .always=>"always"
 | .lp=>"p"
 | .lq=>"q"
 | .no _=>"not"
 | .fold u _ _=>u.str
def vV(c:CCs)(t:Tr):Sp:=λvs H Q _=>∃a,vs=[.ref a]/\Ob c H a t/\∀l us,H l=none->cB (Np c H) us t.kids->Q (.ref l) (upd H l (.lst us))
def ia(c:CCs)(t:Tr):Sp:=λvs H Q _=>∃a:Addr,vs=[.ref a]/\Ob c H a t/\Q (.str t.word) H
def iM(w:W5):Sp:=λvs H Q _=>∃(a:Addr)(n x y:Int),vs=[.ref a,.int n,.int x,.int y]/\Q (.int (w.worth n x y)) H
def jM(c:CCs)(t:Tr):Sp:=λvs H Q _=>∃(a l:Addr)(n x y:Int)(R R':List Int),vs=[.ref a,.ref l,.int n,.int x,.int y]/\Ob c H a t/\H l=some (.lst (R.reverse.map V.int))/\R.length<=1000/\(iK n x y).step R t=some R' /\
 ∀H',SB (.ref l) H H'->H' l=some (.lst (R'.reverse.map V.int))->Q .non H'
def rE(c:CCs)(t:Tr):Sp:=λvs H Q _=>∃a,vs=[.ref a]/\Ob c H a t/\t.size<=1000/\∀l us H',aK H H'->H l=none->H' l=some (.lst us)->cB (Np c H') us t.post->Q (.ref l) H'
def FQ(c:CCs)(t:Tr):Sp:=λvs H Q _=>∃(a:Addr)(n x y:Int),vs=[.ref a,.int n,.int x,.int y]/\Ob c H a t/\t.size<=1000/\∀H',aK H H'->Q (.int (t.worth n x y)) H'
def jN(C:Addr)(fl:V->List (Str×V)):Sp:=λvs H Q _=>∃(a dx:Addr)(x:V),vs=[.ref a,x]/\H a=some (.ins C dx [])/\Q .non (upd H a (.ins C dx (fl x)))
def wd(C:Addr):Sp:=λvs H Q _=>∃(a dx:Addr)(x y:V),vs=[.ref a,x,y]/\H a=some (.ins C dx [])/\Q .non (upd H a (.ins C dx (uu x y)))
theorem GN(x y:V):jV "other" y (jV "one" x [])=uu x y:=by
 show(if("one":Str)="other" then[(("one":Str),y)] else(("one":Str),x)::jV "other" y [])=_;rw[i5 (by decide+kernel)];rfl
noncomputable def W5.cls:W5->Str
 | .more=>"More" | .less=>"Less" | .greater=>"Greater" | .lesser=>"Lesser" | .leads=>"Leads"
theorem VC:decide (V.str "p"=V.str "p")=true:=i6 rfl
theorem VB:decide (V.str "q"=V.str "p")=false:=D7 (λz=>absurd (V.str.inj z) (by decide+kernel))
theorem fW(a:Int)(R:List Int):R.reverse.map V.int++[V.int a]=(a::R).reverse.map V.int:=by rw[C8,p7];rfl
theorem nS{R:List Int}(h:R.length<=1000):(R.reverse.map V.int).length<sizeLine:=by
 rw[j4,E5];exact d9 h (by decide)
theorem ju{α:Type}{G:Alg α}{R R':List α}{t:Tr}(h:G.step R t=some R')(k:t.kids=[]):R'=G.leaf t::R:=by
 cases t with
 | no t=>cases k
 | fold w a b=>cases k
 | _=>cases R with
  | nil=>exact(l7 h).symm
  | cons a R=>cases R<;>exact(l7 h).symm
theorem BU{α:Type}{G:Alg α}{R R':List α}{t:Tr}(h:G.step R (.no t)=some R'):∃b R1,R=b::R1/\R'=G.no b::R1:=by
 cases R with
 | nil=>cases h
 | cons b R1=>cases R1<;>exact⟨b,_,rfl,(l7 h).symm⟩
theorem uP{α:Type}{G:Alg α}{R R':List α}{t:Tr}(h:G.step R (.fold w t t')=some R'):∃b2 b1 R1,R=b2::b1::R1/\R'=G.fold w b1 b2::R1:=by
 cases R with
 | nil=>cases h
 | cons b R1=>cases R1 with
  | nil=>cases h
  | cons b' R1=>exact⟨b,b',R1,rfl,(l7 h).symm⟩
theorem kC{l p:Addr}(h:upd H l o p=none):H p=none:=by
 by_cases e:p=l
 .subst e;rw[ae]at h;cases h
 .rw[aA e]at h;exact h
theorem gH{C z:Addr}{fs:List (Str×V)}(hz:H z=none)(hd:H dz=none)(ne:dz≠z):aK H (upd (upd (upd H dz (.own z)) z (.ins C dz [])) z (.ins C dz fs)):=λb o h=>by
 rw[aA (aF h hz),aA (aF h hz),aA (aF h hd)];exact h
theorem Ez{z b d:Addr}{t:Tr}(hz:H z=none)(hd:H dz=none)(ne:dz≠z)(o:Ob c H b t)(o':Ob c H d t')(q:∀e H',aK H H'->Ob c H' e (.fold u t t')->Q (.ref e) H') :
  Q (.ref z) (upd (upd (upd H dz (.own z)) z (.ins (c.fold u) dz [])) z (.ins (c.fold u) dz (uu (.ref b) (.ref d)))):=by
 have sm:=gH (C:=c.fold u) (fs:=uu (.ref b) (.ref d)) hz hd ne;exact q z _ sm (.fold ae (o.to (Kp.of sm)) (o'.to (Kp.of sm)))
theorem zi:∀ts:List Tr,(ts.flatMap λx=>x.post.reverse).length=bY ts
 | []=>rfl
 | t::r=>by
  rw[List.flatMap_cons,c8,E5,fX,zi r];simp[bY]
theorem DI(ts:List Tr):bY ts.reverse=bY ts:=by simp[bY]
theorem vq:∀ts:List Tr,ts.length<=bY ts
 | []=>c7 _
 | t::r=>by
  have h:=vq r;have p:=t.size_pos;have e:bY (t::r)=t.size+bY r:=by simp[bY]
  rw[e,m6];omega
theorem lz(t:Tr):t.kids.length<=2:=by cases t<;>simp[Tr.kids]
theorem FK{α:Type}{G:Alg α}{R R':List α}{t:Tr}(h:G.step R t=some R'):R'.length<=R.length+1:=by
 cases t with
 | no t=>obtain⟨b,R1,rfl,rfl⟩:=BU h;simp
 | fold w x y=>obtain⟨b,b',R1,rfl,rfl⟩:=uP h;simp
 | _=>rw[ju h rfl];simp
theorem Gu{α:Type}{G:Alg α}{R Z:List α}{t:Tr}{r:List Tr}(h:G.run R (t::r)=some Z):∃R',G.step R t=some R'/\G.run R' r=some Z:=by
 unfold Alg.run at h;cases e:G.step R t with
 | none=>rw[e]at h;cases h
 | some R'=>rw[e]at h;exact⟨R',rfl,h⟩
theorem Df{α:Type}{xs:List α}{x:α}(h:xs[i]?=some x):xs.drop i=x::xs.drop (i+1):=by
 obtain⟨hi,e⟩:=d6.mp h;rw[C9 hi,e]
theorem ite_yes{a:Str}{A B:Prop}(h:a=b)(k:A):if decide (V.str a=V.str b)=true then A else B:=by
 rw[i6 (z6 V.str h),d8 rfl];exact k
theorem ite_no{a:Str}{A B:Prop}(h:a≠b)(k:B):if decide (V.str a=V.str b)=true then A else B:=by
 rw[D7 (λz=>h (V.str.inj z)),i5 l9];exact k
theorem lA{A B:Prop}(h:MK x xs=true)(k:A):if(if false=true then !MK x xs else MK x xs)=true then A else B:=by
 rw[i5 l9,h,d8 rfl];exact k
theorem lB{A B:Prop}(h:MK x xs=false)(k:B):if(if false=true then !MK x xs else MK x xs)=true then A else B:=by
 rw[i5 l9,h,i5 l9];exact k
def Mr(m:Int):Prop:=0<=m/\Builtin.Int.intBits m<=1048576
theorem cel0:Mr 0:=⟨C3 _,by decide⟩
theorem IZ(z:Int):Builtin.Int.intBits (if z<0 then -z else z)=Builtin.Int.intBits z:=by
 unfold Builtin.Int.intBits
 by_cases h:z<0
 .rw[d8 h];simp
 .rw[i5 h]
theorem P4(h:Builtin.Int.intBits z<=1048576):Mr (if z<0 then -z else z):=⟨by split<;>omega,by rw[IZ];exact h⟩
theorem pN(h0:0<=z)(h:z<2^64):Mr z:=⟨h0,l8 (intBits_le_64 (by omega) h) (by decide)⟩
theorem Of.to(h:Of K H a ns)(e:aK H H'):Of K H' a ns:=h.ts e.ts
def Ca(K:W.Frag):Sp:=λvs H Q _=>∃(a:Addr)(ns:List Int)(k:Int),vs=[.ref a,.int k]/\Of K H a ns/\0<=k/\k<=100/\∀(D:Addr)(ms:List Int)(H':Hp),aK H H'->H D=none->H' D=some (.lst (ms.map V.int))->(∀m∈ms,Mr m)->Q (.ref D) H'
def vU:Sp:=λvs H Q _=>∃(l:Addr)(ms:List Int),vs=[.ref l]/\H l=some (.lst (ms.map V.int))/\(∀m∈ms,Mr m)/\∀(i:Int)(Mt:List Int)(H':Hp),Mr i->(∀m∈Mt,Mr m)->SB (.ref l) H H'->H' l=some (.lst (Mt.map V.int))->Q (.int i) H'
def xV(n:Nat):Sp:=λvs H Q _=>∃(l:Addr)(ms:List Int)(r:Int)(b:Bool),vs=[.ref l,.int r,.bl b]/\H l=some (.lst (ms.map V.int))/\(∀m∈ms,Mr m)/\1<=r/\r<=n/\
 ∀(a:Addr)(t:Tr)(Mt:List Int)(H':Hp),(t.size:Int)<=r->(∀m∈Mt,Mr m)->SB (.ref l) H H'->H' l=some (.lst (Mt.map V.int))->Tu H' a t->Q (.ref a) H'
def Cb:Sp:=λvs H Q _=>∃(u:W5)(n x y:Int),vs=[.str u.str,.int n,.int x,.int y]/\Q (.int (u.worth n x y)) H
def BV(k:Nat):Sp:=λvs H Q _=>∃(a:Addr)(t:Tr)(n x y:Int),vs=[.ref a,.int n,.int x,.int y]/\Tu H a t/\t.size<=k/\∀H',aK H H'->Q (.int (t.worth n x y)) H'
def xU:Sp:=λvs H Q _=>∃i:Int,vs=[.int i]/\Q (.bl true) H
end Mine
namespace L2
open PySem PySem.Spec PyProof.Rows
variable{items:Array Value}{lo hi:Option Int}{Q:Value->Shared->Prop}
namespace HT
variable{prog:Program}{w:World}{A:Around}{E:Value->Shared->Prop}{s:Shared}
theorem AZ{t sl:Addr}{vl vu:Value}(ht:IsTup s.heap t items)(hs:s.heap.IsSliceOf sl vl vu .none)(pl:IsPart vl lo)(pu:IsPart vu hi)
  (h0:_root_.HT.sIx items.size 0 lo=0)(h1:_root_.HT.sIx items.size items.size hi=items.size)(h:Q (.ref t) s):wpAny (model prog w) A (getItem (.ref t) (.ref sl)) Q E s:=by
 obtain⟨os,SN,XQ,SR⟩:=id hs;have ZV:s.TypeIs (.ref sl) "slice":=⟨os,SN,XQ⟩;unfold getItem
 try with_reducible refine wpAny_holding ?_
 first | refine c5 (x4 ?_) | skip
 refine c5 (wpAny_sequenceKey ht.typeIs (by decide) ?_)
 refine c5 (E7 (name:=Str.ofString "__getitem__") ht.typeIs C2
  (Jt C2 ht.typeIs PyProof.Rows.entry_tuple_getitem ?_ (PyProof.Rows.args_tuple_getitem _ _)))
 show wpAny _ _ (Builtin.Tuple.tupleItemsOf (.ref t) >>= _) _ _ s;refine c5 (PyProof.Rows.tupleItemsOf_ ht ?_);refine c5 (wpAny_typeOf ZV ?_);rw[d8 (by decide)];refine c5 (_root_.HT.jw hs pl pu ?_);have yes:(((_root_.HT.sIx items.size 0 lo:Nat):Int)==0 && (1:Int)==1 && (_root_.HT.sIx items.size items.size hi-_root_.HT.sIx items.size 0 lo)==items.size)=true:=by rw[h0,h1];simp
 show wpAny _ _ (if(((_root_.HT.sIx items.size 0 lo:Nat):Int)==0 && (1:Int)==1 && (_root_.HT.sIx items.size items.size hi-_root_.HT.sIx items.size 0 lo)==items.size)=true then _ else _) _ _ s;rw[d8 yes];unfold Builtin.Tuple.tupleIsExact;refine c5 (c5 (wpAny_typeOf ht.typeIs (x4 ?_)));rw[d8 (by decide)];exact c5 (wpAny_rule (x4 ⟨_,rfl,x4 h⟩))
end HT
section
variable{X:Cx}
def RY(K:W.Frag):V->Option Int->Option Int->Hp->VK->Prop:=λx lo hi H Q=>∃a xs,x=.ref a/\Lz K H a xs/\(_root_.HT.sIx xs.length 0 lo=0->_root_.HT.sIx xs.length xs.length hi=xs.length->Q (.ref a) H)/\
 (¬(_root_.HT.sIx xs.length 0 lo=0/\_root_.HT.sIx xs.length xs.length hi=xs.length)->∀p,H p=none->Q (.ref p) (upd H p (.tup (ki xs lo hi))))
theorem qN:Yd X (RY X.K):=by
 intro Ly s σ H x v vl vu lo hi sl Q I rx hs pl pu h;obtain⟨a,xs,rfl,hx,q1,q2⟩:=h
 by_cases hw:_root_.HT.sIx xs.length 0 lo=0/\_root_.HT.sIx xs.length xs.length hi=xs.length
 .cases rx
  obtain⟨its,r,ht,hz⟩:=I.tuple hx;have hlen:its.toArray.size=xs.length:=by rw[l6];exact r.length.symm
  refine⟨"tuple",_,C2.lookup,ht.typeIs,?_⟩;exact HT.AZ ht hs pl pu (by rw[hlen];exact hw.1) (by rw[hlen];exact hw.2) ⟨.ref a,H,I,rfl,q1 hw.1 hw.2⟩
 .exact RO Ly s σ H (.ref a) v vl vu lo hi sl Q I rx hs pl pu ⟨a,xs,rfl,hx,hw,q2 hw⟩
end
end L2
namespace Mine
open PySem L2
variable{b:Int}{H:Hp}{σ:St}{A B:Hp->Prop}
theorem PZ(ms:List Int)(lo hi:Option Int):∃Mt:List Int,ki (ms.map V.int) lo hi=Mt.map V.int/\∀m∈Mt,m∈ms:=by
 refine⟨(ms.drop (_root_.HT.sIx (ms.map V.int).length 0 lo)).take (_root_.HT.sIx (ms.map V.int).length (ms.map V.int).length hi-_root_.HT.sIx (ms.map V.int).length 0 lo),?_,λm h=>List.mem_of_mem_drop (JU h)⟩;unfold ki;rw[List.map_take,List.map_drop]
theorem fY{a:Int}(h:Builtin.Int.intBits b<=64):IntMulOk a b:=.of_right h
theorem sV{a:Int}(h:Builtin.Int.intBits a<=64):IntMulOk a b:=.of_left h
noncomputable abbrev sA:List Str:=["_law_cells","_law_room","_law_two","_law_cell","_law_turn","_law_left","_law_one","_law_word"]
theorem OH(m:Int)(h0:0<=m)(h:m<5):∃u:W5,MW [V.str "more",.str "less",.str "greater",.str "lesser",.str "leads"] m=some (.str u.str):=by
 have hm:m=0\/m=1\/m=2\/m=3\/m=4:=by omega
 rcases hm with rfl | rfl | rfl | rfl | rfl
 .exact⟨.more,rfl⟩
 .exact⟨.less,rfl⟩
 .exact⟨.greater,rfl⟩
 .exact⟨.lesser,rfl⟩
 .exact⟨.leads,rfl⟩
theorem two_at{x y:V}(m:Int)(h:m=0\/m=1):∃z,MW [x,y] m=some z/\(z=x\/z=y):=by
 rcases h with rfl | rfl
 .exact⟨x,rfl,.inl rfl⟩
 .exact⟨y,rfl,.inr rfl⟩
theorem Sl{l:Addr}{xs:List V}(e:H l=some (.lst xs)):∀a o,V.ref l=.ref a->H a=some o->PL o=false:=λa o z1 z2=>by cases z1;rw[e]at z2;cases z2;rfl
theorem Vi:MK (.str "p") [V.str "p",.str "q"]=true:=by decide+kernel
theorem Vh:MK (.str "q") [V.str "p",.str "q"]=true:=by decide+kernel
theorem GR:MK (.str "not") [V.str "p",.str "q"]=false:=by decide+kernel
theorem Vg(u:W5):MK (.str u.str) [V.str "p",.str "q"]=false:=by cases u<;>decide+kernel
theorem Vv:MK (.str "never") [V.str "never",.str "always"]=true:=by decide+kernel
theorem Vw:MK (.str "always") [V.str "never",.str "always"]=true:=by decide+kernel
theorem Zf:MK (.str "p") [V.str "never",.str "always"]=false:=by decide+kernel
theorem Ze:MK (.str "q") [V.str "never",.str "always"]=false:=by decide+kernel
theorem Sh:MK (.str "not") [V.str "never",.str "always"]=false:=by decide+kernel
theorem Zd(u:W5):MK (.str u.str) [V.str "never",.str "always"]=false:=by cases u<;>decide+kernel
theorem Yk(u:W5):u.str≠"never":=by cases u<;>decide+kernel
theorem Yl(u:W5):u.str≠"always":=by cases u<;>decide+kernel
theorem sF(hz:H z=none)(hd:H dz=none):aK H (upd (upd H dz (.own z)) z (.ins C dz [])):=λb o h=>by
 rw[aA (aF h hz),aA (aF h hd)];exact h
abbrev Ml(H:Hp)(v:V)(t:Tr):Prop:=∃a,v=.ref a/\Tu H a t
theorem Ml.to(e:Kp H H')(v:V)(t:Tr)(h:Ml H v t):Ml H' v t:=by
 obtain⟨a,r,o⟩:=h;exact⟨a,r,o.to e⟩
theorem Tu.parts(h:Tu H a t):∃us,H a=some (.tup (.str t.word::us))/\cB (Ml H) us t.kids:=by
 cases h with
 | never e=>exact⟨[],e,.nil⟩
 | always e=>exact⟨[],e,.nil⟩
 | lp e=>exact⟨[],e,.nil⟩
 | lq e=>exact⟨[],e,.nil⟩
 | no e h=>exact⟨_,e,.cons ⟨_,rfl,h⟩ .nil⟩
 | fold e h h'=>exact⟨_,e,.cons ⟨_,rfl,h⟩ (.cons ⟨_,rfl,h'⟩ .nil)⟩
theorem hJ(h:A H):kq σ H λb H4=>if b=true then A H4 else B H4:=by
 show if true=true then A H else B H
 rw[d8 rfl];exact h
theorem sZ{t x:Tr}(h:x∈t.kids):x.size<t.size:=by
 cases t with
 | no t =>
  have e:x=t:=by simpa [Tr.kids] using h
  subst e;exact Js _
 | fold w a b =>
  have e:x=a\/x=b:=by simpa [Tr.kids] using h
  show x.size<a.size+b.size+1;rcases e with rfl | rfl<;>omega
 | _=>simp[Tr.kids]at h
end Mine
namespace L2
open PySem PySem.Spec PyProof.Rows
end L2
namespace Mine
open PySem L2
variable{wi:TI}{te:TE}{js:List Nat}{σ:St}{H:Hp}{Q:VK}
def spLaw(K:W.Frag):Sp:=λvs H Q _=>∃a ns,vs=[.ref a]/\Of K H a ns/\∀H',Q (.bl true) H'
theorem iH(h:wi σ H λJ H1=>iW (λ_ H R=>R J H) tc te js σ H1 Q):iW wi tc te js σ H Q:=h
theorem vG(Src:Addr->Hp->Prop)(NT:∀R:It->Hp->Prop,(∀l H,Src l H->R (Nr K l) H)->wi σ H0 R)(LX:∀l H,Src l H->H l=some (.lst xs))(hx:xs.length<=1000)
  (Pv:Addr->Addr->Nat->List V->Hp->Prop)(h0:∀l H D,Src l H->H D=none->Pv l D 0 [] (upd H D (.lst [])))
  (hs:∀l D i v ys H',xs[i]?=some v->l≠D->H' l=some (.lst xs)->H' D=some (.lst ys)->Pv l D i ys H'->∀N:VK,(∀y LD,LD l=some (.lst xs)->LD D=some (.lst ys)->Pv l D (i+1) (ys++[y]) (upd LD D (.lst (ys++[y])))->N y LD)->te (some v::bR js σ) H' N)
  (hd:∀l D ys H',H' l=some (.lst xs)->H' D=some (.lst ys)->Pv l D xs.length ys H'->Q (.ref D) H'):iW wi kq te js σ H0 Q:=by
 refine NT _ λl H src=>?_;intro D hD;have e:=LX l H src;have nl:l≠D:=aF e hD;refine⟨λi m H'=>m=xs.length-i/\i<=xs.length/\H' l=some (.lst xs)/\∃ys,ys.length=i/\H' D=some (.lst ys)/\Pv l D i ys H',⟨xs.length,rfl,y7 _,by rw[aA nl];exact e,[],rfl,ae,h0 l H D src hD⟩,?_⟩;rintro i m H2 ⟨rfl,hi,e2,ys,hy,eD,p⟩
 by_cases LI:i<xs.length
 .refine .inr ⟨⟨xs,xs[i],LA.of e2,by simp[LI]⟩,λv H3 y=>?_⟩;obtain⟨eh,y⟩:=y;subst eh;refine hJ ?_;refine hs l D i v ys _ (y xs (LA.of e2)) nl e2 eD p _ λy H5 z1 z2 z3=>?_;exact⟨ys,z2,d9 (show ys.length<=1000 by omega) (by decide),xs.length-(i+1),by omega,rfl,LI,by rw[aA nl];exact z1,ys++[y],by rw[c8,hy];rfl,ae,z3⟩
 .have ei:i=xs.length:=by omega
  subst ei;exact .inl ⟨⟨xs,LA.of e2,c7 _⟩,hd l D ys H2 e2 eD p⟩
theorem zp(Src:Addr->Hp->Prop)(NT:∀R:It->Hp->Prop,(∀l H,Src l H->R (Nq K l) H)->wi σ H0 R)(LX:∀l H,Src l H->H l=some (.tup xs))(hx:xs.length<=1000)
  (Pv:Addr->Addr->Nat->List V->Hp->Prop)(h0:∀l H D,Src l H->H D=none->Pv l D 0 [] (upd H D (.lst [])))
  (hs:∀l D i v ys H',xs[i]?=some v->l≠D->H' l=some (.tup xs)->H' D=some (.lst ys)->Pv l D i ys H'->∀N:VK,(∀y LD,LD l=some (.tup xs)->LD D=some (.lst ys)->Pv l D (i+1) (ys++[y]) (upd LD D (.lst (ys++[y])))->N y LD)->te (some v::bR js σ) H' N)
  (hd:∀l D ys H',H' l=some (.tup xs)->H' D=some (.lst ys)->Pv l D xs.length ys H'->Q (.ref D) H'):iW wi kq te js σ H0 Q:=by
 refine NT _ λl H src=>?_;intro D hD;have e:=LX l H src;have nl:l≠D:=aF e hD;refine⟨λi m H'=>m=xs.length-i/\i<=xs.length/\H' l=some (.tup xs)/\∃ys,ys.length=i/\H' D=some (.lst ys)/\Pv l D i ys H',⟨xs.length,rfl,y7 _,by rw[aA nl];exact e,[],rfl,ae,h0 l H D src hD⟩,?_⟩;rintro i m H2 ⟨rfl,hi,e2,ys,hy,eD,p⟩
 by_cases LI:i<xs.length
 .refine .inr ⟨⟨xs,xs[i],Lz.of e2,by simp[LI]⟩,λv H3 y=>?_⟩;obtain⟨eh,y⟩:=y;subst eh;refine hJ ?_;refine hs l D i v ys _ (y xs (Lz.of e2)) nl e2 eD p _ λy H5 z1 z2 z3=>?_;exact⟨ys,z2,d9 (show ys.length<=1000 by omega) (by decide),xs.length-(i+1),by omega,rfl,LI,by rw[aA nl];exact z1,ys++[y],by rw[c8,hy];rfl,ae,z3⟩
 .have ei:i=xs.length:=by omega
  subst ei;exact .inl ⟨⟨xs,Lz.of e2,c7 _⟩,hd l D ys H2 e2 eD p⟩
theorem comp_map{α:Type}{K:W.Frag}{xs:List V}{ts:List α}{R:Hp->V->α->Prop}(g:α->V)(hR:∀H H' v t,aK H H'->R H v t->R H' v t)(Src:Addr->Hp->Prop)
  (NT:∀R:It->Hp->Prop,(∀l H,Src l H->R (Nr K l) H)->wi σ H R)(LX:∀l H',Src l H'->H' l=some (.lst xs)/\aK H H')(hx:xs.length<=1000)(o:cB (R H) xs ts)
  (hs:∀v t H' N,t∈ts->R H' v t->(∀LD,aK H' LD->N (g t) LD)->te (some v::bR js σ) H' N)(hd:∀D H',aK H H'->H D=none->H' D=some (.lst (ts.map g))->Q (.ref D) H'):iW wi kq te js σ H Q:=by
 refine vG Src NT (λl H src=>(LX l H src).1) hx (λl D i ys H'=>H D=none/\aK H H'/\ys=(ts.take i).map g) (λl H' D src hD=>⟨(LX l H' src).2.free hD,(LX l H' src).2.trans (ak hD _),rfl⟩) (λl D i v ys H' hv nl el eD h N hN=>?_) (λl D ys H' el eD h=>?_)
 .obtain⟨hD,sm,rfl⟩:=h;obtain⟨t,ht,hr⟩:=o.get i v hv;refine hs v t H' N (w8 ht) (hR _ _ _ _ sm hr) λLD s2=>hN _ _ (s2 _ _ el) (s2 _ _ eD) ⟨hD,λd u z=>?_,?_⟩
  .rw[aA (aF z hD)];exact s2 _ _ (sm _ _ z)
  .rw[A7,ht,p7];rfl
 .obtain⟨hD,sm,rfl⟩:=h;refine hd D H' sm hD ?_;rw[o.len,A6]at eD;exact eD
theorem vF{α:Type}{K:W.Frag}{xs:List V}{ts:List α}{R:Hp->V->α->Prop}(g:α->V)(hR:∀H H' v t,aK H H'->R H v t->R H' v t)(Src:Addr->Hp->Prop)
  (NT:∀R:It->Hp->Prop,(∀l H,Src l H->R (Nq K l) H)->wi σ H R)(LX:∀l H',Src l H'->H' l=some (.tup xs)/\aK H H')(hx:xs.length<=1000)(o:cB (R H) xs ts)
  (hs:∀v t H' N,t∈ts->R H' v t->(∀LD,aK H' LD->N (g t) LD)->te (some v::bR js σ) H' N)(hd:∀D H',aK H H'->H D=none->H' D=some (.lst (ts.map g))->Q (.ref D) H'):iW wi kq te js σ H Q:=by
 refine zp Src NT (λl H src=>(LX l H src).1) hx (λl D i ys H'=>H D=none/\aK H H'/\ys=(ts.take i).map g) (λl H' D src hD=>⟨(LX l H' src).2.free hD,(LX l H' src).2.trans (ak hD _),rfl⟩) (λl D i v ys H' hv nl el eD h N hN=>?_) (λl D ys H' el eD h=>?_)
 .obtain⟨hD,sm,rfl⟩:=h;obtain⟨t,ht,hr⟩:=o.get i v hv;refine hs v t H' N (w8 ht) (hR _ _ _ _ sm hr) λLD s2=>hN _ _ (s2 _ _ el) (s2 _ _ eD) ⟨hD,λd u z=>?_,?_⟩
  .rw[aA (aF z hD)];exact s2 _ _ (sm _ _ z)
  .rw[A7,ht,p7];rfl
 .obtain⟨hD,sm,rfl⟩:=h;refine hd D H' sm hD ?_;rw[o.len,A6]at eD;exact eD
theorem w_not(u:W5):u.str≠"not":=by cases u<;>decide+kernel
noncomputable abbrev Rw:=List Key
noncomputable def fu(x:Str)(is:List Nat):Rw:=.inr x::is.map λi:Nat=>.inl (i:Int)
noncomputable def idx(rs:List Rw)(r:Rw):Option Nat:=match rs with
 | []=>none
 | x::t=>if x=r then some 0 else(idx t r).map (·+1)
noncomputable def bg(rs:List Rw)(r:Rw):List Rw×Nat:=match idx rs r with
 | some i=>(rs,i)
 | none=>(rs++[r],rs.length)
theorem Sz:∀{rs:List Rw}{r:Rw}{i:Nat},idx rs r=some i->i<rs.length
 | [],_,_,h=>by cases h
 | x::t,r,i,h=>by
  unfold idx at h;split at h
  .cases h;simp
  .cases e:idx t r with
   | none=>rw[e]at h;cases h
   | some j=>rw[e]at h;cases h;have:=Sz e;simp;omega
theorem Bc:∀{rs:List Rw}{r:Rw}{i:Nat},idx rs r=some i->rs[i]?=some r
 | [],_,_,h=>by cases h
 | x::t,r,i,h=>by
  unfold idx at h;split at h
  .rename_i z;cases h;simp[z]
  .cases e:idx t r with
   | none=>rw[e]at h;cases h
   | some j=>rw[e]at h;cases h;have:=Bc e;simpa using this
theorem ze:∀{rs:List Rw}{r:Rw},idx rs r=none->r ∉ rs
 | [],r,_=>by simp
 | x::t,r,h=>by
  unfold idx at h
  by_cases z:x=r
  .rw[d8 z]at h;cases h
  .rw[i5 z]at h;cases e:idx t r with
   | none =>
        intro m; rcases j6.mp m with m | m; · exact z m.symm
        .exact ze e m
   | some j=>rw[e]at h;cases h
theorem Px:idx (rs++[r]) s=match idx rs s with | some i=>some i | none=>if r=s then some rs.length else none:=by
 induction rs with
 | nil =>
  show(if r=s then some 0 else(idx [] s).map (·+1))=if r=s then some 0 else none
  rfl
 | cons x t ih =>
  show(if x=s then some 0 else(idx (t++[r]) s).map (·+1))=_
  by_cases z:x=s
  .rw[d8 z];show _=match (if x=s then some 0 else(idx t s).map (·+1)) with | some i=>some i | none=>_
   rw[d8 z]
  .rw[i5 z,ih];show _=match (if x=s then some 0 else(idx t s).map (·+1)) with | some i=>some i | none=>if r=s then some (t.length+1) else none
   rw[i5 z];cases idx t s with
   | some i=>rfl
   | none =>
    show(if r=s then some t.length else none).map (·+1)=if r=s then some (t.length+1) else none
    split<;>rfl
theorem jE(rs:List Rw)(r:Rw):(bg rs r).1.length<=rs.length+1:=by
 unfold bg;cases idx rs r<;>simp
noncomputable def Tr.putR:Tr->List Rw->List Rw×Nat
 | .no t,rs=>bg (t.putR rs).1 (fu "not" [(t.putR rs).2])
 | .fold w a b,rs=>bg (b.putR (a.putR rs).1).1 (fu w.str [(a.putR rs).2,(b.putR (a.putR rs).1).2])
 | .never,rs=>bg rs (fu "never" [])
 | .always,rs=>bg rs (fu "always" [])
 | .lp,rs=>bg rs (fu "p" [])
 | .lq,rs=>bg rs (fu "q" [])
noncomputable def Tr.rows(t:Tr):List Rw:=(t.putR []).1
theorem jD:∀(t:Tr)(rs:List Rw),(t.putR rs).1.length<=rs.length+t.size
 | .no t,rs=>by
  have:=jD t rs;have:=jE (t.putR rs).1 (fu "not" [(t.putR rs).2]);simp only[Tr.putR,Tr.size];omega
 | .fold w a b,rs=>by
  have:=jD a rs;have:=jD b (a.putR rs).1;have:=jE (b.putR (a.putR rs).1).1 (fu w.str [(a.putR rs).2,(b.putR (a.putR rs).1).2]);simp only[Tr.putR,Tr.size];omega
 | .never,rs=>jE _ _
 | .always,rs=>jE _ _
 | .lp,rs=>jE _ _
 | .lq,rs=>jE _ _
noncomputable def yr(s:List Rw×List Nat)(x:Tr):Option (List Rw×List Nat):=
 if s.2.length<x.kids.length then none else
  some ((bg s.1 (fu x.word (s.2.take x.kids.length).reverse)).1,(bg s.1 (fu x.word (s.2.take x.kids.length).reverse)).2::s.2.drop x.kids.length)
noncomputable def uh:List Rw×List Nat->List Tr->Option (List Rw×List Nat)
 | s,[]=>some s
 | s,t::r=>(yr s t).bind λs'=>uh s' r
theorem lM:∀(t:Tr)(rs:List Rw)(st:List Nat)(r:List Tr),uh (rs,st) (t.post++r)=uh ((t.putR rs).1,(t.putR rs).2::st) r
 | .no t,rs,st,r=>by
  show uh (rs,st) (t.post++[.no t]++r)=_;rw[w6,lM t rs st];rfl
 | .fold w a b,rs,st,r=>by
  show uh (rs,st) (a.post++b.post++[.fold w a b]++r)=_;rw[w6,w6,lM a rs st,lM b _ _];rfl
 | .never,rs,st,r=>rfl
 | .always,rs,st,r=>rfl
 | .lp,rs,st,r=>rfl
 | .lq,rs,st,r=>rfl
theorem Gw(t:Tr):uh ([],[]) t.post=some (t.rows,[(t.putR []).2]):=by
 have h:=lM t [] [] [];rw[B0]at h;rw[h];rfl
theorem DO(h:uh s (t::r)=some Z):∃s',yr s t=some s'/\uh s' r=some Z:=by
 unfold uh at h;cases e:yr s t with
 | none=>rw[e]at h;cases h
 | some s'=>rw[e]at h;exact⟨s',rfl,h⟩
theorem Gv(h:yr s x=some s'):x.kids.length<=s.2.length/\s'=((bg s.1 (fu x.word (s.2.take x.kids.length).reverse)).1,(bg s.1 (fu x.word (s.2.take x.kids.length).reverse)).2::s.2.drop x.kids.length):=by
 unfold yr at h;split at h
 .cases h
 .exact⟨by omega,(l7 h).symm⟩
theorem zu(ea:H a=some (.tup xs))(eb:H b=some (.tup ys))(nx:xs≠[])(hz:xs.length+ys.length<=sizeLine)(h:∀p H',aK H H'->H' p=some (.tup (xs++ys))->Q (.ref p) H'):QE K (.ref a) (.ref b) H Q:=by
 refine⟨a,b,xs,ys,rfl,rfl,Lz.of ea,Lz.of eb,nx,hz,λz=>?_,λ_ p hp=>h p _ (ak hp _) ae⟩;refine h a H (aK.refl _) ?_;rw[z,B0];exact ea
abbrev LU(H:Hp)(v:V)(r:Rw):Prop:=∃a,v=.ref a/\H a=some (.tup (r.map kV))
theorem LU.to(e:Kp H H')(v:V)(r:Rw)(h:LU H v r):LU H' v r:=by
 obtain⟨a,z,o⟩:=h;exact⟨a,z,e _ _ o rfl⟩
theorem wA(x:Str)(is:List Nat):(fu x is).map kV=V.str x::is.map λi:Nat=>V.int (i:Int):=by
 unfold fu;rw[A5,Kb];rfl
def T4(LB:List (Rw×V))(rs:List Rw):Prop:=LB.length=rs.length/\∀k,fM LB k=(idx rs k).map λi:Nat=>V.int (i:Int)
theorem T4.nil:T4 [] []:=⟨rfl,λ_=>rfl⟩
theorem T4.put(h:T4 LB rs)(n:idx rs r=none):T4 (putK LB r (.int (rs.length:Int))) (rs++[r]):=by
 have hv:fM LB r=none:=by rw[h.2 r,n];rfl
 refine⟨by rw[GK _ hv,c8,c8,h.1];rfl,λk=>?_⟩;rw[jq,Px]
 by_cases e:k=r
 .subst e;rw[d8 rfl,n];show _=(if k=k then some rs.length else none).map _;rw[d8 rfl];rfl
 .rw[i5 e,h.2 k];cases idx rs k with
  | some i=>rfl
  | none =>
   show _=(if r=k then some rs.length else none).map _;rw[i5 λz=>e z.symm]
def rA(c:CCs):Sp:=λvs H Q _=>∃a t,vs=[.ref a]/\Ob c H a t/\t.size<=1000/\∀l us H',aK H H'->H l=none->H' l=some (.lst us)->cB (LU H') us t.rows->Q (.ref l) H'
end Mine
namespace L2
open PySem PySem.Spec PyProof.Rows
variable{t' kk n i:Nat}{fp:List Addr}{a I₀ b i1 i2:Addr}{X:Cx}{LL:List Expr}{Mm p pos:Pos}{Mid:Nat->Addr->Heap->Prop}{Ly:List (Addr×Obj)}{s:Shared}{H:Hp}{E:Value->Shared->Prop}{gop:Nat->Hp->Prop}{h:Heap}{its ys xs:Array Value}{T:String}{P:Program}{w:World}{e:Expr}{te:TE}{g:TG}{tb:TS}{D:Ends}{σ:St}
section
variable{X:Cx}{Ly:List (Addr×Obj)}{σ:St}{H H':Hp}{s s':Shared}{h':Heap}
theorem Inv.turnedL{t':Nat}(I:Inv X Ly σ H s)(kp:∀b o,b ∉ fp->s.heap.get? b=some o->h'.get? b=some o)(hf:∀b∈fp,jK X Ly H b):Inv X Ly σ H {s with heap:=h',toks:=t' }:=by
 have far:∀b u,H b=some u->b ∉ fp:=λb u e z=>by
  have:=(hf b z).1;rw[e]at this;cases this
 refine I.step (ch:=fp) (g':=s.gens) (d':=s.drawn) (λb hb=>⟨(hf b hb).2.2.2.1,(hf b hb).2.1,(hf b hb).2.2.2.2.1,(hf b hb).2.2.2.2.2⟩) (λb o _ _ hc e _=>kp b o hc e) (λb o _ _ hc e _=>⟨o.slots,kp b o hc e⟩) (λ_ _ _ _ n=>n)
  (λb o hc e=>⟨o,kp b o hc e⟩) (λ_ _ e=>e) (λ_ _ _ e=>e) (λb ps e=>⟨#[],by rw[e];simp⟩) (λm hm=>?_) (λb u e=>?_) I.bare
 .obtain⟨o,es,ep,ho,r⟩:=hm;exact⟨o,es,ep,kp _ o (λz=>(hf _ z).2.1 rfl) ho,r⟩
 .exact(I.hok b u e).stay (λc v hc q=>kp c v (hc.elim (λz=>by rw[z];exact far b u e) λz=>far c _ z) q) (λ_ q=>q) λ_ _ q=>q
theorem Inv.trackO(I:Inv X Ly σ H s)(n:H a=none)(new:X.s₀.heap.get? a=none)(hL:a≠X.env.locals)(hc:∀x c,X.env.cells.lookup x=some c->c≠a)(hp:∀p∈X.pn++Ly,p.1≠a)
  (p:cP X.prog X.w (upd H a o) s.heap a o):Inv X Ly σ (upd H a o) s:=
 ⟨I.ok,I.os,I.bare,⟨I.base.keep,I.base.slot,λb o e z hx=>by rw[aA (λq=>by rw[q,new]at e;cases e)];exact I.base.free b o e z hx,I.base.there,
   λb xs e=>by have q:=I.base.tups b xs e;rw[aA (aF q n)];exact q,λb o u e=>by have q:=I.base.frzs b o u e;rw[aA (aF q n)];exact q,
   λb ps e=>by obtain⟨m,q⟩:=I.base.tbls b ps e;exact⟨m,by rw[aA (aF q n)];exact q⟩⟩,
  I.loc,I.cell,by rw[aA (Jp hL)];exact I.free,λx c e=>by rw[aA (hc x c e)];exact I.freeC x c e,
  λq hq=>by obtain⟨a1,a2,a3⟩:=I.pin q hq;exact⟨a1,by rw[aA (hp q hq)];exact a2,a3⟩,
  λb u e=>by
   by_cases hb:b=a
   .subst hb;rw[ae]at e;cases e
    exact p
   .rw[aA hb]at e;exact(I.hok b u e).stay (λ_ _ _ z=>z) (λc z=>by rw[aA (aF z n)];exact z) λc xs z=>by rw[aA (aF z n)];exact z,
  I.len⟩
end
def Yf(go:Nat->Hp->Prop)(src:Nat->Hp->List V->Prop)(n:Nat->Hp->Prop):It:=
 ⟨go,λi H v H'=>∃T vs,H T=none/\v=.ref T/\H'=upd H T (.tup vs)/\src i H vs,n⟩
theorem oO{fp' wr:List Addr}{Pt:Nat->Array Value->Prop}{St:Nat->Heap->Prop}(W:WalksT X.prog X.w X.A I₀ fp' wr n Pt St Mid){σ:L2.St}{vs:List V}{src:Nat->Hp->List V->Prop}{tn:Nat->Heap->Prop}(I:Inv X Ly σ H s)(hf:∀b∈fp,jK X Ly H b)(hob:∀b∈fp,∃o,s.heap.get? b=some o)(hw:∀b∈wr,b∈fp)(hi:i<n)(st:St i s.heap)
  (hv:∀LW,Pt i LW->Vals vs LW.toList)(hz:vs.length<=sizeLine)(LX:src i H vs)(htn:∀h,St (i+1) h->tn (i+1) h){stp:Nat->Hp->Prop} :
  wpAny (model X.prog X.w) X.A (pyNext (.ref I₀)) (λr s1=>∃u,r=some u/\
   wpAny (model X.prog X.w) X.A (letOwnedTupleGo (.Tuple LL kk Mm) (.ref I₀) u) (λ_ s2=>∃x H',Inv X Ly σ H' s2/\RelV x u/\(Yf gop src stp).yld i H x H'/\tn (i+1) s2.heap/\∀b∈fp,H' b=none) E s1) E s:=by
 refine W.item i s _ _ hi st λT LW h1 tk hP hT ZU hM kp=>?_;refine⟨.ref T,rfl,W.go LL kk Mm i T {s with heap:=h1,toks:=tk} _ _ hM λh2 SG NS=>?_⟩
 have I1:Inv X Ly σ H {s with heap:=h2,toks:=tk}:=I.turnedL (λb o hb e=>NS b o (λz=>hb (hw b z)) (kp b o (λz=>hb (hw b z)) e)) hf
 have nT:H T=none:=I.hok.fresh hT
 have tup:h2.IsTuple T LW:=by
  obtain⟨o,e,r⟩:=ZU;exact⟨o,NS T o (W.apart i T h1 hM) e,r⟩
 have new:X.s₀.heap.get? T=none:=by
  cases z:X.s₀.heap.get? T with
  | none=>rfl
  | some o=>exact absurd (i7 (p5 z) (l8 I.sz hT)) (B9 _)
 refine⟨.ref T,upd H T (.tup vs),I1.trackO nT new (J8 (i7 I.lt hT)) (λx c e z=>?_) (λp hp z=>?_) ⟨hz,LW.toList,hv LW hP,(by rw[Array.toArray_toList];exact tup)⟩,rfl,⟨T,vs,nT,rfl,rfl,LX⟩,htn _ SG,λb hb=>?_⟩
 .obtain⟨v,o,ho,_⟩:=I.cell x c e;exact absurd (i7 (p5 ho) (by rw[z];exact hT)) (B9 _)
 .exact absurd (i7 (p5 (I.pin p hp).1) (by rw[z];exact hT)) (B9 _)
 .have e0:=(hf b hb).1;obtain⟨o,ho⟩:=hob b hb;have bT:b≠T:=λz=>absurd (i7 (p5 ho) (by rw[z];exact hT)) (B9 _);rw[aA bT];exact e0
def UX(K:W.Frag)(a:Addr):Nat->Hp->List V->Prop:=λi H vs=>∃x,vs=[.int i,x]/\∀xs,LA K H a xs->xs[i]?=some x
def UD(K:W.Frag)(a:Addr):It:=Yf (λi H=>∃xs x,LA K H a xs/\xs[i]?=some x) (UX K a) λi H=>∃xs,LA K H a xs/\xs.length<=i
theorem dU{o:Obj}(l:h.IsList a its)(e:h.get? b=some o)(c:o.cls=.type T)(n:T≠"list"):a≠b:=λz=>by
 obtain⟨o',e',c',_⟩:=l;rw[z,e]at e';cases e'
 rw[c]at c';exact n (Value.type.inj c')
theorem Dy{w:World}{K:W.Frag}(a e it:Addr)(hei:e≠it) :
  Turn P w K (.Tuple LL kk Mm) (UD K a) [e,it] e (λi h=>(∃old,IsEnum h e it i old)/\h.IsListIter it a i) where
 mem:=by simp
 obj:=λi h st b hb=>by
  obtain⟨⟨old,he⟩,o,ho,_,hd⟩:=st;rcases j6.mp hb with rfl | hb
  .exact⟨_,he,λv z=>by cases z⟩
  .rw[d7.mp hb];exact⟨o,ho,λv z=>by rw[hd]at z;cases z⟩
 keep:=λi h h' st k=>by
  obtain⟨⟨old,he⟩,l⟩:=st;exact⟨⟨old,k e (by simp) _ he⟩,l.at λo z=>k it (by simp) o z⟩
 item:=by
  intro X hP hw hK hc i Ly s σ H E I hf st hg;subst hP hw hK;obtain⟨xs,x,hq,hx⟩:=hg;obtain⟨its,rv,p,hz⟩:=I.list hq;obtain⟨u,hu,ru⟩:=rv.get hx;obtain⟨⟨old,he⟩,hit⟩:=st;have hL:=p.isList;have ne1:a≠e:=dU hL he rfl (by decide)
  have ne2:a≠it:=by
   obtain⟨o,ho,MA,_⟩:=id hit;exact dU hL ho MA (by decide)
  have W:=WalksT.enumerateD (A:=X.A) (Draws.list (prog:=X.prog) (w:=X.w) (A:=X.A.in1) (I.ok.hd hc) it a ne2 its.toArray) e hei (by simp;exact⟨hei,Jp ne1⟩) (by simp);refine oO (fp:=[e,it]) (vs:=[.int i,x]) (src:=UX X.K a) (tn:=λi h=>(∃old,IsEnum h e it i old)/\h.IsListIter it a i) W I hf (λb hb=>?_) (λb hb=>hb) (by have:=(d6.mp hu).1;simpa using this) ⟨⟨old,he⟩,hit,hL⟩ (λLW hP=>?_) (by show 2<=sizeLine;decide) ⟨x,rfl,λys hy=>by rw[I.list_inj hy hq];exact hx⟩ λh st=>⟨?_,st.2.1⟩
  .rcases j6.mp hb with rfl | hb
   .exact⟨_,he⟩
   .rw[d7.mp hb];obtain⟨o,ho,_⟩:=id hit;exact⟨o,ho⟩
  .obtain⟨t,y,hy,rfl⟩:=hP
   have ey:y=u:=by
    have:its[i]?=some y:=by simpa using hy
    rw[hu]at this;exact(l7 this).symm
   subst ey;exact .cons ⟨t,rfl⟩ (.cons ru .nil)
  .obtain⟨Y4,z⟩:=st.1;exact⟨Y4,z⟩
 done:=by
  intro X hP hw hK hc i Ly s σ H E I hf st hg;subst hP hw hK;obtain⟨xs,hq,hx⟩:=hg;obtain⟨its,rv,p,hz⟩:=I.list hq;obtain⟨⟨old,he⟩,hit⟩:=st;have hl:=rv.length;obtain⟨f0,f1,f2,f3,f4,f5⟩:=hf it (by simp);exact wpAny_pyNext_enum_end (I.ok.hd hc) he hit p.isList (by simp;omega) λh' eb=>⟨rfl,I.turned (t':=s.toks) (λb o hb e=>eb b o hb e) f0 f1 f3 f4 f5⟩
 self:=λ_ _ _ _ _ st h=>by
  obtain⟨⟨old,he⟩,_⟩:=st;exact wpAny_pyIter_enum he h
section
variable{X:Cx}
def VH(K:W.Frag)(tl:TE):TI:=λσ H R=>tl σ H λx H1=>∃a,x=.ref a/\(∃xs,LA K H1 a xs)/\R (UD K a) H1
theorem wJ(hg:Gl X "enumerate")(hm:X.mg "enumerate"=none)(he:PE X e te)
  (hs:starEach [e] X.env=[(false,eval e X.env)]:=by rfl):PI X (.Tuple LL kk Mm) (.Call (.Name "enumerate" p) [e] [] pos) (VH X.K te):=by
 intro Ly s σ H R I h;have b1:bootBuiltins "enumerate"=some (.type "enumerate"):=by decide+kernel
 refine E8 (lx I hg hm b1 ?_ (by decide) (by decide));refine E6 ?_ hs (by rfl);rw[hs];refine Ju (LF (he Ly s σ H _ I h) λu s1 zz=>?_);obtain⟨y,H1,I1,ry,a,ey,⟨xs,hq⟩,q⟩:=zz;subst ey;have eu:u=Value.ref a:=ry;subst eu;refine J9 ?_;obtain⟨its,rv,pl,hz⟩:=I1.list hq;refine call_enumerate_list pl.isList λh' e1 e2 e3 kp=>?_;have I2:Inv X Ly σ H1 {s1 with heap:=h' }:=I1.kept (t':=s1.toks) kp
 refine wpAny_pyIter_enum (s:={s1 with heap:=h' }) e1 ?_
 refine⟨_,[s1.heap.objs.size+1,s1.heap.objs.size],_,UD X.K a,H1,rfl,I2,Dy a _ _ (J8 (Js _)),⟨⟨_,e1⟩,e2⟩,λb hb=>?_,q⟩
 have nb:s1.heap.objs.size<=b:=by
  rcases j6.mp hb with rfl | hb
  .exact Lu _
  .rw[d7.mp hb];exact c7 _
 exact I1.fpOk nb (I1.hok.fresh nb)
end
theorem tJ{K:W.Frag}{xs:List V}(Pv:Nat->St->Hp->Prop)(h0:Pv 0 σ H)(hl:∀i σ H,i<=xs.length->Pv i σ H->LA K H a xs)
  (hs:∀i x T σ H,xs[i]?=some x->Pv i σ H->H T=none->g (.ref T) σ (upd H T (.tup [.int i,x])) λσ2 H2=>tb {D with nx:=Pv (i+1),ct:=Pv (i+1),bk:=D.nx} σ2 H2)(hd:∀σ H,Pv xs.length σ H->D.nx σ H) :
  ∃W:Nat->Nat->St->Hp->Prop,(∃m,W 0 m σ H)/\∀i m σ H,W i m σ H->
   ((UD K a).stop i H/\D.nx σ H)\/((UD K a).go i H/\∃N:St->Hp->Prop,(∀σ' H',N σ' H'->∃m',m'<m/\W (i+1) m' σ' H')/\∀x H',(UD K a).yld i H x H'->g x σ H' λσ2 H2=>tb {D with nx:=N,ct:=N,bk:=D.nx} σ2 H2):=by
 refine⟨λi m σ H=>m=xs.length-i/\i<=xs.length/\Pv i σ H,⟨xs.length,by simp,y7 _,h0⟩,?_⟩;rintro i m σ H ⟨rfl,hi,p⟩
 have q:=hl i σ H hi p
 by_cases LI:i<xs.length
 .refine .inr ⟨⟨xs,xs[i],q,by simp[LI]⟩,Pv (i+1),λσ' H' p'=>⟨xs.length-(i+1),by omega,rfl,LI,p'⟩,λx H' y=>?_⟩;obtain⟨T,vs,nT,rfl,rfl,x,rfl,hx⟩:=y;exact hs i x T σ H (hx xs q) p nT
 .have e:i=xs.length:=by omega
  subst e;exact .inl ⟨⟨xs,q,c7 _⟩,hd σ H p⟩
open PySem.AutoSeq1
noncomputable abbrev Aa (t:Addr):Obj:={cls:=.type "tuple_iterator",data:=.fields #[.ref t,.int 0 0] }
section
variable{prog:Program}{w:World}{A:Around}{E:Value->Shared->Prop}{s:Shared}
theorem sS{x:Value}(st:s.heap.IsTupleIter it t i)(tp:s.heap.IsTuple t ys)(e:ys[i]?=some x)
  (k:∀h',h'.IsTupleIter it t (i+1)->Heap.SameBut it s.heap h'->Q x {s with heap:=h' }):wpAny (model prog w) A (Builtin.SmallTypes.nextOf (.ref it)) Q E s:=by
 obtain⟨ob,gb,cb,db⟩:=id st;obtain⟨ot,gt,_,nt,dt⟩:=tp;unfold Builtin.SmallTypes.nextOf;refine c5 (E7 (name:=Str.ofString "__next__") st.typeIs Jv (Jt Jv st.typeIs F.entry_tuple_iterator_next ?_ (F.args_tuple_iterator_next_1 _)));show wpAny _ _ (field (.ref it) 0 >>= _) _ _ s;refine c5 (F2 gb db (x:=.ref t) rfl ?_);show wpAny _ _ (if(Value.ref t==Value.none)=true then _ else _) _ _ s;rw[i5 (show ¬((Value.ref t==Value.none)=true) from l9)];show wpAny _ _ (field (.ref it) 1 >>= _) _ _ s;refine c5 (F2 gb db (x:=.int i 0) rfl ?_);show wpAny _ _ (seqItems? (.ref t) >>= _) _ _ s;refine c5 (JF gt dt ?_);simp only[K3,e];refine c5 (wpAny_setField gb db (by simp) (x4 ⟨x,rfl,x4 (k _ ?_ (Heap.SameBut.update ..))⟩));exact⟨_,Heap.get?_update_self _ gb (Obj.isFreed_of_fields (Obj.data_mapFields db _)),(Obj.cls_mapFields ..).trans cb,by rw[Obj.data_mapFields db];simp[rawInt]⟩
theorem uj(hd:A.handled=none)(st:s.heap.IsTupleIter it t i)(tp:s.heap.IsTuple t ys)(e:ys[i]?=none)
  (k:∀h' x,Heap.ExtBut it s.heap h'->(∃o,h'.get? x=some o/\o.cls=.type "StopIteration")->E (.ref x) {s with heap:=h' }):wpAny (model prog w) A (Builtin.SmallTypes.nextOf (.ref it)) Q E s:=by
 obtain⟨ob,gb,cb,db⟩:=id st;obtain⟨ot,gt,_,nt,dt⟩:=tp;unfold Builtin.SmallTypes.nextOf;refine c5 (E7 (name:=Str.ofString "__next__") st.typeIs Jv (Jt Jv st.typeIs F.entry_tuple_iterator_next ?_ (F.args_tuple_iterator_next_1 _)));show wpAny _ _ (field (.ref it) 0 >>= _) _ _ s;refine c5 (F2 gb db (x:=.ref t) rfl ?_);show wpAny _ _ (if(Value.ref t==Value.none)=true then _ else _) _ _ s;rw[i5 (show ¬((Value.ref t==Value.none)=true) from l9)];show wpAny _ _ (field (.ref it) 1 >>= _) _ _ s;refine c5 (F2 gb db (x:=.int i 0) rfl ?_);show wpAny _ _ (seqItems? (.ref t) >>= _) _ _ s;refine c5 (JF gt dt ?_);simp only[K3,e];refine c5 (wpAny_rule (c5 (wpAny_setField gb db (by simp) ?_)));show wpAny _ _ (newExc (.type "StopIteration") [] >>= _) _ _ _;refine c5 ?_;simp only[newExc,newTuple];refine c5 (G4 ?_ (by size_fits));refine c5 (m:=firstArgMember _ _) (wpAny_of_eq (a:=Value.none) (by first | rfl | (simp only[firstArgMember];rfl)) ?_);refine G4 ?_ (by size_fits);simp only[raiseNew];refine c5 (wpAny_handled ?_);first | rw[show A.in1.handled=none from hd] | rw[hd]
 refine c5 (x4 (wpAny_throw ?_));exact k _ _ (((Heap.SameBut.update ..).extBut.push _).push _) ⟨_,x5 _ rfl,rfl⟩
end
section
variable{X:Cx}
end
def UW(K:W.Frag)(a b:Addr):Nat->Hp->List V->Prop:=λi H vs=>∃x y,vs=[x,y]/\(∀xs,LA K H a xs->xs[i]?=some x)/\∀ys,LA K H b ys->ys[i]?=some y
def Ye(K:W.Frag)(a b:Addr):It:=Yf (λi H=>∃xs ys x y,LA K H a xs/\LA K H b ys/\xs[i]?=some x/\ys[i]?=some y) (UW K a b) λi H=>∃xs ys,LA K H a xs/\LA K H b ys/\(xs.length<=i\/ys.length<=i)
structure P8(z TI TO i1 i2:Addr):Prop where
 a1:TI≠z
 a2:TO≠z
 a3:i1≠z
 a4:i2≠z
 a5:TI≠TO
 a6:TI≠i1
 a7:TI≠i2
 a8:TO≠i1
 a9:TO≠i2
 a10:i1≠i2
def Xh(a b z TI TO i1 i2:Addr)(i:Nat)(h:Heap):Prop:=IsZip h z TI TO .none/\IsPair h TI (.ref i1) (.ref i2)/\(∃u v,IsPair h TO u v)/\h.IsListIter i1 a i/\h.IsListIter i2 b i
theorem Fp{z TI TO:Addr}(o:P8 z TI TO i1 i2)(st:Xh a b z TI TO i1 i2 i h)(la:h.IsList a xs)(lb:h.IsList b ys):ZipApart z TI TO i1 i2 a b:=by
 obtain⟨hz,QS,⟨u,v,Ox⟩,h1,h2⟩:=st;obtain⟨o1,g1,c1,_⟩:=h1;obtain⟨o2,g2,c2,_⟩:=h2;refine⟨o.a1,o.a2,o.a3,o.a4,o.a5,o.a6,o.a7,o.a8,o.a9,o.a10,?_,?_,?_,?_,?_,?_,?_,?_⟩
 all_goals first
  | exact dU la hz rfl (by decide)
  | exact dU la Ox rfl (by decide)
  | exact dU la g1 c1 (by decide)
  | exact dU la g2 c2 (by decide)
  | exact dU lb hz rfl (by decide)
  | exact dU lb Ox rfl (by decide)
  | exact dU lb g1 c1 (by decide)
  | exact dU lb g2 c2 (by decide)
theorem UE{z TI TO:Addr}(st:Xh a b z TI TO i1 i2 i h):∀c∈[z,TI,TO,i1,i2],∃o,h.get? c=some o/\∀v,o.data≠.cell v:=by
 intro c hc;obtain⟨hz,QS,⟨u,v,Ox⟩,⟨o1,g1,_,d1⟩,⟨o2,g2,_,d2⟩⟩:=st;simp only[j6,A2,F9]at hc;rcases hc with rfl | rfl | rfl | rfl | rfl
 .exact⟨_,hz,λv z=>by cases z⟩
 .exact⟨_,QS,λv z=>by cases z⟩
 .exact⟨_,Ox,λv z=>by cases z⟩
 .exact⟨_,g1,λv z=>by rw[d1]at z;cases z⟩
 .exact⟨_,g2,λv z=>by rw[d2]at z;cases z⟩
theorem Fv{w:World}{K:W.Frag}(a b z TI TO i1 i2:Addr)(own:P8 z TI TO i1 i2) :
  Turn P w K (.Tuple LL kk Mm) (Ye K a b) [z,TI,TO,i1,i2] z (Xh a b z TI TO i1 i2) where
 mem:=by simp
 obj:=λi h st c hc=>UE st c hc
 keep:=λi h h' st k=>by
  obtain⟨hz,QS,⟨u,v,Ox⟩,l1,l2⟩:=st;exact⟨k z (by simp) _ hz,k TI (by simp) _ QS,⟨u,v,k TO (by simp) _ Ox⟩,l1.at λo q=>k i1 (by simp) o q,l2.at λo q=>k i2 (by simp) o q⟩
 item:=by
  intro X hP hw hK hc i Ly s σ H E I hf st hg;subst hP hw hK;obtain⟨xs,ys,x,y,hq,Mu,hx,hy⟩:=hg;obtain⟨its,rv,p,hz⟩:=I.list hq;obtain⟨LN,Ot,p2,Uo⟩:=I.list Mu;obtain⟨u,hu,ru⟩:=rv.get hx;obtain⟨u2,XG,YJ⟩:=Ot.get hy;have D:=Fp own st p.isList p2.isList;have W:=WalksT.zip2 (prog:=X.prog) (w:=X.w) (A:=X.A) (I.ok.hd hc) z TI TO i1 i2 a b D its.toArray LN.toArray;have l1:=(d6.mp hu).1;have l2:=(d6.mp XG).1;obtain⟨s1,s2,s3,s4,s5⟩:=id st
  refine oO (fp:=[z,TI,TO,i1,i2]) (vs:=[x,y]) (src:=UW X.K a b) (tn:=Xh a b z TI TO i1 i2) W I hf (λc hc=>let ⟨o,q,_⟩:=UE st c hc;⟨o,q⟩) (λc hc=>?_) (by simp only[l6];omega) ⟨s1,s2,s3,s4,s5,p.isList,p2.isList⟩ (λLW hP=>?_) (by show 2<=sizeLine;decide)
   ⟨x,y,rfl,λzs SA=>by rw[I.list_inj SA hq];exact hx,λzs SA=>by rw[I.list_inj SA Mu];exact hy⟩ λh st=>⟨st.1,st.2.1,st.2.2.1,st.2.2.2.1,st.2.2.2.2.1⟩
  .simp only[j6,A2,F9]at hc ⊢;rcases hc with q | q | q | q<;>simp[q]
  .obtain⟨v1,v2,e1,e2,rfl⟩:=hP
   have f1:v1=u:=by
    have q:its[i]?=some v1:=by simpa using e1
    rw[hu]at q;exact(l7 q).symm
   have f2:v2=u2:=by
    have q:LN[i]?=some v2:=by simpa using e2
    rw[XG]at q;exact(l7 q).symm
   subst f1 f2;exact .cons ru (.cons YJ .nil)
 done:=by
  intro X hP hw hK hc i Ly s σ H E I hf st hg;subst hP hw hK;obtain⟨xs,ys,hq,Mu,VT⟩:=hg;obtain⟨its,rv,p,hz⟩:=I.list hq;obtain⟨LN,Ot,p2,Uo⟩:=I.list Mu;have D:=Fp own st p.isList p2.isList;obtain⟨s1,s2,⟨u,v,s3⟩,s4,s5⟩:=id st;have e1:=rv.length;have e2:=Ot.length
  refine wpAny_pyNext_zip_end (I.ok.hd hc) D s1 s2 s3 s4 s5 p.isList p2.isList (by
   rcases VT with q | q
   .exact .inl (by simp;omega)
   .exact .inr (by simp;omega)) λh' kp=>⟨rfl,I.turnedL (t':=s.toks) (λc o hc q=>kp c o (λe=>hc (by simp[e])) (λe=>hc (by simp[e])) (λe=>hc (by simp[e])) (λe=>hc (by simp[e])) q) hf⟩
 self:=λ_ _ _ _ _ st h=>JY st.1 h
section
variable{X:Cx}
def Zo(K:W.Frag)(ta tb:TE):TI:=λσ H R=>ta σ H λx H1=>tb σ H1 λy H2=>∃a b,x=.ref a/\y=.ref b/\(∃xs,LA K H2 a xs)/\(∃ys,LA K H2 b ys)/\R (Ye K a b) H2
theorem R7{f:Expr}{tf:TE}(hg:Gl X "zip")(hm:X.mg "zip"=none)(he:PE X e te)(hf:PE X f tf)
  (hs:starEach [e,f] X.env=[(false,eval e X.env),(false,eval f X.env)]:=by rfl)(NV:starEach [f] X.env=[(false,eval f X.env)]:=by rfl):PI X (.Tuple LL kk Mm) (.Call (.Name "zip" p) [e,f] [] pos) (Zo X.K te tf):=by
 intro Ly s σ H R I h;have b1:bootBuiltins "zip"=some (.type "zip"):=by decide+kernel
 refine E8 (lx I hg hm b1 ?_ (by decide) (by decide));refine E6 ?_ (by rw[hs,NV]) (by rw[NV];rfl);rw[hs];refine Ju (LF (he Ly s σ H _ I h) λu s1 zz=>?_);obtain⟨x,H1,I1,rx,q1⟩:=zz;refine Ju (LF (hf Ly s1 σ H1 _ I1 q1) λu2 s2 zz=>?_);obtain⟨y,H2,I2,ry,a,b,ex,ey,⟨xs,hq⟩,⟨ys,Mu⟩,q⟩:=zz;subst ex ey;have eu:u=Value.ref a:=rx;have Z8:u2=Value.ref b:=ry;subst eu Z8;refine J9 ?_;obtain⟨its,rv,pl,hz⟩:=I2.list hq;obtain⟨LN,Ot,YY,Uo⟩:=I2.list Mu;refine call_zip_2 pl.isList YY.isList λh' z TI TO i1 i2 sz kp=>?_;have I3:Inv X Ly σ H2 {s2 with heap:=h' }:=I2.kept (t':=s2.toks) kp
 refine JY (s:={s2 with heap:=h' }) z ?_
 have ne:∀i j:Nat,i≠j->s2.heap.objs.size+i≠s2.heap.objs.size+j:=λi j XN e=>XN (Nat.add_left_cancel e)
 refine⟨_,[s2.heap.objs.size+4,s2.heap.objs.size+2,s2.heap.objs.size+3,s2.heap.objs.size,s2.heap.objs.size+1],_,Ye X.K a b,H2,rfl,I3,
  Fv a b _ _ _ _ _ ⟨ne 2 4 (by decide),ne 3 4 (by decide),ne 0 4 (by decide),ne 1 4 (by decide),ne 2 3 (by decide),ne 2 0 (by decide),ne 2 1 (by decide),ne 3 0 (by decide),ne 3 1 (by decide),ne 0 1 (by decide)⟩,
  ⟨z,TI,⟨_,_,TO⟩,i1,i2⟩,λc hc=>?_,q⟩
 have nb:s2.heap.objs.size<=c:=by
  simp only[j6,A2,F9]at hc;rcases hc with rfl | rfl | rfl | rfl | rfl
  .exact F0 _ _
  .exact F0 _ _
  .exact F0 _ _
  .exact c7 _
  .exact F0 _ _
 exact I2.fpOk nb (I2.hok.fresh nb)
end
section
variable{X:Cx}
end
section
variable{X:Cx}
def Ve(K:W.Frag)(no:Bool):R2:=λx y H Q=>∃d ds a ys,xF K H d x/\y=.ref a/\LA K H a ys/\DatAll K H ds ys/\PyData.canLayAll0 ds=true/\d.canLay0=true/\PyData.depthAll ds<=60/\Q (.bl (Bool.xor no (ds.any λe=>PyData.eqv e d))) H
theorem YZ(hu:X.A.units+64<cLine):LQ X (compareOp .In) (Ve X.K false):=by
 intro Ly s σ H x y u v Q I rx ry h;obtain⟨d,ds,a,ys,hx,rfl,hl,hd,c1,c2,c3,q⟩:=h;obtain⟨bs,r1⟩:=hx.reads I rx;obtain⟨as,r2⟩:=xF.reads I (d:=.list ds) (v:=.ref a) (.inr ⟨ds,a,ys,rfl,rfl,hl,hd⟩) ry;refine PySem.SeqAt.in_list_reads r2 r1 c1 c2 (by have:=Lr (PyData.depthAll ds) d.depth;omega) ⟨_,H,I,?_,q⟩;exact z6 Value.bool (Bool.false_xor _).symm
theorem DT(hu:X.A.units+64<cLine):LQ X (compareOp .NotIn) (Ve X.K true):=by
 intro Ly s σ H x y u v Q I rx ry h;obtain⟨d,ds,a,ys,hx,rfl,hl,hd,c1,c2,c3,q⟩:=h;obtain⟨bs,r1⟩:=hx.reads I rx;obtain⟨as,r2⟩:=xF.reads I (d:=.list ds) (v:=.ref a) (.inr ⟨ds,a,ys,rfl,rfl,hl,hd⟩) ry;refine PySem.SeqAt.notIn_list_reads r2 r1 c1 c2 (by have:=Lr (PyData.depthAll ds) d.depth;omega) ⟨_,H,I,?_,q⟩;exact z6 Value.bool (Bool.true_xor _).symm
end
section
variable{X:Cx}
def Cw(K:W.Frag):V->List V->Hp->VK->Prop:=λx vs H Q=>∃(l:Addr)(ys:List V)(y:V)(ds:List PyData)(d:PyData)(j:Nat)(e0:PyData),x=.ref l/\vs=[y]/\H l=some (.lst ys)/\DatAll K H ds ys/\Dat K H d y/\PyData.canLayAll0 ds=true/\d.canLay0=true/\PyData.depthAll ds<=60/\
 ds[j]?=some e0/\PyData.eqv e0 d=true/\(∀m e,m<j->ds[m]?=some e->PyData.eqv e d=false)/\Q (.int (j:Int)) H
theorem Ex(hu:X.A.units+64<cLine):UB X "list.index" (Cw X.K):=by
 intro Ly s σ H x vs v us Q I rx rv h;obtain⟨l,ys,y,ds,d,j,e0,rfl,rfl,hH,SR,hd,c1,c2,c3,hj,hit,ZI,q⟩:=h;cases rx
 obtain⟨u,rfl,ru⟩:=vals1 rv;obtain⟨z,its,n,r,hl,e⟩:=I.lstM hH;obtain⟨as,ra⟩:=DatAll.reads I ds SR r;obtain⟨bs,rd⟩:=Dat.reads I d hd ru;have VQ:=PySem.SeqAt.readsAll_map ds its as c1 ra;have hlen:its.length=ds.length:=by rw[<- VQ,j4]
 have hjl:j<ds.length:=(d6.mp hj).1
 have at_:∀m (hm:m<its.length),ds[m]?=some (PySem.SeqAt.readOf s.heap its[m]):=λm hm=>by
  rw[<- VQ,x6,c9 hm];rfl
 refine KH F.slot_list_index ⟨_,e,rfl⟩ F.entry_list_index (F.args_list_index_2 _ _)
  (PySem.SeqAt.list_indexAt l its.toArray n _ _ u (λy=>PyData.eqv (PySem.SeqAt.readOf s.heap y) d) j (by rw[l6];omega) ?_ ?_ ?_) ⟨e,PySem.SeqAt.items_eqAt (as:=as) (by simpa using ra) rd c1 c2 (by have:=Lr (PyData.depthAll ds) d.depth;omega),⟨.int (j:Int),H,I.tok _,⟨_,rfl⟩,q⟩⟩
 .have:its.length<=sizeLine:=by omega
  have:sizeLine<2^62:=by decide
  omega
 .have h1:=at_ j (by omega);rw[hj]at h1;show PyData.eqv (PySem.SeqAt.readOf s.heap its[j]) d=true;rw[<- l7 h1];exact hit
 .intro m hm LI;have SO:m<its.length:=by simpa using hm
  exact ZI m _ LI (at_ m SO)
end
end L2
namespace Mine
open PySem L2
variable{i:Nat}{e:List Tr}{g:Gr}{gs:List Gr}
noncomputable def kD:Key->PyData
 | .inl i=>.int i
 | .inr x=>.str x
noncomputable def Mx(r:Rw):PyData:=.tuple (r.map kD)
theorem Sv(a b:Key):PyData.eqv (kD a) (kD b)=decide (a=b):=by
 cases a<;>cases b<;>simp[kD,PyData.eqv]<;>(rw[J4];simp)
theorem wy(a b:Rw):PyData.eqv (Mx a) (Mx b)=decide (a=b):=by
 simp only[Mx,PyData.eqv];exact Dd Sv a b
theorem Sw(k:Key):Dat K H (kD k) (kV k):=by cases k<;>rfl
theorem Ic:∀r:Rw,DatAll K H (r.map kD) (r.map kV)
 | []=>rfl
 | k::r=>⟨_,_,rfl,Sw k,Ic r⟩
theorem LU.dat(h:LU H v r):Dat K H (Mx r) v:=by
 obtain⟨a,rfl,e⟩:=h;exact⟨a,_,rfl,Lz.of e,Ic r⟩
theorem LU.all(h:cB (LU H) vs rs):DatAll K H (rs.map Mx) vs:=by
 induction h with
 | nil=>rfl
 | cons r _ ih=>exact⟨_,_,rfl,r.dat,ih⟩
def KOk:Key->Prop
 | .inl _=>True
 | .inr x=>PyData.strOk x=true
def pR(r:Rw):Prop:=∀k∈r,KOk k
theorem Su(h:KOk k):(kD k).canLay0=true:=by
 cases k with
 | inl _=>rfl
 | inr x=>simp only[kD,PyData.canLay0];exact h
theorem CY:∀{r:Rw},pR r->PyData.canLayAll0 (r.map kD)=true
 | [],_=>rfl
 | k::r,h=>by simp[PyData.canLayAll0,Su (h k (by simp)),CY (r:=r) λx hx=>h x (y8 _ hx)]
theorem jU(h:PyData.strOk x=true):pR (fu x is):=λk hk=>by
 rcases j6.mp hk with rfl | hk
 .exact h
 .obtain⟨i,_,rfl⟩:=y9.mp hk;exact True.intro
theorem jW(h:∀x∈rs,pR x)(hr:pR r):∀x∈(bg rs r).1,pR x:=by
 unfold bg;cases idx rs r with
 | some i=>exact h
 | none =>
  intro x hx;rcases j9.mp hx with hx | hx
  .exact h x hx
  .rw[d7.mp hx];exact hr
theorem Qj(w:W5):PyData.strOk w.str=true:=by cases w<;>decide+kernel
theorem OG(t:Tr):PyData.strOk t.word=true:=by
 cases t with
 | fold w a b=>exact Qj w
 | never=>show PyData.strOk "never"=true;decide+kernel
 | always=>show PyData.strOk "always"=true;decide+kernel
 | lp=>show PyData.strOk "p"=true;decide+kernel
 | lq=>show PyData.strOk "q"=true;decide+kernel
 | no t=>show PyData.strOk "not"=true;decide+kernel
theorem qO:∀(t:Tr)(rs:List Rw),(∀x∈rs,pR x)->∀x∈(t.putR rs).1,pR x
 | .no t,rs,h=>jW (qO t rs h) (jU (by decide+kernel))
 | .fold w a b,rs,h=>jW (qO b _ (qO a rs h)) (jU (Qj w))
 | .never,rs,h=>jW h (jU (by decide+kernel))
 | .always,rs,h=>jW h (jU (by decide+kernel))
 | .lp,rs,h=>jW h (jU (by decide+kernel))
 | .lq,rs,h=>jW h (jU (by decide+kernel))
theorem vz:∀r:Rw,PyData.depthAll (r.map kD)=0
 | []=>rfl
 | k::r=>by
  rw[A5];show max (kD k).depth (PyData.depthAll (r.map kD))=0;rw[vz r];cases k<;>rfl
theorem Aq(h:pR r):(Mx r).canLay0=true:=by simp only[Mx,PyData.canLay0];exact CY h
theorem wx:∀{rs:List Rw},(∀x∈rs,pR x)->PyData.canLayAll0 (rs.map Mx)=true
 | [],_=>rfl
 | r::rs,h=>by simp[PyData.canLayAll0,Aq (h r (by simp)),wx (rs:=rs) λx hx=>h x (y8 _ hx)]
theorem Gn(r:Rw):(Mx r).depth<=1:=by
 show PyData.depthAll (r.map kD)+1<=1;rw[vz];exact c7 _
theorem pA:∀rs:List Rw,PyData.depthAll (rs.map Mx)<=1
 | []=>y7 _
 | r::rs=>by
  rw[A5];show max (Mx r).depth (PyData.depthAll (rs.map Mx))<=1;exact Nat.max_le.mpr ⟨Gn r,pA rs⟩
theorem OW(rs:List Rw)(r:Rw):((rs.map Mx).any λy=>PyData.eqv y (Mx r))=(idx rs r).isSome:=by
 induction rs with
 | nil=>rfl
 | cons x t ih =>
  rw[A5,J1,ih,wy];show _=(if x=r then some 0 else(idx t r).map (·+1)).isSome
  by_cases z:x=r
  .rw[d8 z,i6 z];rfl
  .rw[i5 z,D7 z];cases idx t r<;>rfl
theorem vB:∀{rs:List Rw}{r:Rw}{i:Nat},idx rs r=some i->∀m x,m<i->rs[m]?=some x->x≠r
 | [],_,_,h=>by cases h
 | y::t,r,i,h=>by
  intro m x hm hx;unfold idx at h;split at h
  .cases h;omega
  .rename_i z;cases e:idx t r with
   | none=>rw[e]at h;cases h
   | some j =>
    rw[e]at h;have h':j+1=i:=l7 h;subst h';cases m with
    | zero=>cases hx;exact z
    | succ m=>exact vB e m x (by omega) hx
inductive Gr where
 | ne | al | p | q
 | no (i:Nat)
 | fold (u:W5) (i j:Nat)
noncomputable def Gr.word:Gr->Str
 | .ne=>"never" | .al=>"always" | .p=>"p" | .q=>"q" | .no _=>"not" | .fold u _ _=>u.str
noncomputable def Gr.nums:Gr->List Nat
 | .no i=>[i]
 | .fold _ i j=>[i,j]
 | _=>[]
noncomputable def Gr.rw(g:Gr):Rw:=fu g.word g.nums
def Ua(k:Nat)(g:Gr):Prop:=∀i∈g.nums,i<k
def W8(gs:List Gr):Prop:=∀k g,gs[k]?=some g->Ua k g
def NA(ts:List Tr):Gr->Tr->Prop
 | .ne,.never=>True
 | .al,.always=>True
 | .p,.lp=>True
 | .q,.lq=>True
 | .no i,.no t=>ts[i]?=some t
 | .fold u i j,.fold v a b=>u=v/\ts[i]?=some a/\ts[j]?=some b
 | _,_=>False
theorem oG{α:Type}{ts e:List α}{t:α}(h:ts[i]?=some t):(ts++e)[i]?=some t:=by
 rw[B8 (d6.mp h).1];exact h
theorem NA.more{ts:List Tr}{t:Tr}(h:NA ts g t):NA (ts++e) g t:=by
 cases g<;>cases t<;>first | exact h | exact oG h | exact⟨h.1,oG h.2.1,oG h.2.2⟩
theorem oT{α:Type}{o:Option α}{a b:α}(h:o=some a)(k:o=some b):a=b:=by rw[h]at k;exact l7 k
theorem NA.uniq{ts:List Tr}{t t':Tr}(h:NA ts g t)(k:NA ts g t'):t=t':=by
 cases g with
 | no i =>
  cases t<;>first | exact h.elim | skip
  cases t'<;>first | exact k.elim | skip
  exact z6 Tr.no (oT h k)
 | fold u i j =>
  cases t<;>first | exact h.elim | skip
  cases t'<;>first | exact k.elim | skip
  obtain⟨rfl,h1,h2⟩:=h;obtain⟨rfl,k1,k2⟩:=k;rw[oT h1 k1,oT h2 k2]
 | ne=>cases t<;>first | exact h.elim | (cases t'<;>first | exact k.elim | rfl)
 | al=>cases t<;>first | exact h.elim | (cases t'<;>first | exact k.elim | rfl)
 | p=>cases t<;>first | exact h.elim | (cases t'<;>first | exact k.elim | rfl)
 | q=>cases t<;>first | exact h.elim | (cases t'<;>first | exact k.elim | rfl)
theorem Ro{u v:W5}(h:u.str=v.str):u=v:=by
 cases u<;>cases v<;>first | rfl | exact absurd h (by decide+kernel)
theorem yK:∀{a b:List Nat},(a.map λi:Nat=>(Sum.inl (i:Int):Key))=b.map (λi:Nat=>(Sum.inl (i:Int):Key))->a=b
 | [],[],_=>rfl
 | [],_::_,h=>nomatch h
 | _::_,[],h=>nomatch h
 | x::a,y::b,h=>by
  have e1:=(JS h).1;have e2:=yK (JS h).2;have:(x:Int)=(y:Int):=Sum.inl.inj e1;rw[e2,show x=y by omega]
theorem RV{k:Gr}(h:g.rw=k.rw):g=k:=by
 have e1:g.word=k.word:=Sum.inr.inj (JS h).1;have e2:g.nums=k.nums:=yK (JS h).2;cases g with
 | no i =>
  cases k with
  | no j=>rw[show i=j from(JS e2).1]
  | fold u a b=>exact absurd (z6 List.length e2) (by show 1≠2;decide)
  | _=>exact nomatch e2
 | fold u a b =>
  cases k with
  | no j=>exact absurd (z6 List.length e2) (by show 2≠1;decide)
  | fold v c d =>
   have z:=JS e2;rw[Ro e1,z.1,(JS z.2).1]
  | _=>exact nomatch e2
 | ne=>cases k<;>first | rfl | exact absurd e1 (by decide+kernel) | exact absurd (z6 List.length e2) (by show 0≠1;decide) | exact absurd (z6 List.length e2) (by show 0≠2;decide)
 | al=>cases k<;>first | rfl | exact absurd e1 (by decide+kernel) | exact absurd (z6 List.length e2) (by show 0≠1;decide) | exact absurd (z6 List.length e2) (by show 0≠2;decide)
 | p=>cases k<;>first | rfl | exact absurd e1 (by decide+kernel) | exact absurd (z6 List.length e2) (by show 0≠1;decide) | exact absurd (z6 List.length e2) (by show 0≠2;decide)
 | q=>cases k<;>first | rfl | exact absurd e1 (by decide+kernel) | exact absurd (z6 List.length e2) (by show 0≠1;decide) | exact absurd (z6 List.length e2) (by show 0≠2;decide)
inductive Tab:List Gr->List Tr->Prop where
 | nil:Tab [] []
 | snoc {gs:List Gr} {ts:List Tr} {g:Gr} {t:Tr}:Tab gs ts->NA ts g t->Tab (gs++[g]) (ts++[t])
theorem Tab.len{ts:List Tr}(h:Tab gs ts):gs.length=ts.length:=by
 induction h with
 | nil=>rfl
 | snoc _ _ ih=>rw[c8,c8,ih];rfl
theorem Tab.at{ts:List Tr}(h:Tab gs ts):∀{i:Nat}{g:Gr},gs[i]?=some g->∃t,ts[i]?=some t/\NA ts g t:=by
 induction h with
 | nil=>intro i g e;cases e
 | @snoc gs ts g0 t0 h0 r ih =>
  intro i g e
  by_cases z:i<gs.length
  .rw[B8 z]at e;obtain⟨t,e1,e2⟩:=ih e;exact⟨t,oG e1,e2.more⟩
  .have z0:i=gs.length:=by
    have:=(d6.mp e).1;rw[c8]at this;simp at this;omega
   subst z0;rw[Jq]at e;cases e
   refine⟨t0,?_,r.more⟩;rw[h0.len,Jq]
theorem Tab.push{ts:List Tr}{t:Tr}(h:Tab gs ts)(r:NA ts g t):∃N4 UK,(bg (gs.map Gr.rw) g.rw).1=N4.map Gr.rw/\Tab N4 UK/\UK[(bg (gs.map Gr.rw) g.rw).2]?=some t/\((t∈ts/\UK=ts)\/UK=ts++[t]):=by
 unfold bg;cases z:idx (gs.map Gr.rw) g.rw with
 | some i =>
  have e:=Bc z;rw[x6]at e;cases y:gs[i]? with
  | none=>rw[y]at e;cases e
  | some k =>
   rw[y]at e;have ek:k=g:=RV (l7 e);subst ek;obtain⟨t',e1,e2⟩:=h.at y;have et:=e2.uniq r;subst et;exact⟨gs,ts,rfl,h,e1,.inl ⟨w8 e1,rfl⟩⟩
 | none =>
  refine⟨gs++[g],ts++[t],by rw[p7];rfl,.snoc h r,?_,.inr rfl⟩;show(ts++[t])[(gs.map Gr.rw).length]?=some t;rw[j4,h.len,Jq]
theorem NA.ok{ts:List Tr}{t:Tr}(h:NA ts g t):Ua ts.length g:=by
 intro k hk;cases g with
 | no i =>
  cases t<;>first | exact h.elim | skip
  rw[show k=i by simpa [Gr.nums] using hk];exact(d6.mp h).1
 | fold u i j =>
  cases t<;>first | exact h.elim | skip
  obtain⟨_,h1,h2⟩:=h;have z:k=i\/k=j:=by simpa [Gr.nums] using hk
  rcases z with rfl | rfl
  .exact(d6.mp h1).1
  .exact(d6.mp h2).1
 | ne=>exact nomatch hk
 | al=>exact nomatch hk
 | p=>exact nomatch hk
 | q=>exact nomatch hk
theorem Tab.ok{ts:List Tr}(h:Tab gs ts):W8 gs:=by
 induction h with
 | nil=>intro k g e;cases e
 | @snoc gs ts g0 t0 h0 r ih =>
  intro k g e
  by_cases z:k<gs.length
  .rw[B8 z]at e;exact ih k g e
  .have z0:k=gs.length:=by
    have:=(d6.mp e).1;rw[c8]at this;simp at this;omega
   subst z0;rw[Jq]at e;cases e
   rw[h0.len];exact r.ok
theorem pE(t:Tr):t∈t.post:=by cases t<;>simp[Tr.post]
theorem gK:∀(t x:Tr),x∈t.post->x.size<=t.size
 | .no t,x,h=>by
  rcases j9.mp (show x∈t.post++[.no t] from h) with h | h
  .exact Nat.le_succ_of_le (gK t x h)
  .rw[d7.mp h];exact c7 _
 | .fold u a b,x,h=>by
  rcases j9.mp (show x∈a.post++b.post++[.fold u a b] from h) with h | h
  .rcases j9.mp h with h | h
   .have:=gK a x h;show _<=a.size+b.size+1;omega
   .have:=gK b x h;show _<=a.size+b.size+1;omega
  .rw[d7.mp h];exact c7 _
 | .never,x,h=>by rw[d7.mp h];exact c7 _
 | .always,x,h=>by rw[d7.mp h];exact c7 _
 | .lp,x,h=>by rw[d7.mp h];exact c7 _
 | .lq,x,h=>by rw[d7.mp h];exact c7 _
theorem GJ:∀t {gs:List Gr} {ts:List Tr},Tab gs ts->∃N4 e,(t.putR (gs.map Gr.rw)).1=N4.map Gr.rw/\Tab N4 (ts++e)/\(ts++e)[(t.putR (gs.map Gr.rw)).2]?=some t/\(∀x∈e,x∈t.post)/\(t ∉ ts->∃e',e=e'++[t]):=by
 have leaf:∀t g {gs:List Gr} {ts:List Tr},Tab gs ts->NA ts g t->∃N4 e,(bg (gs.map Gr.rw) g.rw).1=N4.map Gr.rw/\Tab N4 (ts++e)/\(ts++e)[(bg (gs.map Gr.rw) g.rw).2]?=some t/\(∀x∈e,x∈t.post)/\(t ∉ ts->∃e',e=e'++[t]):=by
  intro t g gs ts h r;obtain⟨N4,UK,e1,e2,e3,e4⟩:=h.push r;rcases e4 with⟨m,rfl⟩ | rfl
  .exact⟨N4,[],e1,by rw[B0];exact e2,by rw[B0];exact e3,(λ_ z=>by cases z),λz=>absurd m z⟩
  .exact⟨N4,[t],e1,e2,e3,λx z=>by rw[d7.mp z];exact pE t,λ_=>⟨[],rfl⟩⟩
 intro t
 induction t with
 | never=>intro gs ts h;exact leaf .never .ne h trivial
 | always=>intro gs ts h;exact leaf .always .al h trivial
 | lp=>intro gs ts h;exact leaf .lp .p h trivial
 | lq=>intro gs ts h;exact leaf .lq .q h trivial
 | no t ih =>
  intro gs ts h;obtain⟨XU,e,a1,a2,a3,a4,_⟩:=ih h;obtain⟨XT,ts2,b1,b2,b3,b4⟩:=a2.push (g:=.no (t.putR (gs.map Gr.rw)).2) (t:=.no t) a3;have key:(Tr.no t).putR (gs.map Gr.rw)=bg (XU.map Gr.rw) (Gr.rw (.no (t.putR (gs.map Gr.rw)).2)):=by rw[<- a1];rfl
  rw[key];have up:∀x∈t.post,x∈(Tr.no t).post:=λx z=>j9.mpr (.inl z);rcases b4 with⟨m,rfl⟩ | rfl
  .refine⟨XT,e,b1,b2,b3,λx z=>up x (a4 x z),λz=>?_⟩;rcases j9.mp m with m | m
   .exact absurd m z
   .exact absurd (gK _ _ (a4 _ m)) (by show ¬t.size+1<=t.size;omega)
  .refine⟨XT,e++[.no t],b1,by rw[<- w6];exact b2,by rw[<- w6];exact b3,λx z=>?_,λ_=>⟨e,rfl⟩⟩;rcases j9.mp z with z | z
   .exact up x (a4 x z)
   .rw[d7.mp z];exact pE _
 | fold u a b iha ihb =>
  intro gs ts h;obtain⟨XU,e,a1,a2,a3,a4,_⟩:=iha h;obtain⟨XT,f,c1,c2,c3,c4,_⟩:=ihb a2;have a3':=oG (e:=f) a3;obtain⟨gs3,ts3,b1,b2,b3,b4⟩:=c2.push (g:=.fold u (a.putR (gs.map Gr.rw)).2 (b.putR (XU.map Gr.rw)).2) (t:=.fold u a b) ⟨rfl,a3',c3⟩
  have key:(Tr.fold u a b).putR (gs.map Gr.rw)=bg (XT.map Gr.rw) (Gr.rw (.fold u (a.putR (gs.map Gr.rw)).2 (b.putR (XU.map Gr.rw)).2)):=by
   show bg (b.putR (a.putR (gs.map Gr.rw)).1).1 (fu u.str [(a.putR (gs.map Gr.rw)).2,(b.putR (a.putR (gs.map Gr.rw)).1).2])=_;rw[a1,c1];rfl
  rw[key];have ua:∀x∈a.post,x∈(Tr.fold u a b).post:=λx z=>j9.mpr (.inl (j9.mpr (.inl z)));have ub:∀x∈b.post,x∈(Tr.fold u a b).post:=λx z=>j9.mpr (.inl (j9.mpr (.inr z)))
  have sz:∀x∈e++f,x.size<=a.size+b.size/\x∈(Tr.fold u a b).post:=λx z=>by
   rcases j9.mp z with z | z
   .exact⟨l8 (gK _ _ (a4 x z)) (F0 _ _),ua x (a4 x z)⟩
   .exact⟨l8 (gK _ _ (c4 x z)) (Lq _ _),ub x (c4 x z)⟩
  rw[w6]at b4;rcases b4 with⟨m,rfl⟩ | rfl
  .refine⟨gs3,e++f,b1,b2,b3,λx z=>(sz x z).2,λz=>?_⟩;rcases j9.mp m with m | m
   .exact absurd m z
   .exact absurd (sz _ m).1 (by show ¬a.size+b.size+1<=a.size+b.size;omega)
  .refine⟨gs3,e++f++[.fold u a b],b1,by rw[<- w6];exact b2,by rw[<- w6];exact b3,λx z=>?_,λ_=>⟨e++f,rfl⟩⟩;rcases j9.mp z with z | z
   .exact(sz x z).2
   .rw[d7.mp z];exact pE _
theorem Gx(t:Tr):∃gs ts,t.rows=gs.map Gr.rw/\Tab gs (ts++[t])/\(∀x∈ts++[t],x∈t.post)/\gs.length<=t.size:=by
 obtain⟨gs,e,a1,a2,a3,a4,a5⟩:=GJ t (gs:=[]) (ts:=[]) .nil;obtain⟨e',rfl⟩:=a5 (λz=>nomatch z);have hl:=jD t [];rw[show(t.putR []).1=gs.map Gr.rw from a1,j4]at hl;exact⟨gs,e',a1,by simpa using a2,a4,by simpa using hl⟩
end Mine
namespace L2
open PySem PySem.Spec PyProof.Rows
variable{name:Str}{o e:Expr}{tk i k1 kk j1 j2 j3:Nat}{use:Option (Value->Sem Unit)}{Qv Q:Value->Shared->Prop}{Ly:List (Addr×Obj)}{s:Shared}{σ:St}{H:Hp}{h h':Heap}{ys xs:Array Value}{z i1 i2 l1 l2 a b:Addr}{w:World}{X:Cx}{P:Program}{LL:List Expr}{Mm:Pos}{c:Int}
variable{X:Cx}
theorem Pa{K:W.Frag}{T id:String}{r:V->List V->Hp->VK->Prop}{to:TE}{apos LP:Pos}(eK:X.K=K)(pa:PlainAttrs T)(slot:Slot T name id)(VL:typeOf (.builtin id)=pure (.type "method_descriptor"))(hm:MtR X id r)(ho:PE X o to)
  (MU:attributeBase o name X.env (eval o X.env)=eval o X.env:=by rfl)(MS:(apos.endLine==LP.line)=true:=by rfl):PE X (.Call (.Attribute o name apos) [] [] LP) (US K T r to):=eK ▸ jk pa slot VL hm ho MU MS
noncomputable def cw(X:Cx)(xs:List Str)(js:List Nat):List Str:=xs++js.map λj=>X.N.getD j ""
section
variable{X:Cx}{Ly:List (Addr×Obj)}{σ:St}{H:Hp}{s:Shared}{scope:Scope}{cl:List (Str×Addr)}{xs:List Str}{js:List Nat}{fp:List Addr}{N:List Str}
theorem IT(I:Inv X Ly σ H s)(hk:scope.kind=.function)(LG:∀y∈scope.names,y.2≠.cell)
  (LJ:∀y c,cl.lookup y=some c->X.env.cells.lookup y=some c)(LM:∀y,(y,NameKind.free)∈scope.names->∃c,cl.lookup y=some c)
  (hf:∀b∈fp,jK X Ly H b)(LI:∀b∈fp,b<s.heap.objs.size):(bK X scope cl N s H fp).Ok where
 mod:=I.ok.mod
 kind:=hk
 glob:=I.ok.glob
 blt:=I.ok.blt
 above:=c7 _
 inj:=λy z c h1 h2=>I.ok.inj y z c (LJ y c h1) (LJ z c h2)
 has:=λy hy=>by
  have Py:(relabel scope X.env).names.lookup y=some .cell\/(relabel scope X.env).names.lookup y=some .free:=hy;rcases Py with h | h
  .obtain⟨k',m,q⟩:=dC h;rcases q with q | ⟨_,q⟩
   .exact absurd q (LG _ m)
   .subst q;exact LM y m
  .obtain⟨k',m,q⟩:=dC h;rcases q with q | ⟨q,_⟩
   .subst q;exact LM y m
   .cases q
 cab:=λy c h _=>by cases h
 hd:=I.ok.hd
 frames:=I.ok.frames
 stk:=.inl rfl
 exf:=λb hb=>⟨A4 (LI b hb),λy c h=>(hf b hb).2.2.2.2.1 y c (LJ y c h)⟩
 bs:=I.bs
 bsz:=l8 I.ok.bsz I.sz
 noex:=λb o e hb=>by
  rcases(hf b hb).2.2.2.1 with z | z
  .exact I.ok.noex b o e z
  .exact absurd (i7 (p5 e) (l8 I.ok.bsz z)) (B9 _)
 exfs:=λb hb hz=>(j6.mp (I.stkSub b hz)).elim (hf b hb).2.1 (hf b hb).2.2.1
 funs:=I.stack
 frf:=I.stkFree
theorem zq{tk:Nat}(I:Inv X Ly σ H s)(hk:scope.kind=.function)(LG:∀y∈scope.names,y.2≠.cell)
  (LJ:∀y c,cl.lookup y=some c->X.env.cells.lookup y=some c)(LM:∀y,(y,NameKind.free)∈scope.names->∃c,cl.lookup y=some c)(My:gv X scope js)
  (hf:∀b∈fp,jK X Ly H b)(LI:∀b∈fp,b<s.heap.objs.size)(hn:h₁.Ns s.heap.objs.size m)(L5:∀b o,s.heap.get? b=some o->h₁.get? b=some o) :
  Inv (bK X scope cl (cw X xs js) s H fp) [] (List.replicate xs.length none++bR js σ) H {s with heap:=h₁,toks:=tk} where
 ok:=IT I hk LG LJ LM hf LI
 os:=rfl
 bare:=I.bare
 base:=Un.kept L5
 loc:=by
  refine⟨m,hn,λi y v h1 h2 h3=>?_⟩
  by_cases hik:i<xs.length
  .rw[B8 (by simpa using hik),List.getElem?_replicate_of_lt hik]at h2;cases h2
  .generalize hkk:i-xs.length=k
   have NF:(js.map λj=>X.N.getD j "")[k]?=some y:=by
    have q:(xs++js.map λj=>X.N.getD j "")[i]?=some y:=h1;rw[G3 (by omega),hkk]at q;exact q
   have MM:(js.map λj=>(σ[j]?).getD none)[k]?=some (some v):=by
    rw[G3 (by simp;omega),Kg,hkk]at h2;exact h2
   rw[x6]at NF MM;cases hj:js[k]? with
   | none=>rw[hj]at NF;cases NF
   | some j =>
    rw[hj]at NF MM;have e1:X.N.getD j ""=y:=l7 NF;have e2:(σ[j]?).getD none=some v:=l7 MM;obtain⟨y',n1,n2,n3,n4⟩:=My.all j (w8 hj);have e3:y'=y:=by rw[<- e1,A3,n1];rfl
    subst e3
    have e4:σ[j]?=some (some v):=by
     cases q:σ[j]? with
     | none=>rw[q]at e2;cases e2
     | some a=>rw[q]at e2;exact z6 some e2
    obtain⟨m0,_,hl⟩:=I.loc;obtain⟨u,r,l⟩:=hl j y' v n1 e4 (n2.elim (λz=>Or.inr (Or.inl z)) λz=>Or.inr (Or.inr z));refine⟨u,r,.inr ⟨n4,?_⟩⟩;rcases l with⟨l,_⟩ | ⟨_,c,hc,hi⟩
    .exfalso;rcases n2 with z | z<;>(rw[z]at l;cases l)
    .obtain⟨c',MA⟩:=LM y' n3;have e5:=LJ y' c' MA;rw[hc]at e5;have e6:=l7 e5;subst e6;obtain⟨o,ho,hd⟩:=hi;exact⟨c,MA,o,L5 c o ho,hd⟩
 cell:=λy c h=>by
  obtain⟨v,o,ho,hd⟩:=I.cell y c (LJ y c h);exact⟨v,o,L5 c o ho,hd⟩
 free:=I.hok.fresh (c7 _)
 freeC:=λy c h=>I.freeC y c (LJ y c h)
 pin:=λp hp=>absurd (show p∈([]:List (Addr×Obj)) from hp) (by simp)
 hok:=I.hok.kept L5
 len:=by
  show(List.replicate xs.length none++bR js σ).length=(cw X xs js).length;simp[bR,cw]
end
def mE(n:Nat)(wi:TI)(g:TG)(te:TE)(js:List Nat):TE:=λσ H Q=>wi σ H λJ H1=>∀D,H1 D=none->
 ∃W:Nat->Nat->Hp->Prop,(∃m,W 0 m (upd H1 D (.lst [])))/\∀i m H2,W i m H2->(J.stop i H2/\Q (.ref D) H2)\/
  (J.go i H2/\∀o:St,o.length=n->∀v H3,J.yld i H2 v H3->g v (o++bR js σ) H3 λσ4 H4=>∃o',o'.length=n/\σ4=o'++bR js σ/\te (o'++bR js σ) H4 λy H5 =>
   ∃ys,H5 D=some (.lst ys)/\ys.length<sizeLine/\∃m',m'<m/\W (i+1) m' (upd H5 D (.lst (ys++[y]))))
section
variable{X:Cx}{elt LH:Expr}{xs:List Str}{LL:List Expr}{kk:Nat}{tp pos:Pos}{scope:Scope}{cl:List (Str×Addr)}{wi:TI}{g:TG}{te:TE}{js:List Nat}
theorem tR{Q:VK}
  (hc:X.calm=true)(hi:PI X (.Tuple LL kk tp) LH wi)(hk:scope.kind=.function)(LG:∀y∈scope.names,y.2≠.cell)
  (LJ:∀y c,cl.lookup y=some c->X.env.cells.lookup y=some c)(LM:∀y,(y,NameKind.free)∈scope.names->∃c,cl.lookup y=some c)(My:gv X scope js)(MZ:(cw X xs js).Nodup)
  (hg:∀s' H' fp,PG (bK X scope cl (cw X xs js) s' H' fp) (.Tuple LL kk tp) g)(he:∀s' H' fp,PE (bK X scope cl (cw X xs js) s' H' fp) elt te)
  (I:Inv X Ly σ H s)(h:mE xs.length wi g te js σ H Q)
  (fin:∀(D C:Addr)(H':Hp)(s':Shared),Inv X Ly σ H' s'->jK X Ly H' C->(∃m,s'.heap.Ns C m)->Q (.ref D) H'->compPost (model X.prog X.w) X.A X.xe use Qv (.ref D) C (.ok .next) s') :
  wpAny (model X.prog X.w) X.A (eval LH X.env) (λxv s₁=>wpAny (model X.prog X.w) X.A (pyIter xv) (λit s₂=>wpAny (model X.prog X.w) X.A (newList []) (λacc s₃ =>
   wpAny (model X.prog X.w) X.A (newFunctionEnv scope X.env.globals cl [] X.env.qual none .none (some X.env)) (λOc s₄ =>
    codeAny (model X.prog X.w) X.A (.compStart (.ListComp elt [⟨.Tuple LL kk tp,LH,[],0⟩] scope pos) 0 it acc {Oc with scope:=relabel scope X.env})
     (compPost (model X.prog X.w) X.A X.xe use Qv acc Oc.locals) s₄) X.xe s₃) X.xe s₂) X.xe s₁) X.xe s:=by
 refine LF (hi Ly s σ H _ I h) λv s1 h1=>LF h1 λXD s2 h2=>?_;obtain⟨it,fp,tn,J,H2,e,I2,T,Qq,f2,hW⟩:=h2;subst e;obtain⟨W,⟨m0,w0⟩,turn⟩:=hW s2.heap.objs.size (I2.hok.fresh (c7 _));have NX:∀b∈fp,b<s2.heap.objs.size:=λb hb=>let ⟨_,e,_⟩:=T.obj _ _ Qq b hb;p5 e
 have I3:Inv X Ly σ (upd H2 s2.heap.objs.size (.lst [])) {s2 with heap:=s2.heap.push {cls:=.type "list",data:=.seq ([]:List Value).toArray} }:=
  I2.lnew (t':=s2.toks) (its:=[]) .nil (y7 _)
 refine G4 ?_;have Zm:∀b o,s2.heap.get? b=some o->(s2.heap.push {cls:=.type "list",data:=.seq ([]:List Value).toArray}).get? b=some o:=λb o e=>i8 _ e;have Yw:(s2.heap.push {cls:=.type "list",data:=.seq ([]:List Value).toArray}).objs.size=s2.heap.objs.size+1:=F4 ..;generalize Zx:({s2 with heap:=s2.heap.push {cls:=.type "list",data:=.seq ([]:List Value).toArray} }:Shared)=s3 at I3
 have NU:s3.heap=s2.heap.push {cls:=.type "list",data:=.seq ([]:List Value).toArray}:=by rw[<- Zx]
 have NW:∀b∈fp,b<s3.heap.objs.size:=λb hb=>by rw[NU,Yw];exact Ka (NX b hb)
 have f3:∀b∈fp,jK X Ly (upd H2 s2.heap.objs.size (.lst [])) b:=λb hb=>⟨by rw[aA (A4 (NX b hb))];exact(f2 b hb).1,(f2 b hb).2⟩;refine wpAny_newFunctionEnv LG (by intro y hy;simp at hy) (λh₁ Ur Zw=>?_) hk;have VA:∀b o,s3.heap.get? b=some o->h₁.get? b=some o:=λb o e=>Zw.extBut b o (A4 (p5 e)) (i8 _ e);have I4:=zq (xs:=xs) (js:=js) (tk:=s3.toks+([]:List (Str×Value)).length) I3 hk LG LJ LM My f3 NW Ur VA;have UU:tn 0 h₁:=T.keep 0 _ _ Qq λb hb o e=>VA b o (by rw[NU];exact Zm b o e)
 have Mn:∀{H':Hp},(∀b∈fp,H' b=none)->∀b∈fp,jK (bK X scope cl (cw X xs js) s3 (upd H2 s2.heap.objs.size (.lst [])) fp) [] H' b:=λhn b hb =>
  ⟨hn b hb,A4 (NW b hb),λhz=>(j6.mp (I3.stkSub b hz)).elim (f2 b hb).2.1 (f2 b hb).2.2.1,.inl hb,λy c q=>(f2 b hb).2.2.2.2.1 y c (LJ y c q),λp hp=>absurd (show p∈([]:List (Addr×Obj)) from hp) (by simp)⟩
 have back:∀{σ':St}{H':Hp}{s':Shared},Inv (bK X scope cl (cw X xs js) s3 (upd H2 s2.heap.objs.size (.lst [])) fp) [] σ' H' s'->Inv X Ly σ H' s':=λ{σ' H' s'} J' =>
  I3.call' (ch:=fp) J'.os J'.base J'.hok J'.bare λb hb=>⟨(f2 b hb).2.2.2.1,(f2 b hb).2.1,(f2 b hb).2.2.2.2.1,(f2 b hb).2.2.2.2.2⟩
 have loop:codeAny (model X.prog X.w) X.A (.compLoop (.ListComp elt [⟨.Tuple LL kk tp,LH,[],0⟩] scope pos) 0 (.ref it) (.ref s2.heap.objs.size) (compEnvC scope cl s3.heap.objs.size X.env))
   (compPost (model X.prog X.w) X.A X.xe use Qv (.ref s2.heap.objs.size) s3.heap.objs.size) {s3 with heap:=h₁,toks:=s3.toks+([]:List (Str×Value)).length}:=by
  refine PyProof.Rows.LCp.codeAny_compLoop_pair (λn s'=>∃(i:Nat)(o:St)(H':Hp),o.length=xs.length/\Inv (bK X scope cl (cw X xs js) s3 (upd H2 s2.heap.objs.size (.lst [])) fp) [] (o++bR js σ) H' s'/\tn i s'.heap/\(∀b∈fp,H' b=none)/\W i n H') ?_ m0
   ⟨0,_,_,Kg,I4,UU,λb hb=>(f3 b hb).1,w0⟩
  rintro n s5 ⟨i,o,H5,ho,I5,OP,Tb,w5⟩
  rcases turn i n H5 w5 with⟨stop,q⟩ | ⟨go,step⟩
  .refine LF (T.done (bK X scope cl (cw X xs js) s3 (upd H2 s2.heap.objs.size (.lst [])) fp) rfl rfl rfl hc i [] s5 _ H5 _ I5 (Mn Tb) OP stop) λr s6 zz=>?_;obtain⟨hr,I6⟩:=zz;subst hr;exact fin _ _ H5 s6 (back I6) (I3.fpOk (c7 _) I6.free) (let ⟨m,hm,_⟩:=I6.loc;⟨m,hm⟩) q
  .refine LF (T.item (bK X scope cl (cw X xs js) s3 (upd H2 s2.heap.objs.size (.lst [])) fp) rfl rfl rfl hc i [] s5 _ H5 _ I5 (Mn Tb) OP go) λr s6 zz=>?_;obtain⟨u,hr,h6⟩:=zz;subst hr;refine F5 h6 (λ_ s6' q6=>?_) (λ_ _ f=>f);obtain⟨v,H6,I6,r6,y6,RE,Z6⟩:=q6;have I6':=I6.pinned (Mn Z6) (T.obj _ _ RE);refine F5 (hg s3 _ fp _ s6' _ H6 v u _ I6' r6 (step o ho v H6 y6)) (λ_ s7 q7=>?_) (λ_ _ f=>False.elim f);obtain⟨σ7,H7,I7,o7,ho7,e7,q7⟩:=q7;subst e7;refine F5 (he s3 _ fp _ s7 _ H7 _ I7 q7) (λy s9 q9=>?_) (λ_ _ f=>False.elim f);obtain⟨yv,H9,I9,r9,ys,hD,hl,m',hm,w9⟩:=q9;refine F5 (bj (X:=bK X scope cl (cw X xs js) s3 (upd H2 s2.heap.objs.size (.lst [])) fp) _ s9 _ H9 (.ref s2.heap.objs.size) [yv] (.ref s2.heap.objs.size) [y] (λ_ H'=>H'=upd H9 s2.heap.objs.size (.lst (ys++[yv]))) I9 rfl (.cons r9 .nil) ⟨_,ys,yv,rfl,rfl,hD,hl,rfl⟩) (λ_ Om YV=>?_) (λ_ _ f=>False.elim f);obtain⟨_,Rj,W6,_,Wz⟩:=YV;subst Wz;refine⟨m',hm,i+1,o7,_,ho7,W6.unpinned,T.keep _ _ _ RE λb hb o e=>(W6.pin (b,o) (p8 _ (p8 _ (gN hb e)))).1,λb hb=>?_,w9⟩;obtain⟨o,e,d⟩:=T.obj _ _ RE b hb;exact(W6.pin (b,o) (p8 _ (p8 _ (gN hb e)))).2.1
 exact codeAny_compStart_list loop (T.self _ 0 _ _ _ UU loop)
theorem Ha(hc:X.calm=true)(hi:PI X (.Tuple LL kk tp) LH wi)(hk:scope.kind=.function)(LG:∀y∈scope.names,y.2≠.cell)(LK:∀y∈scope.names,y.2=.local->scope.names.lookup y.1=some .local)
  (MT:closureFor scope X.env=pure cl)(LJ:∀y c,cl.lookup y=some c->X.env.cells.lookup y=some c)(LM:∀y,(y,NameKind.free)∈scope.names->∃c,cl.lookup y=some c)(My:gv X scope js)(MZ:(cw X xs js).Nodup)
  (hg:∀s' H' fp,PG (bK X scope cl (cw X xs js) s' H' fp) (.Tuple LL kk tp) g)(he:∀s' H' fp,PE (bK X scope cl (cw X xs js) s' H' fp) elt te)
  (hs:∀x,foldedSetIterable LH X.env x=pure x:=by intro _;rfl):PE X (.ListComp elt [⟨.Tuple LL kk tp,LH,[],0⟩] scope pos) (mE xs.length wi g te js):=by
 intro Ly s σ H Q I h;rw[eval_ListComp];refine JC (use:=none) rfl hs MT hk LK (tR hc hi hk LG LJ LM My MZ hg he I h λD C H' s' I' fC hC q=>?_);obtain⟨m,hm⟩:=hC;refine⟨m,hm,λh' sb=>?_⟩;obtain⟨f0,f1,f2,f3,f4,f5⟩:=fC;exact⟨.ref D,H',I'.turned (t':=s'.toks) (λb o hb e=>(sb.2 b hb).trans e) f0 f1 f3 f4 f5,rfl,q⟩
theorem lP(hi:PI X (.Tuple LL kk tp) LH wi)(My:gv X scope js)(hg:∀cl s' H' fp,PG (bK X scope cl (cw X xs js) s' H' fp) (.Tuple LL kk tp) g)(he:∀cl s' H' fp,PE (bK X scope cl (cw X xs js) s' H' fp) elt te)(hc:X.calm=true:=by rfl)(hk:scope.kind=.function:=by rfl)(LG:∀y∈scope.names,y.2≠.cell:=by decide+kernel)(LK:∀y∈scope.names,y.2=.local->scope.names.lookup y.1=some .local:=by decide+kernel)(hf:∀p∈scope.names,p.2=.free->X.env.kindOf p.1=some .cell\/X.env.kindOf p.1=some .free:=by walk_at "kr")(MZ:(cw X xs js).Nodup:=by walk_at "kr")(hs:∀x,foldedSetIterable LH X.env x=pure x:=by intro _;rfl):PE X (.ListComp elt [⟨.Tuple LL kk tp,LH,[],0⟩] scope pos) (mE xs.length wi g te js):=by
 intro Ly s σ H Q I h;obtain⟨cl,e,p1,p2⟩:=xq (qW (js:=js) I λy hy=>hf (y,.free) hy rfl);exact Ha hc hi hk LG LK e p1 p2 My MZ (hg cl) (he cl) hs Ly s σ H Q I h
end
open PySem.AutoSeq1
theorem gF{it t:Addr}(z:h.IsTupleIter it t i)(k:∀o,h.get? it=some o->h'.get? it=some o):h'.IsTupleIter it t i:=let ⟨o,e,r⟩:=z;⟨o,k o e,r⟩
theorem je{t:Addr}(z:h.IsTuple t ys)(k:∀o,h.get? t=some o->h'.get? t=some o):h'.IsTuple t ys:=let ⟨o,e,r⟩:=z;⟨o,k o e,r⟩
section
variable{prog:Program}{w:World}{A:Around}{E:Value->Shared->Prop}{s:Shared}
theorem Dt{TI TO:Addr}{k2:Nat}{x y a b:Value}(D:ZipApart z TI TO i1 i2 l1 l2)
  (gz:IsZip s.heap z TI TO .none)(gI:IsPair s.heap TI (.ref i1) (.ref i2))(gO:IsPair s.heap TO a b)(t1:s.heap.IsTupleIter i1 l1 k1)(t2:s.heap.IsTupleIter i2 l2 k2)(p1:s.heap.IsTuple l1 xs)(p2:s.heap.IsTuple l2 ys)(ex:xs[k1]?=some x)(ey:ys[k2]?=some y)
  (k:∀h',IsZip h' z TI TO (rawInt s.heap.objs.size)->IsPair h' TO x y->h'.IsTupleIter i1 l1 (k1+1)->h'.IsTupleIter i2 l2 (k2+1)->IsPair h' s.heap.objs.size x y->(∀c o,c≠z->c≠TO->c≠i1->c≠i2->s.heap.get? c=some o->h'.get? c=some o)->Q (.ref s.heap.objs.size) {s with heap:=h' }) :
  wpAny (model prog w) A (Builtin.«zip.__next__» ⟨[.ref z],[]⟩) (λfin s'=>∃v,fin=.done (.ret v)/\Q v s') E s:=by
 show wpAny _ _ (field (.ref z) 2 >>= _) _ _ _;refine c5 (F2 gz rfl (x:=.bool false) rfl ?_);show wpAny _ _ (field (.ref z) 3 >>= _) _ _ _;refine c5 (F2 gz rfl (x:=.ref TI) rfl ?_);refine c5 (JF gI rfl ?_);show wpAny _ _ (Builtin.SmallTypes.ownedTupleIsFree (.ref z) >>= _) _ _ _;refine c5 ?_;unfold Builtin.SmallTypes.ownedTupleIsFree;refine c5 (F2 gz rfl (x:=.none) rfl (x4 ?_));simp only[Lj];refine c5 (wpAny_rule ?_);refine c5 (F2 gz rfl (x:=.ref TO) rfl ?_);refine c5 (JJ gz (by simp) λm1 SU b1=>?_);replace SU:IsZip m1 z TI TO .ellipsis:=SU;refine c5 ?_;simp only[List.zipIdx_cons,List.zipIdx_nil,Kr,List.forIn_nil];refine c5 (c5 (wpAny_onRaise ?_));show wpAny _ _ (Builtin.SmallTypes.nextOf (.ref i1) >>= _) _ _ _;refine c5 (sS (gF t1 λo e=>b1.extBut _ _ D.i1z e) (je p1 λo e=>b1.extBut _ _ D.l1z e) ex λm2 u2 b2=>x4 ?_);have gO2:IsPair m2 TO a b:=b2.extBut _ _ D.TOi1 (b1.extBut _ _ D.TOz gO);refine c5 (JF gO2 rfl ?_);refine c5 (wpAny_updateSeq_pair gO2 λm3 Z3 b3=>?_);replace Z3:IsPair m3 TO x b:=Z3;refine c5 (wpAny_letGo (x4 ?_));refine c5 (c5 (wpAny_onRaise ?_));show wpAny _ _ (Builtin.SmallTypes.nextOf (.ref i2) >>= _) _ _ _;have e3:∀c o,c≠z->c≠TO->c≠i1->s.heap.get? c=some o->m3.get? c=some o:=λc o n1 n2 n3 e=>b3.extBut _ _ n2 (b2.extBut _ _ n3 (b1.extBut _ _ n1 e));refine c5 (sS (gF t2 λo e=>e3 _ o D.i2z D.TOi2.symm D.i12.symm e) (je p2 λo e=>e3 _ o D.l2z D.l2TO D.l2i1 e) ey λm4 u4 b4=>x4 ?_);have gO4:IsPair m4 TO x b:=b4.extBut _ _ D.TOi2 Z3;refine c5 (JF gO4 rfl ?_);refine c5 (wpAny_updateSeq_pair gO4 λm5 XW b5=>?_);replace XW:IsPair m5 TO x y:=XW;refine c5 (wpAny_letGo (x4 (x4 ?_)));refine c5 (JF XW rfl ?_);refine c5 (wpAny_newTuple ?_);have sz5:m5.objs.size=s.heap.objs.size:=by rw[b5.1,b4.1,b3.1,b2.1,b1.1]
 have e5:∀c o,c≠TO->c≠i2->m3.get? c=some o->m5.get? c=some o:=λc o n1 n2 e=>b5.extBut _ _ n1 (b4.extBut _ _ n2 e);have gz5:IsZip m5 z TI TO .ellipsis:=e5 _ _ D.TOz.symm D.i2z.symm (b3.extBut _ _ D.TOz.symm (b2.extBut _ _ D.i1z.symm SU));have u5:m5.IsTupleIter i1 l1 (k1+1):=gF u2 λo e=>e5 _ o D.TOi1.symm D.i12 (b3.extBut _ _ D.TOi1.symm e);have v5:m5.IsTupleIter i2 l2 (k2+1):=gF u4 λo e=>b5.extBut _ _ D.TOi2.symm e;have zl:z<m5.objs.size:=p5 gz5;show wpAny _ _ (Builtin.SmallTypes.ownedTupleHandOut (.ref z) (.ref m5.objs.size) >>= _) _ _ _;refine c5 ?_;unfold Builtin.SmallTypes.ownedTupleHandOut;have gz6:IsZip (m5.push {cls:=.type "tuple",data:=.seq #[x,y] }) z TI TO .ellipsis:=i8 _ gz5;refine c5 (JJ gz6 (by simp) λm7 Z0 b7=>?_);replace Z0:IsZip m7 z TI TO (rawInt m5.objs.size):=Z0;refine JJ Z0 (by simp) λm8 XS b8=>?_;replace XS:IsZip m8 z TI TO (rawInt m5.objs.size):=XS;have e8:∀c o,c≠z->m5.get? c=some o->m8.get? c=some o:=λc o n1 e=>b8.extBut _ _ n1 (b7.extBut _ _ n1 (i8 _ e));have gT:IsPair m8 m5.objs.size x y:=b8.extBut _ _ (J8 zl) (b7.extBut _ _ (J8 zl) (x5 _ rfl));rw[sz5]at XS gT;refine x4 ⟨_,rfl,?_⟩;show Q (.ref m5.objs.size) _;rw[sz5];exact k m8 XS (e8 _ _ D.TOz XW) (gF u5 λo e=>e8 _ o D.i1z e) (gF v5 λo e=>e8 _ o D.i2z e) gT λc o n1 n2 n3 n4 e=>e8 c o n1 (e5 c o n2 n4 (e3 c o n1 n2 n3 e))
theorem xI{TI TO:Addr}{a b:Value}{Q:Fin->Shared->Prop}(hd:A.handled=none)(D:ZipApart z TI TO i1 i2 l1 l2)
  (gz:IsZip s.heap z TI TO .none)(gI:IsPair s.heap TI (.ref i1) (.ref i2))(gO:IsPair s.heap TO a b)(t1:s.heap.IsTupleIter i1 l1 k1)(p1:s.heap.IsTuple l1 xs)(ex:xs[k1]?=none)
  (k:∀h' e,(∀c o,c≠z->c≠TO->c≠i1->c≠i2->s.heap.get? c=some o->h'.get? c=some o)->(∃o,h'.get? e=some o/\o.cls=.type "StopIteration")->E (.ref e) {s with heap:=h' }) :
  wpAny (model prog w) A (Builtin.«zip.__next__» ⟨[.ref z],[]⟩) Q E s:=by
 show wpAny _ _ (field (.ref z) 2 >>= _) _ _ _;refine c5 (F2 gz rfl (x:=.bool false) rfl ?_);show wpAny _ _ (field (.ref z) 3 >>= _) _ _ _;refine c5 (F2 gz rfl (x:=.ref TI) rfl ?_);refine c5 (JF gI rfl ?_);show wpAny _ _ (Builtin.SmallTypes.ownedTupleIsFree (.ref z) >>= _) _ _ _;refine c5 ?_;unfold Builtin.SmallTypes.ownedTupleIsFree;refine c5 (F2 gz rfl (x:=.none) rfl (x4 ?_));simp only[Lj];refine c5 (wpAny_rule ?_);refine c5 (F2 gz rfl (x:=.ref TO) rfl ?_);refine c5 (JJ gz (by simp) λm1 SU b1=>?_);replace SU:IsZip m1 z TI TO .ellipsis:=SU;refine c5 ?_;simp only[List.zipIdx_cons,List.zipIdx_nil,Kr,List.forIn_nil];refine c5 (c5 (wpAny_onRaise ?_));show wpAny _ _ (Builtin.SmallTypes.nextOf (.ref i1) >>= _) _ _ _;refine c5 (uj hd (gF t1 λo e=>b1.extBut _ _ D.i1z e) (je p1 λo e=>b1.extBut _ _ D.l1z e) ex λm2 e b2 he=>?_);obtain⟨oe,ge,ce⟩:=he;have gz2:IsZip m2 z TI TO .ellipsis:=b2 _ _ D.i1z.symm SU;have ne:e≠z:=λq=>by subst q;rw[gz2]at ge;cases ge;simp at ce
 refine JJ gz2 (by simp) λm3 _ b3=>k m3 e (λc o n1 _ n3 _ q=>b3.extBut _ _ n1 (b2 _ _ n3 (b1.extBut _ _ n1 q))) ⟨oe,b3.extBut _ _ ne ge,ce⟩
theorem Dv(hd:A.handled=none)(z TI TO i1 i2 l1 l2:Addr)(D:ZipApart z TI TO i1 i2 l1 l2)(xs ys:Array Value)(hle:xs.size<=ys.size) :
  WalksT prog w A z [z,TI,TO,i1,i2,l1,l2] [z,TO,i1,i2] xs.size (λi LW=>∃x y,xs[i]?=some x/\ys[i]?=some y/\LW=#[x,y])
   (λi h=>IsZip h z TI TO .none/\IsPair h TI (.ref i1) (.ref i2)/\(∃a b,IsPair h TO a b)/\h.IsTupleIter i1 l1 i/\h.IsTupleIter i2 l2 i/\h.IsTuple l1 xs/\h.IsTuple l2 ys)
   (λi T h=>IsZip h z TI TO (rawInt T)/\IsPair h TI (.ref i1) (.ref i2)/\(∃a b,IsPair h TO a b)/\h.IsTupleIter i1 l1 (i+1)/\h.IsTupleIter i2 l2 (i+1)/\h.IsTuple l1 xs/\h.IsTuple l2 ys/\T≠z/\T≠TO/\T≠i1/\T≠i2) where
 sub:=λc hc=>by
  simp only[j6,A2,F9]at hc ⊢;rcases hc with q | q | q | q<;>simp[q]
 frame:=λi h h' st kp=>by
  obtain⟨q1,q2,⟨a,b,q3⟩,q4,q5,q6,q7⟩:=st;exact⟨kp z (by simp) _ q1,kp TI (by simp) _ q2,⟨a,b,kp TO (by simp) _ q3⟩,gF q4 λo e=>kp i1 (by simp) o e,gF q5 λo e=>kp i2 (by simp) o e,je q6 λo e=>kp l1 (by simp) o e,je q7 λo e=>kp l2 (by simp) o e⟩
 item:=λi s Q E hi st k=>by
  obtain⟨q1,q2,⟨a,b,q3⟩,q4,q5,q6,q7⟩:=st;have hx:xs[i]?=some xs[i]:=KQ hi;have hy:ys[i]?=some (ys[i]'(by omega)):=KQ (by omega);have hT:s.TypeIs (.ref z) "zip":=⟨_,q1,rfl⟩;have lt:∀{c o},s.heap.get? c=some o->s.heap.objs.size≠c:=λe=>J8 (p5 e);unfold pyNext;refine c5 (wpAny_attempt (E7 (name:=Str.ofString "__next__") hT JP (Jt JP hT Lf (Dt D q1 q2 q3 q4 q5 q6 q7 hx hy λh' a1 a2 a3 a4 a5 kp=>x4 ?_) (K4 _))))
  exact k s.heap.objs.size #[xs[i],ys[i]'(by omega)] h' s.toks ⟨_,_,hx,hy,rfl⟩ (c7 _) ⟨_,a5,rfl,_,rfl⟩
   ⟨a1,kp _ _ D.TIz D.TITO D.TIi1 D.TIi2 q2,⟨_,_,a2⟩,a3,a4,je q6 λo e=>kp _ o D.l1z D.l1TO D.l1i1 D.l1i2 e,je q7 λo e=>kp _ o D.l2z D.l2TO D.l2i1 D.l2i2 e,lt q1,lt q3,(by obtain⟨_,e,_⟩:=q4;exact lt e),(by obtain⟨_,e,_⟩:=q5;exact lt e)⟩
   λc o hc e=>kp c o (λq=>hc (by simp[q])) (λq=>hc (by simp[q])) (λq=>hc (by simp[q])) (λq=>hc (by simp[q])) e
 go:=λLL kk pos i T s Q E hm k=>by
  obtain⟨q1,q2,⟨a,b,q3⟩,q4,q5,q6,q7,_⟩:=hm;refine wpAny_letOwnedTupleGo_zip q1 λh' gz' b'=>k h' ⟨gz',b'.extBut _ _ D.TIz q2,⟨a,b,b'.extBut _ _ D.TOz q3⟩,gF q4 λo e=>b'.extBut _ _ D.i1z e,gF q5 λo e=>b'.extBut _ _ D.i2z e,je q6 λo e=>b'.extBut _ _ D.l1z e,je q7 λo e=>b'.extBut _ _ D.l2z e⟩ λc o hc e=>b'.extBut _ _ (λq=>hc (by simp[q])) e
 apart:=λi T h hm hT=>by
  obtain⟨_,_,_,_,_,_,_,n1,n2,n3,n4⟩:=hm;simp only[j6,A2,F9]at hT;rcases hT with q | q | q | q
  .exact n1 q
  .exact n2 q
  .exact n3 q
  .exact n4 q
 done:=λs Q E st k=>by
  obtain⟨q1,q2,⟨a,b,q3⟩,q4,q5,q6,q7⟩:=st;have hT:s.TypeIs (.ref z) "zip":=⟨_,q1,rfl⟩;unfold pyNext;refine c5 (wpAny_attempt (E7 (name:=Str.ofString "__next__") hT JP (Jt JP hT Lf (xI hd D q1 q2 q3 q4 q6 (Array.getElem?_eq_none (c7 _)) λh' e kp ge=>?_) (K4 _))));obtain⟨o,ho,hc⟩:=ge;refine c5 (wpAny_isInstance (T:="StopIteration") (b:=true) ⟨o,ho,hc⟩ isSubtype_stop ?_);exact x4 (k h' s.toks λc o hc e=>kp c o (λq=>hc (by simp[q])) (λq=>hc (by simp[q])) (λq=>hc (by simp[q])) (λq=>hc (by simp[q])) e)
 self:=λi s Q E st k=>JY st.1 k
end
noncomputable abbrev Xg (h:Heap) (a:Addr):Heap:=h.push (Aa a)
noncomputable abbrev Xf (h:Heap) (a b:Addr):Heap:=(Xg h a).push (Aa b)
noncomputable abbrev Xe (h:Heap) (a b:Addr):Heap:=(Xf h a b).push {cls:=.type "tuple",data:=.seq #[.ref h.objs.size,.ref (Xg h a).objs.size] }
noncomputable abbrev Xd (h:Heap) (a b:Addr):Heap:=(Xe h a b).push {cls:=.type "tuple",data:=.seq #[.none,.none] }
noncomputable abbrev Uc (h:Heap) (a b:Addr):Heap:=(Xd h a b).push {cls:=.type "zip",data:=.fields #[.none,.bool false,.bool false,.ref (Xf h a b).objs.size,.ref (Xe h a b).objs.size] }
theorem Fo(a b:Addr)(xs ys:Array Value):Meets (Builtin.«zip.__new__» ⟨[.type "zip",.ref a,.ref b],[]⟩) (λ_ R s=>s.heap.IsTuple a xs/\s.heap.IsTuple b ys/\R (.ok (.ret (.ref (Xd s.heap a b).objs.size))) {s with heap:=Uc s.heap a b}):=
 .of_wp λprog w A R s h=>by
  obtain⟨hp,g,d,tk,os⟩:=s;obtain⟨q1,q2,h⟩:=h;have su:=sub_zip;have t1:Heap.IsTuple (Shared.heap ⟨hp,g,d,tk,os⟩) a xs:=q1;have t2:Heap.IsTuple (Shared.heap ⟨hp.push (Aa a),g,d,tk,os⟩) b ys:=je q2 λo e=>i8 _ e
  wp_walk using JH t1,JH t2
  exact⟨_,rfl,h⟩
theorem ER(q1:s.heap.IsTuple a xs)(q2:s.heap.IsTuple b ys)
  (k:∀h',IsZip h' (s.heap.objs.size+4) (s.heap.objs.size+2) (s.heap.objs.size+3) .none->IsPair h' (s.heap.objs.size+2) (.ref s.heap.objs.size) (.ref (s.heap.objs.size+1))->IsPair h' (s.heap.objs.size+3) .none .none->
   h'.IsTupleIter s.heap.objs.size a 0->h'.IsTupleIter (s.heap.objs.size+1) b 0->(∀c o,s.heap.get? c=some o->h'.get? c=some o)->Q (.ref (s.heap.objs.size+4)) {s with heap:=h' }):wpAny (model prog w) A (call (.type "zip") [.ref a,.ref b]) Q E s:=by
 refine callType_new F.called_zip (by decide) (F.typeCall_zip_2 _ _) (F.newCall_zip_2 _ _) (λobj=>F.args_object_init_3 obj _ _) F.entry_zip_new (Fo a b xs ys) ⟨q1,q2,?_⟩;have z1:(Xg s.heap a).objs.size=s.heap.objs.size+1:=F4 ..;have z2:(Xf s.heap a b).objs.size=s.heap.objs.size+2:=by rw[F4,z1]
 have z3:(Xe s.heap a b).objs.size=s.heap.objs.size+3:=by rw[F4,z2]
 have z4:(Xd s.heap a b).objs.size=s.heap.objs.size+4:=by rw[F4,z3]
 have up:∀{h:Heap}{o:Obj}{c:Addr}{q:Obj},h.get? c=some q->(h.push o).get? c=some q:=λe=>i8 _ e;have g5:(Uc s.heap a b).get? (Xd s.heap a b).objs.size=some _:=x5 _ rfl;have g4:(Uc s.heap a b).get? (Xe s.heap a b).objs.size=some _:=up (x5 _ rfl);have g3:(Uc s.heap a b).get? (Xf s.heap a b).objs.size=some _:=up (up (x5 _ rfl));have g2:(Uc s.heap a b).get? (Xg s.heap a).objs.size=some _:=up (up (up (x5 _ rfl)));have g1:(Uc s.heap a b).get? s.heap.objs.size=some _:=up (up (up (up (x5 _ rfl))));show _/\_;rw[z2,z3,z4]at g5;rw[z1,z2]at g3;rw[z3]at g4;rw[z1]at g2;rw[z4];exact⟨⟨_,g5,rfl⟩,k _ g5 g3 g4 ⟨_,g1,rfl,rfl⟩ ⟨_,g2,rfl,rfl⟩ λc o e=>up (up (up (up (up e))))⟩
def Qs(K:W.Frag)(a b:Addr):Nat->Hp->List V->Prop:=λi H vs=>∃x y,vs=[x,y]/\(∀xs,Lz K H a xs->xs[i]?=some x)/\∀ys,Lz K H b ys->ys[i]?=some y
def Fn(K:W.Frag)(a b:Addr):It:=Yf (λi H=>∃xs ys,Lz K H a xs/\Lz K H b ys/\i<xs.length/\xs.length<=ys.length) (Qs K a b) λi H=>∃xs ys,Lz K H a xs/\Lz K H b ys/\xs.length<=i/\xs.length<=ys.length
def Rr(a b z TI TO i1 i2:Addr)(i:Nat)(h:Heap):Prop:=IsZip h z TI TO .none/\IsPair h TI (.ref i1) (.ref i2)/\(∃u v,IsPair h TO u v)/\h.IsTupleIter i1 a i/\h.IsTupleIter i2 b i
theorem kI{xs:List V}(I:Inv X Ly σ H s)(h:Lz X.K H a xs)(f:jK X Ly H b):a≠b:=by
 intro e;subst e;obtain⟨f0,_,_,f3,_⟩:=f;rcases h with(h | ⟨o,h⟩) | ⟨o,its,n,hk,_⟩
 .rw[f0]at h;cases h
 .rw[f0]at h;cases h
 .have g:=I.ok.mod.kin a o hk;rcases f3 with z | z
  .exact I.ok.noex a o g z
  .exact absurd (i7 (p5 g) (l8 I.ok.bsz z)) (B9 _)
theorem BM{TI TO:Addr}{xs ys:List V}(I:Inv X Ly σ H s)(o:P8 z TI TO i1 i2)(hf:∀c∈[z,TI,TO,i1,i2],jK X Ly H c)(la:Lz X.K H a xs)(lb:Lz X.K H b ys):ZipApart z TI TO i1 i2 a b:=
 ⟨o.a1,o.a2,o.a3,o.a4,o.a5,o.a6,o.a7,o.a8,o.a9,o.a10,kI I la (hf z (by simp)),kI I la (hf TO (by simp)),kI I la (hf i1 (by simp)),kI I la (hf i2 (by simp)),kI I lb (hf z (by simp)),kI I lb (hf TO (by simp)),kI I lb (hf i1 (by simp)),kI I lb (hf i2 (by simp))⟩
theorem Qi{TI TO:Addr}(st:Rr a b z TI TO i1 i2 i h):∀c∈[z,TI,TO,i1,i2],∃o,h.get? c=some o/\∀v,o.data≠.cell v:=by
 intro c hc;obtain⟨hz,QS,⟨u,v,Ox⟩,⟨o1,g1,_,d1⟩,⟨o2,g2,_,d2⟩⟩:=st;simp only[j6,A2,F9]at hc;rcases hc with rfl | rfl | rfl | rfl | rfl
 .exact⟨_,hz,λv z=>by cases z⟩
 .exact⟨_,QS,λv z=>by cases z⟩
 .exact⟨_,Ox,λv z=>by cases z⟩
 .exact⟨_,g1,λv z=>by rw[d1]at z;cases z⟩
 .exact⟨_,g2,λv z=>by rw[d2]at z;cases z⟩
theorem Dw{w:World}{K:W.Frag}(a b z TI TO i1 i2:Addr)(own:P8 z TI TO i1 i2) :
  Turn P w K (.Tuple LL kk Mm) (Fn K a b) [z,TI,TO,i1,i2] z (Rr a b z TI TO i1 i2) where
 mem:=by simp
 obj:=λi h st c hc=>Qi st c hc
 keep:=λi h h' st k=>by
  obtain⟨hz,QS,⟨u,v,Ox⟩,l1,l2⟩:=st;exact⟨k z (by simp) _ hz,k TI (by simp) _ QS,⟨u,v,k TO (by simp) _ Ox⟩,gF l1 λo q=>k i1 (by simp) o q,gF l2 λo q=>k i2 (by simp) o q⟩
 item:=by
  intro X hP hw hK hc i Ly s σ H E I hf st hg;subst hP hw hK;obtain⟨xs,ys,hq,Mu,hi,hle⟩:=hg;obtain⟨its,rv,p,hz⟩:=I.tuple hq;obtain⟨LN,Ot,p2,Uo⟩:=I.tuple Mu;have hx:xs[i]?=some xs[i]:=c9 hi;have hy:ys[i]?=some (ys[i]'(by omega)):=c9 (by omega);obtain⟨u,hu,ru⟩:=rv.get hx;obtain⟨u2,XG,YJ⟩:=Ot.get hy;have e1:=rv.length;have e2:=Ot.length;have D:=BM I own hf hq Mu;have W:=Dv (prog:=X.prog) (w:=X.w) (A:=X.A) (I.ok.hd hc) z TI TO i1 i2 a b D its.toArray LN.toArray (by simp only[l6];omega);obtain⟨s1,s2,s3,s4,s5⟩:=id st
  refine oO (fp:=[z,TI,TO,i1,i2]) (vs:=[xs[i],ys[i]'(by omega)]) (src:=Qs X.K a b) (tn:=Rr a b z TI TO i1 i2) W I hf (λc hc=>let ⟨o,q,_⟩:=Qi st c hc;⟨o,q⟩) (λc hc=>?_) (by simp only[l6];omega) ⟨s1,s2,s3,s4,s5,p,p2⟩ (λLW hP=>?_) (by show 2<=sizeLine;decide)
   ⟨_,_,rfl,λzs SA=>by rw[I.tuple_inj SA hq];exact hx,λzs SA=>by rw[I.tuple_inj SA Mu];exact hy⟩ λh st=>⟨st.1,st.2.1,st.2.2.1,st.2.2.2.1,st.2.2.2.2.1⟩
  .simp only[j6,A2,F9]at hc ⊢;rcases hc with q | q | q | q<;>simp[q]
  .obtain⟨v1,v2,e1,e2,rfl⟩:=hP
   have f1:v1=u:=by
    have q:its[i]?=some v1:=by simpa using e1
    rw[hu]at q;exact(l7 q).symm
   have f2:v2=u2:=by
    have q:LN[i]?=some v2:=by simpa using e2
    rw[XG]at q;exact(l7 q).symm
   subst f1 f2;exact .cons ru (.cons YJ .nil)
 done:=by
  intro X hP hw hK hc i Ly s σ H E I hf st hg;subst hP hw hK;obtain⟨xs,ys,hq,Mu,VT,hle⟩:=hg;obtain⟨its,rv,p,hz⟩:=I.tuple hq;have D:=BM I own hf hq Mu;obtain⟨s1,s2,⟨u,v,s3⟩,s4,s5⟩:=id st;have e1:=rv.length;have hT:s.TypeIs (.ref z) "zip":=⟨_,s1,rfl⟩;have pT:s.heap.IsTuple a its.toArray:=p;unfold pyNext;refine c5 (wpAny_attempt (E7 (name:=Str.ofString "__next__") hT JP (Jt JP hT Lf (xI (I.ok.hd hc) D s1 s2 s3 s4 pT (by simp;omega) λh' e kp ge=>?_) (K4 _))));obtain⟨o,ho,hcl⟩:=ge;refine c5 (wpAny_isInstance (T:="StopIteration") (b:=true) ⟨o,ho,hcl⟩ isSubtype_stop ?_);exact x4 ⟨rfl,I.turnedL (t':=s.toks) (λc o hc q=>kp c o (λe=>hc (by simp[e])) (λe=>hc (by simp[e])) (λe=>hc (by simp[e])) (λe=>hc (by simp[e])) q) hf⟩
 self:=λ_ _ _ _ _ st h=>JY st.1 h
section
variable{X:Cx}
def VD(K:W.Frag)(ta tb:TE):TI:=λσ H R=>ta σ H λx H1=>tb σ H1 λy H2=>∃a b xs ys,x=.ref a/\y=.ref b/\Lz K H2 a xs/\Lz K H2 b ys/\R (Fn K a b) H2
theorem oq{p pos:Pos}{f:Expr}{te tf:TE}(hg:Gl X "zip")(hm:X.mg "zip"=none)(he:PE X e te)(hf:PE X f tf)
  (hs:starEach [e,f] X.env=[(false,eval e X.env),(false,eval f X.env)]:=by rfl)(NV:starEach [f] X.env=[(false,eval f X.env)]:=by rfl):PI X (.Tuple LL kk Mm) (.Call (.Name "zip" p) [e,f] [] pos) (VD X.K te tf):=by
 intro Ly s σ H R I h;have b1:bootBuiltins "zip"=some (.type "zip"):=by decide+kernel
 refine E8 (lx I hg hm b1 ?_ (by decide) (by decide));refine E6 ?_ (by rw[hs,NV]) (by rw[NV];rfl);rw[hs];refine Ju (LF (he Ly s σ H _ I h) λu s1 zz=>?_);obtain⟨x,H1,I1,rx,q1⟩:=zz;refine Ju (LF (hf Ly s1 σ H1 _ I1 q1) λu2 s2 zz=>?_);obtain⟨y,H2,I2,ry,a,b,xs,ys,ex,ey,hq,Mu,q⟩:=zz;subst ex ey;have eu:u=Value.ref a:=rx;have Z8:u2=Value.ref b:=ry;subst eu Z8;refine J9 ?_;obtain⟨its,rv,pl,hz⟩:=I2.tuple hq;obtain⟨LN,Ot,YY,Uo⟩:=I2.tuple Mu;refine ER (show s2.heap.IsTuple a its.toArray from pl) (show s2.heap.IsTuple b LN.toArray from YY) λh' z TI TO i1 i2 kp=>?_;have I3:Inv X Ly σ H2 {s2 with heap:=h' }:=I2.kept (t':=s2.toks) kp
 refine JY (s:={s2 with heap:=h' }) z ?_
 have ne:∀i j:Nat,i≠j->s2.heap.objs.size+i≠s2.heap.objs.size+j:=λi j XN e=>XN (Nat.add_left_cancel e)
 refine⟨_,[s2.heap.objs.size+4,s2.heap.objs.size+2,s2.heap.objs.size+3,s2.heap.objs.size,s2.heap.objs.size+1],_,Fn X.K a b,H2,rfl,I3,
  Dw a b _ _ _ _ _ ⟨ne 2 4 (by decide),ne 3 4 (by decide),ne 0 4 (by decide),ne 1 4 (by decide),ne 2 3 (by decide),ne 2 0 (by decide),ne 2 1 (by decide),ne 3 0 (by decide),ne 3 1 (by decide),ne 0 1 (by decide)⟩,
  ⟨z,TI,⟨_,_,TO⟩,i1,i2⟩,λc hc=>?_,q⟩
 have nb:s2.heap.objs.size<=c:=by
  simp only[j6,A2,F9]at hc;rcases hc with rfl | rfl | rfl | rfl | rfl
  .exact F0 _ _
  .exact F0 _ _
  .exact F0 _ _
  .exact c7 _
  .exact F0 _ _
 exact I2.fpOk nb (I2.hok.fresh nb)
end
section
variable{X:Cx}{tg:Expr}
end
section
variable{X:Cx}
theorem iI(hc:X.calm=true):gy X (.builtin "min") (λxs H Q=>∃(l:Addr)(ns:List Int),xs=[.ref l]/\LA X.K H l (ns.map V.int)/\0<ns.length/\∀M,M∈ns->(∀a∈ns,M<=a)->Q (.int M) H):=by
 intro Ly s σ H xs us Q I r h;obtain⟨l,ns,rfl,hq,L4,q⟩:=h;obtain⟨u,rfl,rx⟩:=vals1 r;cases rx
 obtain⟨its,rv,pl,_⟩:=I.list hq;have hi:IntsAre its ns:=intsAre_of rv;have hl:=pl.isList;obtain⟨ys,e⟩:=hi.allInts.items;have en:ns=ys.toList.map (·.1):=by rw[<- hi.numsOf,<- Kk,<- e]
 have sz:ns.length=ys.size:=by rw[en,j4,B7]
 rw[e]at hl;refine min_intList (I.ok.hd hc) hl (by omega) λv h' tk hv hk=>?_;obtain⟨t,rfl⟩:=Kn hv;obtain⟨h1,h2⟩:=argBest_lt (numAt ys) (ys.size-1);refine⟨.int _,H,I.kept hk,⟨t,rfl⟩,q _ ?_ λa ha=>?_⟩
 .rw[KJ,<- en];exact KL (by omega)
 .rw[en]at ha;obtain⟨j,hj,rfl⟩:=mem_getD ha;rw[<- KJ];exact h2 j (by rw[j4,B7]at hj;omega)
theorem jI(hc:X.calm=true):gy X (.builtin "max") (λxs H Q=>∃(l:Addr)(ns:List Int),xs=[.ref l]/\LA X.K H l (ns.map V.int)/\0<ns.length/\∀M,M∈ns->(∀a∈ns,a<=M)->Q (.int M) H):=by
 intro Ly s σ H xs us Q I r h;obtain⟨l,ns,rfl,hq,L4,q⟩:=h;obtain⟨u,rfl,rx⟩:=vals1 r;cases rx
 obtain⟨its,rv,pl,_⟩:=I.list hq;have hi:IntsAre its ns:=intsAre_of rv;have hl:=pl.isList;obtain⟨ys,e⟩:=hi.allInts.items;have en:ns=ys.toList.map (·.1):=by rw[<- hi.numsOf,<- Kk,<- e]
 have sz:ns.length=ys.size:=by rw[en,j4,B7]
 rw[e]at hl;refine max_intList (I.ok.hd hc) hl (by omega) λv h' tk hv hk=>?_;obtain⟨t,rfl⟩:=Kn hv;obtain⟨h1,h2⟩:=argBest_gt (numAt ys) (ys.size-1);refine⟨.int _,H,I.kept hk,⟨t,rfl⟩,q _ ?_ λa ha=>?_⟩
 .rw[KJ,<- en];exact KL (by omega)
 .rw[en]at ha;obtain⟨j,hj,rfl⟩:=mem_getD ha;rw[<- KJ];exact h2 j (by rw[j4,B7]at hj;omega)
end
section
variable{X:Cx}{n:Nat}{x:Str}{sp:Sp}{p pos:Pos}
theorem Cz(D:Def X.prog X.w X.K X.mg X.base n x [] sp)(hr:dY n X.A)(hg:Gl X x)(hdb:(x==("__debug__":Str))=false:=by decide):PE X (.Call (.Name x p) [] [] pos) (rn sp [] E0 kE):=by
 obtain⟨f,fd,F,b,kp,m⟩:=D.ex;exact Hb F hr hg m kp b .nil yD hdb
end
open PySem.W
section
variable{X:Cx}{elt LH:Expr}{xs:List Str}{LL:List Expr}{kk:Nat}{tp pos:Pos}{scope:Scope}{cl:List (Str×Addr)}{wi:TI}{g:TG}{te:TE}{js:List Nat}
theorem yz(hi:PI X (.Tuple LL kk tp) LH wi)(My:gv X scope js)(hg:∀cl s' H' fp,PG (bK X scope cl (cw X xs js) s' H' fp) (.Tuple LL kk tp) g)(he:∀cl s' H' fp,PE (bK X scope cl (cw X xs js) s' H' fp) elt te)(hN:X.N.Nodup:=by assumption)(hy:X.N[i]?=some y:=by rfl)(VI:Loc X.env.scope y:=by walk_at "oi")(VJ:X.fn y=true\/X.env.scope.names.lookup y=some .local:=by walk_at "oi")(VN:swapsWith (.ListComp elt [⟨.Tuple LL kk tp,LH,[],0⟩] scope pos) (some (.Name y py)) Nt.line X.env=pure true:=by rfl)(hc:X.calm=true:=by rfl)(hk:scope.kind=.function:=by rfl)(LG:∀y∈scope.names,y.2≠.cell:=by decide+kernel)(LK:∀y∈scope.names,y.2=.local->scope.names.lookup y.1=some .local:=by decide+kernel)(hf:∀p∈scope.names,p.2=.free->X.env.kindOf p.1=some .cell\/X.env.kindOf p.1=some .free:=by walk_at "kr")(MZ:(cw X xs js).Nodup:=by walk_at "kr")(hs:∀x,foldedSetIterable LH X.env x=pure x:=by intro _;rfl) :
  PS X (.Assign [.Name y py] (.ListComp elt [⟨.Tuple LL kk tp,LH,[],0⟩] scope pos) Nt) (nO i (mE xs.length wi g te js)):=by
 intro Ly s σ H D I h;obtain⟨cl,e,p1,p2⟩:=xq (qW (js:=js) I λy hy=>hf (y,.free) hy rfl);rw[exec_Assign_Name_used _ _ _ _ VN];refine c5 (wpAny_standAt (c5 ?_));show wpAny _ _ (do let _ <- comprehension (.ListComp elt [⟨.Tuple LL kk tp,LH,[],0⟩] scope pos) scope X.env _ (newList []) false (eval LH X.env) (some (assign (.Name y py) X.env))) _ _ s
 refine c5 (F5 (JC (use:=some (assign (.Name y py) X.env)) (Q:=λ_ s'=>SP X Ly D .next s') rfl hs e hk LK
  (tR hc hi hk LG p1 p2 My MZ (hg cl) (he cl) I h λD' C H' s' I' fC hC q=>?_)) (λ_ s' hq=>x4 (x4 hq)) λ_ _ e=>e)
 obtain⟨m,o,es,ep,ho,hd,hr⟩:=hC;obtain⟨f0,f1,f2,f3,f4,f5⟩:=fC
 have Ip:Inv X (Ly++[(C,o)]) σ H' s':=I'.pins_of λp hp=>(j9.mp hp).elim (λz=>I'.pin p (p8 _ z)) λz=>by
  have e:p=(C,o):=by simpa using z
  subst e;exact⟨ho,f0,f1,f2,λv z=>by rw[hd]at z;cases z⟩
 have hg:PG X (.Name y py) (my i):=aS hN hy VI VJ;refine LF (hg _ s' σ H' (.ref D') (.ref D') (λσ' LD=>σ'=σ.set i (some (.ref D'))/\LD=H') Ip rfl ⟨rfl,rfl⟩) λ_ NP YW=>?_;obtain⟨σ'',LD,W7,e1,e2⟩:=YW;subst e1 e2;have hp:=(W7.pin (C,o) (by simp)).1;refine⟨m,⟨o,es,ep,hp,hd,hr⟩,λh' sb=>?_⟩;exact⟨_,_,(W7.unpinned).turned (t':=NP.toks) (λb o hb e=>(sb.2 b hb).trans e) f0 f1 f3 f4 f5,q⟩
end
section
variable{X:Cx}{es fs:List Expr}{t:TA}{te:TE}{k j:Nat}{p:Pos}{i:Int}
theorem eB(hr:PA X es t):PA X (.Constant (.int i) j p::es) (eZ (tC (.int i)) t):=aa ao hr
theorem yE(ha:PE X (.Tuple fs k p) te)(hr:PA X es t):PA X (.Tuple fs k p::es) (eZ te t):=aa ha hr
def RA(a b c:Int):TE:=OL (eZ (tC (.int a)) (eZ (tC (.int b)) (eZ (tC (.int c)) kE)))
noncomputable def Wv(a b c:Int)(j1 j2 j3 k:Nat)(p1 p2 p3 p:Pos):Expr:=.Tuple [.Constant (.int a) j1 p1,.Constant (.int b) j2 p2,.Constant (.int c) j3 p3] k p
theorem Vk{a b:Int}:PE X (.Tuple [.Constant (.int a) j1 p1,.Constant (.int b) j2 p2,.Constant (.int c) j3 p3] k p) (RA a b c):=by
 unfold RA;refine bc ?_;refine eB ?_;refine eB ?_;refine eB ?_;exact af
theorem wL{a b:Int}:PE X (Wv a b c j1 j2 j3 k p1 p2 p3 p) (RA a b c):=Vk
def tSq:TE:=OM (eZ (RA 1 0 0) (eZ (RA 1 1 0) (eZ (RA 1 1 1) (eZ (RA 1 0 1) kE))))
structure W4(e:Expr):Prop where
 ex:∃a1 a2 a3 a4 q1 q2 q3 q4 b1 b2 b3 b4 r1 r2 r3 r4 c1 c2 c3 c4 s1 s2 s3 s4 d1 d2 d3 d4 t1 t2 t3 t4 p,e=.List [Wv 1 0 0 a1 a2 a3 a4 q1 q2 q3 q4,Wv 1 1 0 b1 b2 b3 b4 r1 r2 r3 r4,Wv 1 1 1 c1 c2 c3 c4 s1 s2 s3 s4,Wv 1 0 1 d1 d2 d3 d4 t1 t2 t3 t4] p
theorem Vj(h:W4 e):PE X e tSq:=by
 obtain⟨a1,a2,a3,a4,q1,q2,q3,q4,b1,b2,b3,b4,r1,r2,r3,r4,c1,c2,c3,c4,s1,s2,s3,s4,d1,d2,d3,d4,t1,t2,t3,t4,p,rfl⟩:=h.ex;unfold tSq;refine bW ?_;refine aa wL ?_ rfl;refine aa wL ?_ rfl;refine aa wL ?_ rfl;refine aa wL ?_ rfl;exact af
end
mutual
def Jk(K:W.Frag)(H:Hp):PyData->V->Prop
 | .none,v=>v=.non
 | .bool b,v=>v=.bl b
 | .int i,v=>v=.int i
 | .str x,v=>v=.str x
 | .tuple ds,v=>∃a xs,v=.ref a/\Lz K H a xs/\iE K H ds xs
 | .list ds,v=>∃a xs,v=.ref a/\LA K H a xs/\iE K H ds xs
 | .dict _,_=>False
def iE(K:W.Frag)(H:Hp):List PyData->List V->Prop
 | [],xs=>xs=[]
 | d::ds,xs=>∃x r,xs=x::r/\Jk K H d x/\iE K H ds r
end
mutual
theorem Dat.m{K:W.Frag}:∀{d:PyData}{v:V},Dat K H d v->Jk K H d v
 | .none,_,h=>h
 | .bool _,_,h=>h
 | .int _,_,h=>h
 | .str _,_,h=>h
 | .tuple _,_,⟨a,xs,h1,h2,h3⟩=>⟨a,xs,h1,h2,DatAll.m h3⟩
 | .list _,_,h=>False.elim h
 | .dict _,_,h=>h
theorem DatAll.m{K:W.Frag}:∀{ds:List PyData}{xs:List V},DatAll K H ds xs->iE K H ds xs
 | [],_,h=>h
 | _::_,_,⟨x,r,h1,h2,h3⟩=>⟨x,r,h1,Dat.m h2,DatAll.m h3⟩
end
mutual
theorem Jk.reads(I:Inv X Ly σ H s):∀d {v:V} {u:Value},Jk X.K H d v->RelV v u->∃as,Reads s.heap u d as
 | .none,_,_,h,r=>Dat.reads I .none h r
 | .bool b,_,_,h,r=>Dat.reads I (.bool b) h r
 | .int i,_,_,h,r=>Dat.reads I (.int i) h r
 | .str x,_,_,h,r=>Dat.reads I (.str x) h r
 | .tuple ds,_,_,⟨a,xs,h1,h2,h3⟩,r=>by
  cases h1
  cases(show _=Value.ref a from r)
  obtain⟨its,rv,⟨o,ho,hc,n,hd⟩,_⟩:=I.tuple h2;obtain⟨as,ra⟩:=iE.reads I ds h3 rv;exact⟨as,.tuple ho hc hd (by simpa using ra)⟩
 | .list ds,_,_,⟨a,xs,h1,h2,h3⟩,r=>by
  cases h1
  cases(show _=Value.ref a from r)
  obtain⟨its,rv,⟨o,n,ho,hc,_,hd⟩,_⟩:=I.list h2;obtain⟨as,ra⟩:=iE.reads I ds h3 rv;exact⟨a::as,.list ho hc hd (by simpa using ra)⟩
 | .dict _,_,_,h,_=>False.elim h
theorem iE.reads(I:Inv X Ly σ H s):∀ds {xs:List V} {us:List Value},iE X.K H ds xs->Vals xs us->∃as,ReadsAll s.heap us ds as
 | [],_,_,h,r=>by
  cases(show _=([]:List V) from h)
  cases r
  exact⟨[],.nil⟩
 | d::ds,_,_,⟨x,t,h1,h2,h3⟩,r=>by
  cases h1
  cases r with
  | cons r1 r2 =>
   obtain⟨as,a1⟩:=Jk.reads I d h2 r1;obtain⟨bs,b1⟩:=iE.reads I ds h3 r2;exact⟨as++bs,.cons a1 b1⟩
end
section
variable{X:Cx}
end
end L2
namespace Mine
variable{j n b bb:Nat}{U W u d:Int}
structure T3 where
 u:Int
 v:Int
 w:Int
deriving DecidableEq
namespace Hu
noncomputable def tl(r p:T3):Int:=r.u*p.v+r.v*p.w+r.w*p.u
noncomputable def det(p q r:T3):Int:=p.u*(q.v*r.w-q.w*r.v)-p.v*(q.u*r.w-q.w*r.u)+p.w*(q.u*r.v-q.v*r.u)
theorem bP(p q r:T3):det p q r=det r p q:=by simp only[det];grind
theorem Bl(p r:T3):det p p r=0:=by simp only[det];grind
theorem Bk(p r:T3):det r p p=0:=by simp only[det];grind
theorem IK(p r:T3):det p r p=0:=by simp only[det];grind
structure Co(p q X:T3):Prop where
 ex:∃g a b:Int,0<g/\0<=a/\0<=b/\g*X.u=a*p.u+b*q.u/\g*X.v=a*p.v+b*q.v/\g*X.w=a*p.w+b*q.w
theorem Tw(p q:T3):Co p q p:=⟨1,1,0,by decide,by decide,by decide,by omega,by omega,by omega⟩
theorem mW{g x:Int}(hg:0<g)(h:0<=g*x):0<=x:=by
 rcases A8 x 0 with z | z
 .have:=D0 hg z;omega
 .exact z
theorem WJ(h:Co p q X)(h1:0<=det p Y Z)(h2:0<=det q Y Z):0<=det X Y Z:=by
 obtain⟨g,a,b,hg,ha,hb,e1,e2,e3⟩:=h.ex;refine mW hg ?_;have e:g*det X Y Z=a*det p Y Z+b*det q Y Z:=by simp only[det];grind
 rw[e];have:=A0 ha h1;have:=A0 hb h2;omega
theorem co_2(h:Co p q Y)(h1:0<=det X p Z)(h2:0<=det X q Z):0<=det X Y Z:=by
 rw[bP,bP];rw[bP,bP]at h1 h2;exact WJ h h1 h2
theorem Tx(h:Co p q Z)(h1:0<=det X Y p)(h2:0<=det X Y q):0<=det X Y Z:=by
 rw[bP];rw[bP]at h1 h2;exact WJ h h1 h2
def WW(L:List T3):Prop:=∀p q r,[p,q,r].Sublist L->0<=det p q r
theorem oQ{α:Type}{L:List α}{i k:Nat}(h1:i<j)(h2:j<k)(h3:k<L.length):[L[i]'(by omega),L[j]'(by omega),L[k]].Sublist L:=by
 have a3:[L[k]].Sublist (L.drop (j+1)):=by
  rw[Jr];rw[E9];exact⟨k-(j+1),by simp;omega,by simp[show j+1+(k-(j+1))=k by omega]⟩
 have a2:[L[j]'(by omega),L[k]].Sublist (L.drop (i+1)):=by
  have:[L[j]'(by omega),L[k]].Sublist (L.drop j):=by
   rw[C9 (show j<L.length by omega)];exact List.Sublist.cons₂ _ a3
  refine this.trans ?_;have e:L.drop j=(L.drop (i+1)).drop (j-(i+1)):=by rw[List.drop_drop];congr 1;omega
  rw[e];exact K5 _ _
 refine List.Sublist.trans ?_ (K5 i L);rw[C9 (show i<L.length by omega)];exact List.Sublist.cons₂ _ a2
section
variable{α:Type}{f:Nat->List α}
noncomputable def fl(f:Nat->List α)(n:Nat):List α:=(List.range n).flatMap f
theorem qX:fl f 0=[]:=rfl
theorem bD(n:Nat):fl f (n+1)=fl f n++f n:=by simp[fl,List.range_succ]
theorem sub_one:∀{n:Nat},p∈fl f n->∃i,i<n/\p∈f i
 | 0,h=>by simp[fl]at h
 | n+1,h=>by
  rw[bD]at h;rcases j9.mp h with h | h
  .obtain⟨i,hi,z⟩:=sub_one h;exact⟨i,by omega,z⟩
  .exact⟨n,by omega,h⟩
theorem BQ:∀{n:Nat},[p,q].Sublist (fl f n)->(∃i j,i<j/\j<n/\p∈f i/\q∈f j)\/∃i,i<n/\[p,q].Sublist (f i)
 | 0,h=>by have:=h.length_le;simp[fl]at this
 | n+1,h=>by
  rw[bD]at h;obtain⟨l1,l2,e,h1,h2⟩:=List.sublist_append_iff.mp h
  match l1,e with
  | [],e=>subst e;exact .inr ⟨n,by omega,h2⟩
  | [_],e =>
   simp at e;obtain⟨rfl,rfl⟩:=e;obtain⟨i,hi,z⟩:=sub_one (Jr.mp h1);exact .inl ⟨i,n,hi,by omega,z,Jr.mp h2⟩
  | [_,_],e =>
   simp at e;obtain⟨rfl,rfl,rfl⟩:=e;rcases BQ h1 with⟨i,j,a,b,c,d⟩ | ⟨i,a,b⟩
   .exact .inl ⟨i,j,a,by omega,c,d⟩
   .exact .inr ⟨i,by omega,b⟩
  | _::_::_::_,e=>simp at e
theorem uO:∀{n:Nat},[p,q,r].Sublist (fl f n)->(∃i j k,i<j/\j<k/\k<n/\p∈f i/\q∈f j/\r∈f k)\/(∃i k,i<k/\k<n/\[p,q].Sublist (f i)/\r∈f k)\/(∃i k,i<k/\k<n/\p∈f i/\[q,r].Sublist (f k))\/∃i,i<n/\[p,q,r].Sublist (f i)
 | 0,h=>by have:=h.length_le;simp[fl]at this
 | n+1,h=>by
  rw[bD]at h;obtain⟨l1,l2,e,h1,h2⟩:=List.sublist_append_iff.mp h
  match l1,e with
  | [],e=>subst e;exact .inr (.inr (.inr ⟨n,by omega,h2⟩))
  | [_],e =>
   simp at e;obtain⟨rfl,rfl⟩:=e;obtain⟨i,hi,z⟩:=sub_one (Jr.mp h1);exact .inr (.inr (.inl ⟨i,n,hi,by omega,z,h2⟩))
  | [_,_],e =>
   simp at e;obtain⟨rfl,rfl,rfl⟩:=e;have MM:=Jr.mp h2;rcases BQ h1 with⟨i,j,a,b,c,d⟩ | ⟨i,a,b⟩
   .exact .inl ⟨i,j,n,a,b,by omega,c,d,MM⟩
   .exact .inr (.inl ⟨i,n,a,by omega,b,MM⟩)
  | [_,_,_],e =>
   simp at e;obtain⟨rfl,rfl,rfl,rfl⟩:=e;rcases uO h1 with⟨i,j,k,a,b,c,d⟩ | ⟨i,k,a,b,c⟩ | ⟨i,k,a,b,c⟩ | ⟨i,a,b⟩
   .exact .inl ⟨i,j,k,a,b,by omega,d⟩
   .exact .inr (.inl ⟨i,k,a,by omega,c⟩)
   .exact .inr (.inr (.inl ⟨i,k,a,by omega,c⟩))
   .exact .inr (.inr (.inr ⟨i,by omega,b⟩))
  | _::_::_::_::_,e=>simp at e
theorem tL{c:Nat}(h:∀i,(f i).length<=c):∀n:Nat,(fl f n).length<=n*c
 | 0=>by simp[fl]
 | n+1=>by
  rw[bD,c8];have:=tL h n;have:=h n;rw[Nat.add_mul];omega
theorem IA{i:Nat}(hi:i<n)(h:p∈f i):p∈fl f n:=by
 unfold fl;exact List.mem_flatMap.mpr ⟨i,KA.mpr hi,h⟩
end
noncomputable def z3:T3:=⟨1,0,0⟩
noncomputable def cor(h:List T3)(i:Nat):T3:=h.getD (i%h.length) z3
theorem cK{i:Nat}(hi:i<h.length):cor h i=h[i]:=by
 unfold cor;rw[Lg hi,A3,c9 hi];rfl
theorem cE(h:List T3):cor h h.length=cor h 0:=by
 unfold cor;rw[Nat.mod_self,Nat.zero_mod]
theorem cD(h0:0<h.length)(i:Nat):cor h i∈h:=by
 have:i%h.length<h.length:=Lk _ h0;unfold cor;rw[A3,c9 this];exact JG this
theorem GA{h:List T3}(T:WW h){i k:Nat}(h1:i<=j)(h2:j<=k)(h3:k<h.length):0<=det (cor h i) (cor h j) (cor h k):=by
 rcases B5 i j with a | a
 .rcases B5 j k with b | b
  .rw[cK (show i<h.length by omega),cK (show j<h.length by omega),cK h3];exact T _ _ _ (oQ a b h3)
  .rw[show j=k by omega,Bk];exact C3 0
 .rw[show i=j by omega,Bl];exact C3 0
theorem wB(T:WW h){i k:Nat}(h1:i<=j)(h2:j<=k)(h3:k<=h.length):0<=det (cor h i) (cor h j) (cor h k):=by
 rcases B5 k h.length with c | c
 .exact GA T h1 h2 c
 .rw[show k=h.length by omega,cE,bP];rcases B5 j h.length with d | d
  .exact GA T (y7 _) h1 d
  .rw[show j=h.length by omega,cE,IK];exact C3 0
structure Part(h:List T3)(f:Nat->List T3):Prop where
 co:∀i,i<h.length->∀p∈f i,Co (cor h i) (cor h (i+1)) p
 two:∀i,i<h.length->∀p q,[p,q].Sublist (f i)->p=cor h i
 len:∀i,(f i).length<=2
end Hu
namespace Hu
noncomputable def nm(p q s t:Int):Int:=(t.natAbs:Int)*p+(s.natAbs:Int)*q
noncomputable def gg(U V W:Int):Int:=Lo.gc (Lo.gc U V) W
noncomputable def mid(p q:T3)(s t:Int):T3:=
 ⟨(nm p.u q.u s t).fdiv (gg (nm p.u q.u s t) (nm p.v q.v s t) (nm p.w q.w s t)),(nm p.v q.v s t).fdiv (gg (nm p.u q.u s t) (nm p.v q.v s t) (nm p.w q.w s t)),(nm p.w q.w s t).fdiv (gg (nm p.u q.u s t) (nm p.v q.v s t) (nm p.w q.w s t))⟩
theorem CO(p q:T3)(s t:Int):mid p q (-s) (-t)=mid p q s t:=by simp only[mid,nm,Int.natAbs_neg]
theorem zg(U V W:Int):gg U V W∣U:=Int.dvd_trans (Lo.eT _ _) (Lo.eT _ _)
theorem Iq(U V W:Int):gg U V W∣V:=Int.dvd_trans (Lo.eT _ _) (Lo.gh _ _)
theorem Io(U V W:Int):gg U V W∣W:=Lo.gh _ _
theorem EJ(U V W:Int):0<=gg U V W:=Lo.pL _ _
theorem nq{V:Int}(h:0<U):0<gg U V W:=by
 rcases Int.lt_or_eq_of_le (EJ U V W) with z | z
 .exact z
 .have:=zg U V W;rw[<- z]at this;have:=Int.zero_dvd.mp this;omega
theorem gg_le{V:Int}(h:0<U):gg U V W<=U:=Int.le_of_dvd h (zg U V W)
theorem div_eq{g x:Int}(h:g∣x):g*x.fdiv g=x:=by
 rw[J7 h];exact Kl h
structure P3(b:Nat)(p:T3):Prop where
 n0:0<p.u
 x0:0<=p.v
 y0:0<=p.w
 n1:p.u<2^b
 x1:p.v<2^b
 y1:p.w<2^b
theorem P3.mono{c:Nat}(h:P3 b p)(z:b<=c):P3 c p:=by
 have e:(2:Int)^b<=2^c:=by
  have:=G0 (n:=2) (by decide) z
  exact_mod_cast this
 exact⟨h.n0,h.x0,h.y0,KN h.n1 e,KN h.x1 e,KN h.y1 e⟩
theorem mZ{a c:Int}{m:Nat}(h1:a.natAbs<2^m)(h2:c.natAbs<2^n):(a*c).natAbs<2^(m+n):=by
 rw[Lv,Nat.pow_add];rcases Jw c.natAbs with z | z
 .rw[z,Nat.mul_zero];exact Nat.mul_pos (Nat.pow_pos (by decide)) (Nat.pow_pos (by decide))
 .exact i7 (Nat.mul_lt_mul_of_pos_right h1 z) (Nat.mul_le_mul_left _ (JX h2))
theorem yQ{x:Int}(h0:0<=x)(h:x<2^b):x.natAbs<2^b:=by
 have e:((2^b:Nat):Int)=(2:Int)^b:=by norm_cast
 omega
theorem nm_b{e:Nat}{p q s t:Int}(p0:0<=p)(q0:0<=q)(p1:p<2^b)(q1:q<2^b)(hs:s.natAbs<2^e)(ht:t.natAbs<2^e):0<=nm p q s t/\(nm p q s t).natAbs<2^(e+b+1):=by
 have a1:=mZ (a:=(t.natAbs:Int)) (c:=p) (m:=e) (n:=b) (by simpa using ht) (yQ p0 p1);have a2:=mZ (a:=(s.natAbs:Int)) (c:=q) (m:=e) (n:=b) (by simpa using hs) (yQ q0 q1);have b1:0<=(t.natAbs:Int)*p:=A0 (by omega) p0;have b2:0<=(s.natAbs:Int)*q:=A0 (by omega) q0;have e1:2^(e+b+1)=2^(e+b)+2^(e+b):=by rw[Jo];omega
 unfold nm;rw[e1];exact⟨by omega,by omega⟩
section
variable{b e:Nat}{p q:T3}{s t:Int}
theorem jc(hp:P3 b p)(hq:P3 b q)(h:s*t<0):0<nm p.u q.u s t:=by
 have s0:s≠0:=λz=>by rw[z]at h;simp at h
 have t0:t≠0:=λz=>by rw[z]at h;simp at h
 have a1:0<(t.natAbs:Int)*p.u:=G7 (by omega) hp.n0;have a2:0<(s.natAbs:Int)*q.u:=G7 (by omega) hq.n0;unfold nm;omega
theorem pJ(hp:P3 b p)(hq:P3 b q)(h:s*t<0):Co p q (mid p q s t):=by
 have g0:=nq (V:=nm p.v q.v s t) (W:=nm p.w q.w s t) (jc hp hq h);exact⟨gg (nm p.u q.u s t) (nm p.v q.v s t) (nm p.w q.w s t),t.natAbs,s.natAbs,g0,by omega,by omega,div_eq (zg _ _ _),div_eq (Iq _ _ _),div_eq (Io _ _ _)⟩
end
structure xD(b l:Nat)(h:List T3):Prop where
 tri:WW h
 ok:∀p∈h,P3 b p
 pos:0<h.length
 few:h.length<=l
noncomputable def stp(h:List T3)(t:Nat->Int)(i:Nat):List T3:=(if t i<=0 then[cor h i] else[])++(if t i*t (i+1)<0 then[mid (cor h i) (cor h (i+1)) (t i) (t (i+1))] else[])
noncomputable def tv(r:T3)(h:List T3)(i:Nat):Int:=tl r (cor h i)
noncomputable def tn(r:T3)(h:List T3)(i:Nat):Int:=- tl r (cor h i)
noncomputable def low(r:T3)(h:List T3):List T3:=fl (stp h (tv r h)) h.length
noncomputable def high(r:T3)(h:List T3):List T3:=fl (stp h (tn r h)) h.length
theorem nP{l:Nat}(H:xD b l h)(t:Nat->Int):Part h (stp h t) where
 co:=λi hi p hp=>by
  unfold stp at hp;rcases j9.mp hp with z | z
  .split at z
   .rw[d7.mp z];exact Tw _ _
   .cases z
  .split at z
   .rename_i c;rw[d7.mp z];exact pJ (H.ok _ (cD H.pos i)) (H.ok _ (cD H.pos (i+1))) c
   .cases z
 two:=λi hi p q s=>by
  unfold stp at s
  by_cases c1:t i<=0<;>by_cases c2:t i*t (i+1)<0
  .rw[d8 c1,d8 c2]at s;have:=s.eq_of_length (by simp);simp at this;exact this.1
  .rw[d8 c1,i5 c2]at s;have:=s.length_le;simp at this
  .rw[i5 c1,d8 c2]at s;have:=s.length_le;simp at this
  .rw[i5 c1,i5 c2]at s;have:=s.length_le;simp at this
 len:=λi=>by
  unfold stp;rw[c8];split<;>split<;>simp
structure R3(c:Nat)(r:T3):Prop where
 a:r.u.natAbs<2^c
 b:r.v.natAbs<2^c
 c:r.w.natAbs<2^c
theorem P3.r(h:P3 b p):R3 b p:=⟨yQ (z5 h.n0) h.n1,yQ h.x0 h.x1,yQ h.y0 h.y1⟩
theorem tl_b{c:Nat}(hr:R3 c r)(hp:R3 b p):(tl r p).natAbs<2^(c+b+2):=by
 have a1:=mZ hr.a hp.b;have a2:=mZ hr.b hp.c;have a3:=mZ hr.c hp.a;have e1:2^(c+b+2)=4*2^(c+b):=by rw[Nat.pow_add];omega
 unfold tl;rw[e1];omega
def hX(r:T3)(h:List T3):Prop:=(∀p∈h,0<=tl r p)\/∀p∈h,tl r p<=0
theorem R3.mono{c:Nat}(h:R3 b p)(z:b<=c):R3 c p:=by
 have e:=G0 (n:=2) (by decide) z;exact⟨i7 h.a e,i7 h.b e,i7 h.c e⟩
end Hu
namespace Hu
theorem xS(r:T3)(h:List T3)(i:Nat):stp h (tn r h) i=(if 0<=tv r h i then[cor h i] else[])++(if tv r h i*tv r h (i+1)<0 then[mid (cor h i) (cor h (i+1)) (tv r h i) (tv r h (i+1))] else[]):=by
 unfold stp tn tv;rw[CO,Int.neg_mul_neg];congr 1
 by_cases c:0<=tl r (cor h i)
 .rw[d8 c,d8 (by omega)]
 .rw[i5 c,i5 (by omega)]
theorem zU(r:T3)(h:List T3)(i:Nat):tv r h (i%h.length)=tv r h i:=by unfold tv cor;rw[Nat.mod_mod]
theorem oF(h:List T3)(i:Nat):cor h (i%h.length)=cor h i:=by unfold cor;rw[Nat.mod_mod]
theorem kj{i:Nat}(hi:i<h.length):h[i]?=some (cor h i):=by rw[c9 hi,cK hi]
theorem tK(i n:Nat):((i:Int)+1).fmod (n:Int)=(((i+1)%n:Nat):Int):=by
 rw[KD _ (by omega),Int.natCast_emod,Int.natCast_add];rfl
end Hu
namespace Hu
noncomputable def sqH:List T3:=[⟨1,0,0⟩,⟨1,1,0⟩,⟨1,1,1⟩,⟨1,0,1⟩]
theorem RF:WW sqH:=by
 intro p q r h;simp only[sqH,List.sublist_cons_iff,List.sublist_nil,JQ,reduceCtorEq,false_or,F9]at h;simp only[List.nil_eq,exists_eq_right_right',and_assoc]at h;grind [det]
theorem OQ:xD 1 4 sqH:=⟨RF,λp hp=>by
 simp only[sqH,j6,A2,F9]at hp;rcases hp with rfl | rfl | rfl | rfl<;>exact⟨by decide,by decide,by decide,by decide,by decide,by decide⟩,by decide,by decide⟩
theorem xD.mono{b' l l':Nat}(H:xD b l h)(h1:b<=b')(h2:l<=l'):xD b' l' h:=⟨H.tri,λp hp=>(H.ok p hp).mono h1,H.pos,l8 H.few h2⟩
end Hu
namespace Hu
noncomputable def cx(p q:T3):Rat:=((p.v:Rat)*q.w-(q.v:Rat)*p.w)/((p.u:Rat)*q.u)
theorem PY(p:T3):cx p p=0:=by unfold cx;grind
theorem tP(p q:T3):cx q p = - cx p q:=by unfold cx;grind
theorem pF{n:Int}(h:0<n):(n:Rat)≠0:=by
 intro z;have:n=0:=by exact_mod_cast z
 omega
theorem PR(p q r:T3):((det p q r:Int):Rat)=(p.u:Rat)*(q.v*r.w-q.w*r.v)-p.v*(q.u*r.w-q.w*r.u)+p.w*(q.u*r.v-q.v*r.u):=by
 unfold det;simp only[Rat.intCast_add,Rat.intCast_sub,Rat.intCast_mul]
theorem zo(hp:0<p.u)(hq:0<q.u)(hr:0<r.u):cx p q+cx q r+cx r p=((det p q r:Int):Rat)/((p.u:Rat)*q.u*r.u):=by
 rw[PR];have h1:=pF hp;have h2:=pF hq;have h3:=pF hr;unfold cx;grind
theorem xp(hp:0<p.u)(hq:0<q.u)(hr:0<r.u)(h:det p q r=0):cx p q+cx q r=cx p r:=by
 have e:=zo hp hq hr;rw[h,tP p r]at e;have z:((0:Int):Rat)/((p.u:Rat)*q.u*r.u)=0:=by grind
 rw[z]at e;grind
theorem tO(hm:m.u≠0\/m.v≠0\/m.w≠0)(h1:tl m p=0)(h2:tl m q=0)(h3:tl m r=0):det p q r=0:=by
 unfold tl at h1 h2 h3;have a:m.u*det p q r=0:=by unfold det;grind
 have b:m.v*det p q r=0:=by unfold det;grind
 have c:m.w*det p q r=0:=by unfold det;grind
 rcases hm with z | z | z
 .exact(D9.mp a).resolve_left z
 .exact(D9.mp b).resolve_left z
 .exact(D9.mp c).resolve_left z
noncomputable def sm:List T3->Rat
 | []=>0
 | [_]=>0
 | a::b::r=>cx a b+sm (b::r)
theorem fj:∀L a b,sm (L++[a,b])=sm (L++[a])+cx a b
 | [],a,b=>by simp only[sm,x9];grind
 | [x],a,b=>by simp only[sm,z9,x9];grind
 | x::y::r,a,b=>by
  have:=fj (y::r) a b;simp only[sm,z9]at *;rw[this];grind
noncomputable def nA(L:List T3):Rat:=match L with
 | []=>0
 | a::r=>sm (a::r++[a])
noncomputable def su(f:Nat->Rat):Nat->Rat
 | 0=>0
 | k+1=>su f k+f k
theorem Af(f g:Nat->Rat):∀k,su (λi=>f i+g i) k=su f k+su g k
 | 0=>by simp only[su];grind
 | k+1=>by simp only[su];rw[Af f g k];grind
theorem BR(f:Nat->Rat):∀k,su (λi=>f i-f (i+1)) k=f 0-f k
 | 0=>by simp only[su];grind
 | k+1=>by simp only[su];rw[BR f k];grind
theorem xR:∀{k},(∀i,i<k->f i=g i)->su f k=su g k
 | 0,_=>rfl
 | k+1,h=>by simp only[su];rw[xR λi hi=>h i (by omega),h k (by omega)]
section
variable{h:List T3}{t:Nat->Int}{m X:T3}
noncomputable def md(h:List T3)(t:Nat->Int)(i:Nat):T3:=mid (cor h i) (cor h (i+1)) (t i) (t (i+1))
noncomputable def gL(h:List T3)(t:Nat->Int)(X:T3)(i:Nat):Rat:=
 if t i<=0 then(if t (i+1)<=0 then cx (cor h i) (cor h (i+1)) else if t i<0 then cx (cor h i) (md h t i)+cx (md h t i) X else cx (cor h i) X)
 else(if t (i+1)<0 then cx X (md h t i)+cx (md h t i) (cor h (i+1)) else if t (i+1)=0 then cx X (cor h (i+1)) else 0)
structure Wk(h:List T3)(t:Nat->Int)(m X:T3):Prop where
 m0:m.u≠0\/m.v≠0\/m.w≠0
 xu:0<X.u
 xl:tl m X=0
 cu:∀i,0<(cor h i).u
 cz:∀i,t i=0->tl m (cor h i)=0
 mu:∀i,t i*t (i+1)<0->0<(md h t i).u
 ml:∀i,t i*t (i+1)<0->tl m (md h t i)=0
noncomputable def M7(t:Nat->Int)(X:T3):List T3:=if t 0<=0 then[] else[X]
noncomputable def pp(h:List T3)(t:Nat->Int)(X:T3)(k:Nat):T3:=if t k<=0 then cor h k else X
def On(m:T3)(e:T3):Prop:=tl m e=0/\0<e.u
theorem Wk.three(W:Wk h t m X){b:T3}(ha:On m a)(hb:On m b):cx a X+cx X b=cx a b:=xp ha.2 W.xu hb.2 (tO W.m0 ha.1 W.xl hb.1)
theorem kH{i:Nat}(h1:t i<=0)(h2:¬t i*t (i+1)<0):stp h t i=[cor h i]:=by unfold stp;rw[d8 h1,i5 h2];rfl
theorem nQ{i:Nat}(h1:t i<=0)(h2:t i*t (i+1)<0):stp h t i=[cor h i,md h t i]:=by unfold stp md;rw[d8 h1,d8 h2];rfl
theorem iL{i:Nat}(h1:¬t i<=0)(h2:t i*t (i+1)<0):stp h t i=[md h t i]:=by unfold stp md;rw[i5 h1,d8 h2];rfl
theorem kG{i:Nat}(h1:¬t i<=0)(h2:¬t i*t (i+1)<0):stp h t i=[]:=by unfold stp;rw[i5 h1,i5 h2];rfl
theorem walk(W:Wk h t m X):∀k,su (gL h t X) k=sm (M7 t X++fl (stp h t) k++[pp h t X k])/\(¬t k<=0->∃L e,M7 t X++fl (stp h t) k=L++[e]/\On m e)
 | 0=>by
  refine⟨?_,λz=>⟨[],X,?_,W.xl,W.xu⟩⟩
  .show 0=sm (M7 t X++[]++[pp h t X 0]);unfold M7 pp;split
   .rfl
   .simp only[sm,B0,z9,x9];rw[PY];grind
  .unfold M7;rw[i5 z];rfl
 | k+1=>by
  obtain⟨e,o⟩:=walk W k;show su (gL h t X) k+gL h t X k=_/\_;rw[e,bD]
  by_cases a:t k<=0
  .have pk:pp h t X k=cor h k:=by unfold pp;rw[d8 a]
   rw[pk]
   by_cases b:t (k+1)<=0
   .have n:¬t k*t (k+1)<0:=by
     have:=D5 a b;omega
    have Ou:pp h t X (k+1)=cor h (k+1):=by unfold pp;rw[d8 b]
    rw[kH a n,Ou,show gL h t X k=cx (cor h k) (cor h (k+1)) by unfold gL;rw[d8 a,d8 b]];refine⟨?_,λz=>absurd b z⟩;have:=fj (M7 t X++fl (stp h t) k) (cor h k) (cor h (k+1));rw[<- this];simp only[w6,z9,x9]
   .have Ou:pp h t X (k+1)=X:=by unfold pp;rw[i5 b]
    by_cases c:t k<0
    .have n:t k*t (k+1)<0:=G8 c (by omega);rw[nQ a n,Ou,show gL h t X k=cx (cor h k) (md h t k)+cx (md h t k) X by unfold gL;rw[d8 a,i5 b,d8 c]];refine⟨?_,λ_=>⟨M7 t X++fl (stp h t) k++[cor h k],md h t k,by simp only[w6,z9,x9],W.ml k n,W.mu k n⟩⟩;have s1:=fj (M7 t X++fl (stp h t) k) (cor h k) (md h t k);have s2:=fj (M7 t X++fl (stp h t) k++[cor h k]) (md h t k) X;simp only[w6,z9,x9]at s1 s2 ⊢;rw[s2,s1];grind
    .have z:t k=0:=by omega
     have n:¬t k*t (k+1)<0:=by rw[z];omega
     rw[kH a n,Ou,show gL h t X k=cx (cor h k) X by unfold gL;rw[d8 a,i5 b,i5 c]];refine⟨?_,λ_=>⟨M7 t X++fl (stp h t) k,cor h k,by simp only[w6],W.cz k z,W.cu k⟩⟩;have:=fj (M7 t X++fl (stp h t) k) (cor h k) X;rw[<- this];simp only[w6,z9,x9]
  .obtain⟨L,e1,eL,oe⟩:=o a;have pk:pp h t X k=X:=by unfold pp;rw[i5 a]
   rw[pk,eL];have s0:=fj L e1 X
   by_cases b:t (k+1)<0
   .have n:t k*t (k+1)<0:=D0 (by omega) b;have Ou:pp h t X (k+1)=cor h (k+1):=by unfold pp;rw[d8 (by omega)]
    rw[iL a n,Ou,show gL h t X k=cx X (md h t k)+cx (md h t k) (cor h (k+1)) by unfold gL;rw[i5 a,d8 b],<- w6,eL];refine⟨?_,λz=>absurd (show t (k+1)<=0 by omega) z⟩;have s1:=fj L e1 (md h t k);have s2:=fj (L++[e1]) (md h t k) (cor h (k+1));have l3:=W.three oe ⟨W.ml k n,W.mu k n⟩;simp only[w6,z9,x9]at s0 s1 s2 ⊢;rw[s2,s1,s0];grind
   .have n:¬t k*t (k+1)<0:=by
     have:=A0 (show 0<=t k by omega) (show 0<=t (k+1) by omega);omega
    rw[kG a n,B0,eL]
    by_cases c:t (k+1)=0
    .have Ou:pp h t X (k+1)=cor h (k+1):=by unfold pp;rw[d8 (by omega)]
     rw[Ou,show gL h t X k=cx X (cor h (k+1)) by unfold gL;rw[i5 a,i5 b,d8 c]];refine⟨?_,λz=>absurd (show t (k+1)<=0 by omega) z⟩;have s1:=fj L e1 (cor h (k+1));have l3:=W.three oe ⟨W.cz (k+1) c,W.cu (k+1)⟩;simp only[w6,z9,x9]at s0 s1 ⊢;rw[s1,s0];grind
    .have Ou:pp h t X (k+1)=X:=by unfold pp;rw[i5 (by omega)]
     rw[Ou,show gL h t X k=0 by unfold gL;rw[i5 a,i5 b,i5 c]];refine⟨by grind,λ_=>⟨L,e1,rfl,oe⟩⟩
end
section
variable{h:List T3}{t:Nat->Int}{m X:T3}
theorem PK(k:Nat):fl f (k+1)=[]->fl f k=[]/\f k=[]:=λz=>by rw[bD]at z;exact List.append_eq_nil_iff.mp z
theorem CJ(a:¬t 0<=0):∀k,fl (stp h t) k=[]->0<=t k
 | 0,_=>by omega
 | k+1,z=>by
  obtain⟨z1,z2⟩:=PK k z;have tk:=CJ a k z1
  by_cases b:t k<=0
  .unfold stp at z2;rw[d8 b]at z2;exact absurd z2 (by simp)
  .by_cases c:t k*t (k+1)<0
   .rw[iL b c]at z2;exact absurd z2 (by simp)
   .rcases A8 (t (k+1)) 0 with y | y
    .exact absurd (D0 (show 0<t k by omega) y) c
    .exact y
theorem oC(W:Wk h t m X)(a:¬t 0<=0):∀k x r,fl (stp h t) k=x::r->On m x
 | 0,x,r,z=>by cases z
 | k+1,x,r,z=>by
  rw[bD]at z;cases e:fl (stp h t) k with
  | cons y r' =>
   rw[e]at z;simp only[z9,JQ]at z;rw[<- z.1];exact oC W a k y r' e
  | nil =>
   rw[e,x9]at z;have tk:=CJ (h:=h) a k e
   by_cases b:t k<=0
   .have t0:t k=0:=by omega
    rw[kH b (by rw[t0];omega)]at z;simp only[JQ]at z;rw[<- z.1];exact⟨W.cz k t0,W.cu k⟩
   .by_cases c:t k*t (k+1)<0
    .rw[iL b c]at z;simp only[JQ]at z;rw[<- z.1];exact⟨W.ml k c,W.mu k c⟩
    .rw[kG b c]at z;cases z
theorem vN(W:Wk h t m X)(n0:0<h.length)(tn:t h.length=t 0)(ne:fl (stp h t) h.length≠[]):su (gL h t X) h.length=nA (fl (stp h t) h.length):=by
 obtain⟨e,o⟩:=walk W h.length;rw[e]
 by_cases a:t 0<=0
 .have p0:pp h t X h.length=cor h 0:=by unfold pp;rw[tn,d8 a,cE]
  have s0:M7 t X=[]:=by unfold M7;rw[d8 a]
  rw[p0,s0,x9]
  have hd:∃r,fl (stp h t) h.length=cor h 0::r:=by
   obtain⟨n,en⟩:∃n,h.length=n+1:=⟨h.length-1,by omega⟩;rw[en];clear en e o p0 ne n0 tn
   induction n with
   | zero =>
    rw[bD,qX,x9];unfold stp;rw[d8 a];exact⟨_,rfl⟩
   | succ n ih =>
    obtain⟨r,er⟩:=ih;rw[bD,er];exact⟨_,rfl⟩
  obtain⟨r,er⟩:=hd;rw[er];rfl
 .have p0:pp h t X h.length=X:=by unfold pp;rw[tn,i5 a]
  have s0:M7 t X=[X]:=by unfold M7;rw[i5 a]
  obtain⟨L,e1,eL,oe⟩:=o (by rw[tn];exact a);rw[p0];cases ef:fl (stp h t) h.length with
  | nil=>exact absurd ef ne
  | cons x r =>
   have ox:=oC W a _ x r ef;rw[s0,ef]at eL;rw[s0];have l3:=W.three oe ox;cases L with
   | nil=>simp at eL
   | cons y L1 =>
    simp only[z9,x9,JQ]at eL;obtain⟨ey,eL⟩:=eL;show sm (X::(x::r++[X]))=sm (x::r++[x]);rw[eL];have g1:=fj L1 e1 X;have g2:=fj L1 e1 x
    have g3:sm (X::(L1++[e1]++[X]))=cx X x+sm (L1++[e1]++[X]):=by
     have:L1++[e1]++[X]=x::(r++[X]):=by rw[<- eL];rfl
     rw[this];rfl
    rw[g3];simp only[w6,z9,x9]at g1 g2 ⊢;rw[g1,g2];grind
theorem xQ:∀k,su (λi=>cx (cor h i) (cor h (i+1))) k=sm ((List.range k).map (cor h)++[cor h k])
 | 0=>rfl
 | k+1=>by
  show su _ k+cx (cor h k) (cor h (k+1))=_;rw[xQ k,List.range_succ,p7,<- fj];simp only[A5,Kz,w6,z9,x9]
theorem P1:(List.range h.length).map (cor h)=h:=by
 apply List.ext_getElem
 .simp
 .intro i h1 h2;simp only[List.getElem_map,List.getElem_range];exact cK h2
theorem Ja(n0:0<h.length):su (λi=>cx (cor h i) (cor h (i+1))) h.length=nA h:=by
 rw[xQ,P1,cE];cases h with
 | nil=>exact absurd n0 (by decide)
 | cons a r=>rfl
theorem Tq{s:Int}(hp:P3 b p)(hq:P3 b q)(hs:s*u<0):cx p (mid p q s u)+cx (mid p q s u) q=cx p q:=by
 obtain⟨g,x,y,g0,_,_,e1,e2,e3⟩:=(pJ hp hq hs).ex
 have d:det p (mid p q s u) q=0:=by
  have z:g*det p (mid p q s u) q=0:=by unfold det;grind
  exact(D9.mp z).resolve_left (by omega)
 have mu:0<(mid p q s u).u:=by
  have n0:=jc hp hq hs;have gg0:=nq (V:=nm p.v q.v s u) (W:=nm p.w q.w s u) n0;have e:=div_eq (zg (nm p.u q.u s u) (nm p.v q.v s u) (nm p.w q.w s u));rcases A8 0 (mid p q s u).u with z | z
  .exact z
  .have:=F6 (show 0<=gg (nm p.u q.u s u) (nm p.v q.v s u) (nm p.w q.w s u) by omega) z;have e':gg (nm p.u q.u s u) (nm p.v q.v s u) (nm p.w q.w s u)*(mid p q s u).u=nm p.u q.u s u:=e;omega
 exact xp hp.n0 mu hq.n0 d
end
section
variable{h:List T3}{r X:T3}{b:Nat}
theorem AS(i:Nat):md h (tn r h) i=md h (tv r h) i:=by
 unfold md tn;exact CO _ _ _ _
theorem wZ(hp:P3 b p)(hq:P3 b q)(hs:tl r p*tl r q<0):tl r (mid p q (tl r p) (tl r q))=0/\0<(mid p q (tl r p) (tl r q)).u:=by
 have n0:=jc hp hq hs;have g0:=nq (V:=nm p.v q.v (tl r p) (tl r q)) (W:=nm p.w q.w (tl r p) (tl r q)) n0;have d1:gg (nm p.u q.u (tl r p) (tl r q)) (nm p.v q.v (tl r p) (tl r q)) (nm p.w q.w (tl r p) (tl r q))*(mid p q (tl r p) (tl r q)).u=nm p.u q.u (tl r p) (tl r q):=div_eq (zg _ _ _);have d2:gg (nm p.u q.u (tl r p) (tl r q)) (nm p.v q.v (tl r p) (tl r q)) (nm p.w q.w (tl r p) (tl r q))*(mid p q (tl r p) (tl r q)).v=nm p.v q.v (tl r p) (tl r q):=div_eq (Iq _ _ _);have d3:gg (nm p.u q.u (tl r p) (tl r q)) (nm p.v q.v (tl r p) (tl r q)) (nm p.w q.w (tl r p) (tl r q))*(mid p q (tl r p) (tl r q)).w=nm p.w q.w (tl r p) (tl r q):=div_eq (Io _ _ _);generalize gg (nm p.u q.u (tl r p) (tl r q)) (nm p.v q.v (tl r p) (tl r q)) (nm p.w q.w (tl r p) (tl r q))=g at g0 d1 d2 d3;generalize mid p q (tl r p) (tl r q)=k at d1 d2 d3 ⊢;refine⟨?_,?_⟩
 .have z:g*tl r k=((tl r q).natAbs:Int)*tl r p+((tl r p).natAbs:Int)*tl r q:=by
   have e:g*tl r k=r.u*(g*k.v)+r.v*(g*k.w)+r.w*(g*k.u):=by simp only[tl];grind
   rw[e,d1,d2,d3];simp only[nm,tl];grind
  have y:((tl r q).natAbs:Int)*tl r p+((tl r p).natAbs:Int)*tl r q=0:=by
   generalize tl r p=a at hs ⊢;generalize tl r q=c at hs ⊢;rcases F3 a 0 with x | x | x
   .rcases F3 c 0 with w | w | w
    .have:=KR x w;omega
    .rw[w]at hs;omega
    .rw[show(c.natAbs:Int)=c by omega,show(a.natAbs:Int) = -a by omega];grind
   .rw[x]at hs;omega
   .rcases F3 c 0 with w | w | w
    .rw[show(c.natAbs:Int) = -c by omega,show(a.natAbs:Int)=a by omega];grind
    .rw[w]at hs;omega
    .have:=G7 x w;omega
  rw[y]at z;exact(D9.mp z).resolve_left (by omega)
 .rcases A8 0 k.u with z | z
  .exact z
  .have:=F6 (show 0<=g by omega) z;omega
theorem V2(ok:∀i,P3 b (cor h i))(hr:r.u≠0\/r.v≠0\/r.w≠0)(xu:0<X.u)(xl:tl r X=0)(i:Nat) :
  gL h (tv r h) X i+gL h (tn r h) X i=cx (cor h i) (cor h (i+1))+((if tv r h i=0 then cx (cor h i) X else 0)-(if tv r h (i+1)=0 then cx (cor h (i+1)) X else 0)):=by
 have em:=AS (h:=h) (r:=r) i;have mm:∀(_:tv r h i*tv r h (i+1)<0),cx (cor h i) (md h (tv r h) i)+cx (md h (tv r h) i) (cor h (i+1))=cx (cor h i) (cor h (i+1)):=λz=>Tq (ok i) (ok (i+1)) z;have nn:=tP X (cor h (i+1));have nm':=tP X (md h (tv r h) i);have t1:tn r h i = - tv r h i:=rfl;have t2:tn r h (i+1) = - tv r h (i+1):=rfl;have zz:tv r h i=0->tv r h (i+1)=0->cx (cor h i) X+cx X (cor h (i+1))=cx (cor h i) (cor h (i+1)):=λz1 z2=>xp (ok i).n0 xu (ok (i+1)).n0 (tO hr z1 xl z2);unfold gL;rw[em,t1,t2];generalize tv r h i=a at *;generalize tv r h (i+1)=c at *;rcases F3 a 0 with x | x | x
 .rcases F3 c 0 with w | w | w
  .rw[d8 (show a<=0 by omega),d8 (show c<=0 by omega),i5 (show ¬ -a<=0 by omega),i5 (show ¬ -c<0 by omega),i5 (show ¬ -c=0 by omega),i5 (show ¬a=0 by omega),i5 (show ¬c=0 by omega)];grind
  .rw[d8 (show a<=0 by omega),d8 (show c<=0 by omega),i5 (show ¬ -a<=0 by omega),i5 (show ¬ -c<0 by omega),d8 (show -c=0 by omega),i5 (show ¬a=0 by omega),d8 w];grind
  .have k:=mm (G8 x w);rw[d8 (show a<=0 by omega),i5 (show ¬c<=0 by omega),d8 x,i5 (show ¬ -a<=0 by omega),d8 (show -c<0 by omega),i5 (show ¬a=0 by omega),i5 (show ¬c=0 by omega)];grind
 .rcases F3 c 0 with w | w | w
  .rw[d8 (show a<=0 by omega),d8 (show c<=0 by omega),d8 (show -a<=0 by omega),i5 (show ¬ -c<=0 by omega),i5 (show ¬ -a<0 by omega),d8 x,i5 (show ¬c=0 by omega)];grind
  .have k:=zz x w;rw[d8 (show a<=0 by omega),d8 (show c<=0 by omega),d8 (show -a<=0 by omega),d8 (show -c<=0 by omega),d8 x,d8 w];grind
  .rw[d8 (show a<=0 by omega),i5 (show ¬c<=0 by omega),i5 (show ¬a<0 by omega),d8 (show -a<=0 by omega),d8 (show -c<=0 by omega),d8 x,i5 (show ¬c=0 by omega)];grind
 .rcases F3 c 0 with w | w | w
  .have k:=mm (D0 x w);rw[i5 (show ¬a<=0 by omega),d8 w,d8 (show -a<=0 by omega),i5 (show ¬ -c<=0 by omega),d8 (show -a<0 by omega),i5 (show ¬a=0 by omega),i5 (show ¬c=0 by omega)];grind
  .rw[i5 (show ¬a<=0 by omega),i5 (show ¬c<0 by omega),d8 w,d8 (show -a<=0 by omega),d8 (show -c<=0 by omega),i5 (show ¬a=0 by omega),d8 w];grind
  .rw[i5 (show ¬a<=0 by omega),i5 (show ¬c<0 by omega),i5 (show ¬c=0 by omega),d8 (show -a<=0 by omega),d8 (show -c<=0 by omega),i5 (show ¬a=0 by omega)];grind
theorem Fq(ok:∀i,P3 b (cor h i))(hr:r.u≠0\/r.v≠0\/r.w≠0)(xu:0<X.u)(xl:tl r X=0):Wk h (tv r h) r X/\Wk h (tn r h) r X:=by
 have neg:∀i,tn r h i*tn r h (i+1)=tv r h i*tv r h (i+1):=λi=>by show -tv r h i*-tv r h (i+1)=_;grind
 refine⟨⟨hr,xu,xl,λi=>(ok i).n0,λi z=>z,λi z=>(wZ (ok i) (ok (i+1)) z).2,λi z=>(wZ (ok i) (ok (i+1)) z).1⟩,
  ⟨hr,xu,xl,λi=>(ok i).n0,λi z=>by have z':- tl r (cor h i)=0:=z;omega,λi z=>?_,λi z=>?_⟩⟩
 .rw[AS];rw[neg]at z;exact(wZ (ok i) (ok (i+1)) z).2
 .rw[AS];rw[neg]at z;exact(wZ (ok i) (ok (i+1)) z).1
theorem EX{l:Nat}(H:xD b l h)(hp:p∈h)(hq:q∈h)(p0:tl r p<0)(q0:0<tl r q):nA (low r h)+nA (high r h)=nA h:=by
 have ok:∀i,P3 b (cor h i):=λi=>H.ok _ (cD H.pos i)
 have hr:r.u≠0\/r.v≠0\/r.w≠0:=by
  rcases Kc (r.u=0) with z1 | z1
  .rcases Kc (r.v=0) with z2 | z2
   .refine .inr (.inr λz3=>?_);unfold tl at p0;rw[z1,z2,z3]at p0;omega
   .exact .inr (.inl z2)
  .exact .inl z1
 have xs:∃X:T3,0<X.u/\tl r X=0:=by
  refine⟨⟨tl r q*p.u + -(tl r p)*q.u,tl r q*p.v + -(tl r p)*q.v,tl r q*p.w + -(tl r p)*q.w⟩,?_,?_⟩
  .show 0<tl r q*p.u + -(tl r p)*q.u;have:=G7 q0 (H.ok p hp).n0;have:=G7 (show 0 < -(tl r p) by omega) (H.ok q hq).n0;omega
  .show r.u*(tl r q*p.v + -(tl r p)*q.v)+r.v*(tl r q*p.w + -(tl r p)*q.w)+r.w*(tl r q*p.u + -(tl r p)*q.u)=0;simp only[tl];grind
 obtain⟨X,xu,xl⟩:=xs;obtain⟨W1,W2⟩:=Fq ok hr xu xl
 have at_:∀{x:T3},x∈h->∃i,i<h.length/\cor h i=x:=λhx=>by
  obtain⟨i,hi,e⟩:=E9.mp hx;exact⟨i,hi,(cK hi).trans e⟩
 have e1:low r h≠[]:=λz=>by
  obtain⟨i,hi,e⟩:=at_ hp;have:cor h i∈low r h:=IA hi (by unfold stp;rw[d8 (show tv r h i<=0 by unfold tv;rw[e];omega)];simp);rw[z]at this;cases this
 have e2:high r h≠[]:=λz=>by
  obtain⟨i,hi,e⟩:=at_ hq;have:cor h i∈high r h:=IA hi (by unfold stp;rw[d8 (show tn r h i<=0 by unfold tn;rw[e];omega)];simp);rw[z]at this;cases this
 have UL:tv r h h.length=tv r h 0:=by unfold tv;rw[cE]
 have Xi:tn r h h.length=tn r h 0:=by unfold tn;rw[cE]
 have a1:=vN W1 H.pos UL e1;have a2:=vN W2 H.pos Xi e2;have a3:=Ja (h:=h) H.pos;show nA (fl (stp h (tv r h)) h.length)+nA (fl (stp h (tn r h)) h.length)=nA h;rw[<- a1,<- a2,<- a3,<- Af,xR (λi _=>V2 ok hr xu xl i),Af,BR (λi=>if tv r h i=0 then cx (cor h i) X else 0)];rw[UL,cE];grind
end
end Hu
namespace Hu
def oI(L:List T3):Prop:=∀p q r,[p,q,r].Sublist L->0<det p q r
theorem oI.tri(T:oI L):WW L:=λp q r s=>z5 (T p q r s)
structure Cs(p q X:T3)(b0:Bool):Prop where
 ex:∃g a b:Int,0<g/\0<a/\0<=b/\(b0=true->0<b)/\g*X.u=a*p.u+b*q.u/\g*X.v=a*p.v+b*q.v/\g*X.w=a*p.w+b*q.w
theorem Cs.co(h:Cs p q X b0):Co p q X:=by
 obtain⟨g,a,b,h1,h2,h3,_,e⟩:=h.ex;exact⟨g,a,b,h1,by omega,h3,e⟩
theorem Cy{g x:Int}(hg:0<g)(h:0<g*x):0<x:=by
 rcases A8 0 x with z | z
 .exact z
 .have:=F6 (show 0<=g by omega) z;omega
theorem P0(h:Cs p q X b0)(h1:0<det p Y Z)(h2:0<=det q Y Z):0<det X Y Z:=by
 obtain⟨g,a,b,hg,ha,hb,_,e1,e2,e3⟩:=h.ex;refine Cy hg ?_;have e:g*det X Y Z=a*det p Y Z+b*det q Y Z:=by simp only[det];grind
 rw[e];have:=G7 ha h1;have:=A0 hb h2;omega
theorem Q4(h:Cs p q X true)(h1:0<=det p Y Z)(h2:0<det q Y Z):0<det X Y Z:=by
 obtain⟨g,a,b,hg,ha,hb,hb',e1,e2,e3⟩:=h.ex;refine Cy hg ?_;have e:g*det X Y Z=a*det p Y Z+b*det q Y Z:=by simp only[det];grind
 rw[e];have:=A0 (show 0<=a by omega) h1;have:=G7 (hb' rfl) h2;omega
theorem WI(h:Cs p q Y b0)(h1:0<det X p Z)(h2:0<=det X q Z):0<det X Y Z:=by
 rw[bP,bP];rw[bP,bP]at h1 h2;exact P0 h h1 h2
theorem Q3(h:Cs p q Y true)(h1:0<=det X p Z)(h2:0<det X q Z):0<det X Y Z:=by
 rw[bP,bP];rw[bP,bP]at h1 h2;exact Q4 h h1 h2
theorem WH(h:Cs p q Z b0)(h1:0<det X Y p)(h2:0<=det X Y q):0<det X Y Z:=by
 rw[bP];rw[bP]at h1 h2;exact P0 h h1 h2
theorem Q2(h:Cs p q Z true)(h1:0<=det X Y p)(h2:0<det X Y q):0<det X Y Z:=by
 rw[bP];rw[bP]at h1 h2;exact Q4 h h1 h2
theorem Tv(p q:T3):Cs p q p false:=⟨1,1,0,by decide,by decide,by decide,(λz=>nomatch z),by omega,by omega,by omega⟩
theorem fi(T:oI h){i k:Nat}(h1:i<j)(h2:j<k)(h3:k<h.length):0<det (cor h i) (cor h j) (cor h k):=by
 rw[cK (show i<h.length by omega),cK (show j<h.length by omega),cK h3];exact T _ _ _ (oQ h1 h2 h3)
section
variable{b l:Nat}{h:List T3}{t:Nat->Int}
theorem vQ(ok:∀i,P3 b (cor h i)){i:Nat}(hx:x∈stp h t i):(t i<=0/\x=cor h i)\/(t i*t (i+1)<0/\x=md h t i/\Cs (cor h i) (cor h (i+1)) x true):=by
 unfold stp at hx;rcases j9.mp hx with z | z
 .split at z
  .rename_i c;exact .inl ⟨c,d7.mp z⟩
  .cases z
 .split at z
  .rename_i c;have e:=d7.mp z;refine .inr ⟨c,e,?_⟩;have n0:=jc (ok i) (ok (i+1)) c;have g0:=nq (V:=nm (cor h i).v (cor h (i+1)).v (t i) (t (i+1))) (W:=nm (cor h i).w (cor h (i+1)).w (t i) (t (i+1))) n0;have s0:t i≠0:=λz=>by rw[z]at c;omega
   have t0:t (i+1)≠0:=λz=>by rw[z]at c;omega
   rw[e];exact⟨_,(t (i+1)).natAbs,(t i).natAbs,g0,by omega,by omega,(λ_=>by omega),div_eq (zg _ _ _),div_eq (Iq _ _ _),div_eq (Io _ _ _)⟩
  .cases z
theorem QJ(ok:∀i,P3 b (cor h i)){i:Nat}(c:t i*t (i+1)<0):Cs (cor h i) (cor h (i+1)) (md h t i) true:=by
 have n0:=jc (ok i) (ok (i+1)) c;have g0:=nq (V:=nm (cor h i).v (cor h (i+1)).v (t i) (t (i+1))) (W:=nm (cor h i).w (cor h (i+1)).w (t i) (t (i+1))) n0;have s0:t i≠0:=λz=>by rw[z]at c;omega
 have t0:t (i+1)≠0:=λz=>by rw[z]at c;omega
 exact⟨_,(t (i+1)).natAbs,(t i).natAbs,g0,by omega,by omega,(λ_=>by omega),div_eq (zg _ _ _),div_eq (Iq _ _ _),div_eq (Io _ _ _)⟩
theorem nR(ok:∀i,P3 b (cor h i)){i:Nat}(hx:x∈stp h t i):∃b0,Cs (cor h i) (cor h (i+1)) x b0:=by
 rcases vQ ok hx with⟨_,e⟩ | ⟨_,_,c⟩
 .exact⟨false,e ▸ Tv _ _⟩
 .exact⟨true,c⟩
theorem BS{i:Nat}(s:[x,y].Sublist (stp h t i)):x=cor h i/\y=md h t i/\t i<=0/\t i*t (i+1)<0:=by
 by_cases a:t i<=0
 .by_cases c:t i*t (i+1)<0
  .rw[nQ a c]at s;have e:=s.eq_of_length (by simp);simp at e;exact⟨e.1,e.2,a,c⟩
  .rw[kH a c]at s;have:=s.length_le;simp at this
 .by_cases c:t i*t (i+1)<0
  .rw[iL a c]at s;have:=s.length_le;simp at this
  .rw[kG a c]at s;have:=s.length_le;simp at this
theorem tQ(ok:∀i,P3 b (cor h i))(T:oI h)(n3:3<=h.length)(tn:t h.length=t 0):oI (fl (stp h t) h.length):=by
 have R:=T.tri;intro p q r s;rcases uO s with⟨i,j,k,a,c,d,hp,hq,hr⟩ | ⟨i,k,a,d,hpq,hr⟩ | ⟨i,k,a,d,hp,hqr⟩ | ⟨i,a,d⟩
 .obtain⟨b1,h1⟩:=nR ok hp;obtain⟨b2,h2⟩:=nR ok hq;obtain⟨b3,h3⟩:=nR ok hr;refine P0 h1 (WI h2 (WH h3 (fi T a c d) ?_) (Tx h3.co ?_ ?_)) (co_2 h2.co (Tx h3.co ?_ ?_) (Tx h3.co ?_ ?_))<;>exact wB R (by omega) (by omega) (by omega)
 ·
  obtain⟨rfl,rfl,ti,tc⟩:=BS hpq;have cm:=QJ ok tc
  have ti0:t i<0:=by
   rcases A8 (t i) 0 with z | z
   .exact z
   .have:t i=0:=by omega
    rw[this]at tc;omega
  have ti1:0<t (i+1):=by
   rcases A8 0 (t (i+1)) with z | z
   .exact z
   .have:=D5 (show t i<=0 by omega) z;omega
  obtain⟨b3,h3⟩:=nR ok hr;refine Q3 cm (by rw[Bl];exact C3 0) ?_;rcases B5 (i+1) k with z | z
  .exact WH h3 (fi T (by omega) z d) (wB R (by omega) (by omega) (by omega))
  .have ek:k=i+1:=by omega
   subst ek;rcases vQ ok hr with⟨y,_⟩ | ⟨_,_,cr⟩
   .omega
   .refine Q2 cr (by rw[Bk];exact C3 0) ?_;rcases B5 (i+1+1) h.length with y | y
    .exact fi T (by omega) (by omega) y
    .rw[show i+1+1=h.length by omega,cE,bP];exact fi T (by omega) (by omega) (by omega)
 ·
  obtain⟨rfl,rfl,tk,tc⟩:=BS hqr;have cm:=QJ ok tc
  have tk0:t k<0:=by
   rcases A8 (t k) 0 with z | z
   .exact z
   .have:t k=0:=by omega
    rw[this]at tc;omega
  have tk1:0<t (k+1):=by
   rcases A8 0 (t (k+1)) with z | z
   .exact z
   .have:=D5 (show t k<=0 by omega) z;omega
  refine Q2 cm (by rw[Bk];exact C3 0) ?_;rcases B5 (k+1) h.length with z | z
  .obtain⟨b1,h1⟩:=nR ok hp;exact P0 h1 (fi T a (by omega) z) (wB R (by omega) (by omega) (by omega))
  .have ek:k+1=h.length:=by omega
   rw[ek,cE];rcases vQ ok hp with⟨y,e⟩ | ⟨_,_,cp⟩
   .rcases Jw i with i0 | i0
    .subst i0;rw[ek,tn]at tk1;omega
    .rw[e,bP];exact fi T i0 a (by omega)
   .rw[bP];rcases Jw i with i0 | i0
    .subst i0;refine Q3 cp (by rw[Bl];exact C3 0) ?_;exact fi T (by omega) (by omega) (by omega)
    .exact WI cp (fi T i0 a (by omega)) (wB R (by omega) (by omega) (by omega))
 .have l1:3<=(stp h t i).length:=d.length_le;have:(stp h t i).length<=2:=by unfold stp;split<;>split<;>simp
  omega
end
theorem OY{n:Int}(hn:0<n)(hd:0<d):0<(n:Rat)/(d:Rat):=by
 have h1:(0:Rat)<n:=by exact_mod_cast hn
 have h2:(0:Rat)<d:=by exact_mod_cast hd
 rw[Rat.div_def];exact Rat.mul_pos h1 (Rat.inv_pos.mpr h2)
theorem fan:∀L a,(∀p∈a::L,0<p.u)->oI (a::L)->(L.length<=1->sm (L++[a])+(match L with | []=>0 | x::_=>cx a x)=0)/\(2<=L.length->0<sm (L++[a])+(match L with | []=>0 | x::_=>cx a x))
 | [],a,_,_=>⟨λ_=>by simp only[sm,x9];grind,λz=>absurd z (by simp)⟩
 | [x],a,_,_=>⟨λ_=>by simp only[sm,z9,x9];rw[tP a x];grind,λz=>absurd z (by simp)⟩
 | x::y::r,a,u,T=>by
  refine⟨λz=>absurd z (by simp),λ_=>?_⟩;have sub:oI (a::y::r):=λp q s h=>T p q s (h.trans (List.Sublist.cons₂ _ (List.Sublist.cons _ (List.Sublist.refl _))))
  have u2:∀p∈a::y::r,0<p.u:=λp hp=>by
   rcases j6.mp hp with z | z
   .exact u p (j6.mpr (.inl z))
   .exact u p (y8 _ (y8 _ z))
  obtain⟨f1,f2⟩:=fan (y::r) a u2 sub;have ua:=u a (by simp);have ux:=u x (by simp);have uy:=u y (by simp);have d:=T a x y (List.Sublist.cons₂ _ (List.Sublist.cons₂ _ (List.Sublist.cons₂ _ (List.nil_sublist _))));have c3:=zo ua ux uy
  have pos:0<cx a x+cx x y+cx y a:=by
   rw[c3];have:=OY d (G7 (G7 ua ux) uy);simp only[Rat.intCast_mul]at this;exact this
  rw[tP a y]at pos;have e:sm (x::y::r++[a])=cx x y+sm (y::r++[a]):=rfl;show 0<sm (x::y::r++[a])+cx a x;rw[e];rcases B5 r.length 1 with z | z
  .have:=f1 (by rw[m6];omega);dsimp only at this;grind
  .have:=f2 (by rw[m6];omega);dsimp only at this;grind
theorem zC(u:∀p∈L,0<p.u)(T:oI L)(n3:3<=L.length):0<nA L:=by
 match L,n3 with
 | a::x::r,n3 =>
  have:=(fan (x::r) a u T).2 (by simp at n3 ⊢;omega);have e:nA (a::x::r)=cx a x+sm (x::r++[a]):=rfl;rw[e];dsimp only at this;grind
end Hu
namespace Hu
theorem IG{a k b c:Int}(h1:a∣k*b)(h2:a∣k*c):a∣k*Lo.gc b c:=by
 have h:=Int.dvd_coe_gcd h1 h2;rw[Int.gcd_mul_left]at h;have e:((k.natAbs*Int.gcd b c:Nat):Int)=(k.natAbs:Int)*Lo.gc b c:=by unfold Lo.gc;rw[Int.natCast_mul]
 rw[e]at h;rcases Int.natAbs_eq k with z | z
 .rw[z];exact h
 .rw[z,Int.neg_mul];exact Int.dvd_neg.mpr h
theorem Ir{g v w:Int}(hg:0<g)(h:gg (g*u) (g*v) (g*w)=g):gg u v w=1:=by
 unfold gg at *;rw[Lo.Bi]at h;have e:((g.natAbs:Nat):Int)=g:=by omega
 rw[e,Lo.Bi,e]at h;exact Jy (show g≠0 by omega) (h.trans (K0 g).symm)
theorem HW{s t:Int}(hp:P3 b p)(hq:P3 b q)(h:s*t<0):gg (mid p q s t).u (mid p q s t).v (mid p q s t).w=1:=by
 have n0:=jc hp hq h;have g0:=nq (V:=nm p.v q.v s t) (W:=nm p.w q.w s t) n0;refine Ir g0 ?_;have e1:=div_eq (zg (nm p.u q.u s t) (nm p.v q.v s t) (nm p.w q.w s t));have e2:=div_eq (Iq (nm p.u q.u s t) (nm p.v q.v s t) (nm p.w q.w s t));have e3:=div_eq (Io (nm p.u q.u s t) (nm p.v q.v s t) (nm p.w q.w s t));show gg (_*(nm p.u q.u s t).fdiv _) (_*(nm p.v q.v s t).fdiv _) (_*(nm p.w q.w s t).fdiv _)=_;rw[e1,e2,e3]
def Nz(m:T3):Prop:=m.u≠0\/m.v≠0\/m.w≠0
theorem R9(hm:0<m.u)(pr:gg m.u m.v m.w=1)(h1:tl l m=0)(h2:tl r m=0)(nl:Nz l)(p1:tl l p=0)(p2:tl r p≠0) :
  m.u.natAbs<=(l.u*r.v-l.v*r.u).natAbs/\m.v.natAbs<=(l.v*r.w-l.w*r.v).natAbs/\m.w.natAbs<=(l.w*r.u-l.u*r.w).natAbs:=by
 have e1:(l.u*r.v-l.v*r.u)*m.v=m.u*(l.v*r.w-l.w*r.v):=by simp only[tl]at h1 h2;grind
 have e2:(l.u*r.v-l.v*r.u)*m.w=m.u*(l.w*r.u-l.u*r.w):=by simp only[tl]at h1 h2;grind
 have x0:l.u*r.v-l.v*r.u≠0:=λz=>by
  rw[z,Kd]at e1 e2;have z1:l.v*r.w-l.w*r.v=0:=(D9.mp e1.symm).resolve_left (by omega);have z2:l.w*r.u-l.u*r.w=0:=(D9.mp e2.symm).resolve_left (by omega);have a1:l.u*tl r p=0:=by simp only[tl]at p1 ⊢;grind
  have a2:l.v*tl r p=0:=by simp only[tl]at p1 ⊢;grind
  have a3:l.w*tl r p=0:=by simp only[tl]at p1 ⊢;grind
  rcases nl with y | y | y
  .exact(D9.mp a1).elim y p2
  .exact(D9.mp a2).elim y p2
  .exact(D9.mp a3).elim y p2
 have d:m.u∣l.u*r.v-l.v*r.u:=by
  have d1:m.u∣(l.u*r.v-l.v*r.u)*m.u:=Int.dvd_mul_left _ _;have d2:m.u∣(l.u*r.v-l.v*r.u)*m.v:=by rw[e1];exact Int.dvd_mul_right _ _
  have d3:m.u∣(l.u*r.v-l.v*r.u)*m.w:=by rw[e2];exact Int.dvd_mul_right _ _
  have d4:=IG (IG d1 d2) d3;have pr':Lo.gc (Lo.gc m.u m.v) m.w=1:=pr;rw[pr',K0]at d4;exact d4
 obtain⟨q,eq⟩:=d;have q0:q≠0:=λz=>by rw[z,Int.mul_zero]at eq;exact x0 eq
 have f1:l.v*r.w-l.w*r.v=q*m.v:=by
  rw[eq,Lc]at e1;exact(Jy (show m.u≠0 by omega) e1).symm
 have f2:l.w*r.u-l.u*r.w=q*m.w:=by
  rw[eq,Lc]at e2;exact(Jy (show m.u≠0 by omega) e2).symm
 have big:∀x:Int,x.natAbs<=(q*x).natAbs:=λx=>by
  rw[Lv];exact Nat.le_mul_of_pos_left _ (by omega)
 refine⟨?_,?_,?_⟩
 .rw[eq,JA];exact big _
 .rw[f1];exact big _
 .rw[f2];exact big _
theorem wY{a b c:Int}(h1:a.natAbs<2^bb)(h2:b.natAbs<2^bb)(h3:c.natAbs<2^bb)(h4:d.natAbs<2^bb):(a*b-c*d).natAbs<2^(2*bb+2):=by
 have y1:=mZ (m:=bb) (n:=bb) h1 h2;have y2:=mZ (m:=bb) (n:=bb) h3 h4;rw[show 2*bb+2=(bb+bb)+2 by omega,Nat.pow_add];generalize 2^(bb+bb)=z at *;omega
def NJ(bb:Nat)(p q:T3):Prop:=∃m:T3,R3 bb m/\Nz m/\tl m p=0/\tl m q=0
def Nb(bb:Nat):List T3->Prop
 | []=>True
 | [_]=>True
 | a::b::r=>NJ bb a b/\Nb bb (b::r)
theorem wU:∀{L:List T3}{a b:T3},Nb bb (L++[a])->NJ bb a b->Nb bb (L++[a,b])
 | [],_,_,_,h=>⟨h,trivial⟩
 | [x],_,_,n,h=>⟨n.1,h,trivial⟩
 | x::y::r,_,_,n,h=>⟨n.1,wU (L:=y::r) n.2 h⟩
theorem QI:∀{L:List T3}{i:Nat}{a b:T3},Nb bb L->L[i]?=some a->L[i+1]?=some b->NJ bb a b
 | [],_,_,_,_,h,_=>by cases h
 | [_],i,_,_,_,_,h=>by cases i<;>cases h
 | _::_::_,0,_,_,n,h,g=>by cases h;cases g;exact n.1
 | _::y::r,i+1,_,_,n,h,g=>QI (L:=y::r) (i:=i) n.2 h g
theorem Hf{s t:Int}(hp:P3 b p)(hq:P3 b q)(h:s*t<0)(h1:tl m p=0)(h2:tl m q=0):tl m (mid p q s t)=0:=by
 obtain⟨g,x,y,g0,_,_,e1,e2,e3⟩:=(pJ hp hq h).ex
 have z:g*tl m (mid p q s t)=0:=by
  have e:g*tl m (mid p q s t)=m.u*(g*(mid p q s t).v)+m.v*(g*(mid p q s t).w)+m.w*(g*(mid p q s t).u):=by simp only[tl];grind
  rw[e,e1,e2,e3];simp only[tl]at h1 h2;grind
 exact(D9.mp z).resolve_left (by omega)
structure MN(bb:Nat)(h:List T3):Prop where
 tri:oI h
 n3:3<=h.length
 ok:∀p∈h,P3 (2*bb+2) p
 pr:∀p∈h,gg p.u p.v p.w=1
 sh:∀i,i<h.length->NJ bb (cor h i) (cor h (i+1))
theorem MN.cok(H:MN bb h):∀i,P3 (2*bb+2) (cor h i):=λi=>H.ok _ (cD (by have:=H.n3;omega) i)
section
variable{bb:Nat}{h:List T3}{r X:T3}{t:Nat->Int}
theorem Vx(H:MN bb h)(hr:R3 bb r)(et:∀i,t i=tl r (cor h i)\/t i = - tl r (cor h i))(W:Wk h t r X){i:Nat}(hi:i<h.length)(c:t i*t (i+1)<0):P3 (2*bb+2) (md h t i)/\gg (md h t i).u (md h t i).v (md h t i).w=1:=by
 have ok:=H.cok;have pr:=HW (ok i) (ok (i+1)) c;refine⟨?_,pr⟩;obtain⟨m,m5,mz,m1,m2⟩:=H.sh i hi;have o1:=Hf (ok i) (ok (i+1)) c m1 m2;have o2:=W.ml i c;have u0:=W.mu i c
 have tp:tl r (cor h i)≠0:=λz=>by
  have:t i=0:=by rcases et i with e | e<;>rw[e,z]<;>rfl
  rw[this]at c;omega
 obtain⟨b1,b2,b3⟩:=R9 (m:=md h t i) u0 pr o1 o2 mz m1 tp;have k1:=wY m5.a hr.b m5.b hr.a;have k2:=wY m5.b hr.c m5.c hr.b;have k3:=wY m5.c hr.a m5.a hr.c;obtain⟨g,x,y,g0,x0,y0,e1,e2,e3⟩:=(pJ (ok i) (ok (i+1)) c).ex
 have v0:0<=(md h t i).v:=mW g0 (by
  have e:g*(md h t i).v=x*(cor h i).v+y*(cor h (i+1)).v:=e2;rw[e];have:=A0 x0 (ok i).x0;have:=A0 y0 (ok (i+1)).x0;omega)
 have w0:0<=(md h t i).w:=mW g0 (by
  have e:g*(md h t i).w=x*(cor h i).w+y*(cor h (i+1)).w:=e3;rw[e];have:=A0 x0 (ok i).y0;have:=A0 y0 (ok (i+1)).y0;omega)
 have ep:((2^(2*bb+2):Nat):Int)=(2:Int)^(2*bb+2):=by push_cast;rfl
 exact⟨u0,v0,w0,by omega,by omega,by omega⟩
theorem CM(H:MN bb h)(hr:R3 bb r)(W:Wk h t r X):∀k,k<=h.length->Nb bb (fl (stp h t) k)/\∀L e,fl (stp h t) k=L++[e]->(t k<=0->NJ bb e (cor h k))/\(¬t k<=0->tl r e=0)
 | 0,_=>⟨trivial,λL e z=>by rw[qX]at z;exact absurd z (by simp)⟩
 | k+1,hk=>by
  obtain⟨n,o⟩:=CM H hr W k (by omega);have ok:=H.cok;have ME:∀{a b:T3},tl r a=0->tl r b=0->NJ bb a b:=λh1 h2=>⟨r,hr,W.m0,h1,h2⟩
  have sd:t k*t (k+1)<0->NJ bb (cor h k) (md h t k)/\NJ bb (md h t k) (cor h (k+1)):=λc=>by
   obtain⟨m,m5,mz,m1,m2⟩:=H.sh k (by omega);have o1:=Hf (ok k) (ok (k+1)) c m1 m2;exact⟨⟨m,m5,mz,m1,o1⟩,⟨m,m5,mz,o1,m2⟩⟩
  have add:∀x,(∀L e,fl (stp h t) k=L++[e]->NJ bb e x)->Nb bb (fl (stp h t) k++[x]):=λx hx=>by
   rcases Kh (fl (stp h t) k) with z | ⟨L,e,z⟩
   .rw[z];exact trivial
   .rw[Ki]at z;have n':=n;rw[z]at n' ⊢;have:=wU n' (hx L e z);simpa using this
  have L0:∀{A:List T3}{x:T3}{L:List T3}{e:T3},A++[x]=L++[e]->e=x:=λz=>by
   have:=z6 List.getLast? z;simp at this;exact this.symm
  rw[bD]
  by_cases a:t k<=0
  .have nk:=add (cor h k) λL e z=>(o L e z).1 a
   by_cases b:t (k+1)<=0
   .have c:¬t k*t (k+1)<0:=by
     have:=D5 a b;omega
    rw[kH a c];refine⟨nk,λL e z=>?_⟩;rw[L0 z];exact⟨λ_=>H.sh k (by omega),λy=>absurd b y⟩
   .by_cases d:t k<0
    .have c:t k*t (k+1)<0:=G8 d (by omega);rw[nQ a c];refine⟨wU nk (sd c).1,λL e z=>?_⟩;have z':(fl (stp h t) k++[cor h k])++[md h t k]=L++[e]:=by rw[<- z];simp
     rw[L0 z'];exact⟨λy=>absurd y b,λ_=>W.ml k c⟩
    .have t0:t k=0:=by omega
     rw[kH a (by rw[t0];omega)];refine⟨nk,λL e z=>?_⟩;rw[L0 z];exact⟨λy=>absurd y b,λ_=>W.cz k t0⟩
  .by_cases b:t (k+1)<0
   .have c:t k*t (k+1)<0:=D0 (by omega) b;rw[iL a c];refine⟨add _ λL e z=>ME ((o L e z).2 a) (W.ml k c),λL e z=>?_⟩;rw[L0 z];exact⟨λ_=>(sd c).2,λy=>absurd (show t (k+1)<=0 by omega) y⟩
   .have c:¬t k*t (k+1)<0:=by
     have:=A0 (show 0<=t k by omega) (show 0<=t (k+1) by omega);omega
    rw[kG a c,B0];refine⟨n,λL e z=>?_⟩;have q:=(o L e z).2 a;refine⟨λy=>?_,λ_=>q⟩;exact ME q (W.cz (k+1) (by omega))
theorem tM(a:t 0<=0):∀n,∃s,fl (stp h t) (n+1)=cor h 0::s
 | 0=>by
  rw[bD,qX,x9];unfold stp;rw[d8 a];exact⟨_,rfl⟩
 | n+1=>by
  obtain⟨s,e⟩:=tM a n;rw[bD,e];exact⟨_,rfl⟩
theorem yP(e:L=x::s)(n:Nb bb L)(c:∀A z,L=A++[z]->NJ bb z x):∀i,i<L.length->NJ bb (cor L i) (cor L (i+1)):=λi hi=>by
 rcases B5 (i+1) L.length with z | z
 .rw[cK hi,cK z];exact QI (i:=i) n (c9 hi) (c9 z)
 .have ei:i+1=L.length:=by omega
  rw[ei,cE,cK hi,cK (show 0<L.length by omega)];have L4:L≠[]:=by rw[e];simp
  have q:=c L.dropLast (L.getLast L4) (Ks L4).symm;have g1:L[i]=L.getLast L4:=by rw[List.getLast_eq_getElem];congr 1;omega
  have g0:L[0]'(by omega)=x:=by simp only[e,List.getElem_cons_zero]
  rw[g1,g0];exact q
theorem Ts(H:MN bb h)(hr:R3 bb r)(W:Wk h t r X)(tn:t h.length=t 0)(ne:fl (stp h t) h.length≠[]):∀i,i<(fl (stp h t) h.length).length->NJ bb (cor (fl (stp h t) h.length) i) (cor (fl (stp h t) h.length) (i+1)):=by
 obtain⟨n,o⟩:=CM H hr W h.length (c7 _)
 by_cases a:t 0<=0
 .obtain⟨m,em⟩:∃m,h.length=m+1:=⟨h.length-1,by have:=H.n3;omega⟩;obtain⟨s,es⟩:=tM (h:=h) a m;rw[<- em]at es;refine yP es n λA z e=>?_;have:=(o A z e).1 (by rw[tn];exact a);rw[cE]at this;exact this
 .cases e:fl (stp h t) h.length with
  | nil=>exact absurd e ne
  | cons x s =>
   rw[<- e];have ox:=oC W a _ x s e;refine yP e n λA z ez=>?_;exact⟨r,hr,W.m0,(o A z ez).2 (by rw[tn];exact a),ox.1⟩
noncomputable def ca(h:List T3)(t:Nat->Int)(i:Nat):List T3:=if t i<=0 then[cor h i] else[]
noncomputable def cb(h:List T3)(t:Nat->Int)(i:Nat):List T3:=if t i*t (i+1)<0 then[md h t i] else[]
theorem FJ(i:Nat):stp h t i=ca h t i++cb h t i:=rfl
theorem CW:∀n,(fl (stp h t) n).length=(fl (ca h t) n).length+(fl (cb h t) n).length
 | 0=>rfl
 | n+1=>by
  rw[bD,bD,bD,c8,c8,c8,CW n,FJ,c8];omega
theorem IY(tj:0<t j):∀n,(fl (ca h t) n).length<=n/\(j<n->(fl (ca h t) n).length+1<=n)
 | 0=>⟨c7 _,λz=>absurd z (Nat.not_lt_zero _)⟩
 | n+1=>by
  obtain⟨a,b⟩:=IY tj n;rw[bD,c8];have c:(ca h t n).length<=1:=by unfold ca;split<;>simp
  refine⟨by omega,λz=>?_⟩;rcases B5 j n with y | y
  .have:=b y;omega
  .have ej:j=n:=by omega
   subst ej;have:ca h t j=[]:=by unfold ca;rw[i5 (by omega)]
   rw[this];simp;omega
theorem IV:∀n,(fl (cb h t) n).Sublist (fl (stp h t) n)
 | 0=>List.Sublist.refl _
 | n+1=>by
  rw[bD,bD,FJ];exact(IV n).append (List.sublist_append_right _ _)
theorem IW(W:Wk h t r X)(hx:x∈fl (cb h t) n):tl r x=0:=by
 obtain⟨i,_,hi⟩:=sub_one hx;unfold cb at hi;split at hi
 .rename_i c;rw[d7.mp hi];exact W.ml i c
 .cases hi
theorem Dl(H:MN bb h)(W:Wk h t r X)(tn:t h.length=t 0)(hj:j<h.length)(tj:0<t j):(fl (stp h t) h.length).length<=h.length+1:=by
 have S:=tQ H.cok H.tri H.n3 tn;have a:=(IY (h:=h) tj h.length).2 hj
 have b:(fl (cb h t) h.length).length<=2:=by
  rcases B5 2 (fl (cb h t) h.length).length with z | z
  .exfalso;have s3:=oQ (L:=fl (cb h t) h.length) (show 0<1 by omega) (show 1<2 by omega) z;have d:=S _ _ _ (s3.trans (IV h.length));have d0:=tO W.m0 (IW W (n:=h.length) (JG (show 0<(fl (cb h t) h.length).length by omega))) (IW W (n:=h.length) (JG (show 1<(fl (cb h t) h.length).length by omega))) (IW W (n:=h.length) (JG z));omega
  .exact z
 rw[CW];omega
theorem hI{f:Nat->List T3}{i:Nat}:∀d,(fl f i).length<=(fl f (i+d)).length
 | 0=>c7 _
 | d+1=>by
  rw[<- Nat.add_assoc,bD,c8];have:=hI (f:=f) (i:=i) d;omega
theorem CA{i:Nat}(XN:i<j)(ti:t i<0)(tj:0<t j):(fl (stp h t) i).length+2<=(fl (stp h t) j).length:=by
 have s1:1<=(stp h t i).length:=by unfold stp;rw[d8 (by omega)];simp
 rcases A8 0 (t (i+1)) with z | z
 .have c:t i*t (i+1)<0:=G8 ti z;have m:=hI (f:=stp h t) (i:=i+1) (j-(i+1));rw[show i+1+(j-(i+1))=j by omega,bD,c8,nQ (by omega) c]at m;simpa using m
 .have ij:i+1<j:=by
   rcases B5 (i+1) j with y | y
   .exact y
   .rw[show j=i+1 by omega]at tj;omega
  have s2:1<=(stp h t (i+1)).length:=by unfold stp;rw[d8 z];simp
  have m:=hI (f:=stp h t) (i:=i+1+1) (j-(i+1+1));rw[show i+1+1+(j-(i+1+1))=j by omega,bD,bD,c8,c8]at m;omega
theorem xg:∀(d:Nat){j:Nat},0<t j->t (j+d)<0->(fl (stp h t) j).length+1<=(fl (stp h t) (j+d)).length
 | 0,j,tj,ti=>by rw[Nat.add_zero]at ti;omega
 | d+1,j,tj,ti=>by
  have e:j+(d+1)=j+1+d:=by omega
  rw[e]at ti ⊢;have m:=hI (f:=stp h t) (i:=j+1) d;rcases F3 (t (j+1)) 0 with z | z | z
  .have c:t j*t (j+1)<0:=D0 tj z;rw[bD,c8,iL (by omega) c]at m;simp at m;omega
  .cases d with
   | zero=>rw[Nat.add_zero]at ti;omega
   | succ d =>
    have s2:1<=(stp h t (j+1)).length:=by unfold stp;rw[d8 (by omega)];simp
    have m2:=hI (f:=stp h t) (i:=j+1+1) d;rw[show j+1+1+d=j+1+(d+1) by omega,bD (j+1),c8,bD j,c8]at m2;omega
  .have:=xg d z ti;rw[bD,c8]at this;omega
theorem EN{i j:Nat}(hi:i<n)(hj:j<n)(tn:t n=t 0)(ti:t i<0)(tj:0<t j):3<=(fl (stp h t) n).length:=by
 rcases B5 i j with z | z
 .have o:=CA (h:=h) z ti tj;rcases F3 (t 0) 0 with y | y | y
  .have k:=xg (h:=h) (n-j) tj (by rw[show j+(n-j)=n by omega,tn];exact y);rw[show j+(n-j)=n by omega]at k;omega
  .have m:=hI (f:=stp h t) (i:=j) (n-j);rw[show j+(n-j)=n by omega]at m
   have i0:0<i:=by
    rcases Jw i with x | x
    .rw[x]at ti;omega
    .exact x
   have m2:=hI (f:=stp h t) (i:=1) (i-1);rw[show 1+(i-1)=i by omega,bD,c8]at m2;have s2:1<=(stp h t 0).length:=by unfold stp;rw[d8 (by omega)];simp
   omega
  .have k:=xg (h:=h) (t:=t) i (j:=0) y (by rw[Nat.zero_add];exact ti);rw[Nat.zero_add]at k;have m:=hI (f:=stp h t) (i:=j) (n-j);rw[show j+(n-j)=n by omega]at m;omega
 .have ij:j<i:=by
   rcases B5 j i with y | y
   .exact y
   .rw[show i=j by omega]at ti;omega
  have k:=xg (h:=h) (i-j) tj (by rw[show j+(i-j)=i by omega];exact ti);rw[show j+(i-j)=i by omega]at k;rcases A8 0 (t 0) with y | y
  .have o:=CA (h:=h) hi ti (by rw[tn];exact y);omega
  ·
   have s2:1<=(stp h t 0).length:=by unfold stp;rw[d8 y];simp
   have s3:1<=(stp h t i).length:=by unfold stp;rw[d8 (by omega)];simp
   have j0:0<j:=by
    rcases Jw j with x | x
    .rw[x]at tj;omega
    .exact x
   have m2:=hI (f:=stp h t) (i:=1) (j-1);rw[show 1+(j-1)=j by omega,bD,c8]at m2;have m3:=hI (f:=stp h t) (i:=i+1) (n-(i+1));rw[show i+1+(n-(i+1))=n by omega,bD,c8]at m3;omega
theorem IM(H:MN bb h)(hr:R3 bb r)(et:∀i,t i=tl r (cor h i)\/t i = - tl r (cor h i))(W:Wk h t r X)(tn:t h.length=t 0){i:Nat}(hi:i<h.length)(hj:j<h.length)(ti:t i<0)(tj:0<t j):MN bb (fl (stp h t) h.length):=by
 have n3:=EN (h:=h) hi hj tn ti tj
 have mem:∀x∈fl (stp h t) h.length,P3 (2*bb+2) x/\gg x.u x.v x.w=1:=λx hx=>by
  obtain⟨k,hk,hx⟩:=sub_one hx;rcases vQ H.cok hx with⟨_,e⟩ | ⟨c,e,_⟩
  .rw[e];have:=cD (h:=h) (by omega) k;exact⟨H.ok _ this,H.pr _ this⟩
  .rw[e];exact Vx H hr et W hk c
 exact⟨tQ H.cok H.tri H.n3 tn,n3,λx hx=>(mem x hx).1,λx hx=>(mem x hx).2,Ts H hr W tn (λz=>by rw[z]at n3;exact absurd n3 (by decide))⟩
end
section
variable{bb:Nat}{h:List T3}{r:T3}
structure Cut(bb:Nat)(h:List T3)(r:T3):Prop where
 lo:MN bb (low r h)
 hi:MN bb (high r h)
 ll:(low r h).length<=h.length+1
 lh:(high r h).length<=h.length+1
 pl:0<nA (low r h)
 ph:0<nA (high r h)
 ad:nA (low r h)+nA (high r h)=nA h
theorem MN.hull(H:MN bb h):xD (2*bb+2) h.length h:=⟨H.tri.tri,H.ok,by have:=H.n3;omega,c7 _⟩
theorem Dm(H:MN bb h)(hr:R3 bb r)(hp:p∈h)(hq:q∈h)(p0:tl r p<0)(q0:0<tl r q)   : Cut bb h r:=by
 have ok:=H.cok
 have nz:r.u≠0\/r.v≠0\/r.w≠0:=by
  rcases Kc (r.u=0) with z1 | z1
  .rcases Kc (r.v=0) with z2 | z2
   .refine .inr (.inr λz3=>?_);unfold tl at p0;rw[z1,z2,z3]at p0;omega
   .exact .inr (.inl z2)
  .exact .inl z1
 have xs:∃X:T3,0<X.u/\tl r X=0:=by
  refine⟨⟨tl r q*p.u + -(tl r p)*q.u,tl r q*p.v + -(tl r p)*q.v,tl r q*p.w + -(tl r p)*q.w⟩,?_,?_⟩
  .show 0<tl r q*p.u + -(tl r p)*q.u;have:=G7 q0 (H.ok p hp).n0;have:=G7 (show 0 < -(tl r p) by omega) (H.ok q hq).n0;omega
  .show r.u*(tl r q*p.v + -(tl r p)*q.v)+r.v*(tl r q*p.w + -(tl r p)*q.w)+r.w*(tl r q*p.u + -(tl r p)*q.u)=0;simp only[tl];grind
 obtain⟨X,xu,xl⟩:=xs;obtain⟨W1,W2⟩:=Fq ok nz xu xl;obtain⟨i,hi,ei⟩:=E9.mp hp;obtain⟨j,hj,ej⟩:=E9.mp hq;have ei':cor h i=p:=(cK hi).trans ei;have ej':cor h j=q:=(cK hj).trans ej;have UL:tv r h h.length=tv r h 0:=by unfold tv;rw[cE]
 have Xi:tn r h h.length=tn r h 0:=by unfold tn;rw[cE]
 have a1:tv r h i<0:=by unfold tv;rw[ei'];exact p0
 have a2:0<tv r h j:=by unfold tv;rw[ej'];exact q0
 have b1:0<tn r h i:=by unfold tn;rw[ei'];omega
 have b2:tn r h j<0:=by unfold tn;rw[ej'];omega
 have L:=IM H hr (λk=>.inl rfl) W1 UL hi hj a1 a2;have G:=IM H hr (λk=>.inr rfl) W2 Xi hj hi b2 b1;exact⟨L,G,Dl H W1 UL hj a2,Dl H W2 Xi hi b1,zC (λx hx=>(L.ok x hx).n0) L.tri L.n3,zC (λx hx=>(G.ok x hx).n0) G.tri G.n3,EX H.hull hp hq p0 q0⟩
theorem rq(hb:1<=bb):MN bb sqH:=by
 have p2:1<2^bb:=Nat.one_lt_two_pow (by omega);refine⟨λp q r s=>?_,by decide,λp hp=>?_,λp hp=>?_,λi hi=>?_⟩
 .simp only[sqH,List.sublist_cons_iff,List.sublist_nil,JQ,reduceCtorEq,false_or,F9]at s;simp only[List.nil_eq,exists_eq_right_right',and_assoc]at s;grind [det]
 .have:=(OQ.ok p hp).mono (show 1<=2*bb+2 by omega);exact this
 .simp only[sqH,j6,A2,F9]at hp;rcases hp with e | e | e | e<;>rw[e]<;>decide
 .have Mj:i<4:=hi;rcases(by omega:i=0\/i=1\/i=2\/i=3) with e | e | e | e<;>rw[e]
  .exact⟨⟨0,1,0⟩,⟨d9 (by decide) p2,d9 (by decide) p2,d9 (by decide) p2⟩,.inr (.inl (by decide)),by decide,by decide⟩
  .exact⟨⟨1,0,-1⟩,⟨d9 (by decide) p2,d9 (by decide) p2,d9 (by decide) p2⟩,.inl (by decide),by decide,by decide⟩
  .exact⟨⟨0,1,-1⟩,⟨d9 (by decide) p2,d9 (by decide) p2,d9 (by decide) p2⟩,.inr (.inl (by decide)),by decide,by decide⟩
  .exact⟨⟨1,0,0⟩,⟨d9 (by decide) p2,d9 (by decide) p2,d9 (by decide) p2⟩,.inl (by decide),by decide,by decide⟩
abbrev HK(h:List T3):Prop:=MN 64 h
theorem iu:HK sqH:=rq (by decide)
end
end Hu
namespace Hu
def Nc(Rl:T3->T3->Prop):List T3->Prop
 | []=>True
 | [_]=>True
 | a::b::r=>Rl a b/\Nc Rl (b::r)
theorem wR:∀{L:List T3}{a b:T3},Nc Rl (L++[a])->Rl a b->Nc Rl (L++[a,b])
 | [],_,_,_,h=>⟨h,trivial⟩
 | [x],_,_,n,h=>⟨n.1,h,trivial⟩
 | x::y::r,_,_,n,h=>⟨n.1,wR (L:=y::r) n.2 h⟩
theorem QH:∀{L:List T3}{i:Nat}{a b:T3},Nc Rl L->L[i]?=some a->L[i+1]?=some b->Rl a b
 | [],_,_,_,_,h,_=>by cases h
 | [_],i,_,_,_,_,h=>by cases i<;>cases h
 | _::_::_,0,_,_,n,h,g=>by cases h;cases g;exact n.1
 | _::y::r,i+1,_,_,n,h,g=>QH (L:=y::r) (i:=i) n.2 h g
section
variable{h:List T3}{r X:T3}{t:Nat->Int}{Rl:T3->T3->Prop}
theorem CL(H:HK h)(ME:∀{a b:T3},tl r a=0->tl r b=0->Rl a b)(hs:∀k,k<h.length->Rl (cor h k) (cor h (k+1)))(hm:∀k,k<h.length->t k*t (k+1)<0->Rl (cor h k) (md h t k)/\Rl (md h t k) (cor h (k+1)))(W:Wk h t r X):∀k,k<=h.length->Nc Rl (fl (stp h t) k)/\∀L e,fl (stp h t) k=L++[e]->(t k<=0->Rl e (cor h k))/\(¬t k<=0->tl r e=0)
 | 0,_=>⟨trivial,λL e z=>by rw[qX]at z;exact absurd z (by simp)⟩
 | k+1,hk=>by
  obtain⟨n,o⟩:=CL H ME hs hm W k (by omega);have ok:=H.cok;have sd:t k*t (k+1)<0->Rl (cor h k) (md h t k)/\Rl (md h t k) (cor h (k+1)):=λc=>hm k (by omega) c
  have add:∀x,(∀L e,fl (stp h t) k=L++[e]->Rl e x)->Nc Rl (fl (stp h t) k++[x]):=λx hx=>by
   rcases Kh (fl (stp h t) k) with z | ⟨L,e,z⟩
   .rw[z];exact trivial
   .rw[Ki]at z;have n':=n;rw[z]at n' ⊢;have:=wR n' (hx L e z);simpa using this
  have L0:∀{A:List T3}{x:T3}{L:List T3}{e:T3},A++[x]=L++[e]->e=x:=λz=>by
   have:=z6 List.getLast? z;simp at this;exact this.symm
  rw[bD]
  by_cases a:t k<=0
  .have nk:=add (cor h k) λL e z=>(o L e z).1 a
   by_cases b:t (k+1)<=0
   .have c:¬t k*t (k+1)<0:=by
     have:=D5 a b;omega
    rw[kH a c];refine⟨nk,λL e z=>?_⟩;rw[L0 z];exact⟨λ_=>hs k (by omega),λy=>absurd b y⟩
   .by_cases d:t k<0
    .have c:t k*t (k+1)<0:=G8 d (by omega);rw[nQ a c];refine⟨wR nk (sd c).1,λL e z=>?_⟩;have z':(fl (stp h t) k++[cor h k])++[md h t k]=L++[e]:=by rw[<- z];simp
     rw[L0 z'];exact⟨λy=>absurd y b,λ_=>W.ml k c⟩
    .have t0:t k=0:=by omega
     rw[kH a (by rw[t0];omega)];refine⟨nk,λL e z=>?_⟩;rw[L0 z];exact⟨λy=>absurd y b,λ_=>W.cz k t0⟩
  .by_cases b:t (k+1)<0
   .have c:t k*t (k+1)<0:=D0 (by omega) b;rw[iL a c];refine⟨add _ λL e z=>ME ((o L e z).2 a) (W.ml k c),λL e z=>?_⟩;rw[L0 z];exact⟨λ_=>(sd c).2,λy=>absurd (show t (k+1)<=0 by omega) y⟩
   .have c:¬t k*t (k+1)<0:=by
     have:=A0 (show 0<=t k by omega) (show 0<=t (k+1) by omega);omega
    rw[kG a c,B0];refine⟨n,λL e z=>?_⟩;have q:=(o L e z).2 a;refine⟨λy=>?_,λ_=>q⟩;exact ME q (W.cz (k+1) (by omega))
theorem yO(e:L=x::s)(n:Nc Rl L)(c:∀A z,L=A++[z]->Rl z x):∀i,i<L.length->Rl (cor L i) (cor L (i+1)):=λi hi=>by
 rcases B5 (i+1) L.length with z | z
 .rw[cK hi,cK z];exact QH (i:=i) n (c9 hi) (c9 z)
 .have ei:i+1=L.length:=by omega
  rw[ei,cE,cK hi,cK (show 0<L.length by omega)];have L4:L≠[]:=by rw[e];simp
  have q:=c L.dropLast (L.getLast L4) (Ks L4).symm;have g1:L[i]=L.getLast L4:=by rw[List.getLast_eq_getElem];congr 1;omega
  have g0:L[0]'(by omega)=x:=by simp only[e,List.getElem_cons_zero]
  rw[g1,g0];exact q
theorem Tt(H:HK h)(ME:∀{a b:T3},tl r a=0->tl r b=0->Rl a b)(hs:∀k,k<h.length->Rl (cor h k) (cor h (k+1)))(hm:∀k,k<h.length->t k*t (k+1)<0->Rl (cor h k) (md h t k)/\Rl (md h t k) (cor h (k+1)))(W:Wk h t r X)(tn:t h.length=t 0)(ne:fl (stp h t) h.length≠[]):∀i,i<(fl (stp h t) h.length).length->Rl (cor (fl (stp h t) h.length) i) (cor (fl (stp h t) h.length) (i+1)):=by
 obtain⟨n,o⟩:=CL H ME hs hm W h.length (c7 _)
 by_cases a:t 0<=0
 .obtain⟨m,em⟩:∃m,h.length=m+1:=⟨h.length-1,by have:=H.n3;omega⟩;obtain⟨s,es⟩:=tM (h:=h) a m;rw[<- em]at es;refine yO es n λA z e=>?_;have:=(o A z e).1 (by rw[tn];exact a);rw[cE]at this;exact this
 .cases e:fl (stp h t) h.length with
  | nil=>exact absurd e ne
  | cons x s =>
   rw[<- e];have ox:=oC W a _ x s e;refine yO e n λA z ez=>?_;exact ME ((o A z ez).2 (by rw[tn];exact a)) ox.1
end
def Ins(h:List T3)(p:T3):Prop:=∀i,i<h.length->0<=det (cor h i) (cor h (i+1)) p
theorem IP(a b z p r:T3):det a b z*tl r p=tl r a*det p b z+tl r b*det a p z+tl r z*det a b p:=by simp only[tl,det];grind
theorem sideS(T:oI L)(n3:3<=L.length){i:Nat}(hi:i<L.length)(hj:j<L.length)(n1:j≠i)(n2:j≠(i+1)%L.length):0<det (cor L i) (cor L (i+1)) (cor L j):=by
 rcases B5 (i+1) L.length with z | z
 .rw[Lg z]at n2;rcases B5 j i with y | y
  .rw[bP];exact fi T y (by omega) z
  .exact fi T (by omega) (show i+1<j by omega) hj
 .have e:i+1=L.length:=by omega
  rw[e,Nat.mod_self]at n2;rw[e,cE,bP,bP];exact fi T (show 0<j by omega) (show j<i by omega) hi
theorem zd(H:HK h)(W:Wk h t r X)(tn:t h.length=t 0){s:Int}(hs:s=1\/s = -1)(et:∀i,t i=s*tl r (cor h i))(L3:3<=(fl (stp h t) h.length).length)(LT:oI (fl (stp h t) h.length))(hz:z∈fl (stp h t) h.length)(z0:s*tl r z<0)(P:Ins h p)(p0:s*tl r p<=0):Ins (fl (stp h t) h.length) p:=by
 have ok:=H.cok;have key:=Tt (Rl:=λa b=>0<=det a b p\/(tl r a=0/\tl r b=0)) H (λh1 h2=>.inr ⟨h1,h2⟩) (λk hk=>.inl (P k hk)) (λk hk c=>?_) W tn (by intro e;rw[e]at L3;simp at L3)
 .intro i hi;rcases key i hi with y | ⟨y1,y2⟩
  .exact y
  .obtain⟨j,hj,ej⟩:=E9.mp hz;have cj:cor (fl (stp h t) h.length) j=z:=(cK hj).trans ej;have n1:j≠i:=λe=>by rw[e]at cj;rw[cj]at y1;rw[y1]at z0;omega
   have n2:j≠(i+1)%(fl (stp h t) h.length).length:=λe=>by
    rw[e,oF]at cj;rw[cj]at y2;rw[y2]at z0;omega
   have d:=sideS LT L3 hi hj n1 n2;rw[cj]at d;have e:=IP (cor (fl (stp h t) h.length) i) (cor (fl (stp h t) h.length) (i+1)) z p r;rw[y1,y2,Kd,Kd,Int.zero_add,Int.zero_add]at e;generalize det (cor (fl (stp h t) h.length) i) (cor (fl (stp h t) h.length) (i+1)) z=D at d e;generalize det (cor (fl (stp h t) h.length) i) (cor (fl (stp h t) h.length) (i+1)) p=B at e ⊢;refine B3 λnb=>?_;have nb':B<0:=by omega
   have q1:0<(s*tl r z)*B:=KR z0 nb';have q2:(s*tl r p)*D<=0:=Int.mul_nonpos_of_nonpos_of_nonneg p0 (z5 d)
   have q3:(s*tl r z)*B=(s*tl r p)*D:=by
    rw[Lc,Lc,<- e,JA D]
   omega
 .obtain⟨g,x,y,g0,x0,y0,e1,e2,e3⟩:=(pJ (ok k) (ok (k+1)) c).ex;have pk:=P k hk
  have i1:g*det (cor h k) (md h t k) p=y*det (cor h k) (cor h (k+1)) p:=by
   have:g*det (cor h k) (md h t k) p=(cor h k).u*((g*(md h t k).v)*p.w-(g*(md h t k).w)*p.v)-(cor h k).v*((g*(md h t k).u)*p.w-(g*(md h t k).w)*p.u)+(cor h k).w*((g*(md h t k).u)*p.v-(g*(md h t k).v)*p.u):=by simp only[det];grind
   rw[this,show g*(md h t k).u=_ from e1,show g*(md h t k).v=_ from e2,show g*(md h t k).w=_ from e3];simp only[det];grind
  have i2:g*det (md h t k) (cor h (k+1)) p=x*det (cor h k) (cor h (k+1)) p:=by
   have:g*det (md h t k) (cor h (k+1)) p=(g*(md h t k).u)*((cor h (k+1)).v*p.w-(cor h (k+1)).w*p.v)-(g*(md h t k).v)*((cor h (k+1)).u*p.w-(cor h (k+1)).w*p.u)+(g*(md h t k).w)*((cor h (k+1)).u*p.v-(cor h (k+1)).v*p.u):=by simp only[det];grind
   rw[this,show g*(md h t k).u=_ from e1,show g*(md h t k).v=_ from e2,show g*(md h t k).w=_ from e3];simp only[det];grind
  exact⟨.inl (mW g0 (by rw[i1];exact A0 y0 pk)),.inl (mW g0 (by rw[i2];exact A0 x0 pk))⟩
end Hu
namespace Hu
def eW(h:List T3)(p:T3):Prop:=∀f:T3,(∀c∈h,0<=tl f c)->0<=tl f p
theorem Fz(f p:T3):tl ⟨-f.u,-f.v,-f.w⟩ p = - tl f p:=by simp only[tl];grind
theorem eW.le(C:eW h p)(hf:∀c∈h,tl f c<=0):tl f p<=0:=by
 have z:=C ⟨-f.u,-f.v,-f.w⟩ λc hc=>by rw[Fz];have:=hf c hc;omega
 rw[Fz]at z;omega
theorem dS(hc:c∈h):eW h c:=λf hf=>hf c hc
theorem eW.sub(s:∀c∈g,eW h c)(C:eW g p):eW h p:=λf hf=>C f λc hc=>s c hc f hf
theorem ivt(D:Nat->Int):∀(d a:Nat),0<=D a->D (a+d+1)<=0->∃i,a<=i/\i<=a+d/\0<=D i/\D (i+1)<=0
 | 0,a,h1,h2=>⟨a,c7 _,c7 _,h1,h2⟩
 | d+1,a,h1,h2=>by
  rcases A8 0 (D (a+1)) with z | z
  .obtain⟨i,q1,q2,q3,q4⟩:=ivt D d (a+1) (z5 z) (by rw[show a+1+d+1=a+(d+1)+1 by omega];exact h2);exact⟨i,by omega,by omega,q3,q4⟩
  .exact⟨a,c7 _,by omega,h1,z⟩
theorem Tj(a b p:T3):det a b p = - det b a p:=by simp only[det];grind
theorem PQ(a b p:T3):det a b p = - det a p b:=by simp only[det];grind
theorem oA(T:oI h)(n3:3<=h.length)(P:Ins h p):eW h p:=by
 intro f hf;have s0:=P 0 (by omega);have s9:=P (h.length-1) (by omega);rw[show h.length-1+1=h.length by omega,cE,Tj]at s9
 obtain⟨i,i1,i2,i3,i4⟩:=ivt (λi=>det (cor h 0) (cor h i) p) (h.length-3) 1 s0 (by
  show det (cor h 0) (cor h (1+(h.length-3)+1)) p<=0;rw[show 1+(h.length-3)+1=h.length-1 by omega];omega)
 have d:=fi T (show 0<i by omega) (show i<i+1 by omega) (show i+1<h.length by omega);have e:=IP (cor h 0) (cor h i) (cor h (i+1)) p f;have c0:=hf _ (cD (by omega) 0);have c1:=hf _ (cD (show 0<h.length by omega) i);have c2:=hf _ (cD (show 0<h.length by omega) (i+1))
 have t1:0<=det p (cor h i) (cor h (i+1)):=by
  rw[<- bP];exact P i (by omega)
 have t2:0<=det (cor h 0) p (cor h (i+1)):=by
  rw[PQ];have:det (cor h 0) (cor h (i+1)) p<=0:=i4;omega
 have m1:=A0 c0 t1;have m2:=A0 c1 t2;have m3:=A0 c2 i3;exact mW d (by rw[e];omega)
inductive Row where
 | lf (k:Nat)
 | nt (i:Nat)
 | fd (k i j:Nat)
noncomputable def z0:T3:=⟨0,0,0⟩
noncomputable def fld(k:Nat)(n a b:Int):Int:=
 if k=0 then(if a+b<n then a+b else n) else if k=1 then(if a+b-n>0 then a+b-n else 0) else if k=2 then(if b>a then b else a) else if k=3 then(if b<a then b else a) else(if n-a+b<n then n-a+b else n)
noncomputable def Zj(k:Nat)(p:T3):Int:=if k=0 then 0 else if k=1 then p.u else if k=2 then p.v else p.w
noncomputable def Yi(ws:List Int)(p:T3):Row->Int
 | .lf k=>Zj k p
 | .nt i=>p.u-ws.getD i 0
 | .fd k i j=>fld k p.u (ws.getD i 0) (ws.getD j 0)
noncomputable def lft(k:Nat):T3:=if k=0 then⟨0,0,0⟩ else if k=1 then⟨0,0,1⟩ else if k=2 then⟨1,0,0⟩ else⟨0,1,0⟩
noncomputable def pl(a b:T3):T3:=⟨a.u+b.u,a.v+b.v,a.w+b.w⟩
noncomputable def mi(a b:T3):T3:=⟨a.u-b.u,a.v-b.v,a.w-b.w⟩
noncomputable def al:T3:=⟨0,0,1⟩
theorem xO(a b p:T3):tl (pl a b) p=tl a p+tl b p:=by simp only[tl,pl];grind
theorem lZ(a b p:T3):tl (mi a b) p=tl a p-tl b p:=by simp only[tl,mi];grind
theorem nL(p:T3):tl al p=p.u:=by simp only[tl,al];grind
theorem pY(p:T3):tl z0 p=0:=by simp only[tl,z0];grind
theorem oP(k:Nat)(p:T3):tl (lft k) p=Zj k p:=by
 unfold lft Zj tl;split
 .simp
 .split
  .simp
  .split<;>simp
noncomputable def fch(k:Nat)(a b:T3):T3×T3×T3:=
 if k=0 then(mi (pl a b) al,pl a b,al) else if k=1 then(mi (pl a b) al,z0,mi (pl a b) al) else if k=2 then(mi a b,b,a) else if k=3 then(mi a b,a,b) else(mi b a,pl al (mi b a),al)
noncomputable def choice(rs:List T3):Row->T3×T3×T3
 | .lf k=>(z0,lft k,lft k)
 | .nt i=>(z0,mi al (rs.getD i z0),mi al (rs.getD i z0))
 | .fd k i j=>fch k (rs.getD i z0) (rs.getD j z0)
open Classical in
noncomputable def bo(h:List T3)(c:T3×T3×T3):Option T3:=if ∀q∈h,tl c.1 q<=0 then some c.2.1 else if ∀q∈h,0<=tl c.1 q then some c.2.2 else none
inductive Out where
 | rules (rs:List T3)
 | mixed (k:Nat) (t:T3)
noncomputable def run(h:List T3):List Row->List T3->Out
 | [],rs=>.rules rs
 | r::rest,rs=>match bo h (choice rs r) with
  | some x=>run h rest (rs++[x])
  | none=>.mixed rs.length (choice rs r).1
noncomputable def M3(rs:List T3)(p:T3):List Int:=rs.map λr=>tl r p
theorem rh(rs:List T3)(p:T3)(i:Nat):(M3 rs p).getD i 0=tl (rs.getD i z0) p:=by
 unfold M3;rw[A3,A3,x6];cases rs[i]? with
 | none=>exact(pY p).symm
 | some r=>rfl
noncomputable def zX(ws:List Int)(p:T3):Row->Int
 | .lf _=>0
 | .nt _=>0
 | .fd k i j=>if k=0 then ws.getD i 0+ws.getD j 0-p.u else if k=1 then ws.getD i 0+ws.getD j 0-p.u else if k=2 then ws.getD i 0-ws.getD j 0 else if k=3 then ws.getD i 0-ws.getD j 0 else ws.getD j 0-ws.getD i 0
theorem gG(rs:List T3)(p:T3)(r:Row):tl (choice rs r).1 p=zX (M3 rs p) p r:=by
 cases r with
 | lf k=>exact pY p
 | nt i=>exact pY p
 | fd k i j =>
  show tl (fch k _ _).1 p=zX _ p (.fd k i j);unfold fch zX;simp only[rh];split
  .show tl (mi (pl _ _) al) p=_;rw[lZ,xO,nL]
  .split
   .show tl (mi (pl _ _) al) p=_;rw[lZ,xO,nL]
   .split
    .show tl (mi _ _) p=_;rw[lZ]
    .split
     .show tl (mi _ _) p=_;rw[lZ]
     .show tl (mi _ _) p=_;rw[lZ]
theorem HZ(rs:List T3)(p:T3)(r:Row)(h:zX (M3 rs p) p r<=0):tl (choice rs r).2.1 p=Yi (M3 rs p) p r:=by
 cases r with
 | lf k=>exact oP k p
 | nt i =>
  show tl (mi al _) p=p.u-_;rw[lZ,nL,rh]
 | fd k i j =>
  show tl (fch k _ _).2.1 p=fld k p.u _ _;unfold zX at h;unfold fch fld;simp only[rh]at h ⊢;split at h<;>rename_i c0
  .rw[d8 c0,d8 c0];show tl (pl _ _) p=_;rw[xO];split<;>omega
  .rw[i5 c0,i5 c0];split at h<;>rename_i c1
   .rw[d8 c1,d8 c1];show tl z0 p=_;rw[pY];split<;>omega
   .rw[i5 c1,i5 c1];split at h<;>rename_i c2
    .rw[d8 c2,d8 c2];show tl (rs.getD j z0) p=_;split<;>omega
    .rw[i5 c2,i5 c2];split at h<;>rename_i c3
     .rw[d8 c3,d8 c3];show tl (rs.getD i z0) p=_;split<;>omega
     .rw[i5 c3,i5 c3];show tl (pl al (mi _ _)) p=_;rw[xO,nL,lZ];split<;>omega
theorem Ij(rs:List T3)(p:T3)(r:Row)(h:0<=zX (M3 rs p) p r):tl (choice rs r).2.2 p=Yi (M3 rs p) p r:=by
 cases r with
 | lf k=>exact oP k p
 | nt i =>
  show tl (mi al _) p=p.u-_;rw[lZ,nL,rh]
 | fd k i j =>
  show tl (fch k _ _).2.2 p=fld k p.u _ _;unfold zX at h;unfold fch fld;simp only[rh]at h ⊢;split at h<;>rename_i c0
  .rw[d8 c0,d8 c0];show tl al p=_;rw[nL];split<;>omega
  .rw[i5 c0,i5 c0];split at h<;>rename_i c1
   .rw[d8 c1,d8 c1];show tl (mi (pl _ _) al) p=_;rw[lZ,xO,nL];split<;>omega
   .rw[i5 c1,i5 c1];split at h<;>rename_i c2
    .rw[d8 c2,d8 c2];show tl (rs.getD i z0) p=_;split<;>omega
    .rw[i5 c2,i5 c2];split at h<;>rename_i c3
     .rw[d8 c3,d8 c3];show tl (rs.getD j z0) p=_;split<;>omega
     .rw[i5 c3,i5 c3];show tl al p=_;rw[nL];split<;>omega
theorem gj(e:bo h (choice rs r)=some x)(C:eW h p):tl x p=Yi (M3 rs p) p r:=by
 unfold bo at e;split at e
 .rename_i c;cases e
  exact HZ rs p r (by rw[<- gG];exact C.le c)
 .split at e
  .rename_i c;cases e
   exact Ij rs p r (by rw[<- gG];exact C _ c)
  .cases e
theorem nK(rs:List T3)(x p:T3):M3 (rs++[x]) p=M3 rs p++[tl x p]:=by unfold M3;rw[p7];rfl
theorem jd(e:bo h c=none):(∃q∈h,0<tl c.1 q)/\∃q∈h,tl c.1 q<0:=by
 unfold bo at e;split at e
 .cases e
 .rename_i c1;split at e
  .cases e
  .rename_i c2;constructor
   .refine B3 λz=>c1 λq hq=>?_;refine B3 λy=>z ⟨q,hq,by omega⟩
   .refine B3 λz=>c2 λq hq=>?_;refine B3 λy=>z ⟨q,hq,by omega⟩
theorem yq(s:∀c∈g,eW h c):∀rows rs Mg,rs.length=Mg.length->(∀p,eW g p->M3 rs p=M3 Mg p)->∀k t,run h rows rs=.mixed k t->
  ((∀c∈g,tl t c<=0)\/∀c∈g,0<=tl t c)->∀k' t',run g rows Mg=.mixed k' t'->k<k'
 | [],rs,Mg,_,_,k,t,e,_,_,_,_=>by cases e
 | r::rest,rs,Mg,el,et,k,t,e,hs,k',t',e'=>by
  have tt:∀c∈g,tl (choice rs r).1 c=tl (choice Mg r).1 c:=λc hc=>by rw[gG,gG,et c (dS hc)]
  have ex:((∀c∈g,tl (choice rs r).1 c<=0)\/∀c∈g,0<=tl (choice rs r).1 c)->∃x,bo g (choice Mg r)=some x:=λhh=>by
   cases q:bo g (choice Mg r) with
   | some x=>exact⟨x,rfl⟩
   | none =>
    exfalso;obtain⟨⟨a,ha,a0⟩,b,hb,b0⟩:=jd q;rw[<- tt a ha]at a0;rw[<- tt b hb]at b0;rcases hh with z | z
    .have:=z a ha;omega
    .have:=z b hb;omega
  unfold run at e;cases q:bo h (choice rs r) with
  | none =>
   rw[q]at e;injection e with e1 e2
   subst e2;obtain⟨x,qx⟩:=ex hs;unfold run at e';rw[qx]at e'
   have ge:∀rows rs (k:Nat) t,run g rows rs=.mixed k t->rs.length<=k:=by
    intro rows
    induction rows with
    | nil=>intro rs k t z;cases z
    | cons r rest ih =>
     intro rs k t z;unfold run at z;cases y:bo g (choice rs r) with
     | none=>rw[y]at z;injection z with z1 z2;omega
     | some x =>
      rw[y]at z;have:=ih _ _ _ z;rw[c8,G9]at this;omega
   have:=ge _ _ _ _ e';rw[c8,G9]at this;omega
  | some y =>
   rw[q]at e
   have us:(∀c∈g,tl (choice rs r).1 c<=0)\/∀c∈g,0<=tl (choice rs r).1 c:=by
    unfold bo at q;split at q
    .rename_i c;exact .inl λc' hc=>(s c' hc).le c
    .split at q
     .rename_i c;exact .inr λc' hc=>s c' hc _ c
     .cases q
   obtain⟨x,qx⟩:=ex us;unfold run at e';rw[qx]at e';refine yq s rest _ _ (by simp[el]) (λp hp=>?_) k t e hs k' t' e';rw[nK,nK,gj q (hp.sub s),gj qx hp,et p hp]
def Rb(rs:List T3):Prop:=∀i x,rs[i]?=some x->R3 (i+1) x
theorem Vf{m:Nat}{b:T3}(ha:R3 m a)(hb:R3 m b):R3 (m+1) (pl a b):=by
 have e:2^(m+1)=2*2^m:=by rw[Jo];omega
 have:=ha.a;have:=ha.b;have:=ha.c;have:=hb.a;have:=hb.b;have:=hb.c;refine⟨?_,?_,?_⟩<;>(simp only[pl];rw[e];omega)
theorem vh{m:Nat}{b:T3}(ha:R3 m a)(hb:R3 m b):R3 (m+1) (mi a b):=by
 have e:2^(m+1)=2*2^m:=by rw[Jo];omega
 have:=ha.a;have:=ha.b;have:=ha.c;have:=hb.a;have:=hb.b;have:=hb.c;refine⟨?_,?_,?_⟩<;>(simp only[mi];rw[e];omega)
theorem Ar{m:Nat}{b:T3}(ha:R3 m a)(hb:R3 m b):R3 (m+1) (mi (pl a b) al):=by
 have e:2^(m+1)=2*2^m:=by rw[Jo];omega
 have:=ha.a;have:=ha.b;have:=ha.c;have:=hb.a;have:=hb.b;have:=hb.c;refine⟨?_,?_,?_⟩<;>(simp only[pl,mi,al];rw[e];omega)
theorem R4{m:Nat}{b:T3}(ha:R3 m a)(hb:R3 m b):R3 (m+1) (pl al (mi b a)):=by
 have e:2^(m+1)=2*2^m:=by rw[Jo];omega
 have:=ha.a;have:=ha.b;have:=ha.c;have:=hb.a;have:=hb.b;have:=hb.c;refine⟨?_,?_,?_⟩<;>(simp only[pl,mi,al];rw[e];omega)
theorem wG(m:Nat):R3 (m+1) al:=by
 have:=JK (n:=m);have e:2^(m+1)=2*2^m:=by rw[Jo];omega
 refine⟨?_,?_,?_⟩<;>(simp only[al];rw[e];omega)
theorem GH(m:Nat):R3 (m+1) z0:=by
 have:=JK (n:=m);have e:2^(m+1)=2*2^m:=by rw[Jo];omega
 refine⟨?_,?_,?_⟩<;>(simp only[z0];rw[e];omega)
theorem GI(k m:Nat):R3 (m+1) (lft k):=by
 have:=JK (n:=m);have e:2^(m+1)=2*2^m:=by rw[Jo];omega
 unfold lft;split
 .refine⟨?_,?_,?_⟩<;>(simp only[];rw[e];omega)
 .split
  .refine⟨?_,?_,?_⟩<;>(simp only[];rw[e];omega)
  .split<;>(refine⟨?_,?_,?_⟩<;>(simp only[];rw[e];omega))
def Row.Ok(n:Nat):Row->Prop
 | .lf k=>k<4
 | .nt i=>i<n
 | .fd k i j=>k<5/\i<n/\j<n
theorem qj(h:Rb rs){i:Nat}(hi:i<rs.length):R3 rs.length (rs.getD i z0):=by
 have e:rs[i]?=some (rs.getD i z0):=by rw[A3,c9 hi];rfl
 exact(h i _ e).mono (by omega)
theorem lE(h:Rb rs)(ok:r.Ok rs.length):R3 (rs.length+1) (choice rs r).1/\R3 (rs.length+1) (choice rs r).2.1/\R3 (rs.length+1) (choice rs r).2.2:=by
 cases r with
 | lf k=>exact⟨GH _,GI k _,GI k _⟩
 | nt i =>
  have a:=qj h ok;have l0:∃m,rs.length=m+1:=⟨rs.length-1,by have:i<rs.length:=ok;omega⟩;obtain⟨m,em⟩:=l0;have o:R3 rs.length al:=by rw[em];exact wG m
  exact⟨GH _,vh o a,vh o a⟩
 | fd k i j =>
  obtain⟨_,hi,hj⟩:=ok;have a:=qj h hi;have b:=qj h hj;show R3 _ (fch k _ _).1/\R3 _ (fch k _ _).2.1/\R3 _ (fch k _ _).2.2;unfold fch;split
  .exact⟨Ar a b,Vf a b,wG _⟩
  .split
   .exact⟨Ar a b,GH _,Ar a b⟩
   .split
    .exact⟨vh a b,b.mono (by omega),a.mono (by omega)⟩
    .split
     .exact⟨vh a b,a.mono (by omega),b.mono (by omega)⟩
     .exact⟨vh b a,R4 a b,wG _⟩
theorem wD(h:Rb rs)(hx:R3 (rs.length+1) x):Rb (rs++[x]):=λi y e=>by
 rcases B5 i rs.length with z | z
 .rw[B8 z]at e;exact h i y e
 .rw[G3 z]at e
  have:i-rs.length=0:=by
   rcases Jw (i-rs.length) with q | q
   .exact q
   .rw[List.getElem?_eq_none (by simp;omega)]at e;cases e
  rw[this]at e;cases e
  rw[show i=rs.length by omega];exact hx
theorem tT(hb:Rb rs)(ok:r.Ok rs.length)(e:bo h (choice rs r)=some x):R3 (rs.length+1) x:=by
 obtain⟨_,b1,b2⟩:=lE hb ok;unfold bo at e;split at e
 .cases e;exact b1
 .split at e
  .cases e;exact b2
  .cases e
end Hu
end Mine
set_option maxHeartbeats 1000000
namespace Mine
variable{s:Int}{p:T3}{j bb d:Nat}{Ls:List (List Row)}{L:List (List T3)}
namespace Hu
theorem fD(H:HK h):∀c∈fl (stp h t) h.length,eW h c:=λc hc=>by
 have ok:=H.cok;have n3:=H.n3;obtain⟨i,hi,hx⟩:=sub_one hc;unfold stp at hx;rcases j9.mp hx with z | z
 .split at z
  .rw[d7.mp z];exact dS (cD (by omega) i)
  .cases z
 .split at z
  .rename_i c0;rw[d7.mp z];intro f hf;obtain⟨g,x,y,g0,x0,y0,e1,e2,e3⟩:=(pJ (ok i) (ok (i+1)) c0).ex;have a1:=hf _ (cD (show 0<h.length by omega) i);have a2:=hf _ (cD (show 0<h.length by omega) (i+1))
   have e:g*tl f (mid (cor h i) (cor h (i+1)) (t i) (t (i+1)))=x*tl f (cor h i)+y*tl f (cor h (i+1)):=by
    have:g*tl f (mid (cor h i) (cor h (i+1)) (t i) (t (i+1)))=f.u*(g*(mid (cor h i) (cor h (i+1)) (t i) (t (i+1))).v)+f.v*(g*(mid (cor h i) (cor h (i+1)) (t i) (t (i+1))).w)+f.w*(g*(mid (cor h i) (cor h (i+1)) (t i) (t (i+1))).u):=by simp only[tl];grind
    rw[this,e1,e2,e3];simp only[tl];grind
   have m1:=A0 x0 a1;have m2:=A0 y0 a2;exact mW g0 (by rw[e];omega)
  .cases z
theorem vk(W:Wk h t r X)(et:∀i,t i=s*tl r (cor h i)):∀c∈fl (stp h t) h.length,s*tl r c<=0:=λc hc=>by
 obtain⟨i,hi,hx⟩:=sub_one hc;unfold stp at hx;rcases j9.mp hx with z | z
 .split at z
  .rename_i c0;rw[d7.mp z,<- et i];exact c0
  .cases z
 .split at z
  .rename_i c0;rw[d7.mp z];have:=W.ml i c0;have e:tl r (mid (cor h i) (cor h (i+1)) (t i) (t (i+1)))=0:=this;rw[e];omega
  .cases z
theorem Fs(H:HK h)(hp:p∈h)(hq:q∈h)(p0:tl r p<0)(q0:0<tl r q):∃X,Wk h (tv r h) r X/\Wk h (tn r h) r X:=by
 have ok:=H.cok
 have nz:r.u≠0\/r.v≠0\/r.w≠0:=by
  rcases Kc (r.u=0) with z1 | z1
  .rcases Kc (r.v=0) with z2 | z2
   .refine .inr (.inr λz3=>?_);unfold tl at p0;rw[z1,z2,z3]at p0;omega
   .exact .inr (.inl z2)
  .exact .inl z1
 have xs:∃X:T3,0<X.u/\tl r X=0:=by
  refine⟨⟨tl r q*p.u + -(tl r p)*q.u,tl r q*p.v + -(tl r p)*q.v,tl r q*p.w + -(tl r p)*q.w⟩,?_,?_⟩
  .show 0<tl r q*p.u + -(tl r p)*q.u;have:=G7 q0 (H.ok p hp).n0;have:=G7 (show 0 < -(tl r p) by omega) (H.ok q hq).n0;omega
  .show r.u*(tl r q*p.v + -(tl r p)*q.v)+r.v*(tl r q*p.w + -(tl r p)*q.w)+r.w*(tl r q*p.u + -(tl r p)*q.u)=0;simp only[tl];grind
 obtain⟨X,xu,xl⟩:=xs;obtain⟨W1,W2⟩:=Fq ok nz xu xl;exact⟨X,W1,W2⟩
theorem pC:∀rows rs (k:Nat) t,run h rows rs=.mixed k t->(∃q∈h,0<tl t q)/\∃q∈h,tl t q<0
 | [],rs,k,t,e=>by cases e
 | r::rest,rs,k,t,e=>by
  unfold run at e;cases q:bo h (choice rs r) with
  | some x=>rw[q]at e;exact pC rest _ k t e
  | none =>
   rw[q]at e;injection e with e1 e2
   rw[<- e2];exact jd q
theorem pI{k:Nat}(e:run h rows []=.mixed k t):¬hX t h:=λz=>by
 obtain⟨⟨a,ha,a0⟩,b,hb,b0⟩:=pC rows [] k t e;rcases z with z | z
 .have:=z b hb;omega
 .have:=z a ha;omega
noncomputable def Sx:Row->Bool
 | .fd _ _ _=>true
 | _=>false
noncomputable def fds(rows:List Row):Nat:=rows.countP Sx
theorem sX{h:List T3}:∀rows rs (k:Nat) t,run h rows rs=.mixed k t->∃i r,rows[i]?=some r/\k=rs.length+i/\Sx r=true
 | [],rs,k,t,e=>by cases e
 | r::rest,rs,k,t,e=>by
  unfold run at e;cases q:bo h (choice rs r) with
  | some x =>
   rw[q]at e;obtain⟨i,r',h1,h2,h3⟩:=sX rest _ k t e;exact⟨i+1,r',by simpa using h1,by rw[h2,c8,G9];omega,h3⟩
  | none =>
   rw[q]at e;injection e with e1 e2
   refine⟨0,r,rfl,by omega,?_⟩;cases r with
   | fd _ _ _=>rfl
   | lf k' =>
    obtain⟨⟨a,_,a0⟩,_⟩:=jd q;have:tl z0 a=0:=pY a;have a0':0<tl z0 a:=a0;omega
   | nt i =>
    obtain⟨⟨a,_,a0⟩,_⟩:=jd q;have:tl z0 a=0:=pY a;have a0':0<tl z0 a:=a0;omega
theorem IC{rows:List Row}{k:Nat}{r:Row}(h:rows[k]?=some r)(f:Sx r=true):fds (rows.drop k)=fds (rows.drop (k+1))+1:=by
 have hk:k<rows.length:=(d6.mp h).1
 have e:rows.drop k=r::rows.drop (k+1):=by
  rw[C9 hk];rw[c9 hk]at h;cases h
  rfl
 rw[e];unfold fds;rw[List.countP_cons_of_pos f]
theorem tN{rows:List Row}{i:Nat}(h:i<=j):fds (rows.drop j)<=fds (rows.drop i):=by
 have e:rows.drop j=(rows.drop i).drop (j-i):=by rw[List.drop_drop];congr 1;omega
 rw[e];exact(K5 _ _).countP_le
theorem QA{h:List T3}:∀rows rs,Rb rs->(∀(i:Nat) r,rows[i]?=some r->r.Ok (rs.length+i))->(∀k t,run h rows rs=.mixed k t->R3 (k+1) t)/\∀out,run h rows rs=.rules out->Rb out/\out.length=rs.length+rows.length
 | [],rs,hb,_=>⟨λk t e=>(by cases e),λout e=>(by cases e;exact⟨hb,by simp⟩)⟩
 | r::rest,rs,hb,ok=>by
  have o0:r.Ok rs.length:=by have:=ok 0 r rfl;rwa [Nat.add_zero]at this
  have cb:=lE hb o0;cases q:bo h (choice rs r) with
  | none =>
   refine⟨λk t e=>?_,λout e=>?_⟩
   .unfold run at e;rw[q]at e;injection e with e1 e2
    rw[<- e2,<- e1];exact cb.1
   .unfold run at e;rw[q]at e;cases e
  | some x =>
   have hx:=tT hb o0 q;obtain⟨i1,i2⟩:=QA (h:=h) rest (rs++[x]) (wD hb hx) (λi r' hr=>by have:=ok (i+1) r' (by simpa using hr);rw[c8,G9];rwa [show rs.length+1+i=rs.length+(i+1) by omega]);refine⟨λk t e=>?_,λout e=>?_⟩
   .unfold run at e;rw[q]at e;exact i1 k t e
   .unfold run at e;rw[q]at e;obtain⟨j1,j2⟩:=i2 out e;exact⟨j1,by rw[j2,c8,G9,m6];omega⟩
inductive Tc where
 | leaf
 | cut (r:T3) (l g:Tc)
noncomputable def Tc.iV:Tc->Nat
 | .leaf=>0
 | .cut _ l g=>1+l.iV+g.iV
end Hu
namespace Hu
theorem iV(H:MN bb h)(hr:R3 bb r)(n:¬hX r h):Cut bb h r:=by
 have a:∃p∈h,tl r p<0:=KS λz=>n (.inl λp hp=>by
  rcases A8 (tl r p) 0 with y | y
  .exact absurd ⟨p,hp,y⟩ z
  .exact y)
 have b:∃p∈h,0<tl r p:=KS λz=>n (.inr λp hp=>by
  rcases A8 0 (tl r p) with y | y
  .exact absurd ⟨p,hp,y⟩ z
  .exact y)
 obtain⟨p,hp,p0⟩:=a;obtain⟨q,hq,q0⟩:=b;exact Dm H hr hp hq p0 q0
namespace Tc
noncomputable def deep:Tc->Nat
 | leaf=>0
 | cut _ l g=>max l.deep g.deep+1
noncomputable def size:Tc->Nat
 | leaf=>1
 | cut _ l g=>l.size+g.size+1
def Sm(b:Nat):Tc->Prop
 | leaf=>True
 | cut r l g=>R3 b r/\l.Sm b/\g.Sm b
theorem Sm.mono{a b:Nat}(h:a<=b):∀{t:Tc},t.Sm a->t.Sm b
 | leaf,_=>trivial
 | cut r l g,⟨x,y,z⟩=>⟨x.mono h,Sm.mono h y,Sm.mono h z⟩
theorem size_pos:∀t:Tc,0<t.size
 | leaf=>by decide
 | cut _ l g=>by simp only[size];omega
theorem size_le:∀{t:Tc}{d:Nat},t.deep<=d->t.size+1<=2^(d+1)
 | leaf,d,_=>by
  have:=JK (n:=d);simp only[size];rw[Jo];omega
 | cut r l g,0,h=>by simp only[deep]at h;omega
 | cut r l g,d+1,h=>by
  simp only[deep]at h;have a:=size_le (t:=l) (d:=d) (by omega);have b:=size_le (t:=g) (d:=d) (by omega);simp only[size];rw[Jo];omega
open Classical in
noncomputable def told:Tc->List T3->Option (List (List T3))
 | leaf,h=>some [h]
 | cut r l g,h=>if hX r h then none else match l.told (low r h),g.told (high r h) with
  | some a,some b=>some (a++b)
  | _,_=>none
theorem fN:∀{t:Tc}{h:List T3}{L:List (List T3)},MN bb h->t.Sm bb->t.told h=some L->∀g∈L,MN bb g/\g.length<=h.length+t.deep
 | leaf,h,L,H,_,e,g,hg=>by
  cases e
  rw[d7.mp hg];exact⟨H,F0 _ _⟩
 | cut r l g,h,L,H,sm,e,x,hx=>by
  unfold told at e;split at e
  .cases e
  .rename_i nc;have c:=Hu.iV H sm.1 nc;cases ea:l.told (low r h) with
   | none=>rw[ea]at e;cases e
   | some a=>cases eb:g.told (high r h) with
    | none=>rw[ea,eb]at e;cases e
    | some b =>
     rw[ea,eb]at e;cases e
     have l1:=c.ll;have l2:=c.lh;rcases j9.mp hx with z | z
     .have:=fN c.lo sm.2.1 ea x z;exact⟨this.1,by simp only[deep];have:=this.2;omega⟩
     .have:=fN c.hi sm.2.2 eb x z;exact⟨this.1,by simp only[deep];have:=this.2;omega⟩
noncomputable def fe:List (Tc×List T3)->Option (List (List T3))
 | []=>some []
 | (t,h)::r=>match t.told h,fe r with
  | some a,some b=>some (a++b)
  | _,_=>none
theorem zZ(h:List T3)(r:List (Tc×List T3)):fe ((leaf,h)::r)=(fe r).map (h::·):=by
 simp only[fe,told];cases fe r<;>rfl
theorem Fw(n:hX q h)(r:List (Tc×List T3)):fe ((cut q l g,h)::r)=none:=by
 simp only[fe,told,d8 n]
theorem DC(n:¬hX q h)(r:List (Tc×List T3)):fe ((cut q l g,h)::r)=fe ((l,low q h)::(g,high q h)::r):=by
 simp only[fe,told,i5 n];cases l.told (low q h) with
 | none=>rfl
 | some a=>cases g.told (high q h) with
  | none=>cases fe r<;>rfl
  | some b=>cases fe r with
   | none=>rfl
   | some c=>simp only[w6]
end Tc
theorem Gs:∀rows rs (k:Nat) t,run h rows rs=.mixed k t->rs.length<=k
 | [],rs,k,t,e=>by cases e
 | r::rest,rs,k,t,e=>by
  unfold run at e;cases q:bo h (choice rs r) with
  | some x =>
   rw[q]at e;have:=Gs rest _ k t e;rw[c8]at this;exact Nat.le_of_succ_le this
  | none=>rw[q]at e;injection e with e1 _;omega
theorem Bp(h:(∀q∈g,tl c.1 q<=0)\/∀q∈g,0<=tl c.1 q):∃x,bo g c=some x:=by
 unfold bo;split
 .exact⟨_,rfl⟩
 .rename_i n;rcases h with z | z
  .exact absurd z n
  .rw[d8 z];exact⟨_,rfl⟩
theorem zr(e:bo h c=some x):(∀q∈h,tl c.1 q<=0)\/∀q∈h,0<=tl c.1 q:=by
 unfold bo at e;split at e
 .rename_i z;exact .inl z
 .split at e
  .rename_i z;exact .inr z
  .cases e
theorem Cr(s:∀c∈g,eW h c):∀rows rs Mg,rs.length=Mg.length->(∀p,eW g p->M3 rs p=M3 Mg p)->∀k' t',run g rows Mg=.mixed k' t'->∃k t,run h rows rs=.mixed k t/\k<=k'
 | [],rs,Mg,_,_,k',t',e'=>by cases e'
 | r::rest,rs,Mg,el,et,k',t',e'=>by
  have tt:∀c∈g,tl (choice rs r).1 c=tl (choice Mg r).1 c:=λc hc=>by rw[gG,gG,et c (dS hc)]
  cases q:bo h (choice rs r) with
  | none =>
   refine⟨rs.length,(choice rs r).1,by unfold run;rw[q],?_⟩;rw[el];exact Gs _ _ _ _ e'
  | some x =>
   have sg:(∀c∈g,tl (choice Mg r).1 c<=0)\/∀c∈g,0<=tl (choice Mg r).1 c:=by
    rcases zr q with z | z
    .exact .inl λc hc=>by rw[<- tt c hc];exact(s c hc).le z
    .exact .inr λc hc=>by rw[<- tt c hc];exact(s c hc) _ z
   obtain⟨x',q'⟩:=Bp sg;unfold run at e';rw[q']at e';obtain⟨k,t,e,l⟩:=Cr s rest (rs++[x]) (Mg++[x']) (by simp[el]) (λp C=>by rw[nK,nK,et p C,gj q (C.sub s),gj q' C,et p C]) k' t' e';exact⟨k,t,by unfold run;rw[q];exact e,l⟩
noncomputable def need(h:List T3)(rows:List Row):Nat:=match run h rows []with
 | .rules _=>0
 | .mixed k _=>fds (rows.drop k)
theorem need_le(h:List T3)(rows:List Row):need h rows<=fds rows:=by
 unfold need;split
 .exact y7 _
 .rename_i k t _;have:=tN (rows:=rows) (y7 k);simpa using this
theorem yM(s:∀c∈g,eW h c)(rows:List Row):need g rows<=need h rows:=by
 unfold need;cases e:run g rows []with
 | rules rs=>exact y7 _
 | mixed k' t' =>
  obtain⟨k,t,e2,l⟩:=Cr s rows [] [] rfl (λ_ _=>rfl) k' t' e;rw[e2];exact tN l
theorem yN(s:∀c∈g,eW h c){rows:List Row}{k:Nat}(e:run h rows []=.mixed k t)(hs:(∀c∈g,tl t c<=0)\/∀c∈g,0<=tl t c):need g rows+1<=need h rows:=by
 obtain⟨i,r,hr,ek,fr⟩:=sX rows [] k t e;have ek:k=i:=by rw[ek];simp
 subst ek;have fk:=IC hr fr;unfold need;rw[e];cases e':run g rows []with
 | rules rs=>show 0+1<=fds (rows.drop k);omega
 | mixed k' t' =>
  have:=yq s rows [] [] rfl (λ_ _=>rfl) k t e hs k' t' e';have:=tN (rows:=rows) (show k+1<=k' by omega);show fds (rows.drop k')+1<=fds (rows.drop k);omega
structure TnL(Ls:List (List Row))(d:Nat)(h:List T3):Prop where
 hk:HK h
 ln:h.length+d<=20
 nd:(Ls.map (need h)).sum<=d
theorem Ae{α:Type}{f g:α->Nat}:∀(l:List α),(∀x∈l,f x<=g x)->(l.map f).sum<=(l.map g).sum
 | [],_=>c7 _
 | a::l,h=>by
  have:=h a x8;have:=Ae l λx hx=>h x (y8 _ hx);simp only[A5,List.sum_cons];omega
theorem Ad{α:Type}{f g:α->Nat}:∀(l:List α){x:α},(∀x∈l,f x<=g x)->x∈l->f x+1<=g x->(l.map f).sum+1<=(l.map g).sum
 | a::l,x,h,hx,k=>by
  have h1:=h a x8;have h2:=λx hx=>h x (y8 a hx);simp only[A5,List.sum_cons];rcases j6.mp hx with rfl | z
  .have:=Ae l h2;omega
  .have:=Ad l h2 z k;omega
theorem TnL.cut{h:List T3}(T:TnL Ls d h){rows:List Row}(hm:rows∈Ls)(ok:∀(i:Nat)(r:Row),rows[i]?=some r->r.Ok i)(few:rows.length<=60){k:Nat}{t:T3}(e:run h rows []=.mixed k t):R3 61 t/\∃d',d=d'+1/\TnL Ls d' (low t h)/\TnL Ls d' (high t h):=by
 obtain⟨i,r,hr,ek,fr⟩:=sX rows [] k t e;have ek:k=i:=by rw[ek];simp
 subst ek;have hk:k<rows.length:=(d6.mp hr).1;have bt:R3 61 t:=((QA (h:=h) rows [] (λ_ _ z=>by simp at z) (λi r hr=>by simpa using ok i r hr)).1 k t e).mono (by omega);obtain⟨⟨p2,LO,QW⟩,p1,Mi,Ut⟩:=pC rows [] k t e;have cut:=Dm T.hk (bt.mono (by decide)) Mi LO Ut QW;obtain⟨X,W1,W2⟩:=Fs T.hk Mi LO Ut QW;have e1:∀i,tv t h i=1*tl t (cor h i):=λi=>(Lw _).symm;have e2:∀i,tn t h i = -1*tl t (cor h i):=λi=>by show-tl t _=_;omega
 have t1:=vk W1 e1;have t2:=vk W2 e2;have c1:∀c∈low t h,eW h c:=fD T.hk;have c2:∀c∈high t h,eW h c:=fD T.hk;have l1:=cut.ll;have l2:=cut.lh;have ln:=T.ln;have nd:=T.nd;have n1:=Ad (f:=need (low t h)) (g:=need h) Ls (λx _=>yM c1 x) hm (yN c1 e (.inl λc hc=>by have:=t1 c hc;omega));have n2:=Ad (f:=need (high t h)) (g:=need h) Ls (λx _=>yM c2 x) hm (yN c2 e (.inr λc hc=>by have:=t2 c hc;omega));exact⟨bt,d-1,by omega,⟨cut.lo,by omega,by omega⟩,⟨cut.hi,by omega,by omega⟩⟩
end Hu
namespace Hu
theorem xk(hx:x∈f j):∀{n:Nat},j<n->x∈fl f n
 | 0,h=>absurd h (Nat.not_lt_zero _)
 | n+1,h=>by
  rw[bD];rcases B5 j n with z | z
  .exact B2 _ (xk hx z)
  .have e:j=n:=by omega
   subst e;exact p8 _ hx
theorem Po(hc:c∈h)(n:tl r c<=0):c∈low r h:=by
 obtain⟨j,hj,ej⟩:=E9.mp hc;refine xk (j:=j) ?_ hj;have e:cor h j=c:=(cK hj).trans ej;unfold stp;rw[d8 (show tv r h j<=0 by unfold tv;rw[e];exact n),e];exact B2 _ x8
theorem Ih(hc:c∈h)(n:0<=tl r c):c∈high r h:=by
 obtain⟨j,hj,ej⟩:=E9.mp hc;refine xk (j:=j) ?_ hj;have e:cor h j=c:=(cK hj).trans ej;unfold stp;rw[d8 (show tn r h j<=0 by unfold tn;rw[e];omega),e];exact B2 _ x8
theorem Sf(h1:¬hX r h):(∃p∈h,tl r p<0)/\∃p∈h,0<tl r p:=by
 constructor
 .refine B3 λz=>h1 (.inl λp hp=>?_);refine B3 λy=>z ⟨p,hp,by omega⟩
 .refine B3 λz=>h1 (.inr λp hp=>?_);refine B3 λy=>z ⟨p,hp,by omega⟩
theorem xf(H:HK h)(hr:R3 64 r)(n:¬hX r h)(P:Ins h p):(tl r p<=0->Ins (low r h) p)/\(0<=tl r p->Ins (high r h) p):=by
 obtain⟨⟨a,ha,a0⟩,b,hb,b0⟩:=Sf n;obtain⟨X,W1,W2⟩:=Fs H ha hb a0 b0;have C:=iV H hr n;refine⟨λz=>?_,λz=>?_⟩
 .exact zd (s:=1) H W1 (by show tl r (cor h h.length)=tl r (cor h 0);rw[cE]) (.inl rfl) (λi=>(Lw _).symm) C.lo.n3 C.lo.tri (Po ha (z5 a0)) (by omega) P (by omega)
 .exact zd (s:=-1) H W2 (by show-tl r (cor h h.length) = - tl r (cor h 0);rw[cE]) (.inr rfl) (λi=>by show-tl r (cor h i) = -1*tl r (cor h i);omega) C.hi.n3 C.hi.tri (Ih hb (z5 b0)) (by omega) P (by omega)
theorem cover:∀{t:Tc}{h:List T3}{L:List (List T3)}{p:T3},HK h->t.Sm 64->t.told h=some L->Ins h p->∃g∈L,Ins g p
 | .leaf,h,L,p,_,_,e,P=>by
  cases e
  exact⟨h,x8,P⟩
 | .cut r l k,h,L,p,H,sm,e,P=>by
  unfold Tc.told at e;split at e
  .cases e
  .rename_i nc;have c:=iV H sm.1 nc;have I:=xf H sm.1 nc P;cases ea:l.told (low r h) with
   | none=>rw[ea]at e;cases e
   | some a=>cases eb:k.told (high r h) with
    | none=>rw[ea,eb]at e;cases e
    | some b =>
     rw[ea,eb]at e;cases e
     rcases Ll (tl r p) 0 with z | z
     .obtain⟨g,hg,q⟩:=cover c.lo sm.2.1 ea (I.1 z);exact⟨g,B2 _ hg,q⟩
     .obtain⟨g,hg,q⟩:=cover c.hi sm.2.2 eb (I.2 z);exact⟨g,p8 _ hg,q⟩
theorem Bb(v0:0<=p.v)(v1:p.v<=p.u)(w0:0<=p.w)(w1:p.w<=p.u):Ins sqH p:=by
 intro i hi;have hi:i<4:=hi;rcases(by omega:i=0\/i=1\/i=2\/i=3) with rfl | rfl | rfl | rfl
 .show 0<=det ⟨1,0,0⟩ ⟨1,1,0⟩ p;simp only[det];omega
 .show 0<=det ⟨1,1,0⟩ ⟨1,1,1⟩ p;simp only[det];omega
 .show 0<=det ⟨1,1,1⟩ ⟨1,0,1⟩ p;simp only[det];omega
 .show 0<=det ⟨1,0,1⟩ ⟨1,0,0⟩ p;simp only[det];omega
theorem IQ{t:Tc}(sm:t.Sm 64)(e:t.told sqH=some L)(v0:0<=p.v)(v1:p.v<=p.u)(w0:0<=p.w)(w1:p.w<=p.u):∃g∈L,eW g p:=by
 obtain⟨g,hg,I⟩:=cover iu sm e (Bb v0 v1 w0 w1);have hk:=(Tc.fN iu sm e g hg).1;exact⟨g,hg,oA hk.tri hk.n3 I⟩
theorem nv{a b:Int}(h:∀c∈g,a*c.u<=tl r c*b)(C:eW g p):a*p.u<=tl r p*b:=by
 have e:∀q:T3,tl ⟨r.u*b,r.v*b,r.w*b-a⟩ q=tl r q*b-a*q.u:=λq=>by simp only[tl];grind
 have z:=C ⟨r.u*b,r.v*b,r.w*b-a⟩ λc hc=>by rw[e];have:=h c hc;omega
 rw[e]at z;omega
end Hu
end Mine
set_option maxHeartbeats 4000000
namespace L2
open PySem PySem.Spec PyProof.Rows
variable{X:Cx}{s:Stmt}{n:Nat}
def UR:TS:=λ_ _ _=>False
theorem O3:PS X s UR:=λ_ _ _ _ _ _ h=>h.elim
theorem ES(hc:X.calm=true):gy X (.builtin "sum") (λxs H Q=>∃(l:Addr)(ns:List Int),xs=[.ref l]/\LA X.K H l (ns.map V.int)/\Q (.int ns.sum) H):=by
 intro Ly s σ H xs us Q I r h;obtain⟨l,ns,rfl,hq,q⟩:=h;obtain⟨u,rfl,rx⟩:=vals1 r;cases rx
 obtain⟨its,rv,pl,_⟩:=I.list hq;have hi:IntsAre its ns:=intsAre_of rv;have hl:=pl.isList;obtain⟨ys,e⟩:=hi.allInts.items;have en:ns=ys.toList.map (·.1):=by rw[<- hi.numsOf,<- Kk,<- e]
 rw[e]at hl;refine sum_intListG (I.ok.hd hc) hl λh' tk t' hk=>?_;have es:preSum (numAt ys) ys.size=ns.sum:=by rw[preSum_eq,<- en,List.take_of_length_le (by rw[en];simp)]
 rw[es];exact⟨.int ns.sum,H,I.kept hk,⟨t',rfl⟩,q⟩
section
variable{X:Cx}{Ly:List (Addr×Obj)}{σ:St}{H:Hp}{s:Shared}{scope:Scope}{cl:List (Str×Addr)}{x:Str}{js:List Nat}{fp:List Addr}
end
section
variable{X:Cx}{elt LH:Expr}{x:Str}{px pos:Pos}{ifs:List Expr}{scope:Scope}{cl:List (Str×Addr)}{wi:TI}{tc:TT}{te:TE}{js:List Nat}
end
open PySem.Calls PySem.W
section
variable{P:Program}{w:World}{K:W.Frag}{mg:Str->Option Value}{base:Heap}{N:List Str}{qual:Str}{scope:Scope}{f:Addr}{cd:Value}{A:Around}{outer:List Env}{s:Shared}{H:Hp}{E:XK}
theorem Hc:Passes (Mw P w) (cN (Mw P w) P w K mg base N qual scope f cd A outer s H E) E:=by
 intro Ly σ H1 s1 e s' I hq;obtain⟨ea,C,H2,rfl,⟨t,B,ho,hgn,un,hok,fl,h0,h1,Ux⟩,q⟩:=hq;have Mc:∀b o,s.heap.get? b=some o->∃o',s1.heap.get? b=some o':=λb o z=>I.base.there b o z (λz=>nomatch z);show wpAny (model P w) (A.deeper (envOfC qual scope s.heap.objs.size f cd)) (leaving (envOfC qual scope s.heap.objs.size f cd) (.ref ea)) _ _ _;refine wpAny_leaves_onW I.ok.frames rfl fl λg Z7 up=>?_;have I2:Inv (cN (Mw P w) P w K mg base N qual scope f cd A outer s H E) Ly σ H2 {s' with heap:=g,toks:=s'.toks}:=I.caught (C:=C) (ea:=ea) (t:=ea) ho hgn un hok Ux Z7.1 up
 have new:s.heap.get? ea=none:=by
  cases z:s.heap.get? ea with
  | none=>rfl
  | some o=>obtain⟨o',e'⟩:=Mc ea o z;rw[h1]at e';cases e'
 refine⟨ea,C,H2,rfl,⟨t,B,I2.os,I2.bare,I2.base,I2.hok,Z7,h0,new,λb o z n hb=>?_⟩,q⟩
 have nf:b ∉ L9 (envOfC qual scope s.heap.objs.size f cd::outer):=λk=>by
  rcases hb with⟨u,hu⟩ | ⟨o',MQ⟩
  .have:=I2.stkFree b k;rw[hu]at this;cases this
  .exact(j6.mp (I.stkSub b k)).elim (λy=>absurd (i7 (p5 MQ) I.ok.above) (by rw[y];exact B9 _)) n
 have key:(∃o1,s'.heap.get? b=some o1)/\((∃u,H2 b=some u)\/∃o',s1.heap.get? b=some o'):=by
  rcases hb with⟨u,hu⟩ | ⟨o',MQ⟩
  .exact⟨(hok b u hu).there,.inl ⟨u,hu⟩⟩
  .obtain⟨o2,e2⟩:=Mc b o' MQ;exact⟨un.there b o2 e2 (λz=>nomatch z),.inr ⟨o2,e2⟩⟩
 obtain⟨⟨o1,e1⟩,k2⟩:=key;have e2:=Ux b o1 e1 nf k2;have e3:=Z7.1 b o1 e2;have e4:some o=some o1:=z.symm.trans e3;cases e4
 exact e2
theorem O8(D:xE P w K mg base n x ps sp)(hr:dY n (cN (Mw P w) P w K mg base N qual scope f cd A outer s H E).A)(hg:Gl (cN (Mw P w) P w K mg base N qual scope f cd A outer s H E) x)(ha:PA (cN (Mw P w) P w K mg base N qual scope f cd A outer s H E) (e::es) t)
  (hdb:(x==("__debug__":Str))=false:=by decide)(he:starEach (e::es) (envOfC qual scope s.heap.objs.size f cd)=(false,eval e (envOfC qual scope s.heap.objs.size f cd))::starEach es (envOfC qual scope s.heap.objs.size f cd):=by rfl)(hpl:(backTo pos (starEach es (envOfC qual scope s.heap.objs.size f cd))).any (·.1)=false:=by rfl) :
  PE (cN (Mw P w) P w K mg base N qual scope f cd A outer s H E) (.Call (.Name x p) (e::es) [] pos) (rn sp [] E t):=by
 obtain⟨g,fd,F,b,kp,m⟩:=D.ex;exact wN F hr hg m kp b .nil Hc ha hdb he hpl
end
variable{X:Cx}
noncomputable def plainArg(e:Expr):Bool:=match e with
 | .Starred _ _=>false
 | _=>true
theorem jL(h:plainArg e=true):starEach (e::es) env=(false,eval e env)::starEach es env:=by
 cases e<;>first | rfl | cases h
theorem paS(ha:PE X e te)(hr:PA X es t)(h:plainArg e=true:=by rfl):PA X (e::es) (eZ te t):=aa ha hr (jL h)
section
variable{prog:Program}{w:World}{A:Around}{E:Value->Shared->Prop}{h:Heap}{g:Array GenState}{d:Drawn}{t:Nat}{os:OsState}
variable{C fI:Addr}{bmB:List Value}{B newId Zn:String}
end
section
variable{M:Model}{A:Around}{E:Value->Shared->Prop}{s:Shared}{base:Heap}{env:Env}{outer l:List Env}{L e:Addr}{cl fl:Value}{dc:Option Addr}{Q:Unit->Shared->Prop}
end
open PySem.Builtin PySem.Builtin.ObjectAttr
section
variable{prog:Program}{w:World}{A:Around}{s:Shared}{K:Frag}{x C:Addr}{ox:Obj}{od:Option Obj}{name:Str}{v:Value}
end
section
variable{P:Program}{w:World}{H:Hp}{h:Heap}{e C d:Addr}{dc:Option Addr}{fs:List (Str×V)}
end
section
variable{X:Cx}{Ly:List (Addr×Obj)}{σ:St}{H:Hp}{s:Shared}{a C d:Addr}{fs:List (Str×V)}{f:Str}{y:V}{u:Value}{A:Around}{E:Value->Shared->Prop}{Q:Unit->Shared->Prop}
end
section
variable{X:Cx}{k:Nat}{f C:Addr}{fd:FuncData}{ps:List Str}{sp:Sp}{x:Str}{p pos:Pos}{e:Expr}{es:List Expr}{t:TA}
end
section
variable{P:Program}{w:World}{K:W.Frag}{mg:Str->Option Value}{base:Heap}{N:List Str}{qual:Str}{scope:Scope}{f:Addr}{cd:Value}{A:Around}{outer:List Env}{s:Shared}{H:Hp}{E:XK}
end
open PySem.Builtin.Getset_descriptor
section
variable{P:Program}{w:World}{K:W.Frag}{mg:Str->Option Value}{base:Heap}{N:List Str}{qual:Str}{scope:Scope}{f:Addr}{cd:Value}{A:Around}{outer:List Env}{s:Shared}{H:Hp}{E:XK}
end
section
variable{X:Cx}
end
section
variable{P:Program}{w:World}{K:W.Frag}{mg:Str->Option Value}{base:Heap}{N:List Str}{qual:Str}{scope:Scope}{f:Addr}{cd:Value}{A:Around}{outer:List Env}{s:Shared}{H:Hp}{E:XK}
end
section
variable{P:Program}{w:World}{K:W.Frag}{mg:Str->Option Value}{base:Heap}{N:List Str}{qual:Str}{scope:Scope}{f:Addr}{cd:Value}{A:Around}{outer:List Env}{s:Shared}{H:Hp}{E:XK}
end
end L2
namespace Mine
open PySem L2
variable{i n N:Nat}{H1:Hp}{D CN:Addr}{te:TE}{js:List Nat}{σ:St}
noncomputable def top(i:Nat):Stmt:=PySem.Challenge.pw_leansay_k51_always_known.main.body.getD i (.Pass ⟨0,0,0,0⟩)
noncomputable abbrev cI:Stmt:=inClass (top 24) 0
noncomputable abbrev fQ:Stmt:=inClass (top 24) 2
noncomputable abbrev ip:Stmt:=inClass (top 24) 4
noncomputable abbrev fR:Stmt:=inClass (top 24) 6
noncomputable abbrev cX:Stmt:=inClass (top 25) 0
noncomputable abbrev gU:Stmt:=inClass (top 25) 1
noncomputable abbrev cR:Stmt:=inClass (top 26) 0
noncomputable abbrev fU:Stmt:=inClass (top 26) 1
noncomputable abbrev gX:Stmt:=inClass (top 27) 0
noncomputable abbrev bU:Stmt:=inClass (top 27) 1
noncomputable abbrev dk:Stmt:=inClass (top 27) 2
noncomputable abbrev jT:Stmt:=inClass (top 28) 0
noncomputable abbrev gS:Stmt:=inClass (top 28) 1
noncomputable abbrev eA:Stmt:=inClass (top 28) 2
noncomputable abbrev iZ:Stmt:=inClass (top 28) 4
noncomputable abbrev ja:Stmt:=inClass (top 29) 0
noncomputable abbrev fT:Stmt:=inClass (top 29) 1
noncomputable abbrev iz:Stmt:=inClass (top 29) 3
noncomputable abbrev dI:Stmt:=inClass (top 30) 0
noncomputable abbrev gW:Stmt:=inClass (top 30) 1
noncomputable abbrev dJ:Stmt:=inClass (top 31) 0
noncomputable abbrev gY:Stmt:=inClass (top 31) 1
noncomputable abbrev cL:Stmt:=inClass (top 32) 0
noncomputable abbrev eX:Stmt:=inClass (top 32) 1
noncomputable abbrev cQ:Stmt:=inClass (top 33) 0
noncomputable abbrev fo:Stmt:=inClass (top 33) 1
noncomputable abbrev cY:Stmt:=inClass (top 34) 0
noncomputable abbrev fS:Stmt:=inClass (top 34) 1
noncomputable abbrev Qz:Stmt:=fQ
noncomputable abbrev U3:Stmt:=ip
noncomputable abbrev il:Stmt:=top 8
noncomputable abbrev mS:Stmt:=top 9
noncomputable abbrev Am:Stmt:=top 10
noncomputable abbrev oh:Stmt:=top 12
noncomputable abbrev oZ:Stmt:=top 13
noncomputable abbrev fO:Stmt:=top 14
noncomputable abbrev gJ:Stmt:=top 15
noncomputable abbrev kS:Stmt:=top 16
noncomputable abbrev mQ:Stmt:=top 19
noncomputable abbrev iO:Stmt:=top 20
noncomputable abbrev ig:Stmt:=top 21
noncomputable abbrev wm:Stmt:=top 22
noncomputable abbrev jB:Stmt:=top 36
noncomputable abbrev Ap:Stmt:=top 42
noncomputable abbrev oX:Stmt:=top 43
noncomputable abbrev kP:Stmt:=top 44
noncomputable abbrev jj:Stmt:=top 45
noncomputable abbrev kU:Stmt:=top 46
noncomputable abbrev kT:Stmt:=top 47
noncomputable abbrev ib:Stmt:=top 48
noncomputable abbrev mR:Stmt:=top 52
noncomputable abbrev jh:Stmt:=top 53
noncomputable abbrev oY:Stmt:=top 54
noncomputable abbrev pz:Stmt:=top 55
noncomputable abbrev ji:Stmt:=top 57
noncomputable abbrev sH:Stmt:=top 58
noncomputable abbrev jQ:Stmt:=top 59
noncomputable abbrev kW:Stmt:=top 60
noncomputable abbrev ic:Stmt:=top 61
noncomputable abbrev mO:Stmt:=top 62
noncomputable abbrev mM:Stmt:=top 63
noncomputable abbrev jg:Stmt:=top 64
noncomputable abbrev jP:Stmt:=top 65
noncomputable abbrev iP:Stmt:=top 66
noncomputable abbrev DN:Stmt:=top 68
noncomputable abbrev wu:Stmt:=top 68
noncomputable abbrev Gi:Stmt:=top 69
noncomputable abbrev Qy:Stmt:=top 69
noncomputable abbrev An:Stmt:=top 70
noncomputable abbrev lL:Stmt:=top 70
noncomputable abbrev Ao:Stmt:=top 71
noncomputable abbrev Cp:Stmt:=top 71
noncomputable abbrev pw:Stmt:=top 72
noncomputable abbrev Gj:Stmt:=top 73
noncomputable abbrev Gm:Stmt:=top 73
noncomputable abbrev DM:Stmt:=top 74
noncomputable abbrev Gk:Stmt:=top 74
noncomputable abbrev pd:Stmt:=top 75
noncomputable abbrev kR:Stmt:=top 76
noncomputable abbrev pe:Stmt:=top 77
noncomputable abbrev jR:Stmt:=top 78
noncomputable abbrev fP:Stmt:=top 79
noncomputable abbrev wo:Stmt:=top 80
noncomputable abbrev kQ:Stmt:=top 81
noncomputable abbrev pf:Stmt:=top 82
noncomputable abbrev pq:Stmt:=top 83
noncomputable abbrev s_l_holds : Stmt := top 84
noncomputable abbrev ik:Stmt:=top 85
noncomputable abbrev jS:Stmt:=top 86
noncomputable abbrev wq:Stmt:=top 87
noncomputable abbrev pj:Stmt:=top 88
noncomputable abbrev aN:Stmt:=top 89
noncomputable abbrev jC:Stmt:=top 90
noncomputable abbrev sG:Stmt:=top 91
noncomputable abbrev mP:Stmt:=top 92
noncomputable abbrev yp:Stmt:=top 93
noncomputable abbrev sLaw:Stmt:=top 93
variable{P:Program}{w:World}{K:W.Frag}{mg:Str->Option Value}{base:Heap}
theorem sk:aD ["self","name"] ["self","name"] (au gX):=L2.fsc rfl (by decide+kernel)
theorem AI(T:MkF K mg x C "Letter.__init__" gX)(n:gu K C "name"):qC P w K mg base x C 1 ["self","name"] (jN C oE):=by
 refine HR T sk ?_ ?_
 .walk_at "i1"
 walk_at "i2";obtain⟨a,dx,y,rfl,e,q⟩:=h;have nd:=sk.nd;refine⟨_,(aq (wI (pv 0) (pv 1) rfl)),?_⟩;exact⟨_,rfl,_,rfl,a,C,dx,[],rfl,e,T.cl,n,(by show 0<1000;decide),q⟩
theorem Cm:aD ["self","part"] ["self","part"] (au jT):=L2.fsc rfl (by decide+kernel)
theorem Pj(T:MkF K mg x C "Not.__init__" jT)(n:gu K C "part"):qC P w K mg base x C 1 ["self","part"] (jN C lC):=by
 refine HR T Cm ?_ ?_
 .walk_at "i1"
 walk_at "i2";obtain⟨a,dx,y,rfl,e,q⟩:=h;have nd:=Cm.nd;refine⟨_,(aq (wI (pv 0) (pv 1) rfl)),?_⟩;exact⟨_,rfl,_,rfl,a,C,dx,[],rfl,e,T.cl,n,(by show 0<1000;decide),q⟩
theorem yk:aD ["self","one","other"] ["self","one","other"] (au ja):=L2.fsc rfl (by decide+kernel)
theorem Ht(T:MkF K mg x C "Fold.__init__" ja)(n:gu K C "one")(n':gu K C "other"):qC P w K mg base x C 1 ["self","one","other"] (wd C):=by
 refine HR T yk ?_ ?_
 .walk_at "i1"
 walk_at "i2";obtain⟨a,dx,y,z,rfl,e,q⟩:=h;have nd:=yk.nd
 refine⟨_,(ah (wI (pv 0) (pv 1) rfl)
  (aq (wI (pv 0) (pv 2) rfl))),?_⟩
 refine⟨_,rfl,_,rfl,a,C,dx,[],rfl,e,T.cl,n,(by show 0<1000;decide),?_⟩;refine⟨_,rfl,_,rfl,a,C,dx,_,rfl,ae,T.cl,n',(by show 1<1000;decide),?_⟩;rw[GN,qG];exact q
theorem Qu:aD ["self"] ["self"] (au cI):=L2.fsc rfl (by decide+kernel)
theorem CI(T:bH K C "made_of" "Saying.made_of" cI)(ht:t.kids=[]):bF P w K mg base C "made_of" 1 ["self"] (vV c t):=by
 refine bM T Qu ?_ ?_
 .walk_at "i1"
 walk_at "i2";obtain⟨a,rfl,o,q⟩:=h;have nd:=Qu.nd;refine⟨_,(aq (av (bW af))),?_⟩;refine⟨(by show 0<=sizeLine;decide),λl hl=>q l [] hl ?_⟩;rw[ht];exact .nil
theorem Ci:aD ["self"] ["self"] (au gS):=L2.fsc rfl (by decide+kernel)
theorem Ph(T:bH K c.no "made_of" "Not.made_of" gS)(F:Fx K c):bF P w K mg base c.no "made_of" 1 ["self"] (vV c (.no t)):=by
 refine bM T Ci ?_ ?_
 .walk_at "i1"
 walk_at "i2";obtain⟨a,rfl,o,q⟩:=h;have nd:=Ci.nd;refine⟨_,(aq (av (bW (aa (mY (pv 0) rfl) af)))),?_⟩;cases o with
 | no e o =>
  refine⟨_,rfl,a,c.no,_,_,_,rfl,e,T.cl,F.nPart,EA _,(by show 1<=sizeLine;decide),λl hl=>q l _ hl ?_⟩;exact .cons ⟨_,rfl,o⟩ .nil
theorem yf:aD ["self"] ["self"] (au fT):=L2.fsc rfl (by decide+kernel)
theorem Ho(T:bH K (c.fold u) "made_of" "Fold.made_of" fT)(F:Fx K c):bF P w K mg base (c.fold u) "made_of" 1 ["self"] (vV c (.fold u t t')):=by
 refine bM T yf ?_ ?_
 .walk_at "i1"
 walk_at "i2";obtain⟨a,rfl,o,q⟩:=h;have nd:=yf.nd;refine⟨_,(aq (av (bW (aa (mY (pv 0) rfl) (aa (mY (pv 0) rfl) af))))),?_⟩;cases o with
 | fold e o o' =>
  refine⟨_,rfl,a,_,_,_,_,rfl,e,T.cl,F.nOne u,HY _ _,_,rfl,a,_,_,_,_,rfl,e,T.cl,F.nOther u,AX _ _,(by show 2<=sizeLine;decide),λl hl=>q l _ hl ?_⟩;exact .cons ⟨_,rfl,o⟩ (.cons ⟨_,rfl,o'⟩ .nil)
theorem uU:aD ["self"] ["self"] (au cX):=L2.fsc rfl (by decide+kernel)
theorem DV(T:bH K C "making_word" "Never.making_word" cX):bF P w K mg base C "making_word" 1 ["self"] (ia c .never):=by
 refine bM T uU ?_ ?_
 .walk_at "i1"
 walk_at "i2";obtain⟨a,rfl,o,q⟩:=h;have nd:=uU.nd;refine⟨_,(aq (av aR)),?_⟩;exact q
theorem rS:aD ["self"] ["self"] (au cR):=L2.fsc rfl (by decide+kernel)
theorem AE(T:bH K C "making_word" "Always.making_word" cR):bF P w K mg base C "making_word" 1 ["self"] (ia c .always):=by
 refine bM T rS ?_ ?_
 .walk_at "i1"
 walk_at "i2";obtain⟨a,rfl,o,q⟩:=h;have nd:=rS.nd;refine⟨_,(aq (av aR)),?_⟩;exact q
theorem Gf:aD ["self"] ["self"] (au bU):=L2.fsc rfl (by decide+kernel)
theorem Sd(T:bH K c.le "making_word" "Letter.making_word" bU)(F:Fx K c):bF P w K mg base c.le "making_word" 1 ["self"] (ia c .lp):=by
 refine bM T Gf ?_ ?_
 .walk_at "i1"
 walk_at "i2";obtain⟨a,rfl,o,q⟩:=h;have nd:=Gf.nd;refine⟨_,(aq (av (mY (pv 0) rfl))),?_⟩;cases o with
 | lp e=>exact⟨_,rfl,a,_,_,_,_,rfl,e,T.cl,F.nName,lR _,q⟩
theorem Ge:aD ["self"] ["self"] (au bU):=L2.fsc rfl (by decide+kernel)
theorem Sb(T:bH K c.le "making_word" "Letter.making_word" bU)(F:Fx K c):bF P w K mg base c.le "making_word" 1 ["self"] (ia c .lq):=by
 refine bM T Ge ?_ ?_
 .walk_at "i1"
 walk_at "i2";obtain⟨a,rfl,o,q⟩:=h;have nd:=Ge.nd;refine⟨_,(aq (av (mY (pv 0) rfl))),?_⟩;cases o with
 | lq e=>exact⟨_,rfl,a,_,_,_,_,rfl,e,T.cl,F.nName,lR _,q⟩
theorem Cf:aD ["self"] ["self"] (au eA):=L2.fsc rfl (by decide+kernel)
theorem Pf(T:bH K C "making_word" "Not.making_word" eA):bF P w K mg base C "making_word" 1 ["self"] (ia c (.no t)):=by
 refine bM T Cf ?_ ?_
 .walk_at "i1"
 walk_at "i2";obtain⟨a,rfl,o,q⟩:=h;have nd:=Cf.nd;refine⟨_,(aq (av aR)),?_⟩;exact q
theorem yc:aD ["self"] ["self"] (au dI):=L2.fsc rfl (by decide+kernel)
theorem Hj(T:bH K C "making_word" "More.making_word" dI):bF P w K mg base C "making_word" 1 ["self"] (ia c (.fold .more t t')):=by
 refine bM T yc ?_ ?_
 .walk_at "i1"
 walk_at "i2";obtain⟨a,rfl,o,q⟩:=h;have nd:=yc.nd;refine⟨_,(aq (av aR)),?_⟩;exact q
theorem yn:aD ["self","n","first","second"] ["self","n","first","second"] (au gW):=L2.fsc rfl (by decide+kernel)
theorem Hx(T:bH K C "folded" "More.folded" gW)(bS:mg "min"=none):bF P w K mg base C "folded" 1 ["self","n","first","second"] (iM .more):=by
 refine bM T yn ?_ ?_
 .walk_at "i1"
 walk_at "i2";obtain⟨a,n,i,j,rfl,q⟩:=h;have nd:=yn.nd;refine⟨_,(aq (av (aG (fH rfl) bS (aa (aM cA (pv 2) (pv 3)) (aa (pv 1) af))))),?_⟩;refine⟨_,rfl,_,rfl,_,_,rfl,rfl,_,rfl,_,_,rfl,?_⟩;rw[kh];exact q
theorem yd:aD ["self"] ["self"] (au dJ):=L2.fsc rfl (by decide+kernel)
theorem Hk(T:bH K C "making_word" "Less.making_word" dJ):bF P w K mg base C "making_word" 1 ["self"] (ia c (.fold .less t t')):=by
 refine bM T yd ?_ ?_
 .walk_at "i1"
 walk_at "i2";obtain⟨a,rfl,o,q⟩:=h;have nd:=yd.nd;refine⟨_,(aq (av aR)),?_⟩;exact q
theorem yo:aD ["self","n","first","second"] ["self","n","first","second"] (au gY):=L2.fsc rfl (by decide+kernel)
theorem Hy(T:bH K C "folded" "Less.folded" gY)(ck:mg "max"=none):bF P w K mg base C "folded" 1 ["self","n","first","second"] (iM .less):=by
 refine bM T yo ?_ ?_
 .walk_at "i1"
 walk_at "i2";obtain⟨a,n,i,j,rfl,q⟩:=h;have nd:=yo.nd;refine⟨_,(aq (av (aG (iJ rfl) ck (aa (aM dB (aM cA (pv 2) (pv 3)) (pv 1)) (eB af))))),?_⟩;refine⟨_,rfl,_,rfl,_,_,rfl,rfl,_,rfl,_,_,rfl,rfl,_,_,rfl,?_⟩;rw[nh];exact q
theorem qc:aD ["self"] ["self"] (au cL):=L2.fsc rfl (by decide+kernel)
theorem yG(T:bH K C "making_word" "Greater.making_word" cL):bF P w K mg base C "making_word" 1 ["self"] (ia c (.fold .greater t t')):=by
 refine bM T qc ?_ ?_
 .walk_at "i1"
 walk_at "i2";obtain⟨a,rfl,o,q⟩:=h;have nd:=qc.nd;refine⟨_,(aq (av aR)),?_⟩;exact q
theorem qh:aD ["self","n","first","second"] ["self","n","first","second"] (au eX):=L2.fsc rfl (by decide+kernel)
theorem yJ(T:bH K C "folded" "Greater.folded" eX)(ck:mg "max"=none):bF P w K mg base C "folded" 1 ["self","n","first","second"] (iM .greater):=by
 refine bM T qh ?_ ?_
 .walk_at "i1"
 walk_at "i2";obtain⟨a,n,i,j,rfl,q⟩:=h;have nd:=qh.nd;refine⟨_,(aq (av (aG (iJ rfl) ck (aa (pv 2) (aa (pv 3) af))))),?_⟩;refine⟨_,rfl,_,rfl,_,_,rfl,?_⟩;rw[nh];exact q
theorem rR:aD ["self"] ["self"] (au cQ):=L2.fsc rfl (by decide+kernel)
theorem AD(T:bH K C "making_word" "Lesser.making_word" cQ):bF P w K mg base C "making_word" 1 ["self"] (ia c (.fold .lesser t t')):=by
 refine bM T rR ?_ ?_
 .walk_at "i1"
 walk_at "i2";obtain⟨a,rfl,o,q⟩:=h;have nd:=rR.nd;refine⟨_,(aq (av aR)),?_⟩;exact q
theorem so:aD ["self","n","first","second"] ["self","n","first","second"] (au fo):=L2.fsc rfl (by decide+kernel)
theorem AJ(T:bH K C "folded" "Lesser.folded" fo)(bS:mg "min"=none):bF P w K mg base C "folded" 1 ["self","n","first","second"] (iM .lesser):=by
 refine bM T so ?_ ?_
 .walk_at "i1"
 walk_at "i2";obtain⟨a,n,i,j,rfl,q⟩:=h;have nd:=so.nd;refine⟨_,(aq (av (aG (fH rfl) bS (aa (pv 2) (aa (pv 3) af))))),?_⟩;refine⟨_,rfl,_,rfl,_,_,rfl,?_⟩;rw[kh];exact q
theorem uV:aD ["self"] ["self"] (au cY):=L2.fsc rfl (by decide+kernel)
theorem DW(T:bH K C "making_word" "Leads.making_word" cY):bF P w K mg base C "making_word" 1 ["self"] (ia c (.fold .leads t t')):=by
 refine bM T uV ?_ ?_
 .walk_at "i1"
 walk_at "i2";obtain⟨a,rfl,o,q⟩:=h;have nd:=uV.nd;refine⟨_,(aq (av aR)),?_⟩;exact q
theorem ve:aD ["self","n","first","second"] ["self","n","first","second"] (au fS):=L2.fsc rfl (by decide+kernel)
theorem Eh(T:bH K C "folded" "Leads.folded" fS)(bS:mg "min"=none):bF P w K mg base C "folded" 1 ["self","n","first","second"] (iM .leads):=by
 refine bM T ve ?_ ?_
 .walk_at "i1"
 walk_at "i2";obtain⟨a,n,i,j,rfl,q⟩:=h;have nd:=ve.nd;refine⟨_,(aq (av (aG (fH rfl) bS (aa (aM cA (aM dB (pv 1) (pv 2)) (pv 3)) (aa (pv 1) af))))),?_⟩;refine⟨_,rfl,_,rfl,_,_,rfl,rfl,_,rfl,_,_,rfl,rfl,_,rfl,_,_,rfl,?_⟩;rw[kh];exact q
theorem rQ:aD ["self","worths","n","x","y"] ["self","worths","n","x","y"] (au gU):=L2.fsc rfl (by decide+kernel)
theorem AB(T:bH K C "weigh" "Never.weigh" gU):bF P w K mg base C "weigh" 2 ["self","worths","n","x","y"] (jM c .never):=by
 refine bM T rQ ?_ ?_
 .walk_at "i1"
 walk_at "i2";obtain⟨a,l,n,i,j,R,R',rfl,o,e,hz,hs,q⟩:=h;have nd:=rQ.nd;refine⟨_,(aq (bB (cO c6 j7 j8 bj (pv 1) (eB af)))),?_⟩;have es:R'=(iK n i j).leaf .never::R:=ju hs rfl;subst es;refine⟨_,rfl,.inl ⟨rfl,_,LA.of e⟩,l,_,_,rfl,rfl,e,nS hz,?_⟩;exact q _ (jf _ _) (by rw[ae];exact z6 _ (z6 _ (fW _ _)))
theorem qa:aD ["self","worths","n","x","y"] ["self","worths","n","x","y"] (au fU):=L2.fsc rfl (by decide+kernel)
theorem yF(T:bH K C "weigh" "Always.weigh" fU):bF P w K mg base C "weigh" 2 ["self","worths","n","x","y"] (jM c .always):=by
 refine bM T qa ?_ ?_
 .walk_at "i1"
 walk_at "i2";obtain⟨a,l,n,i,j,R,R',rfl,o,e,hz,hs,q⟩:=h;have nd:=qa.nd;refine⟨_,(aq (bB (cO c6 j7 j8 bj (pv 1) (aa (pv 2) af)))),?_⟩;have es:R'=(iK n i j).leaf .always::R:=ju hs rfl;subst es;refine⟨_,rfl,.inl ⟨rfl,_,LA.of e⟩,_,rfl,l,_,_,rfl,rfl,e,nS hz,?_⟩;exact q _ (jf _ _) (by rw[ae];exact z6 _ (z6 _ (fW _ _)))
theorem Ce:aD ["self","worths","n","x","y"] ["self","worths","n","x","y"] (au dk):=L2.fsc rfl (by decide+kernel)
theorem Pe(T:bH K c.le "weigh" "Letter.weigh" dk)(F:Fx K c):bF P w K mg base c.le "weigh" 2 ["self","worths","n","x","y"] (jM c .lp):=by
 refine bM T Ce ?_ ?_
 .walk_at "i1"
 walk_at "i2";obtain⟨a,l,n,i,j,R,R',rfl,o,e,hz,hs,q⟩:=h;have nd:=Ce.nd;refine⟨_,(aq (bB (cO c6 j7 j8 bj (pv 1) (aa (kY (aE cy (mY (pv 0) rfl) aR (aI _)) (pv 3) (pv 4)) af)))),?_⟩;have es:R'=(iK n i j).leaf .lp::R:=ju hs rfl;subst es;cases o with
 | lp eo =>
  refine⟨_,rfl,.inl ⟨rfl,_,LA.of e⟩,_,rfl,a,_,_,_,_,rfl,eo,T.cl,F.nName,lR _,rfl,_,rfl,?_⟩;rw[VC];refine dR ⟨_,rfl,l,_,_,rfl,rfl,e,nS hz,?_⟩;exact q _ (jf _ _) (by rw[ae];exact z6 _ (z6 _ (fW _ _)))
theorem Cd:aD ["self","worths","n","x","y"] ["self","worths","n","x","y"] (au dk):=L2.fsc rfl (by decide+kernel)
theorem Pd(T:bH K c.le "weigh" "Letter.weigh" dk)(F:Fx K c):bF P w K mg base c.le "weigh" 2 ["self","worths","n","x","y"] (jM c .lq):=by
 refine bM T Cd ?_ ?_
 .walk_at "i1"
 walk_at "i2";obtain⟨a,l,n,i,j,R,R',rfl,o,e,hz,hs,q⟩:=h;have nd:=Cd.nd;refine⟨_,(aq (bB (cO c6 j7 j8 bj (pv 1) (aa (kY (aE cy (mY (pv 0) rfl) aR (aI _)) (pv 3) (pv 4)) af)))),?_⟩;have es:R'=(iK n i j).leaf .lq::R:=ju hs rfl;subst es;cases o with
 | lq eo =>
  refine⟨_,rfl,.inl ⟨rfl,_,LA.of e⟩,_,rfl,a,_,_,_,_,rfl,eo,T.cl,F.nName,lR _,rfl,_,rfl,?_⟩;rw[VB];refine bJ ⟨_,rfl,l,_,_,rfl,rfl,e,nS hz,?_⟩;exact q _ (jf _ _) (by rw[ae];exact z6 _ (z6 _ (fW _ _)))
theorem yb:aD ["self","worths","n","x","y"] ["self","worths","n","x","y"] (au iZ):=L2.fsc rfl (by decide+kernel)
theorem Hi(T:bH K C "weigh" "Not.weigh" iZ):bF P w K mg base C "weigh" 2 ["self","worths","n","x","y"] (jM c (.no t)):=by
 refine bM T yb ?_ ?_
 .walk_at "i1"
 walk_at "i2";obtain⟨a,l,n,i,j,R,R',rfl,o,e,hz,hs,q⟩:=h;have nd:=yb.nd;refine⟨_,(aq (bB (cO c6 j7 j8 bj (pv 1) (aa (aM dB (pv 2) (jk c6 C4 C5 kZ (pv 1))) af)))),?_⟩;obtain⟨b,R1,rfl,rfl⟩:=BU hs;have SD:R1.length<1000:=hz;have el:H l=some (.lst (R1.reverse.map V.int++[V.int b])):=by rw[e];exact z6 _ (z6 _ (fW b R1).symm)
 refine⟨_,rfl,.inl ⟨rfl,_,LA.of el⟩,_,rfl,_,rfl,.inl ⟨rfl,_,LA.of el⟩,l,_,_,rfl,rfl,el,jv _ _,?_⟩;rw[G1];refine⟨_,_,rfl,rfl,l,_,_,rfl,rfl,ae,by rw[j4,E5];exact Nat.lt_trans SD (by decide),?_⟩;rw[qG];exact q _ (jf _ _) (by rw[ae];exact z6 _ (z6 _ (fW _ _)))
theorem uS:aD ["self","worths","n","x","y","second","first"] ["self","worths","n","x","y"] (au iz):=L2.fsc rfl (by decide+kernel)
theorem DU(T:bH K (c.fold u) "weigh" "Fold.weigh" iz)(G:bF P w K mg base (c.fold u) "folded" 1 ["self","n","first","second"] (iM u)):bF P w K mg base (c.fold u) "weigh" 2 ["self","worths","n","x","y"] (jM c (.fold u t t')):=by
 refine bM T uS ?_ ?_
 .walk_at "i1"
 walk_at "i2";obtain⟨a,l,n,i,j,R,R',rfl,o,e,hz,hs,q⟩:=h;have nd:=uS.nd
 refine⟨_,(ah (aJ (i:=5) (jk c6 C4 C5 kZ (pv 1)))
  (ah (aJ (i:=6) (jk c6 C4 C5 kZ (pv 1)))
  (aq (bB (cO c6 j7 j8 bj (pv 1) (aa (sQ (k:=1) (pv 0) (hr.mono (by decide)) (aa (pv 2) (aa (pv 6) (aa (pv 5) af)))) af)))))),?_⟩
 obtain⟨b2,b1,R1,rfl,rfl⟩:=uP hs;have SD:R1.length+1<1000:=hz;have el:H l=some (.lst (R1.reverse.map V.int++[V.int b1]++[V.int b2])):=by rw[e,fW,fW]
 obtain⟨dx,fs,ea,nf⟩:=o.cls;have nal:a≠l:=sT ea e (by intro z;cases z)
 refine⟨_,rfl,.inl ⟨rfl,_,LA.of el⟩,l,_,_,rfl,rfl,el,jv _ _,?_⟩;rw[G1];refine⟨_,rfl,.inl ⟨rfl,_,LA.of ae⟩,l,_,_,rfl,rfl,ae,jv _ _,?_⟩;rw[G1,qG];refine⟨_,rfl,.inl ⟨rfl,_,LA.of ae⟩,_,rfl,a,_,_,_,_,_,rfl,by rw[aA nal];exact ea,nf _ (by decide+kernel),G,_,rfl,_,rfl,_,rfl,a,n,b1,b2,rfl,?_⟩;refine⟨l,_,_,rfl,rfl,ae,by rw[j4,E5];exact Nat.lt_trans (Nat.lt_of_succ_lt SD) (by decide),?_⟩;rw[qG];exact q _ (jf _ _) (by rw[ae];exact z6 _ (z6 _ (fW _ _)))
noncomputable abbrev qu:List Str:=["one","other","greater","lesser","rest"]
theorem jA:aD qu ["one","other"] (au il):=L2.fsc rfl (by decide+kernel)
noncomputable abbrev AQ:List Str:=["top","bottom","factor"]
theorem qg:aD AQ ["top","bottom"] (au mS):=L2.fsc rfl (by decide+kernel)
noncomputable abbrev Si:List Str:=["one","other"]
theorem Cj:aD Si ["one","other"] (au Am):=L2.fsc rfl (by decide+kernel)
noncomputable abbrev HL:List Str:=[]
theorem DK:aD HL [] (au oh):=L2.fsc rfl (by decide+kernel)
noncomputable abbrev Eo:List Str:=["rule","point"]
theorem rT:aD Eo ["rule","point"] (au oZ):=L2.fsc rfl (by decide+kernel)
noncomputable abbrev ow:List Str:=["rule","hull"]
theorem iN:aD ow ["rule","hull"] (au fO):=L2.fsc rfl (by decide+kernel)
noncomputable abbrev pG:List Str:=["one","other","at_one","at_other","numbers","factor"]
theorem iY:aD pG ["one","other","at_one","at_other"] (au gJ):=L2.fsc rfl (by decide+kernel)
noncomputable abbrev yU:List Str:=["hull","rule","told","low","high","k","corner","following","between"]
theorem Gh:aD yU ["hull","rule"] (au kS):=L2.fsc rfl (by decide+kernel)
noncomputable abbrev Sj:List Str:=["one","other"]
theorem Cn:aD Sj ["one","other"] (au Ap):=L2.fsc rfl (by decide+kernel)
noncomputable abbrev Em:List Str:=["one","other"]
theorem rP:aD Em ["one","other"] (au oX):=L2.fsc rfl (by decide+kernel)
noncomputable abbrev yR:List Str:=["word"]
theorem nX:aD yR ["word"] (au kP):=L2.fsc rfl (by decide+kernel)
noncomputable abbrev uq:List Str:=["word","one","other"]
theorem kO:aD uq ["word","one","other"] (au jj):=L2.fsc rfl (by decide+kernel)
noncomputable abbrev yW:List Str:=["row","rules","rule"]
theorem nZ:aD yW ["row","rules"] (au kU):=L2.fsc rfl (by decide+kernel)
noncomputable abbrev yV:List Str:=["hull","choice","told"]
theorem nY:aD yV ["hull","choice"] (au kT):=L2.fsc rfl (by decide+kernel)
noncomputable abbrev qq:List Str:=["rows","hull","rules","k","row","choice","rule"]
theorem jx:aD qq ["rows","hull"] (au ib):=L2.fsc rfl (by decide+kernel)
noncomputable abbrev AO:List Str:=["tree","found","trees","hulls","branch","hull","parts"]
theorem qf:aD AO ["tree"] (au mR):=L2.fsc rfl (by decide+kernel)
noncomputable abbrev um:List Str:=["folds"]
theorem kK:aD um ["folds"] (au jh):=L2.fsc rfl (by decide+kernel)
noncomputable abbrev En:List Str:=["hull","rows","told","test","parts"]
theorem mI:aD En ["hull","rows"] (au oY):=L2.fsc rfl (by decide+kernel)
noncomputable abbrev Ew:List Str:=["saying"]
theorem sv:aD Ew ["saying"] (au pz):=L2.fsc rfl (by decide+kernel)
noncomputable abbrev uo:List Str:=["saying","tree","least","point","hull","corner","found"]
theorem kM:aD uo ["saying"] (au ji):=L2.fsc rfl (by decide+kernel)
noncomputable abbrev HN:List Str:=["saying","told"]
theorem vg:aD HN ["saying"] (au sH):=L2.fsc rfl (by decide+kernel)
noncomputable abbrev wW:List Str:=["one","other","a","b","c"]
theorem mh:aD wW ["one","other"] (au jQ):=L2.fsc rfl (by decide+kernel)
noncomputable abbrev yX:List Str:=["hull","rule","bounds"]
theorem og:aD yX ["hull","rule"] (au kW):=L2.fsc rfl (by decide+kernel)
noncomputable abbrev qr:List Str:=["saying","rows","regions","hull","rule"]
theorem jy:aD qr ["saying"] (au ic):=L2.fsc rfl (by decide+kernel)
noncomputable abbrev AL:List Str:=["top","bottom"]
theorem qd:aD AL ["top","bottom"] (au mO):=L2.fsc rfl (by decide+kernel)
noncomputable abbrev AK:List Str:=["bounds","n","x","lowest","highest","a","b","c","least","rest"]
theorem pZ:aD AK ["bounds","n","x"] (au mM):=L2.fsc rfl (by decide+kernel)
noncomputable abbrev uk:List Str:=["hull","bounds","n","first","last","x","y"]
theorem kJ:aD uk ["hull","bounds","n"] (au jg):=L2.fsc rfl (by decide+kernel)
noncomputable abbrev wV:List Str:=["regions","n","hull","bounds","point"]
theorem mf:aD wV ["regions","n"] (au jP):=L2.fsc rfl (by decide+kernel)
noncomputable abbrev sU:List Str:=["saying","regions","n","point"]
theorem ku:aD sU ["saying"] (au iP):=L2.fsc rfl (by decide+kernel)
noncomputable abbrev Eu:List Str:=["_law_tree"]
theorem mL:aD Eu ["_law_tree"] (au pw):=L2.fsc rfl (by decide+kernel)
noncomputable abbrev yT:List Str:=["_law_tree","_law_rows","_law_places","_law_row"]
theorem jO:aD yT ["_law_tree","_law_rows"] (au kR):=L2.fsc rfl (by decide+kernel)
noncomputable abbrev Ep:List Str:=["_law_rule_here","_law_corner"]
theorem rX:aD Ep ["_law_rule_here","_law_corner"] (au pe):=L2.fsc rfl (by decide+kernel)
noncomputable abbrev AM:List Str:=["_law_point","_law_by","_law_number"]
theorem iX:aD AM ["_law_point"] (au jR):=L2.fsc rfl (by decide+kernel)
noncomputable abbrev oz:List Str:=["_law_hull","_law_rule_here","_law_some","_law_low","_law_high","_law_k","_law_corner","_law_here","_law_there","_law_other","_law_fresh"]
theorem yj:aD oz ["_law_hull","_law_rule_here"] (au fP):=L2.fsc rfl (by decide+kernel)
noncomputable abbrev Pl:List Str:=["_law_one","_law_other","_law_by"]
theorem yh:aD Pl ["_law_one","_law_other","_law_by"] (au wo):=L2.fsc rfl (by decide+kernel)
noncomputable abbrev yS:List Str:=["_law_row","_law_rules_here","_law_hull","_law_known_here","_law_one","_law_other","_law_test","_law_ways","_law_some"]
theorem uY:aD yS ["_law_row","_law_rules_here","_law_hull"] (au kQ):=L2.fsc rfl (by decide+kernel)
noncomputable abbrev Er:List Str:=["_law_rows","_law_hull","_law_rules_here","_law_row","_law_rule_here","_law_test"]
theorem rY:aD Er ["_law_rows","_law_hull"] (au pf):=L2.fsc rfl (by decide+kernel)
noncomputable abbrev Et:List Str:=["_law_tree","_law_hull","_law_both","_law_low","_law_high"]
theorem mK:aD Et ["_law_tree","_law_hull"] (au pq):=L2.fsc rfl (by decide+kernel)
noncomputable abbrev n_l_holds : List Str := ["_law_tree", "_law_rows", "_law_top", "_law_bottom", "_law_hulls_here", "_law_hull", "_law_rules_here", "_law_some"]
theorem sc_l_holds : aD n_l_holds ["_law_tree", "_law_rows", "_law_top", "_law_bottom"] (au s_l_holds) := L2.fsc rfl (by decide+kernel)
noncomputable abbrev qt:List Str:=["_law_found"]
theorem jz:aD qt ["_law_found"] (au ik):=L2.fsc rfl (by decide+kernel)
noncomputable abbrev wX:List Str:=["_law_found"]
theorem mj:aD wX ["_law_found"] (au jS):=L2.fsc rfl (by decide+kernel)
noncomputable abbrev Pm:List Str:=["_law_cells","_law_room","_law_most","_law_tree"]
theorem yi:aD Pm ["_law_cells","_law_room","_law_most"] (au wq):=L2.fsc rfl (by decide+kernel)
noncomputable abbrev Es:List Str:=["_law_rows","_law_hull","_law_rules_here","_law_test","_law_best","_law_corner","_law_told","_law_some"]
theorem mJ:aD Es ["_law_rows","_law_hull"] (au pj):=L2.fsc rfl (by decide+kernel)
noncomputable abbrev eS:List Str:=["_law_cell","_law_a","_law_b","_law_c","_law_some"]
theorem kN:aD eS ["_law_cell","_law_a","_law_b","_law_c"] (au aN):=L2.fsc rfl (by decide+kernel)
noncomputable abbrev vn:List Str:=["_law_cells","_law_some","_law_cell","_law_found"]
theorem rZ:aD vn ["_law_cells"] (au jC):=L2.fsc rfl (by decide+kernel)
noncomputable abbrev HM:List Str:=["_law_found","_law_tree","_law_n","_law_x","_law_y"]
theorem uZ:aD HM ["_law_found","_law_tree"] (au sG):=L2.fsc rfl (by decide+kernel)
noncomputable abbrev AN:List Str:=["_law_tree","_law_other","_law_rows","_law_due","_law_found"]
theorem qe:aD AN ["_law_tree","_law_other"] (au mP):=L2.fsc rfl (by decide+kernel)
noncomputable def LC(p:T3):PyData:=.tuple [.int p.u,.int p.v,.int p.w]
section
variable{K:W.Frag}{H H':Hp}{a:Addr}{v:V}{p:T3}
theorem cg(g:Lz K H a [.int p.u,.int p.v,.int p.w]):Dat K H (LC p) (.ref a):=⟨a,_,rfl,g,_,_,rfl,rfl,_,_,rfl,rfl,_,_,rfl,rfl,rfl⟩
theorem cW(g:Dat K H (LC p) v):∃a,v=.ref a/\Lz K H a [.int p.u,.int p.v,.int p.w]:=by
 obtain⟨a,xs,rfl,g,x,r,rfl,hx,y,t,rfl,hy,z,u,rfl,hz,hu⟩:=g;cases(show x=V.int p.u from hx)
 cases(show y=V.int p.v from hy)
 cases(show z=V.int p.w from hz)
 cases(show u=[] from hu)
 exact⟨a,rfl,g⟩
theorem ma{xs:List V}{h:List T3}(g:DatAll K H (h.map LC) xs)(e:h[i]?=some p):∃x,xs[i]?=some x/\Dat K H (LC p) x:=g.get (by rw[x6,e];rfl)
theorem kF{xs:List V}{h:List T3}(g:DatAll K H (h.map LC) xs){x:V}(e:xs[i]?=some x):∃p,h[i]?=some p/\Dat K H (LC p) x:=by
 obtain⟨d,e1,e2⟩:=g.get' e;rw[x6]at e1;cases z:h[i]? with
 | none=>rw[z]at e1;cases e1
 | some s=>rw[z]at e1;cases e1;exact⟨s,rfl,e2⟩
theorem fc{xs:List V}{h:List T3}(g:DatAll K H (h.map LC) xs):xs.length=h.length:=by rw[g.len,j4]
end
def Bg(x:Int):Prop:=x.natAbs<2^8000
theorem dX{a b:Int}(ha:Bg a)(hb:Bg b):IntMulOk a b:=IntMulOk.of_le (m:=8000) (n:=8000) (Dp ha) (Dp hb) (by decide)
theorem dG{x:Int}(h:x.natAbs<2^n)(hn:n<=8000):Bg x:=i7 h (G0 (by decide) hn)
theorem uv{t x:Int}(h0:x≠0)(h:Bg x):Rk t x:=⟨h0,i7 ((Nat.log2_lt (by omega)).mpr h) (by decide)⟩
inductive nW(vs:List V)(H:Hp)(Q:VK)(E:XK):Prop
 | mk (a b:Int):vs=[.int a,.int b]->Q (.int (Lo.gc a b)) H->nW vs H Q E
inductive RJ(vs:List V)(H:Hp)(Q:VK)(E:XK):Prop
 | mk (a b:Int):vs=[.int a,.int b]->0<=a->0<=b->Q (.int (Lo.gc a b)) H->RJ vs H Q E
inductive vR(K:W.Frag)(vs:List V)(H:Hp)(Q:VK)(E:XK):Prop
 | mk (x y r p):vs=[x,y]->Dat K H (LC r) x->Dat K H (LC p) y->Hu.R3 3000 r->Hu.R3 3000 p->Q (.int (Hu.tl r p)) H->vR K vs H Q E
inductive BW(K:W.Frag)(vs:List V)(H:Hp)(Q:VK)(E:XK):Prop
 | mk (x:V) (l:Addr) (us:List V) (r:T3) (h:List T3):vs=[x,.ref l]->Dat K H (LC r) x->LA K H l us->DatAll K H (h.map LC) us->Hu.R3 3000 r->(∀p∈h,Hu.R3 3000 p)->h.length<=900->((∀H',aK H H'->LA K H' l us))->(∀(d:Addr)(H':Hp),aK H H'->H d=none->H' d=some (.lst ((h.map (Hu.tl r)).map V.int))->Q (.ref d) H')->BW K vs H Q E
inductive RM(K:W.Frag)(vs:List V)(H:Hp)(Q:VK)(E:XK):Prop
 | mk (x y p q) (s t:Int):vs=[x,y,.int s,.int t]->Dat K H (LC p) x->Dat K H (LC q) y->Hu.P3 600 p->Hu.P3 600 q->s*t<0->s.natAbs<2^2000->t.natAbs<2^2000->(∀v H',aK H H'->Dat K H' (LC (Hu.mid p q s t)) v->Q v H')->RM K vs H Q E
theorem Eg(T:aC K mg "common_factor" il)(gp:mg "abs"=none):Def P w K mg base 1 "common_factor" ["one","other"] nW:=by
 refine aQ T jA ?_ ?_
 .walk_at "i1"
 walk_at "i2";obtain⟨a,b,rfl,q⟩:=h;have nd:=jA.nd
 refine⟨_,(ah (aJ (i:=2) (aG gk gp (aa (pv 0) af)))
  (ah (aJ (i:=3) (aG gk gp (aa (pv 1) af)))
  (ah (iQ z7 (aE ky (pv 3) ao (aI _)) (ah (aJ (i:=4) (aM iA (pv 2) (pv 3)))
  (ah (aJ (i:=2) (pv 3))
  (aq (aJ (i:=3) (pv 4))))))
  (aq (av (pv 2)))))),?_⟩
 refine⟨_,rfl,_,rfl,_,rfl,_,rfl,?_⟩;rw[dH,dH];refine⟨λm σ H'=>H'=H/\∃(g l:Int)(o:Option V),σ=[some (.int a),some (.int b),some (.int g),some (.int l),o]/\0<=g/\0<=l/\l.toNat=m/\Lo.gc g l=Lo.gc a b,⟨_,rfl,_,_,_,rfl,by omega,by omega,rfl,Lo.EK a b⟩,?_⟩;rintro m σ H' ⟨rfl,g,l,o,rfl,hg,hl,rfl,e⟩
 refine⟨_,rfl,rfl,_,rfl,?_⟩;refine cU (λc=>?_) (λc=>?_)
 .have c':l≠0:=λz=>by
   rw[z,i6 (rfl:V.int 0=V.int 0)]at c;cases c
  have c2:0<l:=by omega
  refine⟨λσ' LD=>LD=H'/\σ'=[some (.int a),some (.int b),some (.int l),some (.int (g.fmod l)),some (.int (g.fmod l))],?_,?_⟩
  .rintro σ' LD ⟨rfl,rfl⟩
   have z0:=G5 g c2;have z1:=Jx g c2;exact⟨_,(show(g.fmod l).toNat<l.toNat by omega),rfl,l,g.fmod l,_,rfl,by omega,z0,rfl,by rw[Lo.xj];exact e⟩
  .exact⟨_,rfl,_,rfl,_,_,rfl,rfl,c',_,rfl,_,rfl,rfl,rfl⟩
 .have l0:l=0:=by
   by_cases z:l=0
   .exact z
   .exfalso;refine c ?_;have n:¬(V.int l=V.int 0):=λq=>z (V.int.inj q);simp[n]
  subst l0;rw[Lo.xi hg]at e;subst e;exact⟨_,rfl,q⟩
theorem NQ(h:Hu.R3 3000 r):Bg r.u/\Bg r.v/\Bg r.w:=⟨dG h.a (by decide),dG h.b (by decide),dG h.c (by decide)⟩
theorem ok_told(T:aC K mg "told_by" oZ):Def P w K mg base 1 "told_by" ["rule","point"] (vR K):=by
 refine aQ T rT ?_ ?_
 .walk_at "i1"
 walk_at "i2";obtain⟨x,y,r,p,rfl,dx,dy,br,bp,q⟩:=h;obtain⟨ar,rfl,sr⟩:=cW dx;obtain⟨ap,rfl,st⟩:=cW dy;obtain⟨r1,r2,r3⟩:=NQ br;obtain⟨p1,p2,p3⟩:=NQ bp;have nd:=rT.nd;refine⟨_,(aq (av (aM cA (aM cA (aM bu (aB az (pv 0) ao) (aB az (pv 1) ao)) (aM bu (aB az (pv 0) ao) (aB az (pv 1) ao))) (aM bu (aB az (pv 0) ao) (aB az (pv 1) ao))))),?_⟩;exact⟨_,rfl,_,_,_,_,rfl,rfl,sr,rfl,_,rfl,_,_,_,_,rfl,rfl,st,rfl,_,_,rfl,rfl,dX r1 p2,_,rfl,_,_,_,_,rfl,rfl,sr,rfl,_,rfl,_,_,_,_,rfl,rfl,st,rfl,_,_,rfl,rfl,dX r2 p3,_,_,rfl,rfl,_,rfl,_,_,_,_,rfl,rfl,sr,rfl,_,rfl,_,_,_,_,rfl,rfl,st,rfl,_,_,rfl,rfl,dX r3 p1,_,_,rfl,rfl,q⟩
theorem ri{l:Addr}{us:List V}{r:T3}{h:List T3}{R:Hp->Prop}(hl:∀H',aK H1 H'->LA K H' l us)(da:DatAll K H1 (h.map LC) us)(few:h.length<=900)(hD:H1 D=none)
  (step:∀v p H' k,aK H1 H'->p∈h->Dat K H' (LC p) v->k (.int (Hu.tl r p)) H'->te (some v::bR js σ) H' k)
  (fin:∀H',aK H1 H'->H' D=some (.lst ((h.map (Hu.tl r)).map V.int))->R H') :
  ∃W:Nat->Nat->Hp->Prop,(∃m,W 0 m (upd H1 D (.lst [])))/\∀i m H2,W i m H2->((Nr K l).stop i H2/\R H2)\/
   ((
    Nr K l).go i H2/\∀v H3,(Nr K l).yld i H2 v H3->kq (some v::bR js σ) H3 λb H4=>if b=true then te (some v::bR js σ) H4 λy H5 =>
    ∃ys,H5 D=some (.lst ys)/\ys.length<sizeLine/\∃m',m'<m/\W (i+1) m' (upd H5 D (.lst (ys++[y]))) else ∃m',m'<m/\W (i+1) m' H4):=by
 have lu:=fc da;refine⟨λi m H2=>m=us.length-i/\i<=us.length/\aK H1 H2/\H2 D=some (.lst (((h.take i).map (Hu.tl r)).map V.int)),⟨_,rfl,y7 _,ak hD _,ae⟩,?_⟩;rintro i m H2 ⟨rfl,hi,sm,Md⟩
 by_cases LI:i<us.length
 .refine .inr ⟨⟨us,_,hl _ sm,c9 LI⟩,λv H3 y=>?_⟩;obtain⟨rfl,y⟩:=y;obtain⟨p,hp,dp⟩:=kF (da.ts sm.ts) (y us (hl _ sm));refine hJ ?_;refine step v p _ _ sm (w8 hp) dp ?_;refine⟨_,Md,aZ (by simp;omega),us.length-(i+1),by omega,rfl,LI,aX sm hD _,?_⟩;rw[ae]
  have e:h.take (i+1)=h.take i++[p]:=by
   obtain⟨q1,q2⟩:=d6.mp hp;rw[List.take_succ_eq_append_getElem q1,q2]
  rw[e,p7,p7];rfl
 .have ei:i=us.length:=by omega
  subst ei;refine .inl ⟨⟨us,hl _ sm,c7 _⟩,fin _ sm ?_⟩;rw[Md,lu,A6]
theorem ok_tic(T:aC K mg "told_in_corners" fO)(pS:Def P w K mg base 1 "told_by" ["rule","point"] (vR K)):Def P w K mg base 2 "told_in_corners" ["rule","hull"] (BW K):=by
 refine aQ T iN ?_ ?_
 .walk_at "i1"
 walk_at "i2";obtain⟨x,l,us,r,h,rfl,dx,sl,da,br,bp,few,hl,k⟩:=h;have nd:=iN.nd;refine⟨_,(aq (av (dQ (cf (pv 1)) (cq (j:=0) cC) (λ_ _ _ _=>cM) (λ_ _ _ _=>(aH pS (aa (pv 1) (aa (pv 0) af))))))),?_⟩;refine⟨_,rfl,l,rfl,⟨us,sl⟩,λD hD=>?_⟩;exact ri (r:=r) hl da few hD (λv p H' kk sm hp dp q=>⟨_,rfl,_,rfl,x,v,r,p,rfl,dx.ts sm.ts,dp,br,bp p hp,q⟩) λH' sm e=>k D H' sm hD e
theorem lO{k:Nat}(e:X.K=K)(hc:X.calm=true)(h:W0 X es t)
  (hn:(assignEach es X.env).length=n:=by rfl)(SG:(assignEach es X.env).findIdx? (·.1)=none:=by rfl):PG X (.Tuple es k pos) (S8 K n t):=by
 subst e;exact iR hc h hn SG
theorem Pr(h:o.length=2):∃a b,o=[a,b]:=by
 cases o with
 | nil=>cases h
 | cons a o =>
  cases o with
  | nil=>cases h
  | cons b o =>
   cases o with
   | nil=>exact⟨a,b,rfl⟩
   | cons c o=>cases h
theorem IJ{l:Addr}{a b c g:Int}{R:Hp->Prop}(hl:H1 l=some (.lst [.int a,.int b,.int c]))(hD:H1 D=none)
  (step:∀(n:Int) H' k,k (.int (n.fdiv g)) H'->te (some (.int n)::bR js σ) H' k)
  (fin:∀H',aK H1 H'->H' D=some (.lst [.int (a.fdiv g),.int (b.fdiv g),.int (c.fdiv g)])->R H') :
  ∃W:Nat->Nat->Hp->Prop,(∃m,W 0 m (upd H1 D (.lst [])))/\∀i m H2,W i m H2->((Nr K l).stop i H2/\R H2)\/
   ((
    Nr K l).go i H2/\∀v H3,(Nr K l).yld i H2 v H3->kq (some v::bR js σ) H3 λb H4=>if b=true then te (some v::bR js σ) H4 λy H5 =>
    ∃ys,H5 D=some (.lst ys)/\ys.length<sizeLine/\∃m',m'<m/\W (i+1) m' (upd H5 D (.lst (ys++[y]))) else ∃m',m'<m/\W (i+1) m' H4):=by
 refine⟨λi m H2=>m=3-i/\i<=3/\aK H1 H2/\H2 D=some (.lst ([V.int (a.fdiv g),.int (b.fdiv g),.int (c.fdiv g)].take i)),⟨_,rfl,y7 _,ak hD _,ae⟩,?_⟩;rintro i m H2 ⟨rfl,hi,sm,Md⟩
 have sl:LA K H2 l [.int a,.int b,.int c]:=LA.of (sm _ _ hl)
 by_cases LI:i<3
 .refine .inr ⟨⟨_,_,sl,c9 (show i<3 from LI)⟩,λv H3 y=>?_⟩;obtain⟨rfl,y⟩:=y;have z:=y _ sl;refine hJ ?_;rcases(show i=0\/i=1\/i=2 by omega) with rfl | rfl | rfl
  .cases z
   exact step _ _ _ ⟨_,Md,aZ (by simp),3-1,by omega,rfl,by omega,aX sm hD _,ae⟩
  .cases z
   exact step _ _ _ ⟨_,Md,aZ (by simp),3-2,by omega,rfl,by omega,aX sm hD _,ae⟩
  .cases z
   exact step _ _ _ ⟨_,Md,aZ (by simp),3-3,by omega,rfl,by omega,aX sm hD _,ae⟩
 .have ei:i=3:=by omega
  subst ei;exact .inl ⟨⟨_,sl,c7 _⟩,fin _ sm Md⟩
theorem vm{p q s t:Int}{a b:T3}(p0:0<=p)(q0:0<=q)(p1:p<2^600)(q1:q<2^600)(hs:s.natAbs<2^2000)(ht:t.natAbs<2^2000):0<=Hu.nm p q s t/\Bg (Hu.nm p q s t):=by
 obtain⟨a,b⟩:=Hu.nm_b p0 q0 p1 q1 hs ht;exact⟨a,dG b (by decide)⟩
theorem QT{U V W:Int}(h0:0<U)(h:Bg U):Hu.gg U V W≠0/\Bg (Hu.gg U V W):=by
 have g0:=Hu.nq (V:=V) (W:=W) h0;have g1:=Hu.gg_le (V:=V) (W:=W) h0;exact⟨by omega,d9 (by omega) h⟩
theorem ok_cb(T:aC K mg "corner_between" gJ)(gD:mg "zip"=none)(gp:mg "abs"=none)(aW:mg "tuple"=none)(ft:Def P w K mg base 1 "common_factor" ["one","other"] nW):Def P w K mg base 2 "corner_between" ["one","other","at_one","at_other"] (RM K):=by
 refine aQ T iY ?_ ?_
 .walk_at "i1"
 walk_at "i2";obtain⟨x,y,p,q,s,t,rfl,dx,dy,hp,hq,st,hs,ht,k⟩:=h;obtain⟨ax,rfl,sx⟩:=cW dx;obtain⟨ay,rfl,sy⟩:=cW dy;have nd:=iY.nd;obtain⟨u0,ub⟩:=vm (a:=p) (b:=p) (z5 hp.n0) (z5 hq.n0) hp.n1 hq.n1 hs ht;obtain⟨v0,vb⟩:=vm (a:=p) (b:=p) hp.x0 hq.x0 hp.x1 hq.x1 hs ht;obtain⟨w0,wb⟩:=vm (a:=p) (b:=p) hp.y0 hq.y0 hp.y1 hq.y1 hs ht;have up:=Hu.jc hp hq st;obtain⟨g0,gb⟩:=QT (V:=Hu.nm p.v q.v s t) (W:=Hu.nm p.w q.w s t) up ub;have bs:Bg (s.natAbs:Int):=dG (n:=2000) (by simpa using hs) (by decide);have bt:Bg (t.natAbs:Int):=dG (n:=2000) (by simpa using ht) (by decide);have pb:=NQ (hp.r.mono (by decide));have qb:=NQ (hq.r.mono (by decide))
 refine⟨_,(ah (yz (i:=4) (xs:=["first","second"]) (oq rfl gD (pv 0) (pv 1)) (cq (j:=3) (cq (j:=2) cC)) (λ_ _ _ _=>lO (K:=K) (n:=2) rfl rfl (aY (aS (i:=0) (hN:=(show(["first","second","at_other","at_one"]:List Str).Nodup by decide+kernel)) (hf:=(.inr rfl))) (aY (aS (i:=1) (hN:=(show(["first","second","at_other","at_one"]:List Str).Nodup by decide+kernel)) (hf:=(.inr rfl))) cZ))) (λ_ _ _ _=>(aM cA (aM bu (aG gk gp (aa (pv 2) af)) (pv 0)) (aM bu (aG gk gp (aa (pv 3) af)) (pv 1)))))
  (ah (aJ (i:=5) (aH ft (aa (aH ft (aa (aB bC (pv 4) ao) (aa (aB bC (pv 4) ao) af))) (aa (aB bC (pv 4) ao) af))))
  (aq (av (cJ cH aW (aa (dQ (cf (pv 4)) (cq (j:=5) cC) (λ_ _ _ _=>cM) (λ_ _ _ _=>(aM hV (pv 0) (pv 1)))) af)))))),?_⟩
 refine⟨_,rfl,_,rfl,ax,ay,_,_,rfl,rfl,sx,sy,λD hD=>?_⟩;refine⟨λi m H2=>m=3-i/\i<=3/\aK H H2/\H2 D=some (.lst ([V.int (Hu.nm p.u q.u s t),.int (Hu.nm p.v q.v s t),.int (Hu.nm p.w q.w s t)].take i)),⟨_,rfl,y7 _,ak hD _,ae⟩,?_⟩;rintro i m H2 ⟨rfl,hi,sm,Md⟩
 have M6:=sx.ts sm.ts;have M5:=sy.ts sm.ts
 by_cases LI:i<3
 .refine .inr ⟨⟨_,_,M6,M5,LI,c7 _⟩,λo ho v H3 y=>?_⟩;obtain⟨T',vs,nT,rfl,rfl,x,y,rfl,hx,hy⟩:=y;have zx:=hx _ M6;have zy:=hy _ M5;obtain⟨o1,o2,rfl⟩:=Pr ho;have uT:=ak nT (.tup [x,y]);refine⟨T',_,rfl,Lz.of ae,rfl,_,_,rfl,_,_,rfl,rfl,[some x,some y],rfl,rfl,?_⟩;have LY:=uT _ _ Md;rcases(show i=0\/i=1\/i=2 by omega) with rfl | rfl | rfl
  .cases zx
   cases zy
   refine⟨_,rfl,_,rfl,_,rfl,_,_,rfl,rfl,(by rw[dH];exact dX bt pb.1),_,rfl,_,rfl,_,rfl,_,_,rfl,rfl,(by rw[dH];exact dX bs qb.1),_,_,rfl,rfl,?_⟩;refine⟨_,LY,aZ (by simp),3-1,by omega,rfl,by omega,aX (sm.trans uT) hD _,?_⟩;rw[ae,dH,dH];rfl
  .cases zx
   cases zy
   refine⟨_,rfl,_,rfl,_,rfl,_,_,rfl,rfl,(by rw[dH];exact dX bt pb.2.1),_,rfl,_,rfl,_,rfl,_,_,rfl,rfl,(by rw[dH];exact dX bs qb.2.1),_,_,rfl,rfl,?_⟩;refine⟨_,LY,aZ (by simp),3-2,by omega,rfl,by omega,aX (sm.trans uT) hD _,?_⟩;rw[ae,dH,dH];rfl
  .cases zx
   cases zy
   refine⟨_,rfl,_,rfl,_,rfl,_,_,rfl,rfl,(by rw[dH];exact dX bt pb.2.2),_,rfl,_,rfl,_,rfl,_,_,rfl,rfl,(by rw[dH];exact dX bs qb.2.2),_,_,rfl,rfl,?_⟩;refine⟨_,LY,aZ (by simp),3-3,by omega,rfl,by omega,aX (sm.trans uT) hD _,?_⟩;rw[ae,dH,dH];rfl
 have ei:i=3:=by omega
 subst ei;refine .inl ⟨⟨_,_,M6,M5,c7 _,c7 _⟩,?_⟩;have hl3:H2 D=some (.lst [.int (Hu.nm p.u q.u s t),.int (Hu.nm p.v q.v s t),.int (Hu.nm p.w q.w s t)]):=Md;have sD:LA K H2 D [.int (Hu.nm p.u q.u s t),.int (Hu.nm p.v q.v s t),.int (Hu.nm p.w q.w s t)]:=LA.of hl3;refine⟨_,rfl,_,_,_,_,rfl,rfl,sD,rfl,_,rfl,_,_,_,_,rfl,rfl,sD,rfl,_,_,rfl,_,rfl,_,_,_,_,rfl,rfl,sD,rfl,_,_,rfl,?_⟩;refine⟨_,rfl,D,rfl,⟨_,sD⟩,λD2 hD2=>?_⟩;refine IJ (K:=K) (g:=Hu.gg (Hu.nm p.u q.u s t) (Hu.nm p.v q.v s t) (Hu.nm p.w q.w s t)) hl3 hD2 ?step ?fin
 case step =>
  intro n H' kk q;exact⟨_,rfl,_,rfl,_,_,rfl,rfl,uv g0 gb,q⟩
 intro H' RN e2;refine⟨D2,_,rfl,.inl ⟨LA.of e2,λtt M9=>?_⟩⟩;have u3:=ak M9 (.tup [.int ((Hu.nm p.u q.u s t).fdiv (Hu.gg (Hu.nm p.u q.u s t) (Hu.nm p.v q.v s t) (Hu.nm p.w q.w s t))),.int ((Hu.nm p.v q.v s t).fdiv (Hu.gg (Hu.nm p.u q.u s t) (Hu.nm p.v q.v s t) (Hu.nm p.w q.w s t))),.int ((Hu.nm p.w q.w s t).fdiv (Hu.gg (Hu.nm p.u q.u s t) (Hu.nm p.v q.v s t) (Hu.nm p.w q.w s t)))]);exact k _ _ (sm.trans (RN.trans u3)) (cg (p:=Hu.mid p q s t) (Lz.of ae))
noncomputable def lW(s:Stmt):List Stmt:=match s with
 | .For _ _ b _ _=>b
 | _=>[]
noncomputable def DH(s:Stmt)(i:Nat):Stmt:=(bI s).getD i (.Pass ⟨0,0,0,0⟩)
def Xa(K:W.Frag)(H H':Hp)(r:T3)(h:List T3)(v:V):Prop:=∃t a b NN NM,v=.ref t/\a≠b/\H a=none/\H b=none/\Lz K H' t [.ref a,.ref b]/\H' a=some (.lst NN)/\H' b=some (.lst NM)/\DatAll K H' ((Hu.low r h).map LC) NN/\DatAll K H' ((Hu.high r h).map LC) NM
inductive Cc(K:W.Frag)(CN:Addr)(vs:List V)(H:Hp)(Q:VK)(E:XK):Prop
 | mk (l x us h r):vs=[.ref l,x]->H l=some (.lst us)->DatAll K H (h.map LC) us->Dat K H (LC r) x->Hu.xD 600 256 h->Hu.R3 1200 r->((Hu.hX r h->∀H',aK H H'->E (.ref CN) none H'))->((¬Hu.hX r h->∀v H',aK H H'->Xa K H H' r h v->Q v H'))->Cc K CN vs H Q E
inductive vZ(K:W.Frag)(vs:List V)(H:Hp)(Q:VK)(E:XK):Prop
 | mk (l x us h r):vs=[.ref l,x]->H l=some (.lst us)->DatAll K H (h.map LC) us->Dat K H (LC r) x->Hu.xD 600 256 h->Hu.R3 1200 r->((Hu.hX r h->∀H',aK H H'->Q .non H'))->((¬Hu.hX r h->∀v H',aK H H'->Xa K H H' r h v->Q v H'))->vZ K vs H Q E
structure MI(K:W.Frag)(H H':Hp)(lo hi:Addr)(L1 L2:List T3):Prop where
 sm:aK H H'
 ex:∃NN NM,H' lo=some (.lst NN)/\H' hi=some (.lst NM)/\DatAll K H' (L1.map LC) NN/\DatAll K H' (L2.map LC) NM
section
variable{K:W.Frag}{H H' LD:Hp}{lo hi:Addr}{L1 L2:List T3}{p:T3}{v:V}{us:List V}
theorem MI.new(m:MI K H H' lo hi L1 L2)(s:aK H' LD):MI K H LD lo hi L1 L2:=by
 obtain⟨u1,u2,e1,e2,d1,d2⟩:=m.ex;exact⟨m.sm.trans s,u1,u2,s _ _ e1,s _ _ e2,d1.ts s.ts,d2.ts s.ts⟩
theorem MI.app1(m:MI K H H' lo hi L1 L2)(h0:H lo=none)(ne:lo≠hi)(e:H' lo=some (.lst us))(d:Dat K H' (LC p) v):MI K H (upd H' lo (.lst (us++[v]))) lo hi (L1++[p]) L2:=by
 obtain⟨u1,u2,e1,e2,d1,d2⟩:=m.ex;rw[e]at e1;cases e1
 have t:Mv H' (upd H' lo (.lst (us++[v]))):=dj e;refine⟨aX m.sm h0 _,_,u2,ae,by rw[aA (Jp ne)];exact e2,?_,d2.ts t⟩;rw[p7];exact(d1.ts t).snoc (d.ts t)
theorem MI.app2(m:MI K H H' lo hi L1 L2)(h0:H hi=none)(ne:lo≠hi)(e:H' hi=some (.lst us))(d:Dat K H' (LC p) v):MI K H (upd H' hi (.lst (us++[v]))) lo hi L1 (L2++[p]):=by
 obtain⟨u1,u2,e1,e2,d1,d2⟩:=m.ex;rw[e]at e2;cases e2
 have t:Mv H' (upd H' hi (.lst (us++[v]))):=dj e;refine⟨aX m.sm h0 _,u1,_,by rw[aA ne];exact e1,ae,d1.ts t,?_⟩;rw[p7];exact(d2.ts t).snoc (d.ts t)
theorem MI.len(m:MI K H H' lo hi L1 L2)(l1:L1.length<=990)(l2:L2.length<=990):(∃us,H' lo=some (.lst us)/\us.length<=1000)/\∃us,H' hi=some (.lst us)/\us.length<=1000:=by
 obtain⟨u1,u2,e1,e2,d1,d2⟩:=m.ex;exact⟨⟨u1,e1,by rw[fc d1];omega⟩,u2,e2,by rw[fc d2];omega⟩
end
theorem iy{r:T3}{h:List T3}(hi:i<h.length):MW ((h.map (Hu.tl r)).map V.int) ((i:Nat):Int)=some (.int (Hu.tv r h i)):=by
 refine cF ?_;rw[x6,x6,Hu.kj hi];rfl
theorem ok_cut(T:aC K mg "cut" kS)(Qf:mg "NoCut"=some (.ref CN))(P9:PySem.W.excIn K CN bmV "ValueError.__new__"=true)(bS:mg "min"=none)(ck:mg "max"=none)(cV:mg "enumerate"=none)(bE:mg "len"=none)
  (gw:Def P w K mg base 2 "told_in_corners" ["rule","hull"] (BW K))(pX:Def P w K mg base 2 "corner_between" ["one","other","at_one","at_other"] (RM K)):xE P w K mg base 3 "cut" ["hull","rule"] (Cc K CN):=by
 refine Dh T Gh ?_ ?_
 .walk_at "i1"
 walk_at "i2";obtain⟨l,x,us,h,r,rfl,hl,da,dx,hu,SJ,kn,kc⟩:=h;have nd:=Gh.nd;have lu:=fc da;have Mf:=hu.pos;have Mz:=hu.few;have br:Hu.R3 3000 r:=SJ.mono (by decide);have bp:∀p∈h,Hu.R3 3000 p:=λp hp=>((hu.ok p hp).r).mono (by decide);have tb:∀i,(Hu.tv r h i).natAbs<2^2000:=λi=>i7 (Hu.tl_b SJ (hu.ok _ (Hu.cD Mf i)).r) (G0 (by decide) (by decide));have tB:∀i,Bg (Hu.tv r h i):=λi=>dG (tb i) (by decide)
 have t3:∃t,LV (cN (Mw P w) P w K mg base yU "cut" (au kS) f cdv A outer s H E) ((lW (DH kS 4)).drop 3) t/\
   ∀N B H1 H' d lo hi v (i:Nat) L1 L2 o8,i<h.length->MI K H1 H' lo hi L1 L2->H1 l=some (.lst us)->H1 d=some (.lst ((h.map (Hu.tl r)).map V.int))->H1 lo=none->H1 hi=none->lo≠hi->DatAll K H1 (h.map LC) us->Dat K H' (LC (Hu.cor h i)) v->L1.length<=900->L2.length<=900->
    (∀LD Nu,MI K H1 LD lo hi (L1++(if Hu.tv r h i*Hu.tv r h (i+1)<0 then[Hu.mid (Hu.cor h i) (Hu.cor h (i+1)) (Hu.tv r h i) (Hu.tv r h (i+1))] else[])) (L2++(if Hu.tv r h i*Hu.tv r h (i+1)<0 then[Hu.mid (Hu.cor h i) (Hu.cor h (i+1)) (Hu.tv r h i) (Hu.tv r h (i+1))] else[]))->
     N [some (.ref l),some x,some (.ref d),some (.ref lo),some (.ref hi),some (.int i),some v,some (.int (((i+1)%h.length:Nat):Int)),Nu] LD)->
    t {nx:=N,ct:=N,bk:=B,rt:=Q} [some (.ref l),some x,some (.ref d),some (.ref lo),some (.ref hi),some (.int i),some v,some (.int (((i+1)%h.length:Nat):Int)),o8] H':=by
  refine⟨_,(aq (aT (aE jb (aM bu (aB bC (pv 2) (pv 5)) (aB bC (pv 2) (pv 7))) ao (aI _)) (ah (aJ (i:=8) (aH pX (aa (pv 6) (aa (aB bC (pv 0) (pv 7)) (aa (aB bC (pv 2) (pv 5)) (aa (aB bC (pv 2) (pv 7)) af))))))
  (ah (bB (cO c6 j7 j8 bj (pv 3) (aa (pv 8) af)))
  (aq (bB (cO c6 j7 j8 bj (pv 4) (aa (pv 8) af)))))) aL)),?_⟩
  intro N B H1 H' d lo hi v i L1 L2 o8 Mj mi L8 MC L7 LZ ne Mq dv l1 l2 n;have jl:(i+1)%h.length<h.length:=Lk _ Mf;have sd:LA K H' d ((h.map (Hu.tl r)).map V.int):=LA.of (mi.sm _ _ MC);have ai:=iy (r:=r) Mj;have aj:=iy (r:=r) jl;rw[Hu.zU]at aj;refine⟨_,rfl,_,rfl,_,_,_,_,rfl,rfl,sd,ai,_,rfl,_,rfl,_,_,_,_,rfl,rfl,sd,aj,_,_,rfl,rfl,dX (tB _) (tB _),_,_,rfl,rfl,_,rfl,?_⟩;refine cU (λc=>?_) (λc=>?_)
  .have c':Hu.tv r h i*Hu.tv r h (i+1)<0:=i9 c;rw[d8 c']at n;obtain⟨y,hy,dy⟩:=ma (Mq.ts mi.sm.ts) (Hu.kj jl);rw[Hu.oF]at dy;have sl:LA K H' l us:=LA.of (mi.sm _ _ L8);refine⟨_,rfl,_,rfl,_,rfl,_,_,_,_,rfl,rfl,sl,cF hy,_,rfl,_,rfl,_,_,_,_,rfl,rfl,sd,ai,_,rfl,_,rfl,_,_,_,_,rfl,rfl,sd,aj,v,y,Hu.cor h i,Hu.cor h (i+1),_,_,rfl,dv,dy,hu.ok _ (Hu.cD Mf i),hu.ok _ (Hu.cD Mf (i+1)),c',tb _,tb _,λm H2 s2 dm=>?_⟩;have m2:=mi.new s2;obtain⟨⟨u1,e1,k1⟩,u2,e2,k2⟩:=m2.len (by omega) (by omega);refine⟨_,rfl,.inl ⟨rfl,_,LA.of e1⟩,_,rfl,lo,u1,_,rfl,rfl,e1,aZ k1,?_⟩;have m3:=m2.app1 L7 ne e1 dm;have N9:(upd H2 lo (.lst (u1++[m]))) hi=some (.lst u2):=by rw[aA (Jp ne)];exact e2
   refine⟨_,rfl,.inl ⟨rfl,_,LA.of N9⟩,_,rfl,hi,u2,_,rfl,rfl,N9,aZ k2,?_⟩;exact n _ _ (m3.app2 LZ ne N9 (dm.ts (dj e1)))
  .have c':¬Hu.tv r h i*Hu.tv r h (i+1)<0:=λz=>c (i6 z);rw[i5 c',B0,B0]at n;exact n _ _ mi
 obtain⟨t3,VM,QN⟩:=t3
 have t2:∃t,LV (cN (Mw P w) P w K mg base yU "cut" (au kS) f cdv A outer s H E) ((lW (DH kS 4)).drop 2) t/\
   ∀N B H1 H' d lo hi v (i:Nat) L1 L2 o8,i<h.length->MI K H1 H' lo hi L1 L2->H1 l=some (.lst us)->H1 d=some (.lst ((h.map (Hu.tl r)).map V.int))->H1 lo=none->H1 hi=none->lo≠hi->DatAll K H1 (h.map LC) us->Dat K H' (LC (Hu.cor h i)) v->L1.length<=800->L2.length<=800->
    (∀LD Nu,MI K H1 LD lo hi (L1++(if Hu.tv r h i*Hu.tv r h (i+1)<0 then[Hu.mid (Hu.cor h i) (Hu.cor h (i+1)) (Hu.tv r h i) (Hu.tv r h (i+1))] else[])) (L2++Hu.stp h (Hu.tn r h) i)->
     N [some (.ref l),some x,some (.ref d),some (.ref lo),some (.ref hi),some (.int i),some v,some (.int (((i+1)%h.length:Nat):Int)),Nu] LD)->
    t {nx:=N,ct:=N,bk:=B,rt:=Q} [some (.ref l),some x,some (.ref d),some (.ref lo),some (.ref hi),some (.int i),some v,some (.int (((i+1)%h.length:Nat):Int)),o8] H':=by
  refine⟨_,ah (aT (aE sR (aB bC (pv 2) (pv 5)) ao (aI _)) (aq (bB (cO c6 j7 j8 bj (pv 4) (aa (pv 6) af)))) aL) VM,?_⟩;intro N B H1 H' d lo hi v i L1 L2 o8 Mj mi L8 MC L7 LZ ne Mq dv l1 l2 n;have sd:LA K H' d ((h.map (Hu.tl r)).map V.int):=LA.of (mi.sm _ _ MC);have ai:=iy (r:=r) Mj;rw[Hu.xS]at n;refine⟨_,rfl,_,rfl,_,_,_,_,rfl,rfl,sd,ai,_,_,rfl,rfl,_,rfl,?_⟩;refine cU (λc=>?_) (λc=>?_)
  .have c':0<=Hu.tv r h i:=i9 c;rw[d8 c']at n;obtain⟨_,u2,e2,k2⟩:=mi.len (by omega) (by omega);refine⟨_,rfl,.inl ⟨rfl,_,LA.of e2⟩,_,rfl,hi,u2,_,rfl,rfl,e2,aZ k2,?_⟩;refine QN N B H1 _ d lo hi v i L1 (L2++[Hu.cor h i]) o8 Mj (mi.app2 LZ ne e2 dv) L8 MC L7 LZ ne Mq (dv.ts (dj e2)) (by omega) (by simp;omega) λLD o' m=>n LD o' ?_;rw[w6]at m;exact m
  .have c':¬0<=Hu.tv r h i:=λz=>c (i6 z);rw[i5 c',x9]at n;exact QN N B H1 _ d lo hi v i L1 L2 o8 Mj mi L8 MC L7 LZ ne Mq dv (by omega) (by omega) n
 obtain⟨t2,Zt,Mu⟩:=t2
 have t1:∃t,LV (cN (Mw P w) P w K mg base yU "cut" (au kS) f cdv A outer s H E) (lW (DH kS 4)) t/\
   ∀N B H1 H' d lo hi v (i:Nat) L1 L2 o7 o8,i<h.length->MI K H1 H' lo hi L1 L2->H1 l=some (.lst us)->H1 d=some (.lst ((h.map (Hu.tl r)).map V.int))->H1 lo=none->H1 hi=none->lo≠hi->DatAll K H1 (h.map LC) us->Dat K H' (LC (Hu.cor h i)) v->L1.length<=700->L2.length<=700->
    (∀LD Vp Nu,MI K H1 LD lo hi (L1++Hu.stp h (Hu.tv r h) i) (L2++Hu.stp h (Hu.tn r h) i)->
     N [some (.ref l),some x,some (.ref d),some (.ref lo),some (.ref hi),some (.int i),some v,Vp,Nu] LD)->
    t {nx:=N,ct:=N,bk:=B,rt:=Q} [some (.ref l),some x,some (.ref d),some (.ref lo),some (.ref hi),some (.int i),some v,o7,o8] H':=by
  refine⟨_,ah (aJ (i:=7) (aM iA (aM cA (pv 5) ao) (aG bL bE (aa (pv 0) af)))) (ah (aT (aE jF (aB bC (pv 2) (pv 5)) ao (aI _)) (aq (bB (cO c6 j7 j8 bj (pv 3) (aa (pv 6) af)))) aL) Zt),?_⟩;intro N B H1 H' d lo hi v i L1 L2 o7 o8 Mj mi L8 MC L7 LZ ne Mq dv l1 l2 n;have sl:LA K H' l us:=LA.of (mi.sm _ _ L8);have sd:LA K H' d ((h.map (Hu.tl r)).map V.int):=LA.of (mi.sm _ _ MC);have ai:=iy (r:=r) Mj;refine⟨_,rfl,_,_,rfl,rfl,_,rfl,_,_,rfl,.inl ⟨_,sl,rfl⟩,_,_,rfl,rfl,(by rw[lu];omega),?_⟩;rw[lu];dsimp only;rw[Hu.tK];refine⟨_,rfl,_,rfl,_,_,_,_,rfl,rfl,sd,ai,_,_,rfl,rfl,_,rfl,?_⟩;refine cU (λc=>?_) (λc=>?_)
  .have c':Hu.tv r h i<=0:=i9 c;obtain⟨⟨u1,e1,k1⟩,_⟩:=mi.len (by omega) (by omega);refine⟨_,rfl,.inl ⟨rfl,_,LA.of e1⟩,_,rfl,lo,u1,_,rfl,rfl,e1,aZ k1,?_⟩;refine Mu N B H1 _ d lo hi v i (L1++[Hu.cor h i]) L2 o8 Mj (mi.app1 L7 ne e1 dv) L8 MC L7 LZ ne Mq (dv.ts (dj e1)) (by simp;omega) (by omega) λLD o' m=>n LD _ o' ?_;rw[w6]at m;rw[show Hu.stp h (Hu.tv r h) i=[Hu.cor h i]++(if Hu.tv r h i*Hu.tv r h (i+1)<0 then[Hu.mid (Hu.cor h i) (Hu.cor h (i+1)) (Hu.tv r h i) (Hu.tv r h (i+1))] else[]) by unfold Hu.stp;rw[d8 c']];exact m
  .have c':¬Hu.tv r h i<=0:=λz=>c (i6 z);refine Mu N B H1 _ d lo hi v i L1 L2 o8 Mj mi L8 MC L7 LZ ne Mq dv (by omega) (by omega) λLD o' m=>n LD _ o' ?_;rw[show Hu.stp h (Hu.tv r h) i=(if Hu.tv r h i*Hu.tv r h (i+1)<0 then[Hu.mid (Hu.cor h i) (Hu.cor h (i+1)) (Hu.tv r h i) (Hu.tv r h (i+1))] else[]) by unfold Hu.stp;rw[i5 c',x9]];exact m
 obtain⟨t1,SF,Ov⟩:=t1
 have t4:∃t,LV (cN (Mw P w) P w K mg base yU "cut" (au kS) f cdv A outer s H E) ((bI kS).drop 2) t/\
   ∀H1 d,¬Hu.hX r h->aK H H1->H1 d=some (.lst ((h.map (Hu.tl r)).map V.int))->t {nx:=λ_ H'=>Q .non H',rt:=Q} [some (.ref l),some x,some (.ref d),none,none,none,none,none,none] H1:=by
  refine⟨_,ah (aJ (i:=3) (bW af)) (ah (aJ (i:=4) (bW af)) (ah (eQ PassesOwn.leaving rfl (wJ rfl cV (pv 0)) (iR rfl (aY (aS (i:=5)) (aY (aS (i:=6)) cZ))) SF) (aq (av (bc (aa (pv 3) (aa (pv 4) af))))))),?_⟩;intro H1 d nc sm hd;have L8:=sm _ _ hl;have Mq:=da.ts sm.ts;refine⟨(by show 0<=sizeLine;decide),λlo L7=>⟨(by show 0<=sizeLine;decide),λhi LZ=>?_⟩⟩;have u1:=ak L7 (.lst []);have u2:=ak LZ (.lst []);have ne:lo≠hi:=λz=>by subst z;rw[ae]at LZ;cases LZ
  have NZ:H1 hi=none:=by rw[aA (Jp ne)]at LZ;exact LZ
  refine⟨_,rfl,l,rfl,⟨us,LA.of ((u1.trans u2) _ _ L8)⟩,?_⟩
  refine tJ (xs:=us) (λi σ H'=>i<=us.length/\MI K H1 H' lo hi (Hu.fl (Hu.stp h (Hu.tv r h)) i) (Hu.fl (Hu.stp h (Hu.tn r h)) i)/\∃o5 o6 o7 o8,σ=[some (.ref l),some x,some (.ref d),some (.ref lo),some (.ref hi),o5,o6,o7,o8])
   ⟨y7 _,⟨u1.trans u2,[],[],u2 _ _ ae,ae,rfl,rfl⟩,_,_,_,_,rfl⟩ (λi σ H' _ z=>LA.of (z.2.1.sm _ _ L8)) (λi v T' σ H' hv z hT=>?_) (λσ H' z=>?_)
  .obtain⟨_,mi,o5,o6,o7,o8,rfl⟩:=z;have Mj:i<us.length:=(d6.mp hv).1;have uT:=ak hT (.tup [.int i,v]);obtain⟨p,hp,dp⟩:=kF (Mq.ts mi.sm.ts) hv;have ep:p=Hu.cor h i:=by rw[Hu.kj (by omega)]at hp;exact(l7 hp).symm
   subst ep;have f1:=Hu.tL (Hu.nP hu (Hu.tv r h)).len i;have f2:=Hu.tL (Hu.nP hu (Hu.tn r h)).len i;refine⟨T',_,rfl,Lz.of ae,rfl,_,_,rfl,_,_,rfl,rfl,?_⟩;refine Ov _ _ H1 _ d lo hi v i _ _ o7 o8 (by omega) (mi.new uT) L8 hd L7 NZ ne Mq (dp.ts uT.ts) (by omega) (by omega) λLD Vp Nu m=>⟨Mj,?_,_,_,_,_,rfl⟩;rw[Hu.bD,Hu.bD];exact m
  .obtain⟨_,mi,o5,o6,o7,o8,rfl⟩:=z;rw[lu]at mi;refine⟨_,rfl,_,rfl,(by show 2<=sizeLine;decide),λtt M9=>?_⟩;have u3:=ak M9 (.tup [.ref lo,.ref hi]);obtain⟨w1,w2,e1,e2,d1,d2⟩:=(mi.new u3).ex;refine kc nc _ _ (sm.trans (mi.sm.trans u3)) ⟨tt,lo,hi,w1,w2,rfl,ne,?_,?_,Lz.of ae,e1,e2,d1,d2⟩
   .exact sm.free L7
   .exact sm.free NZ
 obtain⟨t4,SE,Uq⟩:=t4;refine⟨_,ah (aJ (i:=2) (aH gw (aa (pv 1) (aa (pv 0) af)))) (ah (aT (PW.pt (eM (aE sR (aG (iI rfl) bS (aa (pv 2) af)) ao (aI _)) (fV (aE jF (aG (jI rfl) ck (aa (pv 2) af)) ao (aI _))))) (aq (GQ rfl Qf P9 (aa aR af))) aL) SE),?_⟩;refine⟨_,rfl,_,rfl,x,l,us,r,h,rfl,dx,LA.of hl,da,br,bp,by omega,λH' s'=>LA.of (s' _ _ hl),λd H1 s1 hd0 hd=>?_⟩;have L4:0<(h.map (Hu.tl r)).length:=by rw[j4];exact Mf
 refine⟨_,rfl,d,_,rfl,LA.of hd,L4,λM hM MF=>?_⟩;refine⟨_,_,rfl,rfl,_,rfl,?_⟩;refine cU (λc=>?_) (λc=>?_)
 .have c':0<=M:=i9 c;exact⟨(by show 1<=sizeLine;decide),kn (.inl λp hp=>JL c' (MF _ (y9.mpr ⟨p,hp,rfl⟩))) _ s1⟩
 have c1:¬0<=M:=λz=>c (i6 z);refine⟨_,rfl,d,_,rfl,LA.of hd,L4,λM2 Oy MR=>?_⟩;refine⟨_,_,rfl,rfl,_,rfl,?_⟩;refine cU (λc=>?_) (λc=>?_)
 .have c':M2<=0:=i9 c;exact⟨(by show 1<=sizeLine;decide),kn (.inr λp hp=>JL (MR _ (y9.mpr ⟨p,hp,rfl⟩)) c') _ s1⟩
 have c2:¬M2<=0:=λz=>c (i6 z);obtain⟨p1,Mi,Ut⟩:=y9.mp hM;obtain⟨p2,LO,QW⟩:=y9.mp Oy;refine Uq H1 d (λnc=>?_) s1 hd;rcases nc with z | z
 .have:=z p1 Mi;omega
 .have:=z p2 LO;omega
noncomputable def lw(k:Nat):Str:=if k=0 then "never" else if k=1 then "always" else if k=2 then "p" else "q"
noncomputable def fw(k:Nat):Str:=if k=0 then "more" else if k=1 then "less" else if k=2 then "greater" else if k=3 then "lesser" else "leads"
noncomputable def rwV:Hu.Row->List PyData
 | .lf k=>[.str (lw k)]
 | .nt i=>[.str "not",.int i]
 | .fd k i j=>[.str (fw k),.int i,.int j]
noncomputable def Xy:Hu.Row->List V
 | .lf k=>[.str (lw k)]
 | .nt i=>[.str "not",.int i]
 | .fd k i j=>[.str (fw k),.int i,.int j]
noncomputable def mU(r:Hu.Row):PyData:=.tuple (rwV r)
def nB(rows:List Hu.Row):Prop:=∀(k:Nat) r,rows[k]?=some r->r.Ok k
section
variable{K:W.Frag}{H H':Hp}{v:V}{r:Hu.Row}
theorem Gz(g:Dat K H (mU r) v):∃a,v=.ref a/\Lz K H a (Xy r):=by
 cases r with
 | lf k =>
  obtain⟨a,xs,rfl,g,x,t,rfl,hx,ht⟩:=g;cases(show x=V.str (lw k) from hx)
  cases(show t=[] from ht)
  exact⟨a,rfl,g⟩
 | nt i =>
  obtain⟨a,xs,rfl,g,x,t,rfl,hx,y,u,rfl,hy,ht⟩:=g;cases(show x=V.str "not" from hx)
  cases(show y=V.int i from hy)
  cases(show u=[] from ht)
  exact⟨a,rfl,g⟩
 | fd k i j =>
  obtain⟨a,xs,rfl,g,x,t,rfl,hx,y,u,rfl,hy,z,w,rfl,hz,ht⟩:=g;cases(show x=V.str (fw k) from hx)
  cases(show y=V.int i from hy)
  cases(show z=V.int j from hz)
  cases(show w=[] from ht)
  exact⟨a,rfl,g⟩
theorem RX{a:Addr}(g:Lz K H a (Xy r)):Dat K H (mU r) (.ref a):=by
 cases r with
 | lf k=>exact⟨a,_,rfl,g,_,_,rfl,rfl,rfl⟩
 | nt i=>exact⟨a,_,rfl,g,_,_,rfl,rfl,_,_,rfl,rfl,rfl⟩
 | fd k i j=>exact⟨a,_,rfl,g,_,_,rfl,rfl,_,_,rfl,rfl,_,_,rfl,rfl,rfl⟩
theorem Cu{xs:List V}{rows:List Hu.Row}(g:DatAll K H (rows.map mU) xs){x:V}(e:xs[i]?=some x):∃r,rows[i]?=some r/\Dat K H (mU r) x:=by
 obtain⟨d,e1,e2⟩:=g.get' e;rw[x6]at e1;cases z:rows[i]? with
 | none=>rw[z]at e1;cases e1
 | some s=>rw[z]at e1;cases e1;exact⟨s,rfl,e2⟩
theorem Ct{xs:List V}{rows:List Hu.Row}(g:DatAll K H (rows.map mU) xs):xs.length=rows.length:=by rw[g.len,j4]
end
inductive Ug(K:W.Frag)(f:T3->T3->T3)(vs:List V)(H:Hp)(Q:VK)(E:XK):Prop
 | mk (x y p q):vs=[x,y]->Dat K H (LC p) x->Dat K H (LC q) y->(∀t H',aK H H'->Dat K H' (LC (f p q)) (.ref t)->Q (.ref t) H')->Ug K f vs H Q E
def Ch(K:W.Frag)(H:Hp)(c:T3×T3×T3)(v:V):Prop:=∃t x y z,v=.ref t/\Lz K H t [x,y,z]/\Dat K H (LC c.1) x/\Dat K H (LC c.2.1) y/\Dat K H (LC c.2.2) z
inductive Ag(K:W.Frag)(vs:List V)(H:Hp)(Q:VK)(E:XK):Prop
 | mk (k:Nat):vs=[.str (lw k)]->k<4->(∀v,Dat K H (LC (Hu.lft k)) v->Q v H)->Ag K vs H Q E
inductive Ah(K:W.Frag)(vs:List V)(H:Hp)(Q:VK)(E:XK):Prop
 | mk (k:Nat) (x y a b):vs=[.str (fw k),x,y]->k<5->Dat K H (LC a) x->Dat K H (LC b) y->(∀v H',aK H H'->Ch K H' (Hu.fch k a b) v->Q v H')->Ah K vs H Q E
theorem ok_both(T:aC K mg "both" Ap)(gD:mg "zip"=none)(aW:mg "tuple"=none):Def P w K mg base 1 "both" ["one","other"] (Ug K Hu.pl):=by
 refine aQ T Cn ?_ ?_
 .walk_at "i1"
 walk_at "i2";obtain⟨x,y,p,q,rfl,dx,dy,k⟩:=h;obtain⟨ax,rfl,sx⟩:=cW dx;obtain⟨ay,rfl,sy⟩:=cW dy;have nd:=Cn.nd;refine⟨_,(aq (av (cJ cH aW (aa (lP (xs:=["first","second"]) (oq rfl gD (pv 0) (pv 1)) cC (λ_ _ _ _=>lO (K:=K) (n:=2) rfl rfl (aY (aS (i:=0) (hN:=(show(["first","second"]:List Str).Nodup by decide+kernel)) (hf:=(.inr rfl))) (aY (aS (i:=1) (hN:=(show(["first","second"]:List Str).Nodup by decide+kernel)) (hf:=(.inr rfl))) cZ))) (λ_ _ _ _=>(aM cA (pv 0) (pv 1)))) af)))),?_⟩;refine⟨_,rfl,_,rfl,ax,ay,_,_,rfl,rfl,sx,sy,λD hD=>?_⟩;refine⟨λi m H2=>m=3-i/\i<=3/\aK H H2/\H2 D=some (.lst ([V.int (p.u+q.u),.int (p.v+q.v),.int (p.w+q.w)].take i)),⟨_,rfl,y7 _,ak hD _,ae⟩,?_⟩;rintro i m H2 ⟨rfl,hi,sm,Md⟩
 have M6:=sx.ts sm.ts;have M5:=sy.ts sm.ts
 by_cases LI:i<3
 .refine .inr ⟨⟨_,_,M6,M5,LI,c7 _⟩,λo ho v H3 y=>?_⟩;obtain⟨T',vs,nT,rfl,rfl,x,y,rfl,hx,hy⟩:=y;have zx:=hx _ M6;have zy:=hy _ M5;obtain⟨o1,o2,rfl⟩:=Pr ho;have uT:=ak nT (.tup [x,y]);refine⟨T',_,rfl,Lz.of ae,rfl,_,_,rfl,_,_,rfl,rfl,[some x,some y],rfl,rfl,?_⟩;have LY:=uT _ _ Md;rcases(show i=0\/i=1\/i=2 by omega) with rfl | rfl | rfl
  .cases zx
   cases zy
   exact⟨_,rfl,_,rfl,_,_,rfl,rfl,_,LY,aZ (by simp),3-1,by omega,rfl,by omega,aX (sm.trans uT) hD _,ae⟩
  .cases zx
   cases zy
   exact⟨_,rfl,_,rfl,_,_,rfl,rfl,_,LY,aZ (by simp),3-2,by omega,rfl,by omega,aX (sm.trans uT) hD _,ae⟩
  .cases zx
   cases zy
   exact⟨_,rfl,_,rfl,_,_,rfl,rfl,_,LY,aZ (by simp),3-3,by omega,rfl,by omega,aX (sm.trans uT) hD _,ae⟩
 have ei:i=3:=by omega
 subst ei;refine .inl ⟨⟨_,_,M6,M5,c7 _,c7 _⟩,?_⟩;refine⟨D,_,rfl,.inl ⟨LA.of Md,λtt M9=>?_⟩⟩;exact k tt _ (sm.trans (ak M9 _)) (cg (p:=Hu.pl p q) (Lz.of ae))
theorem Az(T:aC K mg "without" oX)(gD:mg "zip"=none)(aW:mg "tuple"=none):Def P w K mg base 1 "without" ["one","other"] (Ug K Hu.mi):=by
 refine aQ T rP ?_ ?_
 .walk_at "i1"
 walk_at "i2";obtain⟨x,y,p,q,rfl,dx,dy,k⟩:=h;obtain⟨ax,rfl,sx⟩:=cW dx;obtain⟨ay,rfl,sy⟩:=cW dy;have nd:=rP.nd;refine⟨_,(aq (av (cJ cH aW (aa (lP (xs:=["first","second"]) (oq rfl gD (pv 0) (pv 1)) cC (λ_ _ _ _=>lO (K:=K) (n:=2) rfl rfl (aY (aS (i:=0) (hN:=(show(["first","second"]:List Str).Nodup by decide+kernel)) (hf:=(.inr rfl))) (aY (aS (i:=1) (hN:=(show(["first","second"]:List Str).Nodup by decide+kernel)) (hf:=(.inr rfl))) cZ))) (λ_ _ _ _=>(aM dB (pv 0) (pv 1)))) af)))),?_⟩;refine⟨_,rfl,_,rfl,ax,ay,_,_,rfl,rfl,sx,sy,λD hD=>?_⟩;refine⟨λi m H2=>m=3-i/\i<=3/\aK H H2/\H2 D=some (.lst ([V.int (p.u-q.u),.int (p.v-q.v),.int (p.w-q.w)].take i)),⟨_,rfl,y7 _,ak hD _,ae⟩,?_⟩;rintro i m H2 ⟨rfl,hi,sm,Md⟩
 have M6:=sx.ts sm.ts;have M5:=sy.ts sm.ts
 by_cases LI:i<3
 .refine .inr ⟨⟨_,_,M6,M5,LI,c7 _⟩,λo ho v H3 y=>?_⟩;obtain⟨T',vs,nT,rfl,rfl,x,y,rfl,hx,hy⟩:=y;have zx:=hx _ M6;have zy:=hy _ M5;obtain⟨o1,o2,rfl⟩:=Pr ho;have uT:=ak nT (.tup [x,y]);refine⟨T',_,rfl,Lz.of ae,rfl,_,_,rfl,_,_,rfl,rfl,[some x,some y],rfl,rfl,?_⟩;have LY:=uT _ _ Md;rcases(show i=0\/i=1\/i=2 by omega) with rfl | rfl | rfl
  .cases zx
   cases zy
   exact⟨_,rfl,_,rfl,_,_,rfl,rfl,_,LY,aZ (by simp),3-1,by omega,rfl,by omega,aX (sm.trans uT) hD _,ae⟩
  .cases zx
   cases zy
   exact⟨_,rfl,_,rfl,_,_,rfl,rfl,_,LY,aZ (by simp),3-2,by omega,rfl,by omega,aX (sm.trans uT) hD _,ae⟩
  .cases zx
   cases zy
   exact⟨_,rfl,_,rfl,_,_,rfl,rfl,_,LY,aZ (by simp),3-3,by omega,rfl,by omega,aX (sm.trans uT) hD _,ae⟩
 have ei:i=3:=by omega
 subst ei;refine .inl ⟨⟨_,_,M6,M5,c7 _,c7 _⟩,?_⟩;refine⟨D,_,rfl,.inl ⟨LA.of Md,λtt M9=>?_⟩⟩;exact k tt _ (sm.trans (ak M9 _)) (cg (p:=Hu.mi p q) (Lz.of ae))
theorem ok_leaf(T:aC K mg "leaf_rule" kP)(iD:fA K mg "NEVER" [0,0,0])(gq:fA K mg "ALWAYS" [0,0,1])(nE:fA K mg "LETTER_P" [1,0,0])(nC:fA K mg "LETTER_Q" [0,1,0]):Def P w K mg base 1 "leaf_rule" ["word"] (Ag K):=by
 refine aQ T nX ?_ ?_
 .walk_at "i1"
 walk_at "i2";obtain⟨k,rfl,hk,q⟩:=h;obtain⟨OD,oK,U4⟩:=iD.ex;obtain⟨Nn,fh,U6⟩:=gq.ex;obtain⟨aLP,BE,sLP⟩:=nE.ex;obtain⟨aLQ,BD,sLQ⟩:=nC.ex;have nd:=nX.nd
 refine⟨_,(ah (aT (aE cy (pv 0) aR (aI _)) (aq (av (cS (v:=V.ref OD) rfl oK rfl))) aL)
  (ah (aT (aE cy (pv 0) aR (aI _)) (aq (av (cS (v:=V.ref Nn) rfl fh rfl))) aL)
  (aq (av (kY (aE cy (pv 0) aR (aI _)) (cS (v:=V.ref aLP) rfl BE rfl) (cS (v:=V.ref aLQ) rfl BD rfl)))))),?_⟩
 rcases(by omega:k=0\/k=1\/k=2\/k=3) with rfl | rfl | rfl | rfl
 .refine⟨_,rfl,rfl,_,rfl,?_⟩;rw[show decide (V.str (lw 0)=V.str "never")=true by decide+kernel];exact dR (q _ (cg (p:=⟨0,0,0⟩) (U4 H)))
 .refine⟨_,rfl,rfl,_,rfl,?_⟩;rw[show decide (V.str (lw 1)=V.str "never")=false by decide+kernel];refine bJ ?_;refine⟨_,rfl,rfl,_,rfl,?_⟩;rw[show decide (V.str (lw 1)=V.str "always")=true by decide+kernel];exact dR (q _ (cg (p:=⟨0,0,1⟩) (U6 H)))
 .refine⟨_,rfl,rfl,_,rfl,?_⟩;rw[show decide (V.str (lw 2)=V.str "never")=false by decide+kernel];refine bJ ?_;refine⟨_,rfl,rfl,_,rfl,?_⟩;rw[show decide (V.str (lw 2)=V.str "always")=false by decide+kernel];refine bJ ?_;refine⟨_,rfl,rfl,_,rfl,?_⟩;rw[show decide (V.str (lw 2)=V.str "p")=true by decide+kernel];exact dR (q _ (cg (p:=⟨1,0,0⟩) (sLP H)))
 .refine⟨_,rfl,rfl,_,rfl,?_⟩;rw[show decide (V.str (lw 3)=V.str "never")=false by decide+kernel];refine bJ ?_;refine⟨_,rfl,rfl,_,rfl,?_⟩;rw[show decide (V.str (lw 3)=V.str "always")=false by decide+kernel];refine bJ ?_;refine⟨_,rfl,rfl,_,rfl,?_⟩;rw[show decide (V.str (lw 3)=V.str "p")=false by decide+kernel];exact bJ (q _ (cg (p:=⟨0,1,0⟩) (sLQ H)))
theorem ok_fold(T:aC K mg "fold_choice" jj)(iD:fA K mg "NEVER" [0,0,0])(gq:fA K mg "ALWAYS" [0,0,1])(uf:Def P w K mg base 1 "both" ["one","other"] (Ug K Hu.pl))(eY:Def P w K mg base 1 "without" ["one","other"] (Ug K Hu.mi)):Def P w K mg base 2 "fold_choice" ["word","one","other"] (Ah K):=by
 refine aQ T kO ?_ ?_
 .walk_at "i1"
 walk_at "i2";obtain⟨k,x,y,a,b,rfl,hk,dx,dy,q⟩:=h;obtain⟨OD,oK,U4⟩:=iD.ex;obtain⟨Nn,fh,U6⟩:=gq.ex;have QZ:∀H,Dat K H (LC Hu.al) (.ref Nn):=λH=>cg (p:=Hu.al) (U6 H);have X6:∀H,Dat K H (LC Hu.z0) (.ref OD):=λH=>cg (p:=Hu.z0) (U4 H);have nd:=kO.nd
 refine⟨_,(ah (aT (aE cy (pv 0) aR (aI _)) (aq (av (bc (aa (aH eY (aa (aH uf (aa (pv 1) (aa (pv 2) af))) (aa (cS (v:=V.ref Nn) rfl fh rfl) af))) (aa (aH uf (aa (pv 1) (aa (pv 2) af))) (aa (cS (v:=V.ref Nn) rfl fh rfl) af)))))) aL)
  (ah (aT (aE cy (pv 0) aR (aI _)) (aq (av (bc (aa (aH eY (aa (aH uf (aa (pv 1) (aa (pv 2) af))) (aa (cS (v:=V.ref Nn) rfl fh rfl) af))) (aa (cS (v:=V.ref OD) rfl oK rfl) (aa (aH eY (aa (aH uf (aa (pv 1) (aa (pv 2) af))) (aa (cS (v:=V.ref Nn) rfl fh rfl) af))) af)))))) aL)
  (ah (aT (aE cy (pv 0) aR (aI _)) (aq (av (bc (aa (aH eY (aa (pv 1) (aa (pv 2) af))) (aa (pv 2) (aa (pv 1) af)))))) aL)
  (ah (aT (aE cy (pv 0) aR (aI _)) (aq (av (bc (aa (aH eY (aa (pv 1) (aa (pv 2) af))) (aa (pv 1) (aa (pv 2) af)))))) aL)
  (aq (av (bc (aa (aH eY (aa (pv 2) (aa (pv 1) af))) (aa (aH uf (aa (cS (v:=V.ref Nn) rfl fh rfl) (aa (aH eY (aa (pv 2) (aa (pv 1) af))) af))) (aa (cS (v:=V.ref Nn) rfl fh rfl) af)))))))))),?_⟩
 have d2:(2:Nat)<=sizeLine:=by decide
 have d3:(3:Nat)<=sizeLine:=by decide
 rcases(by omega:k=0\/k=1\/k=2\/k=3\/k=4) with rfl | rfl | rfl | rfl | rfl
 .refine⟨_,rfl,rfl,_,rfl,?_⟩;rw[show decide (V.str (fw 0)=V.str "more")=true by decide+kernel];refine dR ?_;refine⟨_,rfl,_,rfl,_,_,a,b,rfl,dx,dy,λt1 H1 s1 e1=>?_⟩;refine⟨_,_,_,_,rfl,e1,QZ H1,λt2 H2 s2 e2=>?_⟩;have m2:=s1.trans s2;refine⟨_,rfl,_,rfl,_,_,a,b,rfl,dx.ts m2.ts,dy.ts m2.ts,λt3 H3 s3 e3=>⟨d3,λt ht=>?_⟩⟩;have u:=ak ht (.tup [.ref t2,.ref t3,.ref Nn]);exact q _ _ (m2.trans (s3.trans u)) ⟨t,_,_,_,rfl,Lz.of ae,(e2.ts s3.ts).ts u.ts,e3.ts u.ts,QZ _⟩
 .refine⟨_,rfl,rfl,_,rfl,?_⟩;rw[show decide (V.str (fw 1)=V.str "more")=false by decide+kernel];refine bJ ?_;refine⟨_,rfl,rfl,_,rfl,?_⟩;rw[show decide (V.str (fw 1)=V.str "less")=true by decide+kernel];refine dR ?_;refine⟨_,rfl,_,rfl,_,_,a,b,rfl,dx,dy,λt1 H1 s1 e1=>?_⟩;refine⟨_,_,_,_,rfl,e1,QZ H1,λt2 H2 s2 e2=>?_⟩;have m2:=s1.trans s2;refine⟨_,rfl,_,rfl,_,_,a,b,rfl,dx.ts m2.ts,dy.ts m2.ts,λt3 H3 s3 e3=>?_⟩;refine⟨_,_,_,_,rfl,e3,QZ H3,λt4 H4 s4 e4=>⟨d3,λt ht=>?_⟩⟩;have u:=ak ht (.tup [.ref t2,.ref OD,.ref t4]);exact q _ _ (m2.trans (s3.trans (s4.trans u))) ⟨t,_,_,_,rfl,Lz.of ae,((e2.ts s3.ts).ts s4.ts).ts u.ts,X6 _,e4.ts u.ts⟩
 .refine⟨_,rfl,rfl,_,rfl,?_⟩;rw[show decide (V.str (fw 2)=V.str "more")=false by decide+kernel];refine bJ ?_;refine⟨_,rfl,rfl,_,rfl,?_⟩;rw[show decide (V.str (fw 2)=V.str "less")=false by decide+kernel];refine bJ ?_;refine⟨_,rfl,rfl,_,rfl,?_⟩;rw[show decide (V.str (fw 2)=V.str "greater")=true by decide+kernel];refine dR ?_;refine⟨_,rfl,_,rfl,_,_,a,b,rfl,dx,dy,λt1 H1 s1 e1=>?_⟩;refine⟨_,rfl,_,rfl,d3,λt ht=>?_⟩;have u:=ak ht (.tup [.ref t1,y,x]);exact q _ _ (s1.trans u) ⟨t,_,_,_,rfl,Lz.of ae,e1.ts u.ts,(dy.ts s1.ts).ts u.ts,(dx.ts s1.ts).ts u.ts⟩
 .refine⟨_,rfl,rfl,_,rfl,?_⟩;rw[show decide (V.str (fw 3)=V.str "more")=false by decide+kernel];refine bJ ?_;refine⟨_,rfl,rfl,_,rfl,?_⟩;rw[show decide (V.str (fw 3)=V.str "less")=false by decide+kernel];refine bJ ?_;refine⟨_,rfl,rfl,_,rfl,?_⟩;rw[show decide (V.str (fw 3)=V.str "greater")=false by decide+kernel];refine bJ ?_;refine⟨_,rfl,rfl,_,rfl,?_⟩;rw[show decide (V.str (fw 3)=V.str "lesser")=true by decide+kernel];refine dR ?_;refine⟨_,rfl,_,rfl,_,_,a,b,rfl,dx,dy,λt1 H1 s1 e1=>?_⟩;refine⟨_,rfl,_,rfl,d3,λt ht=>?_⟩;have u:=ak ht (.tup [.ref t1,x,y]);exact q _ _ (s1.trans u) ⟨t,_,_,_,rfl,Lz.of ae,e1.ts u.ts,(dx.ts s1.ts).ts u.ts,(dy.ts s1.ts).ts u.ts⟩
 .refine⟨_,rfl,rfl,_,rfl,?_⟩;rw[show decide (V.str (fw 4)=V.str "more")=false by decide+kernel];refine bJ ?_;refine⟨_,rfl,rfl,_,rfl,?_⟩;rw[show decide (V.str (fw 4)=V.str "less")=false by decide+kernel];refine bJ ?_;refine⟨_,rfl,rfl,_,rfl,?_⟩;rw[show decide (V.str (fw 4)=V.str "greater")=false by decide+kernel];refine bJ ?_;refine⟨_,rfl,rfl,_,rfl,?_⟩;rw[show decide (V.str (fw 4)=V.str "lesser")=false by decide+kernel];refine bJ ?_;refine⟨_,rfl,_,rfl,_,_,b,a,rfl,dy,dx,λt1 H1 s1 e1=>?_⟩;refine⟨_,rfl,_,rfl,_,_,b,a,rfl,dy.ts s1.ts,dx.ts s1.ts,λt2 H2 s2 e2=>?_⟩;refine⟨_,_,_,_,rfl,QZ H2,e2,λt3 H3 s3 e3=>⟨d3,λt ht=>?_⟩⟩;have u:=ak ht (.tup [.ref t1,.ref t3,.ref Nn]);exact q _ _ (s1.trans (s2.trans (s3.trans u))) ⟨t,_,_,_,rfl,Lz.of ae,((e1.ts s2.ts).ts s3.ts).ts u.ts,e3.ts u.ts,QZ _⟩
inductive rL(K:W.Frag)(vs:List V)(H:Hp)(Q:VK)(E:XK):Prop
 | mk (x lr ws r rs):vs=[x,.ref lr]->Dat K H (mU r) x->H lr=some (.lst ws)->DatAll K H (rs.map LC) ws->r.Ok rs.length->(∀v H',aK H H'->Ch K H' (Hu.choice rs r) v->Q v H')->rL K vs H Q E
inductive rK(K:W.Frag)(vs:List V)(H:Hp)(Q:VK)(E:XK):Prop
 | mk (l v us h c):vs=[.ref l,v]->H l=some (.lst us)->DatAll K H (h.map LC) us->Ch K H c v->Hu.R3 3000 c.1->(∀p∈h,Hu.R3 3000 p)->0<h.length->h.length<=900->((∀x u H',aK H H'->Hu.bo h c=some x->Dat K H' (LC x) u->Q u H'))->((Hu.bo h c=none->∀H',aK H H'->Q .non H'))->rK K vs H Q E
inductive qI(K:W.Frag)(vs:List V)(H:Hp)(Q:VK)(E:XK):Prop
 | mk (l lh:Addr) (us hs:List V) (rows:List Hu.Row) (h:List T3):vs=[.ref l,.ref lh]->H l=some (.lst us)->DatAll K H (rows.map mU) us->nB rows->0<rows.length->rows.length<=100->H lh=some (.lst hs)->DatAll K H (h.map LC) hs->(∀p∈h,Hu.R3 3000 p)->0<h.length->h.length<=900->((∀(rs:List T3)(t lr:Addr)(ws:List V)(H':Hp),aK H H'->Hu.run h rows []=.rules rs->Hu.Rb rs->rs.length=rows.length->H lr=none->Lz K H' t [.str "rules",.ref lr]->H' lr=some (.lst ws)->DatAll K H' (rs.map LC) ws->Q (.ref t) H'))->((∀(k:Nat)(tt:T3)(t:Addr)(v:V)(H':Hp),aK H H'->Hu.run h rows []=.mixed k tt->k<rows.length->Hu.R3 (k+1) tt->Lz K H' t [.str "mixed",.int k,v]->Dat K H' (LC tt) v->Q (.ref t) H'))->qI K vs H Q E
theorem getD_at{rs:List T3}(hi:i<rs.length):rs[i]?=some (rs.getD i Hu.z0):=by rw[A3,c9 hi];rfl
theorem Ej(T:aC K mg "choice_of" kU)(bE:mg "len"=none)(iD:fA K mg "NEVER" [0,0,0])(gq:fA K mg "ALWAYS" [0,0,1])(eY:Def P w K mg base 1 "without" ["one","other"] (Ug K Hu.mi))(zL:Def P w K mg base 1 "leaf_rule" ["word"] (Ag K))
  (uJ:Def P w K mg base 2 "fold_choice" ["word","one","other"] (Ah K)):Def P w K mg base 3 "choice_of" ["row","rules"] (rL K):=by
 refine aQ T nZ ?_ ?_
 .walk_at "i1"
 walk_at "i2";obtain⟨x,lr,ws,r,rs,rfl,dx,hl,da,ok,q⟩:=h;obtain⟨OD,oK,U4⟩:=iD.ex;obtain⟨Nn,fh,U6⟩:=gq.ex;have QZ:∀H,Dat K H (LC Hu.al) (.ref Nn):=λH=>cg (p:=Hu.al) (U6 H);have X6:∀H,Dat K H (LC Hu.z0) (.ref OD):=λH=>cg (p:=Hu.z0) (U4 H);obtain⟨a,rfl,sx⟩:=Gz dx;have nd:=nZ.nd;have d3:(3:Nat)<=sizeLine:=by decide
 have sl:LA K H lr ws:=LA.of hl
 refine⟨_,(ah (aT (aE cy (aG bL bE (aa (pv 0) af)) ao (aI _)) (aq (av (aH uJ (aa (aB az (pv 0) ao) (aa (aB bC (pv 1) (aB az (pv 0) ao)) (aa (aB bC (pv 1) (aB az (pv 0) ao)) af)))))) aL)
  (ah (aJ (i:=2) (kY (aE cy (aG bL bE (aa (pv 0) af)) ao (aI _)) (aH zL (aa (aB az (pv 0) ao) af)) (aH eY (aa (cS (v:=V.ref Nn) rfl fh rfl) (aa (aB bC (pv 1) (aB az (pv 0) ao)) af)))))
  (aq (av (bc (aa (cS (v:=V.ref OD) rfl oK rfl) (aa (pv 2) (aa (pv 2) af)))))))),?_⟩
 cases r with
 | fd k i j =>
  obtain⟨hk,hi,hj⟩:=ok;obtain⟨y,hy,dy⟩:=ma da (getD_at hi);obtain⟨z,hz,dz⟩:=ma da (getD_at hj);refine⟨_,rfl,_,_,rfl,.inr ⟨_,sx,rfl⟩,rfl,_,rfl,dR ?_⟩;exact⟨_,rfl,_,_,_,_,rfl,rfl,sx,rfl,_,rfl,_,rfl,_,_,_,_,rfl,rfl,sx,rfl,_,_,_,_,rfl,rfl,sl,cF hy,_,rfl,_,rfl,_,_,_,_,rfl,rfl,sx,rfl,_,_,_,_,rfl,rfl,sl,cF hz,k,_,_,_,_,rfl,hk,dy,dz,q⟩
 | lf k =>
  refine⟨_,rfl,_,_,rfl,.inr ⟨_,sx,rfl⟩,rfl,_,rfl,bJ ?_⟩;refine⟨_,rfl,_,_,rfl,.inr ⟨_,sx,rfl⟩,rfl,_,rfl,dR ?_⟩;refine⟨_,rfl,_,_,_,_,rfl,rfl,sx,rfl,k,rfl,ok,λv dv=>?_⟩;refine⟨_,rfl,_,rfl,d3,λt ht=>?_⟩;have u:=ak ht (.tup [.ref OD,v,v]);exact q _ _ u ⟨t,_,_,_,rfl,Lz.of ae,X6 _,dv.ts u.ts,dv.ts u.ts⟩
 | nt i =>
  obtain⟨y,hy,dy⟩:=ma da (getD_at (show i<rs.length from ok));refine⟨_,rfl,_,_,rfl,.inr ⟨_,sx,rfl⟩,rfl,_,rfl,bJ ?_⟩;refine⟨_,rfl,_,_,rfl,.inr ⟨_,sx,rfl⟩,rfl,_,rfl,bJ ?_⟩;refine⟨_,rfl,_,rfl,_,_,_,_,rfl,rfl,sx,rfl,_,_,_,_,rfl,rfl,sl,cF hy,_,_,_,_,rfl,QZ H,dy,λt1 H1 s1 e1=>?_⟩;refine⟨_,rfl,_,rfl,d3,λt ht=>?_⟩;have u:=ak ht (.tup [.ref OD,.ref t1,.ref t1]);exact q _ _ (s1.trans u) ⟨t,_,_,_,rfl,Lz.of ae,X6 _,e1.ts u.ts,e1.ts u.ts⟩
theorem Ei(T:aC K mg "chosen_on" kT)(ck:mg "max"=none)(bS:mg "min"=none)(gw:Def P w K mg base 2 "told_in_corners" ["rule","hull"] (BW K)):Def P w K mg base 3 "chosen_on" ["hull","choice"] (rK K):=by
 refine aQ T nY ?_ ?_
 .walk_at "i1"
 walk_at "i2";obtain⟨l,v,us,h,c,rfl,hl,da,⟨t,x,y,z,rfl,st,d1,d2,d3⟩,br,bp,pos,few,qs,qn⟩:=h;have nd:=nY.nd
 refine⟨_,(ah (aJ (i:=2) (aH gw (aa (aB az (pv 1) ao) (aa (pv 0) af))))
  (ah (aT (aE jF (aG (jI rfl) ck (aa (pv 2) af)) ao (aI _)) (aq (av (aB az (pv 1) ao))) aL)
  (ah (aT (aE sR (aG (iI rfl) bS (aa (pv 2) af)) ao (aI _)) (aq (av (aB az (pv 1) ao))) aL)
  (aq (av bN))))),?_⟩
 refine⟨_,rfl,_,_,_,_,rfl,rfl,st,rfl,_,rfl,x,l,us,c.1,h,rfl,d1,LA.of hl,da,br,bp,few,λH' s'=>LA.of (s' _ _ hl),λd H1 s1 _ hd=>?_⟩;have L4:0<(h.map (Hu.tl c.1)).length:=by rw[j4];exact pos
 have st1:=st.ts s1.ts;refine⟨_,rfl,d,_,rfl,LA.of hd,L4,λM hM MR=>?_⟩;refine⟨_,_,rfl,rfl,_,rfl,?_⟩;obtain⟨p1,Mi,Ut⟩:=y9.mp hM;refine cU (λcc=>?_) (λcc=>?_)
 .have c':M<=0:=i9 cc;have al:∀q∈h,Hu.tl c.1 q<=0:=λq hq=>JL (MR _ (y9.mpr ⟨q,hq,rfl⟩)) c';exact⟨_,rfl,_,_,_,_,rfl,rfl,st1,rfl,qs _ _ _ s1 (by unfold Hu.bo;rw[d8 al]) (d2.ts s1.ts)⟩
 have c1:¬M<=0:=λz=>cc (i6 z);have n1:¬ ∀q∈h,Hu.tl c.1 q<=0:=λz=>by have:=z p1 Mi;omega
 refine⟨_,rfl,d,_,rfl,LA.of hd,L4,λM2 Oy MF=>?_⟩;refine⟨_,_,rfl,rfl,_,rfl,?_⟩;obtain⟨p2,LO,QW⟩:=y9.mp Oy;refine cU (λcc=>?_) (λcc=>?_)
 .have c':0<=M2:=i9 cc;have al:∀q∈h,0<=Hu.tl c.1 q:=λq hq=>JL c' (MF _ (y9.mpr ⟨q,hq,rfl⟩));exact⟨_,rfl,_,_,_,_,rfl,rfl,st1,rfl,qs _ _ _ s1 (by unfold Hu.bo;rw[i5 n1,d8 al]) (d3.ts s1.ts)⟩
 .have c2:¬0<=M2:=λz=>cc (i6 z);have n2:¬ ∀q∈h,0<=Hu.tl c.1 q:=λz=>by have:=z p2 LO;omega
  exact qn (by unfold Hu.bo;rw[i5 n1,i5 n2]) _ s1
theorem Hl(T:aC K mg "rules_of_rows" ib)(cV:mg "enumerate"=none)(zO:Def P w K mg base 3 "choice_of" ["row","rules"] (rL K))(zN:Def P w K mg base 3 "chosen_on" ["hull","choice"] (rK K)):Def P w K mg base 4 "rules_of_rows" ["rows","hull"] (qI K):=by
 refine aQ T jx ?_ ?_
 .walk_at "i1"
 walk_at "i2";obtain⟨l,lh,us,hs,rows,h,rfl,hl,da,ok,ne,few,Nf,dh,bp,pos,Mz,q1,q2⟩:=h;have nd:=jx.nd;have lu:=Ct da;have d2:(2:Nat)<=sizeLine:=by decide
 have d3:(3:Nat)<=sizeLine:=by decide
 refine⟨_,(ah (aJ (i:=2) (bW af))
  (ah (eQ z7 rfl (wJ rfl cV (pv 0)) (iR rfl (aY (aS (i:=3)) (aY (aS (i:=4)) cZ))) (ah (aJ (i:=5) (aH zO (aa (pv 4) (aa (pv 2) af))))
  (ah (aJ (i:=6) (aH zN (aa (pv 1) (aa (pv 5) af))))
  (ah (aT (aE kg (pv 6) bN (aI _)) (aq (av (bc (aa aR (aa (pv 3) (aa (aB az (pv 5) ao) af)))))) aL)
  (aq (bB (cO c6 j7 j8 bj (pv 2) (aa (pv 6) af))))))))
  (aq (av (bc (aa aR (aa (pv 2) af))))))),?_⟩
 refine⟨(by show 0<=sizeLine;decide),λlr MG=>?_⟩;have u0:=ak MG (.lst []);have nl:l≠lr:=aF hl MG;refine⟨_,rfl,l,rfl,⟨us,LA.of (u0 _ _ hl)⟩,?_⟩
 refine tJ (xs:=us) (λi σ H'=>i<=us.length/\aK H H'/\∃(ws:List V)(rs:List T3)(o3 o4 o5 o6:Option V),σ=[some (.ref l),some (.ref lh),some (.ref lr),o3,o4,o5,o6]/\H' lr=some (.lst ws)/\DatAll K H' (rs.map LC) ws/\rs.length=i/\Hu.Rb rs/\Hu.run h rows []=Hu.run h (rows.drop i) rs)
  ⟨y7 _,u0,[],[],_,_,_,_,rfl,ae,rfl,rfl,(λi x e=>by simp at e),rfl⟩ (λi σ H' _ z=>LA.of (z.2.1 _ _ hl)) (λi v T' σ H' hv z hT=>?_) (λσ H' z=>?_)
 .obtain⟨_,sm,ws,rs,o3,o4,o5,o6,rfl,Nd,dr,NR,rb,er⟩:=z;have hi:i<us.length:=(d6.mp hv).1;have uT:=ak hT (.tup [.int i,v]);have s2:=sm.trans uT;obtain⟨r,Wo,dv⟩:=Cu (da.ts s2.ts) hv;have Sa:r.Ok rs.length:=by rw[NR];exact ok i r Wo
  have dp:rows.drop i=r::rows.drop (i+1):=by
   obtain⟨g1,g2⟩:=d6.mp Wo;rw[<- g2];exact C9 g1
  rw[dp]at er;obtain⟨cb,_,_⟩:=Hu.lE rb Sa;refine⟨T',_,rfl,Lz.of ae,rfl,_,_,rfl,_,_,rfl,rfl,?_⟩;refine⟨_,rfl,_,rfl,v,lr,ws,r,rs,rfl,dv,uT _ _ Nd,dr.ts uT.ts,Sa,λc H3 s3 hc=>?_⟩;have m3:=s2.trans s3;have SJ:=s3 _ _ (uT _ _ Nd);have X5:=(dr.ts uT.ts).ts s3.ts;refine⟨_,rfl,_,rfl,lh,c,hs,h,Hu.choice rs r,rfl,m3 _ _ Nf,dh.ts m3.ts,hc,cb.mono (by omega),bp,pos,Mz,λx u H4 s4 ex du=>?_,λex H4 s4=>?_⟩
  .obtain⟨ua,rfl,su⟩:=cW du;refine⟨_,rfl,rfl,_,rfl,bJ ?_⟩;have m4:=m3.trans s4;have SI:=s4 _ _ SJ;have lw:=fc X5;refine⟨_,rfl,.inl ⟨rfl,_,LA.of SI⟩,_,rfl,lr,ws,_,rfl,rfl,SI,aZ (by omega),?_⟩;have t5:Mv H4 (upd H4 lr (.lst (ws++[.ref ua]))):=dj SI;refine⟨hi,aX m4 MG _,ws++[.ref ua],rs++[x],_,_,_,_,rfl,ae,?_,?_,Hu.wD rb (Hu.tT rb Sa ex),?_⟩
   .rw[p7];exact((X5.ts s4.ts).ts t5).snoc (du.ts t5)
   .rw[c8,NR];rfl
   .rw[er];show(match Hu.bo h (Hu.choice rs r) with | some x=>_ | none=>_)=_
    rw[ex]
  .obtain⟨t,x,y,z,rfl,st,e1,_,_⟩:=hc;refine⟨_,rfl,rfl,_,rfl,dR ?_⟩;refine⟨_,rfl,_,rfl,_,_,_,_,rfl,rfl,st.ts s4.ts,rfl,d3,λp hp=>?_⟩;have u:=ak hp (.tup [.str "mixed",.int i,x]);refine q2 i (Hu.choice rs r).1 p x _ (m3.trans (s4.trans u)) ?_ (by omega) (by rw[<- NR];exact cb) (Lz.of ae) ((e1.ts s4.ts).ts u.ts);rw[er];show(match Hu.bo h (Hu.choice rs r) with | some x=>_ | none=>_)=_
   rw[ex,NR]
 .obtain⟨_,sm,ws,rs,o3,o4,o5,o6,rfl,Nd,dr,NR,rb,er⟩:=z;refine⟨_,rfl,d2,λp hp=>?_⟩;have u:=ak hp (.tup [.str "rules",.ref lr]);refine q1 rs p lr ws _ (sm.trans u) ?_ rb (by omega) MG (Lz.of ae) (u _ _ Nd) (dr.ts u.ts);rw[er,List.drop_eq_nil_of_le (by omega)];rfl
structure Ms(P:Program)(w:World)(K:W.Frag)(mg:Str->Option Value)(base:Heap)(c:CCs):Prop where
 made:∀t,bF P w K mg base (c.of t) "made_of" 1 ["self"] (vV c t)
 word:∀t,bF P w K mg base (c.of t) "making_word" 1 ["self"] (ia c t)
 weigh:∀t,bF P w K mg base (c.of t) "weigh" 2 ["self","worths","n","x","y"] (jM c t)
variable{c:CCs}
theorem Ck:aD ["self","laid","waiting","part"] ["self"] (au Qz):=L2.fsc rfl (by decide+kernel)
theorem ok_laid(T:bH K C "laid_out" "Saying.laid_out" Qz)(M:Ms P w K mg base c):bF P w K mg base C "laid_out" 2 ["self"] (rE c t):=by
 refine bM T Ck ?_ ?_
 .walk_at "i1"
 walk_at "i2";obtain⟨a,rfl,oa,ht,q⟩:=h;have nd:=Ck.nd
 refine⟨_,(ah (aJ (i:=1) (bW af))
  (ah (aJ (i:=2) (bW (aa (pv 0) af)))
  (ah (iQ z7 (sN (pv 2) (λ_=>rfl)) (ah (aJ (i:=3) (jk c6 C4 C5 kZ (pv 2)))
  (ah (bB (cO c6 j7 j8 bj (pv 1) (aa (pv 3) af)))
  (aq (bB (cO c6 J2 J3 pH (pv 2) (aa (gM (k:=1) (pv 3) (hr.mono (by decide))) af)))))))
  (ah (bB (jk c6 KU KW sW (pv 1)))
  (aq (av (pv 1))))))),?_⟩
 refine⟨(by show 0<=sizeLine;decide),λl1 h1=>?_⟩;refine⟨_,rfl,(by show 1<=sizeLine;decide),λl2 MM=>?_⟩;have h2:H l2=none:=kC MM;have Pn:l1≠l2:=λe=>by subst e;rw[ae]at MM;cases MM
 have smI:aK H (upd (upd H l1 (.lst [])) l2 (.lst [.ref a])):=λb o e=>by rw[aA (aF e h2),aA (aF e h1)];exact e
 refine⟨λm σ H'=>∃L W Lt Wt o,σ=[some (.ref a),some (.ref l1),some (.ref l2),o]/\aK H H'/\H' l1=some (.lst L)/\H' l2=some (.lst W)/\cB (Np c H') L Lt/\cB (Np c H') W Wt/\
   Lt++(Wt.reverse.flatMap λx=>x.post.reverse)=t.post.reverse/\m=bY Wt,
  ⟨_,[],[.ref a],[],[t],_,rfl,smI,by rw[aA Pn,ae],ae,.nil,.cons ⟨a,rfl,oa.to (Kp.of smI)⟩ .nil,by simp,rfl⟩,?_⟩
 rintro m σ H' ⟨L,W,Lt,Wt,o,rfl,sm,e1,e2,oL,oW,hp,rfl⟩
 have hlen:Lt.length+bY Wt=t.size:=by
  have z:=z6 List.length hp;rw[c8,zi,DI,E5,fX]at z;exact z
 have hLl:=oL.len
 by_cases hw:W=[]
 .subst hw;cases oW
  refine⟨_,rfl,false,.inl ⟨[],LA.of e2,rfl⟩,bJ ?_⟩;refine⟨_,rfl,.inl ⟨rfl,_,LA.of e1⟩,l1,_,rfl,rfl,e1,?_⟩;have eL:Lt=t.post.reverse:=by simpa using hp
  have kp:=iU (u:=.lst L.reverse) e1 rfl;refine⟨_,rfl,q l1 L.reverse _ (λb o z=>?_) h1 ae ?_⟩
  .rw[aA (aF z h1)];exact sm b o z
  .have:=(oL.imp (Np.to kp)).rev;rw[eL,Km]at this;exact this
 .obtain⟨W',v,Uz,x,rfl,rfl,⟨b,rfl,ob⟩,oW'⟩:=oW.last hw;refine⟨_,rfl,true,.inl ⟨_,LA.of e2,by cases W'<;>rfl⟩,dR ?_⟩;have sz:bY (Uz++[x])=bY Uz+x.size:=by rw[lK];simp[bY]
  refine⟨λσ' LD=>∃m',m'<bY (Uz++[x])/\∃L W Lt Wt o,σ'=[some (.ref a),some (.ref l1),some (.ref l2),o]/\aK H LD/\LD l1=some (.lst L)/\LD l2=some (.lst W)/\cB (Np c LD) L Lt/\cB (Np c LD) W Wt/\
   Lt++(Wt.reverse.flatMap λx=>x.post.reverse)=t.post.reverse/\m'=bY Wt,λ_ _ z=>z,?_⟩
  refine⟨_,rfl,.inl ⟨rfl,_,LA.of e2⟩,l2,_,_,rfl,rfl,e2,jv _ _,?_⟩;rw[G1];have e1':upd H' l2 (.lst W') l1=some (.lst L):=by rw[aA Pn];exact e1
  refine⟨_,rfl,.inl ⟨rfl,_,LA.of e1'⟩,_,rfl,l1,_,_,rfl,rfl,e1',by rw[hLl];exact d9 (show Lt.length<=1000 by omega) (by decide),?_⟩;have k1:Kp H' (upd (upd H' l2 (.lst W')) l1 (.lst (L++[.ref b]))):=(iU e2 rfl).trans (iU e1' rfl);have N9:upd (upd H' l2 (.lst W')) l1 (.lst (L++[.ref b])) l2=some (.lst W'):=by rw[aA Pn.symm,ae]
  have ob1:=ob.to k1;obtain⟨dx,fs,eb,nf⟩:=ob1.cls;refine⟨_,rfl,.inl ⟨rfl,_,LA.of N9⟩,_,rfl,b,_,_,_,_,_,rfl,eb,nf _ (by decide+kernel),M.made x,b,rfl,ob1,λl us hl ou=>?_⟩;have nl2:l2≠l:=aF N9 hl;have Za:l1≠l:=aF (ae (H:=upd H' l2 (.lst W'))) hl;have Wy:upd (upd (upd H' l2 (.lst W')) l1 (.lst (L++[.ref b]))) l (.lst us) l2=some (.lst W'):=by rw[aA nl2];exact N9
  have hWl:=oW'.len;have XE:=ou.len;have hkl:=lz x;have hWs:=vq Uz;refine⟨l2,l,_,_,rfl,rfl,Wy,ae,by rw[hWl,XE];exact l8 (show _<=1002 by omega) (by decide),?_⟩;have k2:Kp (upd (upd H' l2 (.lst W')) l1 (.lst (L++[.ref b]))) (upd (upd (upd (upd H' l2 (.lst W')) l1 (.lst (L++[.ref b]))) l (.lst us)) l2 (.lst (W'++us))):=(Sn hl _).trans (iU Wy rfl);have k3:=k1.trans k2;have ks:=vx x;refine⟨bY (Uz++x.kids),by rw[sz,lK];omega,L++[.ref b],W'++us,Lt++[x],Uz++x.kids,_,rfl,λd o z=>?_,by rw[aA Pn,aA Za,ae],ae,(oL.imp (Np.to k3)).app (.cons ⟨b,rfl,ob.to k3⟩ .nil),(oW'.imp (Np.to k3)).app (ou.imp (Np.to k2)),?_,rfl⟩
  .have z1:upd (upd H' l2 (.lst W')) l1 (.lst (L++[.ref b])) d=some o:=by rw[aA (aF z h1),aA (aF z h2)];exact sm d o z
   rw[aA (aF z h2),aA (aF z1 hl)];exact z1
  .rw[<- hp];simp only[Ky,List.flatMap_append,C8,List.reverse_nil,x9,w6,List.flatMap_cons,List.flatMap_nil,B0,List.singleton_append,GV x,z9]
theorem Gg:aD ["self","n","x","y","worths","part"] ["self","n","x","y"] (au U3):=L2.fsc rfl (by decide+kernel)
theorem ok_out(T:bH K C "out_of" "Saying.out_of" U3)(M:Ms P w K mg base c)(G:∀t,bF P w K mg base (c.of t) "laid_out" 2 ["self"] (rE c t)):bF P w K mg base C "out_of" 3 ["self","n","x","y"] (FQ c t):=by
 refine bM T Gg ?_ ?_
 .walk_at "i1"
 walk_at "i2";obtain⟨a,n,x,y,rfl,oa,ht,q⟩:=h;have nd:=Gg.nd
 refine⟨_,(ah (aJ (i:=4) (bW af))
  (ah (eQ z7 rfl (cf (gM (k:=2) (pv 0) (hr.mono (by omega)))) (aS (i:=5)) (aq (bB (sQ (k:=2) (pv 5) (hr.mono (by decide)) (aa (pv 4) (aa (pv 1) (aa (pv 2) (aa (pv 3) af))))))))
  (aq (av (jk c6 C4 C5 kZ (pv 4)))))),?_⟩
 refine⟨(by show 0<=sizeLine;decide),λl1 h1=>?_⟩;have sm1:aK H (upd H l1 (.lst [])):=ak h1 _;have oa1:=oa.to (Kp.of sm1);obtain⟨dx,fs,ea,nf⟩:=oa1.cls;refine⟨_,rfl,a,_,_,_,_,_,rfl,ea,nf _ (by decide+kernel),G t,a,rfl,oa1,ht,λl us H' sm hl el ou=>⟨l,rfl,⟨_,LA.of el⟩,?_⟩⟩;have nl:l≠l1:=λe=>by subst e;rw[ae]at hl;cases hl
 refine eU (xs:=us) (λi σ H2=>∃o R,σ=[some (.ref a),some (.int n),some (.int x),some (.int y),some (.ref l1),o]/\SB (.ref l1) H' H2/\H2 l1=some (.lst (R.reverse.map V.int))/\R.length<=i/\(iK n x y).run R (t.post.drop i)=some [t.worth n x y])
  ⟨none,[],rfl,SB.refl _ _,sm _ _ ae,c7 _,OX _ t⟩ (λi σ H2 _ h=>?_) (λi v σ H2 hi h=>?_) (λσ H2 h=>?_)
 .obtain⟨o,R,_,sb,_⟩:=h;exact LA.of (sb _ _ el λz=>nl (V.ref.inj z))
 .obtain⟨o,R,rfl,sb,e,hR,Mp⟩:=h;obtain⟨z,hz,b,rfl,ob⟩:=ou.get i v hi;rw[Df hz]at Mp;obtain⟨R',hs,Mo⟩:=Gu Mp;have kp:Kp H' H2:=sb.kp λa' o' z1 z2=>by cases z1;rw[sm _ _ ae]at z2;cases z2;rfl
  have Vo:=ob.to kp;obtain⟨dx',Z5,eb,Zb⟩:=Vo.cls;have hil:i<t.post.length:=(d6.mp hz).1;rw[fX]at hil;refine⟨_,rfl,b,_,_,_,_,_,rfl,eb,Zb _ (by decide+kernel),M.weigh z,_,rfl,_,rfl,_,rfl,_,rfl,b,l1,n,x,y,R,R',rfl,Vo,e,by omega,hs,λH3 Xn e3=>?_⟩;exact⟨_,R',rfl,sb.trans Xn,e3,l8 (FK hs) (Nat.succ_le_succ hR),Mo⟩
 .obtain⟨o,R,rfl,sb,e,hR,Mp⟩:=h;have ul:=ou.len;rw[ul,List.drop_length]at Mp;have eR:R=[t.worth n x y]:=l7 Mp;subst eR;refine⟨_,rfl,.inl ⟨rfl,_,LA.of e⟩,l1,_,_,rfl,rfl,e,rfl,q _ λb o z=>?_⟩;rw[aA (aF z h1)];exact sb b o (sm b o (sm1 b o z)) λz1=>(aF z h1) (V.ref.inj z1)
theorem WG(x:V)(us:List V):ki (x::us) (some 1) none=us:=by
 unfold ki
 rw[show _root_.HT.sIx (x::us).length 0 (some 1)=1 from by
  rw[show(some (1:Int))=some ((1:Nat):Int) from rfl,_root_.HT.oi,m6];omega,_root_.HT.sI]
 show List.take ((x::us).length-1) us=us;rw[m6,Nat.add_sub_cancel,A6]
theorem sl1(e:H a=some (.tup (x::us)))(h:∀p,H p=none->Q (.ref p) (upd H p (.tup us))):RY K (.ref a) (some 1) none H Q:=by
 refine⟨a,_,rfl,Lz.of e,λz=>?_,λ_ p=>?_⟩
 .have SQ:_root_.HT.sIx (x::us).length 0 (some 1)=1:=by
   rw[show(some (1:Int))=some ((1:Nat):Int) from rfl,_root_.HT.oi,m6];omega
  exact absurd (SQ.symm.trans z) (by decide)
 .intro QO;rw[WG];exact h _ QO
def Pt(H:Hp)(p:Addr)(n x y:Int):Prop:=H p=some (.tup [.int n,.int x,.int y])/\1<=n/\0<=x/\x<=n/\0<=y/\y<=n
inductive RK(vs:List V)(H:Hp)(Q:VK)(E:XK):Prop
 | mk (p) (n x y:Int):vs=[.ref p]->Pt H p n x y->(∀H',aK H H'->Q (.bl true) H')->RK vs H Q E
inductive FR(vs:List V)(H:Hp)(Q:VK)(E:XK):Prop
 | mk (p) (n x y:Int):vs=[.ref p]->Pt H p n x y->(∀H',aK H H'->Q .non H')->FR vs H Q E
inductive FN(c:CCs)(vs:List V)(H:Hp)(Q:VK)(E:XK):Prop
 | mk (a p t) (n x y:Int):vs=[.ref a,.ref p]->Ob c H a t->t.size<=1000->Pt H p n x y->(∀H',aK H H'->Q (.int (t.worth n x y)) H')->FN c vs H Q E
theorem si:aD ["thing"] ["thing"] (au mQ):=L2.fsc rfl (by decide+kernel)
theorem AH(T:aC K mg "is_whole" mQ)(aO:mg "isinstance"=none)(fK:mg "int"=none)(pP:mg "bool"=none)(kb:PySem.W.kitOne K (.type "int") (.type "bool")=some false):Def P w K mg base 1 "is_whole" ["thing"] xU:=by
 refine aQ T si ?_ ?_
 .walk_at "i1"
 walk_at "i2";obtain⟨i,rfl,q⟩:=h;have nd:=si.nd;refine⟨_,(aq (av (ke (aG lF aO (aa (pv 0) (aa (fq (v:=V.ty "int") rfl fK (by decide+kernel) rfl) af))) (mX (GX (aG lF aO (aa (pv 0) (aa (fq (v:=V.ty "bool") rfl pP (by decide+kernel) rfl) af)))))))),?_⟩;exact⟨_,rfl,_,_,_,_,true,rfl,(λ_ h=>h),ko.int _,ff,_,rfl,dR ⟨_,rfl,_,_,_,_,false,rfl,(λ_ h=>h),ko.int _,kb,_,rfl,q⟩⟩
noncomputable abbrev ptN:List Str:=["thing","n"]
theorem sj:aD ptN ["thing"] (au iO):=L2.fsc rfl (by decide+kernel)
noncomputable abbrev YX (i:Nat):Stmt:=(bI iO).getD i (.Pass ⟨0,0,0,0⟩)
noncomputable def TV(s:Stmt):Expr:=match s with
 | .If (.UnaryOp _ (.Call _ [e] _ _) _) _ _ _=>e
 | _=>.Constant .none 0 ⟨0,0,0,0⟩
theorem uX:aD ["thing"] ["thing"] (au ig):=L2.fsc rfl (by decide+kernel)
noncomputable abbrev roN:List Str:=["saying","rows","place_of","waiting","part","taken","row"]
noncomputable abbrev YL (i j:Nat):Stmt:=match (bI jB).getD i (.Pass ⟨0,0,0,0⟩) with
 | .For _ _ b _ _=>b.getD j (.Pass ⟨0,0,0,0⟩)
 | _=>.Pass ⟨0,0,0,0⟩
theorem FD{α:Type}:∀{R:List α}{k:Nat},k<R.length->∃x R1,R.drop k=x::R1/\R.take (k+1)=R.take k++[x]/\R.drop (k+1)=R1:=by
 intro R k h;refine⟨R[k],R.drop (k+1),C9 h,?_,rfl⟩;rw[A7,c9 h];rfl
theorem uW:aD roN ["saying"] (au jB):=L2.fsc rfl (by decide+kernel)
theorem DZ(T:aC K mg "rows_of" jB)(bE:mg "len"=none)(aW:mg "tuple"=none)(M:Ms P w K mg base c)(G:∀t,bF P w K mg base (c.of t) "laid_out" 2 ["self"] (rE c t)):Def P w K mg base 3 "rows_of" ["saying"] (rA c):=by
 refine aQ T uW ?_ ?_
 .walk_at "i1"
 walk_at "i2";obtain⟨a,t,rfl,oa,ht,q⟩:=h;have nd:=uW.nd;have hu:=CZ hr
 have stT:∃ts,PS (cN CX0 P w K mg base roN "rows_of" (au jB) f cdv A outer s H E).nox (YL 3 0) ts/\∀(D:Ends)(o5 o6:Option V)(l1 d1 l3 b:Addr)(x:Tr)(R:List Nat)(H1:Hp),Ob c H1 b x->H1 l3=some (.lst (R.reverse.map λi:Nat=>V.int (i:Int)))->x.kids.length<=R.length->
   (∀l4 H2,l4≠l3->H1 l4=none->(∀d o,H1 d=some o->d≠l3->H2 d=some o)->H2 l3=some (.lst ((R.drop x.kids.length).reverse.map λi:Nat=>V.int (i:Int)))->H2 l4=some (.lst ((R.take x.kids.length).map λi:Nat=>V.int (i:Int)))->
    D.nx [some (.ref a),some (.ref l1),some (.ref d1),some (.ref l3),some (.ref b),some (.ref l4),o6] H2)->
   ts D [some (.ref a),some (.ref l1),some (.ref d1),some (.ref l3),some (.ref b),o5,o6] H1:=by
  refine⟨_,(jX (i:=5) (cf (gM (k:=1) (pv 4) (hr.mono (by decide)))) (cq (j:=3) cC) (λ_ _ _ _=>cM) (λ_ _ _ _=>(Pa (K:=K) rfl c6 C4 C5 kZ (pv 1)))),?_⟩;intro D o5 o6 l1 d1 l3 b x R H1 ob e3 hk fin;obtain⟨dx,fs,eb,nf⟩:=ob.cls;unfold nO;refine iH ?_;refine⟨_,rfl,b,_,_,_,_,_,rfl,eb,nf _ (by decide+kernel),M.made x,b,rfl,ob,λl us hl ou=>⟨l,rfl,⟨_,LA.of ae⟩,?_⟩⟩;have XE:=ou.len;have nl:l≠l3:=(aF e3 hl).symm
  refine vG (K:=K) (xs:=us) (λl' H'=>l'=l/\H'=upd H1 l (.lst us)) (λR' h=>h l _ ⟨rfl,rfl⟩) (λl' H' h=>by obtain⟨rfl,rfl⟩:=h;exact ae) (by rw[XE];have:=lz x;omega)
   (λl' D' i ys H'=>l'=l/\H1 D'=none/\D'≠l3/\ys=((R.take i).map λi:Nat=>V.int (i:Int))/\H' l3=some (.lst ((R.drop i).reverse.map λi:Nat=>V.int (i:Int)))/\∀d o,H1 d=some o->d≠l3->H' d=some o)
   (λl' H' D' h hD=>?_) (λl' D' i v ys H' hv nl' el eD h N hN=>?_) (λl' D' ys H' el eD h=>?_)
  .obtain⟨rfl,rfl⟩:=h;have PH:=kC hD;refine⟨rfl,PH,(aF e3 PH).symm,rfl,?_,λd o z _=>?_⟩
   .rw[aA (aF e3 PH),aA nl.symm];exact e3
   .rw[aA (aF z PH),aA (aF z hl)];exact z
  .obtain⟨rfl,PH,nD,rfl,Uw,sm⟩:=h
   have hi:i<R.length:=by
    have:=(d6.mp hv).1;omega
   obtain⟨y,R1,d1',d2',d3'⟩:=FD hi;rw[d1',C8,p7]at Uw;refine⟨_,rfl,.inl ⟨rfl,_,LA.of Uw⟩,l3,_,_,rfl,rfl,Uw,jv _ _,?_⟩;refine hN _ _ (by rw[aA nl];exact el) (by rw[aA nD];exact eD) ⟨rfl,PH,nD,?_,?_,λd o z n=>?_⟩
   .rw[d2',p7];rfl
   .rw[aA nD.symm,ae,d3'];exact z6 some (z6 HO.lst G1)
   .rw[aA (aF z PH),aA n];exact sm d o z n
  .obtain⟨rfl,PH,nD,rfl,Uw,sm⟩:=h;rw[XE]at Uw eD;exact fin D' H' nD PH sm Uw eD
 obtain⟨tsT,htT,hqT⟩:=stT
 refine⟨_,ah (aJ (i:=1) (bW af)) (ah (aJ (i:=2) GY) (ah (aJ (i:=3) (bW af)) (ah (eQ z7 rfl (cf (gM (k:=2) (pv 0) (hr.mono (by omega)))) (aS (i:=4)) (ah htT (ah (bB (jk c6 KU KW sW (pv 5)))
  (ah (aJ (i:=6) (aM CG (bc (aa (gM (k:=1) (pv 4) (hr.mono (by decide))) af)) (cJ cH aW (aa (pv 5) af))))
  (ah (aT (R5 (DS hu (pv 6) (pv 2))) (ah (O2 hu (pv 2) (pv 6) (aG bL bE (aa (pv 1) af)) rfl)
  (aq (bB (cO c6 j7 j8 bj (pv 1) (aa (pv 6) af))))) aL)
  (aq (bB (cO c6 j7 j8 bj (pv 3) (aa (qQ hu (pv 2) (pv 6)) af))))))))) (aq (av (pv 1)))))),?_⟩
 refine⟨(by show 0<=sizeLine;decide),λl1 h1=>?_⟩;intro d1 MM;refine⟨(by show 0<=sizeLine;decide),λl3 ZY=>?_⟩;have h2:H d1=none:=kC MM;have Pn:l1≠d1:=λe=>by subst e;rw[ae]at MM;cases MM
 have ZX:upd H l1 (.lst []) l3=none:=kC ZY;have h3:H l3=none:=kC ZX;have Um:l1≠l3:=λe=>by subst e;rw[ae]at ZX;cases ZX
 have Ul:d1≠l3:=λe=>by subst e;rw[ae]at ZY;cases ZY
 have UZ:aK H (upd (upd (upd H l1 (.lst [])) d1 (.dT [])) l3 (.lst [])):=λb o e=>by rw[aA (aF e h3),aA (aF e h2),aA (aF e h1)];exact e
 have oa0:=oa.to (Kp.of UZ);obtain⟨dx,fs,ea,nf⟩:=oa0.cls;refine⟨_,rfl,a,_,_,_,_,_,rfl,ea,nf _ (by decide+kernel),G t,a,rfl,oa0,ht,λl us H' sm hl el ou=>⟨l,rfl,⟨_,LA.of el⟩,?_⟩⟩;have ul:=ou.len;rw[fX]at ul;have g1:H' l1=some (.lst []):=sm _ _ (by rw[aA Um,aA Pn,ae]);have g2:H' d1=some (.dT []):=sm _ _ (by rw[aA Ul,ae]);have g3:H' l3=some (.lst []):=sm _ _ ae
 have ZN:H l=none:=by
  cases z:H l with
  | none=>rfl
  | some o=>rw[UZ _ _ z]at hl;cases hl
 have Za:l≠l1:=λe=>by subst e;rw[aA Um,aA Pn,ae]at hl;cases hl
 have nl3:l≠l3:=λe=>by subst e;rw[ae]at hl;cases hl
 have nld:l≠d1:=λe=>by subst e;rw[aA Ul,ae]at hl;cases hl
 refine eU (xs:=us) (λi σ H2=>∃(o4 o5 o6:Option V)(rs:List Rw)(R:List Nat)(LB:List (Rw×V))(vs:List V),σ=[some (.ref a),some (.ref l1),some (.ref d1),some (.ref l3),o4,o5,o6]/\(∀d o,H' d=some o->d≠l1->d≠d1->d≠l3->H2 d=some o)/\
   H2 l1=some (.lst vs)/\cB (LU H2) vs rs/\H2 d1=some (.dT LB)/\T4 LB rs/\H2 l3=some (.lst (R.reverse.map λi:Nat=>V.int (i:Int)))/\R.length<=i/\rs.length<=i/\uh (rs,R) (t.post.drop i)=some (t.rows,[(t.putR []).2]))
  ⟨_,_,_,[],[],[],[],rfl,λd o z _ _ _=>z,g1,.nil,g2,T4.nil,g3,c7 _,c7 _,Gw t⟩ (λi σ H2 _ h=>?_) (λi v σ H2 hi h=>?_) (λσ H2 h=>?_)
 .obtain⟨o4,o5,o6,rs,R,LB,vs,_,sb,_⟩:=h;exact LA.of (sb _ _ el Za nld nl3)
 .obtain⟨o4,o5,o6,rs,R,LB,vs,rfl,sb,e1,rv,e2,pl,e3,hR,VO,Mp⟩:=h;obtain⟨x,hx,b,rfl,ob⟩:=ou.get i v hi;rw[Df hx]at Mp;obtain⟨s',hs',Mo⟩:=DO Mp;obtain⟨hk,rfl⟩:=Gv hs';have hil:i<us.length:=(d6.mp hi).1;have kp:Kp H' H2:=λd o z f=>sb d o z (λe=>by subst e;rw[g1]at z;cases z;cases f) (λe=>by subst e;rw[g2]at z;cases z;cases f) (λe=>by subst e;rw[g3]at z;cases z;cases f)
  have Vo:=ob.to kp;refine hqT _ _ _ l1 d1 l3 b x R H2 Vo e3 hk λl4 H3 n43 h4 Xl e33 e34=>?_;have Y9:l4≠l1:=(aF e1 h4).symm;have Y8:l4≠d1:=(aF e2 h4).symm;have e31:H3 l1=some (.lst vs):=Xl _ _ e1 Um;have e3d:H3 d1=some (.dT LB):=Xl _ _ e2 Ul;have Vz:Kp H2 H3:=λd o z f=>Xl d o z (λe=>by subst e;rw[e3]at z;cases z;cases f)
  refine⟨_,rfl,.inl ⟨rfl,_,LA.of e34⟩,l4,_,rfl,rfl,e34,?_⟩;have Vy:Kp H3 (upd H3 l4 (.lst ((R.take x.kids.length).map λi:Nat=>V.int (i:Int)).reverse)):=iU e34 rfl;rw[<- List.map_reverse]at Vy ⊢;have ob4:=(Vo.to Vz).to Vy;obtain⟨dx',Z5,eb,Zb⟩:=ob4.cls;refine⟨_,rfl,b,_,_,_,_,_,rfl,eb,Zb _ (by decide+kernel),M.word x,b,rfl,ob4,(by show 1<=sizeLine;decide),λp1 Mi=>?_⟩;have kx:=lz x;have e44:upd H3 l4 (.lst ((R.take x.kids.length).reverse.map λi:Nat=>V.int (i:Int))) l4=_:=ae;have np1:l4≠p1:=aF e44 Mi;refine⟨_,rfl,l4,_,rfl,.inl ⟨LA.of (by rw[aA np1];exact e44),λp2 LO=>?_⟩⟩;have Y7:p1≠p2:=aF (ae (H:=upd H3 l4 (.lst ((R.take x.kids.length).reverse.map λi:Nat=>V.int (i:Int))))) LO;refine zu (K:=K) (by rw[aA Y7,ae]) ae (by simp) (by simp only[m6,J6,j4,E5,I0];exact l8 (show _<=3 by omega) (by decide)) λMb H6 s6 e6=>?_;have Me:aK (upd H3 l4 (.lst ((R.take x.kids.length).reverse.map λi:Nat=>V.int (i:Int)))) H6:=((ak Mi _).trans (ak LO _)).trans s6;have N8:H6 Mb=some (.tup ((fu x.word (R.take x.kids.length).reverse).map kV)):=by rw[wA];exact e6
  generalize Na:fu x.word (R.take x.kids.length).reverse=r at N8 Mo;have Z4:H6 l1=some (.lst vs):=Me _ _ (by rw[aA Y9.symm];exact e31);have VZ:H6 d1=some (.dT LB):=Me _ _ (by rw[aA Y8.symm];exact e3d);have XX:H6 l3=some (.lst ((R.drop x.kids.length).reverse.map λi:Nat=>V.int (i:Int))):=Me _ _ (by rw[aA n43.symm];exact e33);have kp6:Kp H2 H6:=(Vz.trans Vy).trans (Kp.of Me)
  have sb6:∀d o,H' d=some o->d≠l1->d≠d1->d≠l3->H6 d=some o:=λd o z z1 z2 z3=>by
   have y2:=sb d o z z1 z2 z3;exact Me _ _ (by rw[aA (aF y2 h4)];exact Xl d o y2 z3)
  have Oq:=rv.imp (LU.to kp6);have vl:=rv.len;refine⟨_,rfl,_,rfl,d1,_,rfl,kA.t VZ N8,_,rfl,?_⟩;have hv:=pl.2 r;have big:LB.length<sizeLine:=by rw[pl.1];exact d9 (show rs.length<=1000 by omega) (by decide)
  cases M8:idx rs r with
  | some j =>
   rw[M8]at hv;rw[hv];refine bJ ?_;have hp:bg rs r=(rs,j):=by unfold bg;rw[M8]
   rw[hp]at Mo;refine⟨_,rfl,.inl ⟨rfl,_,LA.of XX⟩,_,rfl,_,rfl,d1,_,rfl,(by have z:=kA.t VZ N8;rw[hv]at z;exact z),l3,_,_,rfl,rfl,XX,?_,?_⟩
   .rw[j4,E5];exact d9 (show _<=1000 by rw[JE];omega) (by decide)
   .have km:Kp H6 (upd H6 l3 (.lst (((R.drop x.kids.length).reverse.map λi:Nat=>V.int (i:Int))++[V.int (j:Int)]))):=iU XX rfl;refine⟨_,_,_,rs,j::R.drop x.kids.length,LB,vs,rfl,λd o z z1 z2 z3=>by rw[aA z3];exact sb6 d o z z1 z2 z3,by rw[aA Um];exact Z4,Oq.imp (LU.to km),by rw[aA Ul];exact VZ,pl,by rw[ae,C8,p7];rfl,?_,by omega,Mo⟩;rw[m6,JE];omega
  | none =>
   rw[M8]at hv;rw[hv];refine dR ?_;have hp:bg rs r=(rs++[r],rs.length):=by unfold bg;rw[M8]
   rw[hp]at Mo;refine⟨_,rfl,_,vs.length,rfl,.inl ⟨_,LA.of Z4,rfl⟩,_,rfl,_,rfl,d1,_,rfl,Jm.t VZ N8 big,?_⟩;rw[vl];have gA:upd H6 d1 (.dT (putK LB r (.int (rs.length:Int)))) l1=some (.lst vs):=by rw[aA Pn];exact Z4
   refine⟨_,rfl,.inl ⟨rfl,_,LA.of gA⟩,_,rfl,l1,_,_,rfl,rfl,gA,by rw[vl];exact d9 (show rs.length<=1000 by omega) (by decide),?_⟩;have k7:Kp H6 (upd (upd H6 d1 (.dT (putK LB r (.int (rs.length:Int))))) l1 (.lst (vs++[.ref Mb]))):=(iU VZ rfl).trans (iU gA rfl);have gB:upd (upd H6 d1 (.dT (putK LB r (.int (rs.length:Int))))) l1 (.lst (vs++[.ref Mb])) d1=some (.dT (putK LB r (.int (rs.length:Int)))):=by rw[aA Pn.symm,ae]
   have gC:upd (upd H6 d1 (.dT (putK LB r (.int (rs.length:Int))))) l1 (.lst (vs++[.ref Mb])) l3=some (.lst ((R.drop x.kids.length).reverse.map λi:Nat=>V.int (i:Int))):=by rw[aA Um.symm,aA Ul.symm];exact XX
   have e7:=k7 _ _ N8 rfl;have pl':=pl.put M8;have ML:fM (putK LB r (.int (rs.length:Int))) r=some (.int (rs.length:Int)):=by rw[jq,d8 rfl]
   refine⟨_,rfl,.inl ⟨rfl,_,LA.of gC⟩,_,rfl,_,rfl,d1,_,rfl,(by have z:=kA.t gB e7;rw[ML]at z;exact z),l3,_,_,rfl,rfl,gC,?_,?_⟩
   .rw[j4,E5];exact d9 (show _<=1000 by rw[JE];omega) (by decide)
   .have km:=iU (u:=.lst (((R.drop x.kids.length).reverse.map λi:Nat=>V.int (i:Int))++[V.int (rs.length:Int)])) gC rfl;refine⟨_,_,_,rs++[r],rs.length::R.drop x.kids.length,_,vs++[.ref Mb],rfl,λd o z z1 z2 z3=>by rw[aA z3,aA z1,aA z2];exact sb6 d o z z1 z2 z3,by rw[aA Um,ae],?_,by rw[aA Ul];exact gB,pl',by rw[ae,C8,p7];rfl,?_,by rw[c8];simp;omega,Mo⟩
    .exact((Oq.imp (LU.to k7)).imp (LU.to km)).app (.cons ⟨Mb,rfl,km _ _ e7 rfl⟩ .nil)
    .rw[m6,JE];omega
 .obtain⟨o4,o5,o6,rs,R,LB,vs,rfl,sb,e1,rv,e2,pl,e3,hR,VO,Mp⟩:=h;rw[ul,<- fX,List.drop_length]at Mp;cases Mp
  refine⟨_,rfl,q l1 vs H2 (λd o z=>?_) h1 e1 rv⟩;exact sb d o (sm _ _ (UZ _ _ z)) (aF z h1) (aF z h2) (aF z h3)
theorem IU(bs:List Bool)(hb:bs.length=xs.length)(Src:Addr->Hp->Prop)
  (NT:∀R:It->Hp->Prop,(∀l H,Src l H->R (Nr K l) H)->wi σ H R)(LX:∀l H',Src l H'->H' l=some (.lst xs)/\aK H H')(hx:xs.length<=1000)
  (ht:∀l H0 (i:Nat) v H' N,Src l H0->xs[i]?=some v->aK H0 H'->(∀LD,aK H' LD->N (bs.getD i false) LD)->tc (some v::bR js σ) H' N)
  (hs:∀(i:Nat) v H' N,xs[i]?=some v->aK H H'->(∀LD,aK H' LD->N v LD)->te (some v::bR js σ) H' N)
  (hd:∀D ys H',aK H H'->H D=none->H' D=some (.lst ys)->ys.length=bs.countP id->Q (.ref D) H'):iW wi tc te js σ H Q:=by
 refine NT _ λl H1 src=>?_;intro D hD;obtain⟨e,s1⟩:=LX l H1 src;have nl:l≠D:=aF e hD;have hD0:H D=none:=s1.free hD;refine⟨λi m H'=>m=xs.length-i/\i<=xs.length/\H' l=some (.lst xs)/\aK H1 H'/\∃ys,H' D=some (.lst ys)/\ys.length=(bs.take i).countP id,⟨xs.length,rfl,y7 _,by rw[aA nl];exact e,ak hD _,[],ae,rfl⟩,?_⟩;rintro i m H2 ⟨rfl,hi,e2,s2,ys,eD,ly⟩
 have cle:(bs.take i).countP id<=i:=l8 List.countP_le_length (by rw[I0];omega)
 by_cases LI:i<xs.length
 .refine .inr ⟨⟨xs,xs[i],LA.of e2,by simp[LI]⟩,λv H3 y=>?_⟩;obtain⟨eh,y⟩:=y;subst eh;have hv:=y xs (LA.of e2);have hbi:i<bs.length:=by omega
  have tk:bs.take (i+1)=bs.take i++[bs.getD i false]:=by
   rw[A7,c9 hbi,A3,c9 hbi];rfl
  have ct:(bs.take (i+1)).countP id=(bs.take i).countP id+(if bs.getD i false=true then 1 else 0):=by
   rw[tk,JM];congr 1;cases bs.getD i false<;>rfl
  refine ht l H1 i v _ _ src hv s2 λH4 s4=>?_
  by_cases hp:bs.getD i false=true
  .rw[d8 hp]at ct;rw[d8 hp];refine hs i v H4 _ hv ((s1.trans s2).trans s4) λH5 s5=>?_;have e5:=s5 _ _ (s4 _ _ eD);refine⟨_,e5,d9 (show _<=1000 by omega) (by decide),xs.length-(i+1),by omega,rfl,LI,?_,λd u z=>?_,ys++[v],ae,by rw[ct,c8,ly];rfl⟩
   .rw[aA nl];exact s5 _ _ (s4 _ _ e2)
   .rw[aA (aF z hD)];exact s5 _ _ (s4 _ _ (s2 _ _ z))
  .rw[i5 hp]at ct;rw[i5 hp];exact⟨xs.length-(i+1),by omega,rfl,LI,s4 _ _ e2,s2.trans s4,ys,s4 _ _ eD,by rw[ct,ly];rfl⟩
 .have ei:i=xs.length:=by omega
  subst ei;rw[<- hb,A6]at ly;exact .inl ⟨⟨xs,LA.of e2,c7 _⟩,hd D ys H2 (s1.trans s2) hD0 eD ly⟩
noncomputable def isF:Tr->Bool
 | .fold _ _ _=>true
 | _=>false
noncomputable def Tr.nf(t:Tr):Nat:=(t.post.map isF).countP id
def rJ(c:CCs)(t:Tr):Sp:=λvs H Q _=>∃a,vs=[.ref a]/\Ob c H a t/\t.size<=1000/\∀H',aK H H'->Q (.int (t.nf:Int)) H'
theorem vd:aD ["self"] ["self"] (au fR):=L2.fsc rfl (by decide+kernel)
theorem Ef(T:bH K C "folds" "Saying.folds" fR)(bE:mg "len"=none)(aO:mg "isinstance"=none)(T8:mg "Fold"=some (.ref BL))(fx:Fx K c)(kf:∀t,PySem.W.kitOne K (.ref (c.of t)) (.ref BL)=some (isF t))(G:∀t,bF P w K mg base (c.of t) "laid_out" 2 ["self"] (rE c t)):bF P w K mg base C "folds" 3 ["self"] (rJ c t):=by
 refine bM T vd ?_ ?_
 .walk_at "i1"
 walk_at "i2";obtain⟨a,rfl,oa,ht,q⟩:=h;have nd:=vd.nd;obtain⟨dx,fs,ea,nf⟩:=oa.cls;refine⟨_,(aq (av (aG bL bE (aa (dQ (cf (gM (k:=2) (pv 0) (hr.mono (by omega)))) cC (λ_ _ _ _=>(O5 (dA (aG (EV (K:=K) rfl) aO (aa (pv 0) (aa (cS (v:=V.ref BL) rfl T8 rfl) af)))))) (λ_ _ _ _=>(pv 0))) af)))),?_⟩;dsimp only[DF,Oi,tC,Oj,eZ,kE];refine iH ?_;refine⟨_,rfl,a,_,_,_,_,_,rfl,ea,nf _ (by decide+kernel),G t,a,rfl,oa,ht,λl us H1 s1 hl el ou=>⟨l,rfl,⟨_,LA.of el⟩,?_⟩⟩;have lu:=ou.len;have lp:=fX t;refine IU (K:=K) (t.post.map isF) (by rw[j4,lu]) (λl' H'=>l'=l/\H'=H1) (λR k=>k l H1 ⟨rfl,rfl⟩) (λl' H' z=>by obtain⟨rfl,rfl⟩:=z;exact⟨el,aK.refl _⟩) (by omega) (λl' H0 i v H2 N z hv s2 hN=>?_) (λi v H2 N hv s2 hN=>⟨_,rfl,hN _ (aK.refl _)⟩) (λD ys H2 s2 hD eD ly=>?_)
 .obtain⟨rfl,rfl⟩:=z;obtain⟨x,hx,b,rfl,ob⟩:=(ou.imp (Np.to (Kp.of s2))).get i v hv;have e:(t.post.map isF).getD i false=isF x:=by rw[A3,x6,hx];rfl
  rw[e]at hN;exact⟨_,rfl,_,_,_,_,_,rfl,(λu z=>z),fx.ty ob,kf x,_,rfl,hN _ (aK.refl _)⟩
 .refine⟨_,_,rfl,.inl ⟨_,LA.of eD,rfl⟩,?_⟩;rw[ly];exact q _ (s1.trans s2)
noncomputable def u5:W5->Nat | .more=>0 | .less=>1 | .greater=>2 | .lesser=>3 | .leads=>4
theorem Wj(u:W5):fw (u5 u)=u.str:=by cases u<;>rfl
noncomputable def dZ:Gr->Hu.Row
 | .ne=>.lf 0 | .al=>.lf 1 | .p=>.lf 2 | .q=>.lf 3
 | .no i=>.nt i
 | .fold u i j=>.fd (u5 u) i j
theorem DD(h:LU H v g.rw):Dat K H (mU (dZ g)) v:=by
 obtain⟨a,rfl,e⟩:=h;unfold Gr.rw at e;rw[wA]at e;refine RX (Lz.of ?_);rw[e];cases g with
 | fold u i j=>show _=some (HO.tup [V.str (fw (u5 u)),.int i,.int j]);rw[Wj];rfl
 | _=>rfl
theorem Fy{k:Nat}(h:Ua k g):(dZ g).Ok k:=by
 cases g with
 | ne=>show 0<4;decide
 | al=>show 1<4;decide
 | p=>show 2<4;decide
 | q=>show 3<4;decide
 | no i=>exact h i (by simp[Gr.nums])
 | fold u i j=>exact⟨by cases u<;>decide,h i (by simp[Gr.nums]),h j (by simp[Gr.nums])⟩
noncomputable def Nw(r:Rw):Bool:=r.length==3
theorem lN(rs:List Rw)(r:Rw):(bg rs r).1.countP Nw<=rs.countP Nw+(if Nw r=true then 1 else 0):=by
 unfold bg;cases idx rs r with
 | some i=>show rs.countP Nw<=_;omega
 | none =>
  show(rs++[r]).countP Nw<=_;rw[JM];refine Nat.add_le_add_left ?_ _;cases h:Nw r<;>simp[h]
theorem CK(t:Tr):(Tr.no t).nf=t.nf:=by
 show((t.post++[Tr.no t]).map isF).countP id=_;rw[p7,JM];rfl
theorem qS(u:W5)(a b:Tr):(Tr.fold u a b).nf=a.nf+b.nf+1:=by
 show((a.post++b.post++[Tr.fold u a b]).map isF).countP id=_;rw[p7,p7,JM,JM];rfl
theorem qP:∀(t:Tr)(rs:List Rw),(t.putR rs).1.countP Nw<=rs.countP Nw+t.nf
 | .no t,rs=>by
  have h1:=qP t rs;have h2:=lN (t.putR rs).1 (fu "not" [(t.putR rs).2]);have e:Nw (fu "not" [(t.putR rs).2])=false:=rfl;rw[e,i5 (by decide)]at h2;rw[CK];exact l8 h2 h1
 | .fold w a b,rs=>by
  have h1:=qP a rs;have h2:=qP b (a.putR rs).1;have h3:=lN (b.putR (a.putR rs).1).1 (fu w.str [(a.putR rs).2,(b.putR (a.putR rs).1).2]);have e:Nw (fu w.str [(a.putR rs).2,(b.putR (a.putR rs).1).2])=true:=rfl;rw[e,d8 rfl]at h3;rw[qS];have:((Tr.fold w a b).putR rs).1.countP Nw<=_:=h3;omega
 | .never,rs=>lN rs (fu "never" [])
 | .always,rs=>lN rs (fu "always" [])
 | .lp,rs=>lN rs (fu "p" [])
 | .lq,rs=>lN rs (fu "q" [])
theorem IB:∀gs:List Gr,Hu.fds (gs.map dZ)=(gs.map Gr.rw).countP Nw
 | []=>rfl
 | g::r=>by
  have ih:=IB r;unfold Hu.fds at ih ⊢;rw[A5,A5,List.countP_cons,List.countP_cons,ih];congr 1;cases g<;>rfl
noncomputable def LR:Hu.Tc->PyData
 | .leaf=>.tuple [.str "leaf"]
 | .cut r l g=>.tuple [.str "cut",LC r,LR l,LR g]
section
variable{K:W.Frag}{H H':Hp}{v:V}
theorem OJ(d:Dat K H (LR .leaf) v):∃a,v=.ref a/\Lz K H a [.str "leaf"]:=by
 unfold LR at d;obtain⟨a,xs,rfl,g,x,r,rfl,hx,hr⟩:=d;cases(show x=V.str "leaf" from hx)
 cases(show r=[] from hr)
 exact⟨a,rfl,g⟩
theorem FC(d:Dat K H (LR (.cut r l g)) v):∃a x y z,v=.ref a/\Lz K H a [.str "cut",x,y,z]/\Dat K H (LC r) x/\Dat K H (LR l) y/\Dat K H (LR g) z:=by
 unfold LR at d;obtain⟨a,xs,rfl,s,w,t,rfl,hw,x,t2,rfl,hx,y,t3,rfl,hy,z,t4,rfl,hz,h4⟩:=d;cases(show w=V.str "cut" from hw)
 cases(show t4=[] from h4)
 exact⟨a,x,y,z,rfl,s,hx,hy,hz⟩
theorem oR(g:Lz K H a [.str "leaf"]):Dat K H (LR .leaf) (.ref a):=by
 unfold LR;exact⟨a,_,rfl,g,_,_,rfl,rfl,rfl⟩
theorem FA(s:Lz K H a [.str "cut",x,y,z])(h1:Dat K H (LC r) x)(h2:Dat K H (LR l) y)(h3:Dat K H (LR g) z):Dat K H (LR (.cut r l g)) (.ref a):=by
 unfold LR;exact⟨a,_,rfl,s,_,_,rfl,rfl,_,_,rfl,h1,_,_,rfl,h2,_,_,rfl,h3,rfl⟩
end
namespace Hu
theorem oo:∀a rs,run h (a++[r]) rs=match run h a rs with
  | .rules Mg=>(match bo h (choice Mg r) with | some x=>.rules (Mg++[x]) | none=>.mixed Mg.length (choice Mg r).1)
  | .mixed k t=>.mixed k t
 | [],rs=>by
  show run h [r] rs=_;simp only[run]
  all_goals (cases bo h (choice rs r)<;>rfl)
 | x::a,rs=>by
  simp only[z9,run];cases bo h (choice rs x) with
  | none=>rfl
  | some y=>exact oo a _
theorem dF(h:List T3)(x:T3):bo h (z0,x,x)=some x:=by
 unfold bo;rw[d8 λq _=>JZ (pY q)]
end Hu
noncomputable def rl(g:List T3):Tr->Option T3
 | .never=>some (Hu.lft 0)
 | .always=>some (Hu.lft 1)
 | .lp=>some (Hu.lft 2)
 | .lq=>some (Hu.lft 3)
 | .no t=>(rl g t).map λr=>Hu.mi Hu.al r
 | .fold u a b=>match rl g a,rl g b with
  | some x,some y=>Hu.bo g (Hu.fch (u5 u) x y)
  | _,_=>none
theorem wC(g:List T3):∀t:Tr,rl g t≠none->∀x∈t.post,rl g x≠none
 | .no t,h,x,hx=>by
  rcases j9.mp (show x∈t.post++[.no t] from hx) with z | z
  .exact wC g t (λe=>h (by show(rl g t).map _=none;rw[e];rfl)) x z
  .rw[d7.mp z];exact h
 | .fold u a b,h,x,hx=>by
  rcases j9.mp (show x∈a.post++b.post++[.fold u a b] from hx) with z | z
  .rcases j9.mp z with z | z
   .exact wC g a (λe=>h (by unfold rl;rw[e])) x z
   .refine wC g b (λe=>h ?_) x z;unfold rl;rw[e];cases rl g a<;>rfl
  .rw[d7.mp z];exact h
 | .never,h,x,hx=>by rw[d7.mp hx];exact h
 | .always,h,x,hx=>by rw[d7.mp hx];exact h
 | .lp,h,x,hx=>by rw[d7.mp hx];exact h
 | .lq,h,x,hx=>by rw[d7.mp hx];exact h
theorem yx{g:List T3}{ts:List Tr}{rs:List T3}(e:ts.map (rl g)=rs.map some){t:Tr}(h:ts[i]?=some t):rl g t=some (rs.getD i Hu.z0):=by
 have z:(ts.map (rl g))[i]?=some (rl g t):=by rw[x6,h];rfl
 rw[e,x6]at z;rw[A3];cases q:rs[i]? with
 | none=>rw[q]at z;cases z
 | some r=>rw[q]at z;exact(l7 z).symm
theorem tS(e:ts.map (rl g)=rs.map some)(h:NA ts gr t):Hu.bo g (Hu.choice rs (dZ gr))=rl g t:=by
 cases gr with
 | ne=>cases t<;>first | exact h.elim | exact Hu.dF _ _
 | al=>cases t<;>first | exact h.elim | exact Hu.dF _ _
 | p=>cases t<;>first | exact h.elim | exact Hu.dF _ _
 | q=>cases t<;>first | exact h.elim | exact Hu.dF _ _
 | no i =>
  cases t<;>first | exact h.elim | skip
  rename_i t;have z:=yx e (show ts[i]?=some t from h);show Hu.bo g (Hu.z0,Hu.mi Hu.al (rs.getD i Hu.z0),Hu.mi Hu.al (rs.getD i Hu.z0))=(rl g t).map _;rw[z,Hu.dF];rfl
 | fold u i j =>
  cases t<;>first | exact h.elim | skip
  rename_i v a b;obtain⟨rfl,h1,h2⟩:=h;have z1:=yx e h1;have z2:=yx e h2;show Hu.bo g (Hu.fch (u5 u) (rs.getD i Hu.z0) (rs.getD j Hu.z0))=rl g (.fold u a b)
  conv=>rhs;unfold rl
  rw[z1,z2]
theorem Cq(g:List T3)(h:Tab gs ts):(∃rs,Hu.run g (gs.map dZ) []=.rules rs/\ts.map (rl g)=rs.map some)\/(∃k t,Hu.run g (gs.map dZ) []=.mixed k t)/\∃x∈ts,rl g x=none:=by
 induction h with
 | nil=>exact .inl ⟨[],rfl,rfl⟩
 | snoc hT r ih =>
  rename_i gs ts gr t;rw[p7];show(∃rs,Hu.run g (gs.map dZ++[dZ gr]) []=_/\_)\/_;rw[Hu.oo];rcases ih with⟨rs,e,q⟩ | ⟨⟨k,tt,e⟩,x,hx,q⟩
  .rw[e];dsimp only;rw[tS q r];cases z:rl g t with
   | some x=>exact .inl ⟨rs++[x],rfl,by rw[p7,p7,q];simp[z]⟩
   | none =>
    refine .inr ⟨⟨rs.length,(Hu.choice rs (dZ gr)).1,?_⟩,t,p8 _ x8,z⟩;show Hu.run g (gs.map dZ++[dZ gr]) []=_;rw[Hu.oo,e];dsimp only;rw[tS q r,z]
  .rw[e];refine .inr ⟨⟨k,tt,?_⟩,x,B2 _ hx,q⟩;show Hu.run g (gs.map dZ++[dZ gr]) []=_;rw[Hu.oo,e]
theorem Rt(h:Tab gs ts):nB (gs.map dZ):=λk r hr=>by
 rw[x6]at hr;cases z:gs[k]? with
 | none=>rw[z]at hr;cases hr
 | some g=>rw[z]at hr;cases hr;exact Fy (h.ok k g z)
structure kz(rs:List Rw)(ts:List Tr)(rows:List Hu.Row):Prop where
 gr:∃gs:List Gr,rs=gs.map Gr.rw/\Tab gs ts/\rows=gs.map dZ
theorem kz.ok(R:kz rs ts rows):nB rows:=by
 obtain⟨gs,_,h,rfl⟩:=R.gr;exact Rt h
theorem kz.len(R:kz rs ts rows):rows.length=rs.length/\rs.length=ts.length:=by
 obtain⟨gs,rfl,h,rfl⟩:=R.gr;exact⟨by simp,by rw[j4];exact h.len⟩
theorem kz.fd(R:kz rs ts rows):Hu.fds rows=rs.countP Nw:=by
 obtain⟨gs,rfl,h,rfl⟩:=R.gr;exact IB gs
theorem kz.dat(R:kz rs ts rows)(al:cB (LU H) us rs):DatAll K H (rows.map mU) us:=by
 obtain⟨gs,rfl,h0,rfl⟩:=R.gr;clear R h0
 induction gs generalizing us with
 | nil=>cases al;rfl
 | cons g r ih =>
  cases al with
  | cons h k=>exact⟨_,_,rfl,DD h,ih k⟩
theorem kz.run(R:kz rs ts rows)(g:List T3):(∃out,Hu.run g rows []=.rules out/\ts.map (rl g)=out.map some)\/(∃k t,Hu.run g rows []=.mixed k t)/\∃x∈ts,rl g x=none:=by
 obtain⟨gs,_,h,rfl⟩:=R.gr;exact Cq g h
theorem yu(t:Tr):∃ts rows,kz t.rows (ts++[t]) rows/\∀x∈ts++[t],x∈t.post:=by
 obtain⟨gs,ts,e,h,hp,_⟩:=Gx t;exact⟨ts,_,⟨gs,e,h,rfl⟩,hp⟩
noncomputable def bA(t:Tr):List Hu.Row:=Classical.choose (Kj (yu t))
theorem yt(t:Tr):∃ts,kz t.rows (ts++[t]) (bA t)/\∀x∈ts++[t],x∈t.post:=⟨_,Kj (Kj (yu t))⟩
structure WY(t:Tr)(rows:List Hu.Row):Prop where
 ok:nB rows
 pos:0<rows.length
 len:rows.length<=t.size
 fd:Hu.fds rows<=t.nf
 dat:∀{K:W.Frag}{H:Hp}{us:List V},cB (LU H) us t.rows->DatAll K H (rows.map mU) us
 run:∀g:List T3,(∃out r,Hu.run g rows []=.rules out/\out.getLast?=some r/\rl g t=some r)\/(∃k x,Hu.run g rows []=.mixed k x)/\rl g t=none
theorem Gy(t:Tr):t.rows.length<=t.size:=by
 have:=jD t [];show(t.putR []).1.length<=_;simpa using this
theorem qi(t:Tr):WY t (bA t):=by
 obtain⟨ts,R,hp⟩:=yt t;obtain⟨l1,l2⟩:=R.len;have l3:=Gy t;refine⟨R.ok,by rw[l1,l2];simp,by omega,?_,λal=>R.dat al,λg=>?_⟩
 .rw[R.fd];have:=qP t [];rw[List.countP_nil,Nat.zero_add]at this;exact this
 .rcases R.run g with⟨out,e,q⟩ | ⟨e,x,hx,q⟩
  .have z:(out.map some).getLast?=some (rl g t):=by rw[<- q,p7];simp
   rw[List.getLast?_map]at z;cases y:out.getLast? with
   | none=>rw[y]at z;cases z
   | some r=>rw[y]at z;exact .inl ⟨out,r,e,y,(l7 z).symm⟩
  .refine .inr ⟨e,?_⟩;cases y:rl g t with
   | none=>rfl
   | some r=>exact absurd q (wC g t (by rw[y];exact λz=>nomatch z) x (hp x hx))
def Bd(n:Nat)(r:T3):Prop:=r.u.natAbs<=n/\r.v.natAbs<=n/\r.w.natAbs<=n
theorem To(a b:Int):(a-b).natAbs<=a.natAbs+b.natAbs:=by omega
theorem Bd.mono{m:Nat}{x:T3}(h:Bd m x)(k:m<=n):Bd n x:=⟨l8 h.1 k,l8 h.2.1 k,l8 h.2.2 k⟩
theorem Bd.pl{m:Nat}{x y:T3}(h:Bd m x)(k:Bd n y):Bd (m+n) (Hu.pl x y):=⟨l8 (K6 _ _) (JV h.1 k.1),l8 (K6 _ _) (JV h.2.1 k.2.1),l8 (K6 _ _) (JV h.2.2 k.2.2)⟩
theorem Bd.mi{m:Nat}{x y:T3}(h:Bd m x)(k:Bd n y):Bd (m+n) (Hu.mi x y):=⟨l8 (To _ _) (JV h.1 k.1),l8 (To _ _) (JV h.2.1 k.2.1),l8 (To _ _) (JV h.2.2 k.2.2)⟩
theorem tW:Bd 1 Hu.al:=⟨by decide,by decide,by decide⟩
theorem ID{m:Nat}(hx:Bd m x)(hy:Bd n y):Bd (m+n+1) (Hu.fch (u5 u) x y).1/\Bd (m+n+1) (Hu.fch (u5 u) x y).2.1/\Bd (m+n+1) (Hu.fch (u5 u) x y).2.2:=by
 have o:1<=m+n+1:=by omega
 cases u with
 | more=>exact⟨(hx.pl hy).mi tW,(hx.pl hy).mono (by omega),tW.mono o⟩
 | less=>exact⟨(hx.pl hy).mi tW,⟨y7 _,y7 _,y7 _⟩,(hx.pl hy).mi tW⟩
 | greater=>exact⟨(hx.mi hy).mono (by omega),hy.mono (by omega),hx.mono (by omega)⟩
 | lesser=>exact⟨(hx.mi hy).mono (by omega),hx.mono (by omega),hy.mono (by omega)⟩
 | leads=>exact⟨(hy.mi hx).mono (by omega),(tW.pl (hy.mi hx)).mono (by omega),tW.mono o⟩
theorem yw:∀{t:Tr}{r:T3},rl g t=some r->Bd t.size r
 | .never,r,h=>by cases h;exact⟨by decide,by decide,by decide⟩
 | .always,r,h=>by cases h;exact⟨by decide,by decide,by decide⟩
 | .lp,r,h=>by cases h;exact⟨by decide,by decide,by decide⟩
 | .lq,r,h=>by cases h;exact⟨by decide,by decide,by decide⟩
 | .no t,r,h=>by
  have e0:rl g (.no t)=(rl g t).map λr=>Hu.mi Hu.al r:=rfl;rw[e0]at h;cases e:rl g t with
  | none=>rw[e]at h;cases h
  | some x =>
   rw[e]at h;cases h
   exact(tW.mi (yw e)).mono (Nat.le_of_eq (Nat.add_comm _ _))
 | .fold u a b,r,h=>by
  unfold rl at h;cases e1:rl g a with
  | none=>rw[e1]at h;cases h
  | some x=>cases e2:rl g b with
   | none=>rw[e1,e2]at h;cases h
   | some y =>
    rw[e1,e2]at h;obtain⟨_,k1,k2⟩:=ID (u:=u) (yw e1) (yw e2);show Bd (a.size+b.size+1) r;dsimp only at h;unfold Hu.bo at h;split at h
    .cases h;exact k1
    .split at h
     .cases h;exact k2
     .cases h
theorem HU(g:List T3)(h:Tab gs ts)(hs:∀x∈ts,x.size<=N):∀k tt,Hu.run g (gs.map dZ) []=.mixed k tt->Bd N tt:=by
 induction h with
 | nil=>intro k tt e;cases e
 | snoc hT r ih =>
  rename_i gs ts gr t;intro k tt e;rw[p7]at e;have e:Hu.run g (gs.map dZ++[dZ gr]) []=.mixed k tt:=e;rw[Hu.oo]at e;rcases Cq g hT with⟨rs,e1,q⟩ | ⟨⟨k',tt',e1⟩,_⟩
  .rw[e1]at e;dsimp only at e;cases z:Hu.bo g (Hu.choice rs (dZ gr)) with
   | some x=>rw[z]at e;cases e
   | none =>
    rw[z]at e;cases e
    have st:=hs t (p8 _ x8);cases gr with
    | ne=>rw[show Hu.choice rs (dZ .ne)=(Hu.z0,Hu.lft 0,Hu.lft 0) from rfl,Hu.dF]at z;cases z
    | al=>rw[show Hu.choice rs (dZ .al)=(Hu.z0,Hu.lft 1,Hu.lft 1) from rfl,Hu.dF]at z;cases z
    | p=>rw[show Hu.choice rs (dZ .p)=(Hu.z0,Hu.lft 2,Hu.lft 2) from rfl,Hu.dF]at z;cases z
    | q=>rw[show Hu.choice rs (dZ .q)=(Hu.z0,Hu.lft 3,Hu.lft 3) from rfl,Hu.dF]at z;cases z
    | no i=>rw[show Hu.choice rs (dZ (.no i))=(Hu.z0,Hu.mi Hu.al (rs.getD i Hu.z0),Hu.mi Hu.al (rs.getD i Hu.z0)) from rfl,Hu.dF]at z;cases z
    | fold u i j =>
     cases t<;>first | exact r.elim | skip
     rename_i v a b;obtain⟨rfl,h1,h2⟩:=r;have b1:=yw (yx q h1);have b2:=yw (yx q h2);have st:a.size+b.size+1<=N:=st;obtain⟨k1,k2,k3⟩:=(ID (u:=u) b1 b2).1;exact⟨l8 k1 st,l8 k2 st,l8 k3 st⟩
  .rw[e1]at e;cases e
   exact ih (λx hx=>hs x (B2 _ hx)) _ _ e1
theorem Bd.r3(h:Bd n r)(hn:n<256):Hu.R3 8 r:=⟨d9 h.1 hn,d9 h.2.1 hn,d9 h.2.2 hn⟩
def Sml(rows:List Hu.Row):Prop:=∀g (k:Nat) t,Hu.run g rows []=.mixed k t->Hu.R3 8 t
theorem UY(h:a.size<=60):Sml (bA a):=λg k t e=>by
 obtain⟨ts,R,hp⟩:=yt a;obtain⟨gs,_,hT,er⟩:=R.gr;rw[er]at e;exact(HU g (N:=60) hT (λx hx=>l8 (gK a x (hp x hx)) h) k t e).r3 (by decide)
inductive BX(K:W.Frag)(vs:List V)(H:Hp)(Q:VK)(E:XK):Prop
 | mk  : vs=[]->(∀l us H',aK H H'->H l=none->H' l=some (.lst us)->DatAll K H' (Hu.sqH.map LC) us->Q (.ref l) H')->BX K vs H Q E
section
variable{P:Program}{w:World}{K:W.Frag}{mg:Str->Option Value}{base:Heap}
theorem ok_sq(T:aC K mg "square" oh):Def P w K mg base 1 "square" [] (BX K):=by
 refine aQ T DK ?_ ?_
 .walk_at "i1"
 walk_at "i2";obtain⟨rfl,q⟩:=h;obtain⟨e,p,he,eq⟩:∃e p,W4 e/\bI oh=[.Return (some e) p]:=⟨_,_,⟨_,_,_,_,_,_,_,_,_,_,_,_,_,_,_,_,_,_,_,_,_,_,_,_,_,_,_,_,_,_,_,_,_,rfl⟩,rfl⟩;rw[eq];refine⟨_,aq (av (Vj he)),?_⟩;refine⟨(by show 3<=sizeLine;decide),λt1 h1=>⟨(by show 3<=sizeLine;decide),λt2 h2=>⟨(by show 3<=sizeLine;decide),λt3 h3=>⟨(by show 3<=sizeLine;decide),λt4 h4=>⟨(by show 4<=sizeLine;decide),λl h5=>?_⟩⟩⟩⟩⟩;have u1:=ak h1 (.tup [.int 1,.int 0,.int 0]);have u2:=ak h2 (.tup [.int 1,.int 1,.int 0]);have u3:=ak h3 (.tup [.int 1,.int 1,.int 1]);have u4:=ak h4 (.tup [.int 1,.int 0,.int 1]);have u5:=ak h5 (.lst [.ref t1,.ref t2,.ref t3,.ref t4]);refine q l _ _ (u1.trans (u2.trans (u3.trans (u4.trans u5)))) ((u1.trans (u2.trans (u3.trans u4))).free h5) ae ?_;exact⟨_,_,rfl,cg (p:=⟨1,0,0⟩) (Lz.of ((u2.trans (u3.trans (u4.trans u5))) _ _ ae)),_,_,rfl,cg (p:=⟨1,1,0⟩) (Lz.of ((u3.trans (u4.trans u5)) _ _ ae)),_,_,rfl,cg (p:=⟨1,1,1⟩) (Lz.of ((u4.trans u5) _ _ ae)),_,_,rfl,cg (p:=⟨1,0,1⟩) (Lz.of (u5 _ _ ae)),rfl⟩
end
end Mine
namespace L2
open PySem
variable{n:Nat}
theorem oU(h:n<=9000):n<sizeLine:=d9 h (by decide)
end L2
namespace Mine
open PySem L2
variable{n w:Int}{H:Hp}{te:TE}{js:List Nat}{σ:St}{Q:VK}{is:List Int}{u:W5}
def MX(K:W.Frag)(H:Hp)(N:Addr->Prop)(h:List T3)(v:V):Prop:=∃a us,v=.ref a/\N a/\H a=some (.lst us)/\DatAll K H (h.map LC) us
def bV(K:W.Frag)(H:Hp)(N:Addr->Prop):List (List T3)->List V->Prop
 | [],vs=>vs=[]
 | h::hs,vs=>∃v r,vs=v::r/\MX K H N h v/\bV K H N hs r
section
variable{K:W.Frag}{H H':Hp}{N M:Addr->Prop}{h:List T3}{v:V}
theorem MX.same(g:MX K H N h v)(s:aK H H'):MX K H' N h v:=by
 obtain⟨a,us,e,n,ha,d⟩:=g;exact⟨a,us,e,n,s _ _ ha,d.ts s.ts⟩
theorem MX.mut(g:MX K H N h v)(e:H c=some (.lst ws))(ne:∀a,N a->a≠c):MX K (upd H c (.lst zs)) N h v:=by
 obtain⟨a,us,e1,n,ha,d⟩:=g;exact⟨a,us,e1,n,by rw[aA (ne a n)];exact ha,d.ts (dj e)⟩
theorem MX.imp(g:MX K H N h v)(z:∀a,N a->M a):MX K H M h v:=by
 obtain⟨a,us,e1,n,ha,d⟩:=g;exact⟨a,us,e1,z a n,ha,d⟩
theorem bV.map(f:∀h v,MX K H N h v->MX K H' M h v):∀{hs:List (List T3)}{vs:List V},bV K H N hs vs->bV K H' M hs vs
 | [],_,g=>g
 | _::_,_,⟨v,r,e,g1,g2⟩=>⟨v,r,e,f _ _ g1,bV.map f g2⟩
theorem bV.same(g:bV K H N hs vs)(s:aK H H'):bV K H' N hs vs:=bV.map (λ_ _ z=>z.same s) g
theorem bV.mut(g:bV K H N hs vs)(e:H c=some (.lst ws))(ne:∀a,N a->a≠c):bV K (upd H c (.lst zs)) N hs vs:=bV.map (λ_ _ z=>z.mut e ne) g
theorem bV.imp(g:bV K H N hs vs)(z:∀a,N a->M a):bV K H M hs vs:=bV.map (λ_ _ y=>y.imp z) g
theorem bV.len:∀{hs:List (List T3)}{vs:List V},bV K H N hs vs->vs.length=hs.length
 | [],_,g=>by rw[show _=([]:List V) from g];rfl
 | _::_,_,⟨v,r,e,g1,g2⟩=>by rw[e,m6,m6,bV.len g2]
theorem bV.app:∀{hs gs:List (List T3)}{vs us:List V},bV K H N hs vs->bV K H N gs us->bV K H N (hs++gs) (vs++us)
 | [],_,_,_,g,z=>by rw[show _=([]:List V) from g];exact z
 | _::_,_,_,_,⟨v,r,e,g1,g2⟩,z=>by subst e;exact⟨v,_,rfl,g1,bV.app g2 z⟩
theorem bV.one(g:MX K H N h v):bV K H N [h] [v]:=⟨v,[],rfl,g,rfl⟩
theorem bV.at:∀{hs:List (List T3)}{vs:List V},bV K H N hs vs->∀{i:Nat}{v:V},vs[i]?=some v->∃h,hs[i]?=some h/\MX K H N h v
 | [],_,g,i,v,e=>by rw[show _=([]:List V) from g]at e;simp at e
 | h::_,_,⟨w,r,e1,g1,g2⟩,0,v,e=>by
  subst e1;cases e
  exact⟨h,rfl,g1⟩
 | _::_,_,⟨w,r,e1,g1,g2⟩,i+1,v,e=>by
  subst e1;exact bV.at g2 (i:=i) e
end
section
variable{K:W.Frag}{H H':Hp}{N M:Addr->Prop}{h:List T3}{v:V}
theorem DatAll.unsnoc:∀{ds:List PyData}{d:PyData}{vs:List V},DatAll K H (ds++[d]) vs->∃us v,vs=us++[v]/\DatAll K H ds us/\Dat K H d v
 | [],d,vs,⟨x,r,e,g,z⟩=>by
  cases(show r=[] from z)
  exact⟨[],x,e,rfl,g⟩
 | c::ds,d,vs,⟨x,r,e,g,z⟩=>by
  obtain⟨us,v,rfl,g1,g2⟩:=DatAll.unsnoc (ds:=ds) z;exact⟨x::us,v,e,⟨x,us,rfl,g,g1⟩,g2⟩
theorem bV.unsnoc:∀{hs:List (List T3)}{h:List T3}{vs:List V},bV K H N (hs++[h]) vs->∃us v,vs=us++[v]/\bV K H N hs us/\MX K H N h v
 | [],d,vs,⟨x,r,e,g,z⟩=>by
  cases(show r=[] from z)
  exact⟨[],x,e,rfl,g⟩
 | c::ds,d,vs,⟨x,r,e,g,z⟩=>by
  obtain⟨us,v,rfl,g1,g2⟩:=bV.unsnoc (hs:=ds) z;exact⟨x::us,v,e,⟨x,us,rfl,g,g1⟩,g2⟩
end
theorem vw:(us++[v])[(us++[v]).length-1]?=some v:=by simp
noncomputable abbrev Stk:=List (Hu.Tc×List T3)
noncomputable def M4:Stk->Nat
 | []=>0
 | p::r=>p.1.size+M4 r
theorem qH:∀a b,M4 (a++b)=M4 a+M4 b
 | [],b=>by simp[M4]
 | p::a,b=>by have:=qH a b;simp only[z9,M4];omega
theorem vP:∀S:Stk,S.length<=M4 S
 | []=>c7 _
 | p::r=>by
  have:=vP r;have:=Hu.Tc.size_pos p.1;simp only[M4,m6];omega
inductive qJ(K:W.Frag)(CN:Addr)(vs:List V)(H:Hp)(Q:VK)(E:XK):Prop
 | mk (x t):vs=[x]->Dat K H (LR t) x->t.Sm 64->t.deep<=12->((t.told Hu.sqH=none->∀H',aK H H'->E (.ref CN) none H'))->((∀L,t.told Hu.sqH=some L->∀l us H',aK H H'->H l=none->H' l=some (.lst us)->bV K H' (λa=>H a=none/\a≠l) L us->Q (.ref l) H'))->qJ K CN vs H Q E
structure HI(K:W.Frag)(H H':Hp)(t:Hu.Tc)(lf lt lh:Addr)(m:Nat)(S:Stk)(F:List (List T3))(fv tv hv:List V):Prop where
 sm:aK H H'
 ef:H' lf=some (.lst fv)
 et:H' lt=some (.lst tv)
 eh:H' lh=some (.lst hv)
 df:bV K H' (λa=>H a=none/\a≠lf/\a≠lt/\a≠lh) F fv
 dt:DatAll K H' (S.map λp=>LR p.1) tv
 dh:bV K H' (λa=>H a=none/\a≠lf/\a≠lt/\a≠lh) (S.map (·.2)) hv
 to:t.told Hu.sqH=(Hu.Tc.fe S.reverse).map (F++·)
 ok:∀p∈S,Hu.HK p.2/\p.1.Sm 64/\p.2.length+p.1.deep<=20
 me:M4 S=m
 few:F.length+m<=8900
variable{P:Program}{w:World}{K:W.Frag}{mg:Str->Option Value}{base:Heap}
theorem Hv(T:aC K mg "hulls_of" mR)(ue:Def P w K mg base 1 "square" [] (BX K))(Jl:xE P w K mg base 3 "cut" ["hull","rule"] (Cc K CN)):xE P w K mg base 4 "hulls_of" ["tree"] (qJ K CN):=by
 refine Dh T qf ?_ ?_
 .walk_at "i1"
 walk_at "i2";obtain⟨x,t,rfl,dx,UZ,dp,kn,kc⟩:=h;have nd:=qf.nd;have tsz:=Hu.Tc.size_le (t:=t) (d:=12) dp
 refine⟨_,(ah (aJ (i:=1) (bW af))
  (ah (aJ (i:=2) (bW (aa (pv 0) af)))
  (ah (aJ (i:=3) (bW (aa (Cz ue (hr.mono (by decide)) rfl) af)))
  (ah (iQ PassesOwn.leaving (sN (pv 2) (λ_=>rfl)) (ah (aJ (i:=4) (jk c6 C4 C5 kZ (pv 2)))
  (ah (aJ (i:=5) (jk c6 C4 C5 kZ (pv 3)))
  (aq (aT (aE cy (aB az (pv 4) ao) aR (aI _)) (aq (bB (cO c6 j7 j8 bj (pv 1) (aa (pv 5) af)))) (ah (aJ (i:=6) (O8 Jl (hr.mono (by decide)) rfl (aa (pv 5) (aa (aB az (pv 4) ao) af))))
  (ah (bB (cO c6 J2 J3 pH (pv 2) (aa (bW (aa (aB az (pv 4) ao) (aa (aB az (pv 4) ao) af))) af)))
  (aq (bB (cO c6 J2 J3 pH (pv 3) (aa (bW (aa (aB az (pv 6) ao) (aa (aB az (pv 6) ao) af))) af)))))))))))
  (aq (av (pv 1))))))),?_⟩
 refine⟨(by show 0<=sizeLine;decide),λlf ZL=>?_⟩;refine⟨_,rfl,(by show 1<=sizeLine;decide),λlt LI=>?_⟩;refine⟨rfl,λl0 us0 H0 s0 f0 ZN da0=>⟨(by show 1<=sizeLine;decide),λlh Nf=>?_⟩⟩;have u1:=ak ZL (.lst []);have u2:=ak LI (.lst [x]);have u3:=ak Nf (.lst [.ref l0]);have ef0:H0 lf=some (.lst []):=s0 _ _ (u2 _ _ ae);have et0:H0 lt=some (.lst [x]):=s0 _ _ ae;have n1:lf≠lt:=λz=>by subst z;rw[ae]at LI;cases LI
 have n2:lf≠lh:=λz=>by subst z;rw[ef0]at Nf;cases Nf
 have n3:lt≠lh:=λz=>by subst z;rw[et0]at Nf;cases Nf
 have n4:l0≠lh:=λz=>by subst z;rw[ZN]at Nf;cases Nf
 have YI:=u1.trans (u2.trans s0);have Hlt:H lt=none:=u1.free LI;have Hlh:H lh=none:=YI.free Nf;have n5:l0≠lf:=λz=>by subst z;rw[u2 _ _ ae]at f0;cases f0
 have n6:l0≠lt:=λz=>by subst z;rw[ae]at f0;cases f0
 refine⟨λm σ H'=>∃S F fv tv hv,∃o4 o5 o6,σ=[some x,some (.ref lf),some (.ref lt),some (.ref lh),o4,o5,o6]/\HI K H H' t lf lt lh m S F fv tv hv,⟨t.size,[(t,Hu.sqH)],[],[],[x],[.ref l0],_,_,_,rfl,?_⟩,?_⟩
 .refine⟨YI.trans u3,u3 _ _ ef0,u3 _ _ et0,ae,rfl,?_,?_,?_,?_,?_,?_⟩
  .exact⟨x,[],rfl,dx.ts (YI.trans u3).ts,rfl⟩
  .exact bV.one ⟨l0,us0,rfl,⟨(u1.trans u2).free f0,n5,n6,n4⟩,u3 _ _ ZN,da0.ts u3.ts⟩
  .show t.told Hu.sqH=(match t.told Hu.sqH,Hu.Tc.fe []with | some a,some b=>some (a++b) | _,_=>none).map ([]++·)
   cases t.told Hu.sqH with
   | none=>rfl
   | some L=>simp[Hu.Tc.fe]
  .intro p hp;rw[d7.mp hp];exact⟨Hu.iu,UZ,by show 4+t.deep<=20;omega⟩
  .simp[M4]
  .show 0+t.size<=8900;omega
 rintro m σ H' ⟨S,F,fv,tv,hv,o4,o5,o6,rfl,I⟩
 refine⟨_,rfl,_,.inl ⟨tv,LA.of I.et,rfl⟩,?_⟩;have lt1:=I.dt.len;rw[j4]at lt1;have Mz:=I.few;have XM:=I.me;have hlen:=vP S;rcases Kh S with e | ⟨S',p,e⟩
 .subst e;have e2:tv=[]:=F1 lt1;rw[e2];refine bJ ⟨_,rfl,?_⟩;have to:=I.to;simp only[List.reverse_nil,Hu.Tc.fe,J5,B0]at to;exact kc F to lf fv H' I.sm ZL I.ef (I.df.imp λa z=>⟨z.1,z.2.1⟩)
 rw[Ki]at e;subst e;obtain⟨t1,h1⟩:=p;have dt:=I.dt;have dh:=I.dh;rw[p7]at dt dh;obtain⟨Ma,b,rfl,dt',db⟩:=DatAll.unsnoc dt;obtain⟨ML,c,rfl,dh',dc⟩:=bV.unsnoc dh;have hb:(!(Ma++[b]).isEmpty)=true:=by cases Ma<;>rfl
 rw[hb];obtain⟨hk,XH,hdp⟩:Hu.HK h1/\t1.Sm 64/\h1.length+t1.deep<=20:=I.ok (t1,h1) (p8 _ x8);have hlS:=vP S';have ok':∀q∈S',Hu.HK q.2/\q.1.Sm 64/\q.2.length+q.1.deep<=20:=λq hq=>I.ok q (B2 _ hq);rw[qH]at XM hlen;simp only[M4]at XM hlen;have tp:=Hu.Tc.size_pos t1;have to:=I.to;rw[Ky]at to;refine dR ⟨λσ' LD=>∃m',m'<m/\∃S F fv tv hv,∃o4 o5 o6,σ'=[some x,some (.ref lf),some (.ref lt),some (.ref lh),o4,o5,o6]/\HI K H LD t lf lt lh m' S F fv tv hv,λσ' LD ⟨m',q1,q2⟩=>⟨m',q1,q2⟩,?_⟩;refine⟨_,rfl,.inl ⟨rfl,_,LA.of I.et⟩,lt,_,b,rfl,rfl,I.et,vw,?_⟩;rw[G1];have Uv:(upd H' lt (.lst Ma)) lh=some (.lst (ML++[c])):=by rw[aA (Jp n3)];exact I.eh
 have g1:Mv H' (upd H' lt (.lst Ma)):=dj I.et;refine⟨_,rfl,.inl ⟨rfl,_,LA.of Uv⟩,lh,_,c,rfl,rfl,Uv,vw,?_⟩;rw[G1];have g2:Mv (upd H' lt (.lst Ma)) (upd (upd H' lt (.lst Ma)) lh (.lst ML)):=dj Uv;generalize Wx:upd (upd H' lt (.lst Ma)) lh (.lst ML)=H2 at g2;have RN:aK H H2:=by rw[<- Wx];exact aX (aX I.sm Hlt _) Hlh _
 have QX:H2 lf=some (.lst fv):=by rw[<- Wx,aA n2,aA n1];exact I.ef
 have Wn:H2 lt=some (.lst Ma):=by rw[<- Wx,aA n3,ae]
 have Ws:H2 lh=some (.lst ML):=by rw[<- Wx,ae]
 have df2:=(I.df.mut (zs:=Ma) I.et λa z=>z.2.2.1).mut (zs:=ML) Uv λa z=>z.2.2.2;have dh2:=(dh'.mut (zs:=Ma) I.et λa z=>z.2.2.1).mut (zs:=ML) Uv λa z=>z.2.2.2;have dc2:=(dc.mut (zs:=Ma) I.et λa z=>z.2.2.1).mut (zs:=ML) Uv λa z=>z.2.2.2;rw[Wx]at df2 dh2 dc2;have db2:=(db.ts g1).ts g2;have dt2:=(dt'.ts g1).ts g2;have lh1:=dh'.len;have lf1:=I.df.len;have lt2:=dt'.len;rw[j4]at lh1 lt2;cases t1 with
 | leaf =>
  obtain⟨a,rfl,sa⟩:=OJ db2;refine⟨_,rfl,_,_,_,_,rfl,rfl,sa,rfl,rfl,_,rfl,dR ?_⟩;refine⟨_,rfl,.inl ⟨rfl,_,LA.of QX⟩,_,rfl,lf,fv,_,rfl,rfl,QX,oU (by omega),?_⟩;refine⟨M4 S',by omega,S',F++[h1],fv++[c],Ma,ML,_,_,_,rfl,?_⟩;refine⟨aX RN ZL _,ae,by rw[aA (Jp n1)];exact Wn,by rw[aA (Jp n2)];exact Ws,?_,dt2.ts (dj QX),dh2.mut QX (λa z=>z.2.1),?_,ok',rfl,?_⟩
  .exact(df2.app (.one dc2)).mut QX λa z=>z.2.1
  .rw[to];show(Hu.Tc.fe ((Hu.Tc.leaf,h1)::S'.reverse)).map _=_;rw[Hu.Tc.zZ];cases Hu.Tc.fe S'.reverse with
   | none=>rfl
   | some L=>simp
  .rw[c8];simp only[m6,J6];omega
 | cut r l g =>
  obtain⟨a,y1,y2,y3,rfl,sa,d1,d2,d3⟩:=FC db2;refine⟨_,rfl,_,_,_,_,rfl,rfl,sa,rfl,rfl,_,rfl,bJ ?_⟩;obtain⟨cc,cu,rfl,cn,XR,dcc⟩:=dc2;have ddp:max l.deep g.deep+1+h1.length<=20:=by simp only[Hu.Tc.deep]at hdp;omega
  refine⟨_,rfl,_,rfl,_,_,_,_,rfl,rfl,sa,rfl,cc,y1,cu,h1,r,rfl,XR,dcc,d1,hk.hull.mono (by decide) (by omega),XH.1.mono (by decide),λnc H3 s3=>?_,λnc v H3 s3 cr=>?_⟩
  .refine kn ?_ H3 (RN.trans s3);rw[to];show(Hu.Tc.fe ((Hu.Tc.cut r l g,h1)::S'.reverse)).map _=_;rw[Hu.Tc.Fw nc];rfl
  obtain⟨pt,pa,pb,w1,w2,rfl,Zc,fa,fb,sp,e1,e2,p1,p2⟩:=cr;have C:=Hu.iV hk XH.1 nc;have cl:=C.ll;have ch:=C.lh;refine⟨_,rfl,.inl ⟨rfl,_,LA.of (s3 _ _ Wn)⟩,_,rfl,_,_,_,_,rfl,rfl,sa.ts s3.ts,rfl,_,rfl,_,_,_,_,rfl,rfl,sa.ts s3.ts,rfl,(by show 2<=sizeLine;decide),λq1 Ov=>?_⟩;have v1:=ak Ov (.lst [y3,y2]);have Tg:=v1 _ _ (s3 _ _ Wn);refine⟨lt,q1,Ma,[y3,y2],rfl,rfl,Tg,ae,(by show Ma.length+2<=sizeLine;exact JX (oU (by omega))),?_⟩;have Ol:=s3.trans v1;generalize Ww:upd H3 q1 (.lst [y3,y2])=H4 at Tg Ol;have g5:Mv H4 (upd H4 lt (.lst (Ma++[y3,y2]))):=dj Tg;have OV:=RN.trans Ol;have sp4:Lz K H4 pt [.ref pa,.ref pb]:=by rw[<- Ww];exact sp.ts v1.ts
  have ha4:H4 pa=some (.lst w1):=by rw[<- Ww];exact v1 _ _ e1
  have hb4:H4 pb=some (.lst w2):=by rw[<- Ww];exact v1 _ _ e2
  have p14:DatAll K H4 ((Hu.low r h1).map LC) w1:=by rw[<- Ww];exact p1.ts v1.ts
  have p24:DatAll K H4 ((Hu.high r h1).map LC) w2:=by rw[<- Ww];exact p2.ts v1.ts
  have ne2:∀z u,H2 z=some u->∀k,H2 k=none->k≠z:=λz u h3 k h4 h5=>by rw[h5,h3]at h4;cases h4
  have na:H pa=none/\pa≠lf/\pa≠lt/\pa≠lh:=⟨RN.free fa,ne2 _ _ QX _ fa,ne2 _ _ Wn _ fa,ne2 _ _ Ws _ fa⟩;have nb:H pb=none/\pb≠lf/\pb≠lt/\pb≠lh:=⟨RN.free fb,ne2 _ _ QX _ fb,ne2 _ _ Wn _ fb,ne2 _ _ Ws _ fb⟩;have eh5':(upd H4 lt (.lst (Ma++[y3,y2]))) lh=some (.lst ML):=by rw[aA (Jp n3)];exact Ol _ _ Ws
  refine⟨_,rfl,.inl ⟨rfl,_,LA.of eh5'⟩,_,rfl,_,_,_,_,rfl,rfl,sp4.ts g5,rfl,_,rfl,_,_,_,_,rfl,rfl,sp4.ts g5,rfl,(by show 2<=sizeLine;decide),λq2 Mu=>?_⟩;have v2:=ak Mu (.lst [.ref pb,.ref pa]);have eh5:(upd H4 lt (.lst (Ma++[y3,y2]))) lh=some (.lst ML):=by rw[aA (Jp n3)];exact Ol _ _ Ws
  have ef5:(upd H4 lt (.lst (Ma++[y3,y2]))) lf=some (.lst fv):=by rw[aA n1];exact Ol _ _ QX
  have s25:aK H (upd H4 lt (.lst (Ma++[y3,y2]))):=aX OV Hlt _;have et5:(upd H4 lt (.lst (Ma++[y3,y2]))) lt=some (.lst (Ma++[y3,y2])):=ae;have df5:=(df2.same Ol).mut (zs:=Ma++[y3,y2]) Tg λa z=>z.2.2.1;have dh5:=(dh2.same Ol).mut (zs:=Ma++[y3,y2]) Tg λa z=>z.2.2.1;have da5:=(show MX K H4 (λa=>H a=none/\a≠lf/\a≠lt/\a≠lh) (Hu.low r h1) (.ref pa) from⟨pa,w1,rfl,na,ha4,p14⟩).mut (zs:=Ma++[y3,y2]) Tg λa z=>z.2.2.1;have db5:=(show MX K H4 (λa=>H a=none/\a≠lf/\a≠lt/\a≠lh) (Hu.high r h1) (.ref pb) from⟨pb,w2,rfl,nb,hb4,p24⟩).mut (zs:=Ma++[y3,y2]) Tg λa z=>z.2.2.1;have dt5:=(dt2.ts Ol.ts).ts g5;have y35:=(d3.ts Ol.ts).ts g5;have y25:=(d2.ts Ol.ts).ts g5;generalize upd H4 lt (.lst (Ma++[y3,y2]))=H5 at *;have Uu:=v2 _ _ eh5;refine⟨lh,q2,ML,[.ref pb,.ref pa],rfl,rfl,Uu,ae,(by show ML.length+2<=sizeLine;exact JX (oU (by omega))),?_⟩;have g6:Mv (upd H5 q2 (.lst [.ref pb,.ref pa])) (upd (upd H5 q2 (.lst [.ref pb,.ref pa])) lh (.lst (ML++[.ref pb,.ref pa]))):=dj Uu;refine⟨M4 (S'++[(g,Hu.high r h1),(l,Hu.low r h1)]),?_,S'++[(g,Hu.high r h1),(l,Hu.low r h1)],F,fv,Ma++[y3,y2],ML++[.ref pb,.ref pa],_,_,_,rfl,?_⟩
  .rw[qH];simp only[M4,Hu.Tc.size]at XM ⊢;omega
  refine⟨aX (s25.trans v2) Hlh _,by rw[aA n2];exact v2 _ _ ef5,by rw[aA n3];exact v2 _ _ et5,ae,(df5.same v2).mut Uu (λa z=>z.2.2.2),?_,?_,?_,?_,rfl,?_⟩
  .rw[p7];exact((dt5.ts v2.ts).ts g6).append ⟨y3,[y2],rfl,(y35.ts v2.ts).ts g6,y2,[],rfl,(y25.ts v2.ts).ts g6,rfl⟩
  .rw[p7];exact((dh5.same v2).mut Uu λa z=>z.2.2.2).app ⟨_,_,rfl,(db5.same v2).mut Uu (λa z=>z.2.2.2),_,_,rfl,(da5.same v2).mut Uu (λa z=>z.2.2.2),rfl⟩
  .rw[to,Ky];show(Hu.Tc.fe ((Hu.Tc.cut r l g,h1)::S'.reverse)).map _=(Hu.Tc.fe ((l,Hu.low r h1)::(g,Hu.high r h1)::S'.reverse)).map _;rw[Hu.Tc.DC nc]
  .intro q hq;rcases j9.mp hq with z | z
   .exact ok' q z
   .rcases j6.mp z with z | z
    .rw[z];exact⟨C.hi,XH.2.2,by show(Hu.high r h1).length+g.deep<=20;omega⟩
    .rw[d7.mp z];exact⟨C.lo,XH.2.1,by show(Hu.low r h1).length+l.deep<=20;omega⟩
  .rw[qH];simp only[M4,Hu.Tc.size]at XM ⊢;omega
inductive FZ(vs:List V)(H:Hp)(Q:VK)(E:XK):Prop
 | mk (i:Int):vs=[.int i]->i<=8->Q .non H->FZ vs H Q E
inductive RL(C:Addr)(vs:List V)(H:Hp)(_:VK)(E:XK):Prop
 | mk (i:Int):vs=[.int i]->8<i->(∀H',aK H H'->E (.ref C) none H')->RL C vs H _ E
variable{c:CCs}
theorem ok_few(T:aC K mg "must_be_few" jh)(xC:mg "MOST_FOLDS"=some (.int 8 tm)):Def P w K mg base 1 "must_be_few" ["folds"] FZ:=by
 refine aQ T kK ?_ ?_
 .walk_at "i1"
 walk_at "i2";obtain⟨i,rfl,hi,q⟩:=h;have nd:=kK.nd;refine⟨_,aq (aT (aE ix (pv 0) (cS (v:=V.int 8) rfl xC ⟨_,rfl⟩) (aI _)) (aq yA) aL),?_⟩;refine⟨_,rfl,_,_,rfl,rfl,_,rfl,cU (λc=>?_) (λ_=>q)⟩;have c:(8:Int)<i:=i9 c;exfalso;omega
structure Br(K:W.Frag)(mg:Str->Option Value)(x s:Str):Prop where
 ex:∃a,mg x=some (.ref a)/\∀H,Lz K H a [.str s]
theorem DA{n:Nat}(X:K.In h)(G:h.Ns mainGlobals mg)
  (e:PySem.W.nsIn K mainGlobals x=some (some (.ref a)))(l:K.lookup a=some ⟨.type "tuple",od,.seq its n,osl⟩)(hz:its.size<=sizeLine)(v:Vals [V.str s] its.toList):Br K mg x s:=
 ⟨a,Lb X G e,λ_=>.inr ⟨_,its,n,l,rfl,rfl,hz,v⟩⟩
def Gd(Ls:List (List Hu.Row))(h:List T3)(T:Hu.Tc):Prop:=∃L,T.told h=some L/\∀g∈L,∀rows∈Ls,∃rs,Hu.run g rows []=.rules rs
theorem xM(n:¬Hu.hX r h):(Hu.Tc.cut r l g).told h=match l.told (Hu.low r h),g.told (Hu.high r h) with | some a,some b=>some (a++b) | _,_=>none:=by
 conv=>lhs;unfold Hu.Tc.told
 rw[i5 n]
 all_goals (cases l.told (Hu.low r h)<;>cases g.told (Hu.high r h)<;>rfl)
theorem Gd.leaf(k:∀rows∈Ls,∃rs,Hu.run h rows []=.rules rs):Gd Ls h .leaf:=⟨[h],rfl,λg hg rows hr=>by rw[d7.mp hg];exact k rows hr⟩
theorem Gd.cut(n:¬Hu.hX t h)(a:Gd Ls (Hu.low t h) X1)(b:Gd Ls (Hu.high t h) X2):Gd Ls h (.cut t X1 X2):=by
 obtain⟨L1,e1,k1⟩:=a;obtain⟨L2,e2,k2⟩:=b;exact⟨L1++L2,by rw[xM n,e1,e2],λg hg=>(j9.mp hg).elim (k1 g) (k2 g)⟩
theorem FL(h:(Ls.map Hu.fds).sum<=8):Hu.TnL Ls 8 Hu.sqH:=⟨Hu.iu,by show 4+8<=20;decide,l8 (Hu.Ae Ls λx _=>Hu.need_le _ x) h⟩
inductive rz(K:W.Frag)(n:Nat)(vs:List V)(H:Hp)(Q:VK)(E:XK):Prop
 | mk (l lr us ws rows h) (d:Nat):vs=[.ref l,.ref lr]->H l=some (.lst us)->DatAll K H (h.map LC) us->H lr=some (.lst ws)->DatAll K H (rows.map mU) ws->nB rows->0<rows.length->rows.length<=60->Sml rows->Hu.TnL [rows] d h->d+1<=n->(∀v T H',aK H H'->Dat K H' (LR T) v->T.Sm 8->T.deep<=d->T.iV+1<=2^d->Gd [rows] h T->Q v H')->rz K n vs H Q E
inductive qM(c:CCs)(K:W.Frag)(vs:List V)(H:Hp)(Q:VK)(E:XK):Prop
 | mk (a t):vs=[.ref a]->Ob c H a t->t.size<=60->t.nf<=8->(∀v T H',aK H H'->Dat K H' (LR T) v->T.Sm 8->T.deep<=8->T.iV+1<=2^8->Gd [bA t] Hu.sqH T->Q v H')->qM c K vs H Q E
theorem DX(T:aC K mg "tree_on" oY)(TL:Br K mg "LEAF" "leaf")(ir:Def P w K mg base 4 "rules_of_rows" ["rows","hull"] (qI K))(Jl:xE P w K mg base 3 "cut" ["hull","rule"] (Cc K CN)):∀n:Nat,Def P w K mg base (n+4) "tree_on" ["hull","rows"] (rz K n):=by
 intro n
 induction n with
 | zero =>
  refine aQ T mI ?_ ?_
  .walk_at "i1"
  .walk_at "i2";obtain⟨l,lr,us,ws,rows,h,d,rfl,_,_,_,_,_,_,_,_,_,z,_⟩:=h;omega
 | succ n lX =>
  refine aQ T mI ?_ ?_
  .walk_at "i1"
  walk_at "i2";obtain⟨l,lr,us,ws,rows,h,d,rfl,el,da,er,dr,ok,pos,few,Yy,tn,dn,q⟩:=h;have nd:=mI.nd;obtain⟨aLF,T7,qL⟩:=TL.ex;have n3:=tn.hk.n3;have hl:=tn.ln;refine⟨_,(ah (aJ (i:=2) (aH ir (aa (pv 1) (aa (pv 0) af))))
  (ah (aT (aE cy (aB az (pv 2) ao) aR (aI _)) (aq (av (cS (v:=V.ref aLF) rfl T7 rfl))) aL)
  (ah (aJ (i:=3) (aB az (pv 2) ao))
  (ah (aJ (i:=4) (wM Jl (hr.mono (by omega)) rfl (aa (pv 0) (aa (pv 3) af))))
  (aq (av (bc (aa aR (aa (pv 3) (aa (aH lX (aa (aB az (pv 4) ao) (aa (pv 1) af))) (aa (aH lX (aa (aB az (pv 4) ao) (aa (pv 1) af))) af))))))))))),?_⟩
  refine⟨_,rfl,_,rfl,lr,l,ws,us,rows,h,rfl,er,dr,ok,pos,by omega,el,da,(λp hp=>(tn.hk.ok p hp).r.mono (by decide)),by omega,by omega,λrs t lr2 ws2 H1 s1 ru rb rl f2 st e2 d2=>?_,λk tt t v H1 s1 mx kl bt st dv=>?_⟩
  .refine⟨_,rfl,_,_,_,_,rfl,rfl,st,rfl,rfl,_,rfl,ite_yes rfl ?_⟩;exact q _ .leaf _ s1 (oR (qL _)) trivial (y7 _) (JK) (Gd.leaf λx hx=>by rw[d7.mp hx];exact⟨rs,ru⟩)
  .refine⟨_,rfl,_,_,_,_,rfl,rfl,st,rfl,rfl,_,rfl,ite_no (by decide+kernel) ?_⟩;obtain⟨WO,d',ed,T1,T2⟩:=tn.cut x8 ok few mx;subst ed;refine⟨_,rfl,_,_,_,_,rfl,rfl,st,rfl,?_⟩;refine⟨_,rfl,_,rfl,l,v,us,h,tt,rfl,s1 _ _ el,da.ts s1.ts,dv,tn.hk.hull.mono (by decide) (by omega),WO.mono (by decide),(λz=>absurd z (Hu.pI mx)),λ_ v2 H2 s2 cr=>?_⟩;obtain⟨t2,a,b,NN,NM,rfl,Zc,fa,fb,sq,ea,eb,d1,d2⟩:=cr;have L6:=s1.trans s2;refine⟨_,rfl,_,rfl,_,_,_,_,rfl,rfl,sq,rfl,_,rfl,a,lr,NN,ws,rows,_,d',rfl,ea,d1,L6 _ _ er,dr.ts L6.ts,ok,pos,few,Yy,T1,by omega,λv3 X1 H3 s3 d3 m3 p3 c3 g3=>?_⟩;refine⟨_,rfl,_,_,_,_,rfl,rfl,sq.ts s3.ts,rfl,_,rfl,b,lr,NM,ws,rows,_,d',rfl,s3 _ _ eb,d2.ts s3.ts,(L6.trans s3) _ _ er,dr.ts (L6.trans s3).ts,ok,pos,few,Yy,T2,by omega,λv4 X2 H4 s4 d4 m4 p4 c4 g4=>?_⟩;refine⟨(by show 4<=sizeLine;decide),λp hp=>?_⟩;have u5:=ak hp (.tup [.str "cut",v,v3,v4]);have e2:2^(d'+1)=2*2^d':=by rw[Jo];omega
   exact q _ (.cut tt X1 X2) _ (((L6.trans s3).trans s4).trans u5) (FA (Lz.of ae) (dv.ts (((s2.trans s3).trans s4).trans u5).ts) (d3.ts (s4.trans u5).ts) (d4.ts u5.ts)) ⟨Yy _ _ _ mx,m3,m4⟩ (by simp only[Hu.Tc.deep];omega) (by show 1+X1.iV+X2.iV+1<=_;omega) (Gd.cut (Hu.pI mx) g3 g4)
theorem Hz(T:aC K mg "cutting" pz)(M:∀t,bF P w K mg base (c.of t) "folds" 3 ["self"] (rJ c t))(uI:Def P w K mg base 1 "must_be_few" ["folds"] FZ)(ue:Def P w K mg base 1 "square" [] (BX K))(pU:Def P w K mg base 3 "rows_of" ["saying"] (rA c))(lX:Def P w K mg base 13 "tree_on" ["hull","rows"] (rz K 9)):Def P w K mg base 14 "cutting" ["saying"] (qM c K):=by
 refine aQ T sv ?_ ?_
 .walk_at "i1"
 walk_at "i2";obtain⟨a,t,rfl,oa,sz,nf8,q⟩:=h;have nd:=sv.nd;obtain⟨dx,fs,ea,nf⟩:=oa.cls;have R:=qi t;have fd:=R.fd;have ln:=R.len
 refine⟨_,(ah (bB (aH uI (aa (gM (k:=3) (pv 0) (hr.mono (by omega))) af)))
  (aq (av (aH lX (aa (Cz ue (hr.mono (by omega)) rfl) (aa (aH pU (aa (pv 0) af)) af)))))),?_⟩
 refine⟨_,rfl,a,_,_,_,_,_,rfl,ea,nf _ (by decide+kernel),M t,a,rfl,oa,by omega,λH1 s1=>⟨_,rfl,by omega,?_⟩⟩;refine⟨rfl,λl us H2 s2 hl el da=>?_⟩;have L6:=s1.trans s2;refine⟨_,rfl,a,t,rfl,oa.to (Kp.of L6),by omega,λlr ws H3 s3 MG er al=>?_⟩;exact⟨l,lr,us,ws,bA t,Hu.sqH,8,rfl,s3 _ _ el,da.ts s3.ts,er,R.dat al,R.ok,R.pos,by omega,UY (by omega),FL (by simp;omega),by decide,λv T H4 s4 d4 m4 p4 c4 g4=>q v T H4 ((L6.trans s3).trans s4) d4 m4 p4 c4 g4⟩
def OF(K:W.Frag)(H:Hp)(v:V)(p:Int×Int):Prop:=∃a,v=.ref a/\Lz K H a [.int p.1,.int p.2]
theorem OF.to(s:aK H H')(h:OF K H v p):OF K H' v p:=by
 obtain⟨a,rfl,q⟩:=h;exact⟨a,rfl,q.ts s.ts⟩
inductive vW(K:W.Frag)(vs:List V)(H:Hp)(Q:VK)(E:XK):Prop
 | mk (t b:Int):vs=[.int t,.int b]->b≠0->Bg b->(∀v H',aK H H'->OF K H' v (Lo.za t b,Lo.zb t b)->Q v H')->vW K vs H Q E
inductive rC(K:W.Frag)(vs:List V)(H:Hp)(Q:VK)(E:XK):Prop
 | mk (x y f g):vs=[x,y]->OF K H x f->OF K H y g->Bg f.1->Bg f.2->Bg g.1->Bg g.2->Q (.bl (decide (f.1*g.2<g.1*f.2))) H->rC K vs H Q E
theorem ui(T:aC K mg "fraction" mS)(ft:Def P w K mg base 1 "common_factor" ["one","other"] nW):Def P w K mg base 2 "fraction" ["top","bottom"] (vW K):=by
 refine aQ T qg ?_ ?_
 .walk_at "i1"
 walk_at "i2";obtain⟨t,b,rfl,hb,hs,q⟩:=h;have nd:=qg.nd
 refine⟨_,(ah (aT (aE cy (pv 1) ao (aI _)) (aq O3) aL)
  (ah (aJ (i:=2) (aH ft (aa (pv 0) (aa (pv 1) af))))
  (ah (aT (aE jb (pv 1) ao (aI _)) (aq (aJ (i:=2) (mq gE (pv 2)))) aL)
  (aq (av (bc (aa (aM hV (pv 0) (pv 2)) (aa (aM hV (pv 1) (pv 2)) af)))))))),?_⟩
 refine⟨_,rfl,rfl,_,rfl,?_⟩;refine cU (λc=>absurd (V.int.inj (i9 c)) hb) (λc=>?_);have QP:Bg (Lo.sg t b):=d9 (Lo.sg_le hb) hs;refine⟨_,rfl,_,rfl,t,b,rfl,?_⟩;refine⟨_,rfl,_,_,rfl,rfl,_,rfl,?_⟩;refine cU (λc=>?_) (λc=>?_)
 .have c2:b<0:=i9 c;have es:-(Lo.gc t b)=Lo.sg t b:=by unfold Lo.sg;rw[d8 c2]
  refine⟨_,rfl,_,rfl,_,rfl,_,rfl,_,_,rfl,rfl,(by rw[es];exact uv (Lo.uQ hb) QP),_,rfl,_,rfl,_,_,rfl,rfl,(by rw[es];exact uv (Lo.uQ hb) QP),(by show 2<=sizeLine;decide),λp hp=>?_⟩;rw[es];exact q _ _ (ak hp _) ⟨p,rfl,Lz.of ae⟩
 .have c2:¬b<0:=λz=>c (i6 z);have es:Lo.gc t b=Lo.sg t b:=by unfold Lo.sg;rw[i5 c2]
  refine⟨_,rfl,_,rfl,_,_,rfl,rfl,(by rw[es];exact uv (Lo.uQ hb) QP),_,rfl,_,rfl,_,_,rfl,rfl,(by rw[es];exact uv (Lo.uQ hb) QP),(by show 2<=sizeLine;decide),λp hp=>?_⟩;rw[es];exact q _ _ (ak hp _) ⟨p,rfl,Lz.of ae⟩
theorem Ec(T:aC K mg "less" Am):Def P w K mg base 1 "less" ["one","other"] (rC K):=by
 refine aQ T Cj ?_ ?_
 .walk_at "i1"
 walk_at "i2";obtain⟨x,y,f,g,rfl,⟨a,rfl,sa⟩,⟨c,rfl,sc⟩,b1,b2,b3,b4,k⟩:=h;have nd:=Cj.nd;refine⟨_,(aq (av (dM jb (aM bu (aB az (pv 0) ao) (aB az (pv 1) ao)) (aM bu (aB az (pv 1) ao) (aB az (pv 0) ao)) (aI _)))),?_⟩;exact⟨_,rfl,_,_,_,_,rfl,rfl,sa,rfl,_,rfl,_,_,_,_,rfl,rfl,sc,rfl,_,_,rfl,rfl,dX b1 b4,_,rfl,_,_,_,_,rfl,rfl,sc,rfl,_,rfl,_,_,_,_,rfl,rfl,sa,rfl,_,_,rfl,rfl,dX b3 b2,_,_,rfl,rfl,k⟩
theorem IS{l:Addr}(g:Int->V)(sq:Lz K H l (is.map V.int))(hx:is.length<=1000)
  (hs:∀(i:Int) H' N,aK H H'->(∀LD,aK H' LD->N (g i) LD)->te (some (.int i)::bR js σ) H' N)
  (hd:∀D H',aK H H'->H D=none->H' D=some (.lst (is.map g))->Q (.ref D) H'):iW (λ_ H R=>R (Nq K l) H) kq te js σ H Q:=by
 intro D hD;refine⟨λi m H'=>m=is.length-i/\i<=is.length/\aK H H'/\H' D=some (.lst ((is.take i).map g)),⟨is.length,rfl,y7 _,ak hD _,ae⟩,?_⟩;rintro i m H2 ⟨rfl,hi,s2,eD⟩
 have OR:=sq.ts s2.ts
 by_cases LI:i<is.length
 .have h1:(is.map V.int)[i]?=some (.int is[i]):=by rw[x6,c9 LI];rfl
  refine .inr ⟨⟨_,_,OR,h1⟩,λv H3 y=>?_⟩;obtain⟨rfl,y⟩:=y;have hv:=y _ OR;rw[h1]at hv;cases hv
  refine hJ ?_;refine hs _ _ _ s2 λH4 s4=>?_;refine⟨_,s4 _ _ eD,d9 (show _<=1000 by rw[j4,I0];omega) (by decide),is.length-(i+1),by omega,rfl,LI,aX (s2.trans s4) hD _,?_⟩;rw[ae,A7,c9 LI,p7];rfl
 .have ei:i=is.length:=by omega
  subst ei;rw[A6]at eD;exact .inl ⟨⟨_,OR,by simp⟩,hd D H2 s2 hD eD⟩
def UA(K:W.Frag)(H:Hp)(p:Addr)(n x y:Int):Prop:=Lz K H p [.int n,.int x,.int y]/\1<=n/\0<=x/\x<=n/\0<=y/\y<=n
theorem UA.to{x y:Int}(h:UA K H p n x y)(s:aK H H'):UA K H' p n x y:=⟨h.1.ts s.ts,h.2⟩
inductive rH(K:W.Frag)(vs:List V)(H:Hp)(Q:VK)(E:XK):Prop
 | mk (p) (n x y:Int):vs=[.ref p]->UA K H p n x y->(∀H',aK H H'->Q (.bl true) H')->rH K vs H Q E
inductive mH(K:W.Frag)(vs:List V)(H:Hp)(Q:VK)(E:XK):Prop
 | mk (p) (n x y:Int):vs=[.ref p]->UA K H p n x y->(∀H',aK H H'->Q .non H')->mH K vs H Q E
inductive oS(c:CCs)(K:W.Frag)(vs:List V)(H:Hp)(Q:VK)(E:XK):Prop
 | mk (a p t) (n x y:Int):vs=[.ref a,.ref p]->Ob c H a t->t.size<=1000->UA K H p n x y->(∀H',aK H H'->Q (.int (t.worth n x y)) H')->oS c K vs H Q E
theorem wQ(T:aC K mg "is_point" iO)(aO:mg "isinstance"=none)(aW:mg "tuple"=none)(bE:mg "len"=none)(oH:mg "all"=none)(BI:Def P w K mg base 1 "is_whole" ["thing"] xU):Def P w K mg base 2 "is_point" ["thing"] (rH K):=by
 refine aQ T sj ?_ ?_
 .walk_at "i1"
 walk_at "i2";obtain⟨p,n,x,y,rfl,⟨e,g1,g2,g3,g4,g5⟩,q⟩:=h;have nd:=sj.nd
 have ex1:∃te,PE (cN CX0 P w K mg base ptN "is_point" (au iO) f cdv A outer s H E).nox (TV (YX 1)) te/\∀(Q':VK)(o1:Option V),(∀l H',aK H H'->H' l=some (.lst [.bl true,.bl true,.bl true])->Q' (.ref l) H')->te [some (.ref p),o1] H Q':=by
  refine⟨_,(dQ (kX (pv 0)) cC (λ_ _ _ _=>cM) (λ_ _ _ _=>(aH BI (aa (pv 0) af)))),?_⟩;intro Q' o1 fin;refine iH ?_;refine⟨_,rfl,p,rfl,⟨_,e⟩,?_⟩;refine IS (K:=K) (is:=[n,x,y]) (λ_=>.bl true) e (by show 3<=1000;decide) (λi H' N s1 hN=>?_) (λD H' s1 hD eD=>fin D H' s1 eD);exact⟨_,rfl,i,rfl,hN _ (aK.refl _)⟩
 obtain⟨t1,SF,Ov⟩:=ex1
 refine⟨_,ah (aT (PW.pt (eM (eP (dA (aG fJ aO (aa (pv 0) (aa (fq (v:=V.ty "tuple") rfl aW (by decide+kernel) rfl) af))))) (fV (aE ky (aG bL bE (aa (pv 0) af)) ao (aI _))))) (aq (av iw)) aL) (ah (aT (eP (dA (aG (tV rfl) oH (aa SF af)))) (aq (av iw)) aL) (ah (aJ (i:=1) (aB az (pv 0) ao))
  (aq (av (ke (dM sR (pv 1) ao (aI _)) (ke (yC jF jF ao (aB az (pv 0) ao) (pv 1)) (mX (yC jF jF ao (aB az (pv 0) ao) (pv 1))))))))),?_⟩
 refine⟨_,rfl,_,_,_,_,true,rfl,(λ_ h=>h),e,ff,_,rfl,?_⟩;refine bJ ⟨_,rfl,_,3,rfl,.inr ⟨_,e,rfl⟩,rfl,_,rfl,?_⟩;refine QL rfl ?_;refine Ov _ _ λl H1 s1 el=>?_;have e1:=e.ts s1.ts;refine⟨l,[true,true,true],rfl,LA.of el,_,rfl,bJ ?_⟩;refine⟨_,rfl,_,_,_,_,rfl,rfl,e1,rfl,?_⟩;refine⟨_,rfl,_,_,rfl,rfl,_,rfl,?_⟩;rw[i6 (show n>=1 from g1)];refine dR ⟨_,rfl,_,_,_,_,rfl,rfl,e1,rfl,_,_,rfl,rfl,_,rfl,?_⟩;rw[i6 (show(0:Int)<=x from g2)];refine dR ⟨_,rfl,_,_,rfl,rfl,_,rfl,?_⟩;rw[i6 (show x<=n from g3)];refine dR ⟨_,rfl,_,_,_,_,rfl,rfl,e1,rfl,_,_,rfl,rfl,_,rfl,?_⟩;rw[i6 (show(0:Int)<=y from g4)];refine dR ⟨_,rfl,_,_,rfl,rfl,?_⟩;show Q (.bl (decide (y<=n))) H1;rw[i6 (show y<=n from g5)];exact q _ s1
theorem yH(T:aC K mg "must_be_point" ig)(BJ:Def P w K mg base 2 "is_point" ["thing"] (rH K)):Def P w K mg base 3 "must_be_point" ["thing"] (mH K):=by
 refine aQ T uX ?_ ?_
 .walk_at "i1"
 walk_at "i2";obtain⟨p,n,x,y,rfl,g,q⟩:=h;have nd:=uX.nd;refine⟨_,(aq (aT (eP (dA (aH BJ (aa (pv 0) af)))) (aq yA) aL)),?_⟩;exact⟨_,rfl,p,n,x,y,rfl,g,λH' s'=>⟨_,rfl,bJ (q _ s')⟩⟩
theorem uR:aD ["saying","point"] ["saying","point"] (au wm):=L2.fsc rfl (by decide+kernel)
theorem Ay(T:aC K mg "worth" wm)(qE:Def P w K mg base 3 "must_be_point" ["thing"] (mH K))(M:∀t,bF P w K mg base (c.of t) "out_of" 3 ["self","n","x","y"] (FQ c t)):Def P w K mg base 4 "worth" ["saying","point"] (oS c K):=by
 refine aQ T uR ?_ ?_
 .walk_at "i1"
 walk_at "i2";obtain⟨a,p,t,n,x,y,rfl,o,z,g,q⟩:=h;have nd:=uR.nd
 refine⟨_,(ah (bB (aH qE (aa (pv 1) af)))
  (aq (av (sQ (k:=3) (pv 0) (hr.mono (by omega)) (aa (aB az (pv 1) ao) (aa (aB az (pv 1) ao) (aa (aB az (pv 1) ao) af))))))),?_⟩
 refine⟨_,rfl,p,n,x,y,rfl,g,λH1 s1=>?_⟩;have o1:=o.to (Kp.of s1);have e1:=(g.to s1).1;obtain⟨dx,fs,ea,nf⟩:=o1.cls;exact⟨_,rfl,a,_,_,_,_,_,rfl,ea,nf _ (by decide+kernel),M t,_,rfl,_,_,_,_,rfl,rfl,e1,rfl,_,rfl,_,_,_,_,rfl,rfl,e1,rfl,_,rfl,_,_,_,_,rfl,rfl,e1,rfl,a,n,x,y,rfl,o1,z,λH2 s2=>q _ (s1.trans s2)⟩
noncomputable def Pp(w n:Int):Int×Int:=(Lo.za w n,Lo.zb w n)
theorem CS{w:Int}(hn:0<n):(Pp w n).1*n=w*(Pp w n).2/\0<(Pp w n).2:=by
 have g0:0<Lo.gc w n:=Lo.Bh (by omega);have es:Lo.sg w n=Lo.gc w n:=by unfold Lo.sg;rw[i5 (by omega)]
 obtain⟨k1,e1⟩:=Lo.eT w n;obtain⟨k2,e2⟩:=Lo.gh w n
 have f1:w.fdiv (Lo.gc w n)=k1:=by
  conv=>lhs;arg 1;rw[e1]
  exact Ld k1 (by omega)
 have f2:n.fdiv (Lo.gc w n)=k2:=by
  conv=>lhs;arg 1;rw[e2]
  exact Ld k2 (by omega)
 show w.fdiv (Lo.sg w n)*n=w*n.fdiv (Lo.sg w n)/\0<n.fdiv (Lo.sg w n);rw[es,f1,f2];generalize Lo.gc w n=g at *;refine⟨?_,?_⟩
 .rw[e1,e2];grind
 .rcases A8 0 k2 with z | z
  .exact z
  .exact absurd (F6 (z5 g0) z) (by omega)
theorem lg{f g:Int×Int}{w:Int}(hf:0<f.2)(hg:0<g.2)(hn:0<n)(h:g.1*f.2<=f.1*g.2)(k:f.1*n<=w*f.2):g.1*n<=w*g.2:=by
 have h1:g.1*f.2*n<=f.1*g.2*n:=C6 h (z5 hn);have h2:f.1*n*g.2<=w*f.2*g.2:=C6 k (z5 hg);refine JW (a:=f.2) ?_ hf;have e1:g.1*n*f.2=g.1*f.2*n:=by grind
 have e2:w*g.2*f.2=w*f.2*g.2:=by grind
 have e3:f.1*g.2*n=f.1*n*g.2:=by grind
 omega
namespace Hu
theorem Tc.told_cone:∀{t:Tc}{h:List T3}{L:List (List T3)},HK h->t.Sm 64->t.told h=some L->∀g∈L,∀c∈g,eW h c
 | .leaf,h,L,H,_,e,g,hg,c,hc=>by
  cases e
  rw[d7.mp hg]at hc;exact dS hc
 | .cut r l k,h,L,H,sm,e,x,hx,p,hp=>by
  unfold Tc.told at e;split at e
  .cases e
  .rename_i nc;have c:=Hu.iV H sm.1 nc;cases ea:l.told (low r h) with
   | none=>rw[ea]at e;cases e
   | some a=>cases eb:k.told (high r h) with
    | none=>rw[ea,eb]at e;cases e
    | some b =>
     rw[ea,eb]at e;cases e
     rcases j9.mp hx with z | z
     .exact eW.sub (fD H) (Tc.told_cone c.lo sm.2.1 ea x z p hp)
     .exact eW.sub (fD H) (Tc.told_cone c.hi sm.2.2 eb x z p hp)
theorem iB(C:eW sqH p):0<=p.v/\p.v<=p.u/\0<=p.w/\p.w<=p.u:=by
 have h:∀f:T3,0<=tl f ⟨1,0,0⟩->0<=tl f ⟨1,1,0⟩->0<=tl f ⟨1,1,1⟩->0<=tl f ⟨1,0,1⟩->0<=tl f p:=λf a b c d=>C f λx hx=>by
  simp only[sqH,j6,A2,F9]at hx;rcases hx with rfl | rfl | rfl | rfl<;>assumption
 have e:∀f q:T3,tl f q=f.u*q.v+f.v*q.w+f.w*q.u:=λ_ _=>rfl;have h1:=h ⟨1,0,0⟩ (by decide) (by decide) (by decide) (by decide);have h2:=h ⟨-1,0,1⟩ (by decide) (by decide) (by decide) (by decide);have h3:=h ⟨0,1,0⟩ (by decide) (by decide) (by decide) (by decide);have h4:=h ⟨0,-1,1⟩ (by decide) (by decide) (by decide) (by decide);rw[e]at h1 h2 h3 h4;refine⟨?_,?_,?_,?_⟩<;>simp at h1 h2 h3 h4<;>omega
end Hu
theorem iG:∀{t:Hu.Tc}{h:List T3}{L:List (List T3)},t.told h=some L->L.length=t.iV+1
 | .leaf,h,L,e=>by cases e;rfl
 | .cut r l g,h,L,e=>by
  unfold Hu.Tc.told at e;split at e
  .cases e
  .cases ea:l.told (Hu.low r h) with
   | none=>rw[ea]at e;cases e
   | some a=>cases eb:g.told (Hu.high r h) with
    | none=>rw[ea,eb]at e;cases e
    | some b =>
     rw[ea,eb]at e;cases e
     have:=iG ea;have:=iG eb;rw[c8];show _=1+l.iV+g.iV+1;omega
def Og(K:W.Frag)(H:Hp)(v:V)(h:List T3):Prop:=∃a us,v=.ref a/\H a=some (.lst us)/\DatAll K H (h.map LC) us
theorem Og.to(s:aK H H')(v:V)(h:List T3)(y:Og K H v h):Og K H' v h:=by
 obtain⟨a,us,rfl,e,d⟩:=y;exact⟨a,us,rfl,s _ _ e,d.ts s.ts⟩
theorem bV.all2:∀{L:List (List T3)}{vs:List V},bV K H N L vs->cB (Og K H) vs L
 | [],_,g=>by cases(show _=([]:List V) from g);exact .nil
 | _::_,_,⟨v,r,e,⟨a,us,e1,_,e2,e3⟩,g2⟩=>by subst e;exact .cons ⟨a,us,e1,e2,e3⟩ g2.all2
theorem UI{i j:Int}(hn:0<=n)(a:0<=i/\i<=n)(b:0<=j/\j<=n):0<=u.worth n i j/\u.worth n i j<=n:=by
 cases u with
 | more=>show 0<=min (i+j) n/\min (i+j) n<=n;omega
 | less=>show 0<=max (i+j-n) 0/\max (i+j-n) 0<=n;omega
 | greater=>show 0<=max i j/\max i j<=n;omega
 | lesser=>show 0<=min i j/\min i j<=n;omega
 | leads=>show 0<=min (n-i+j) n/\min (n-i+j) n<=n;omega
theorem di{x y:Int}(hn:0<=n)(a:0<=x/\x<=n)(b:0<=y/\y<=n):∀t:Tr,0<=t.worth n x y/\t.worth n x y<=n
 | .no t=>by
  have:=di hn a b t;show 0<=n-t.worth n x y/\n-t.worth n x y<=n;omega
 | .fold w u v=>UI hn (di hn a b u) (di hn a b v)
 | .never=>⟨C3 _,hn⟩
 | .always=>⟨hn,C3 _⟩
 | .lp=>a
 | .lq=>b
noncomputable def WF(a:Tr)(c:T3):Int×Int:=Pp (a.worth c.u c.v c.w) c.u
def Xb(K:W.Frag)(H:Hp)(a:Tr)(cs:List T3)(ol op:V):Prop:=(cs=[]/\ol=.non/\op=.non)\/∃pt,pt∈cs/\OF K H ol (WF a pt)/\Dat K H (LC pt) op/\∀c∈cs,(WF a pt).1*c.u<=a.worth c.u c.v c.w*(WF a pt).2
inductive FV(c:CCs)(K:W.Frag)(vs:List V)(H:Hp)(Q:VK)(E:XK):Prop
 | mk (x a):vs=[.ref x]->Ob c H x a->a.size<=60->a.nf<=8->(∀p vl vp vt pt T L H',aK H H'->H' p=some (.tup [vl,vp,vt])->OF K H' vl (WF a pt)->Dat K H' (LC pt) vp->Dat K H' (LR T) vt->T.Sm 8->T.deep<=8->T.iV+1<=2^8->T.told Hu.sqH=some L->(∀g∈L,∃rs,Hu.run g (bA a) []=.rules rs)->(∃g∈L,pt∈g)->(∀g∈L,∀c∈g,(WF a pt).1*c.u<=a.worth c.u c.v c.w*(WF a pt).2)->Q (.ref p) H')->FV c K vs H Q E
section
variable{P:Program}{w:World}{K:W.Frag}{mg:Str->Option Value}{base:Heap}{c:CCs}
theorem ok_lw(T:aC K mg "least_worth" ji)(pW:Def P w K mg base 14 "cutting" ["saying"] (qM c K))(nH:xE P w K mg base 4 "hulls_of" ["tree"] (qJ K CN))(Qh:Def P w K mg base 4 "worth" ["saying","point"] (oS c K))(BK:Def P w K mg base 2 "fraction" ["top","bottom"] (vW K))(Ub:Def P w K mg base 1 "less" ["one","other"] (rC K)):Def P w K mg base 16 "least_worth" ["saying"] (FV c K):=by
 refine aQ T kM ?_ ?_
 .walk_at "i1"
 walk_at "i2";obtain⟨x,a,rfl,oa,sz,n8,q⟩:=h;have nd:=kM.nd
 refine⟨_,(ah (aJ (i:=1) (aH pW (aa (pv 0) af)))
  (ah (aJ (i:=2) bN)
  (ah (aJ (i:=3) bN)
  (ah (eQ z7 rfl (cf (wM nH (hr.mono (by omega)) rfl (aa (pv 1) af))) (aS (i:=4)) (aq (eQ z7 rfl (cf (pv 4)) (aS (i:=5)) (ah (aJ (i:=6) (aH BK (aa (aH Qh (aa (pv 0) (aa (pv 5) af))) (aa (aB az (pv 5) ao) af))))
  (aq (aT (PW.pt (eM (aE kg (pv 2) bN (aI _)) (fV (dA (aH Ub (aa (pv 6) (aa (pv 2) af))))))) (ah (aJ (i:=2) (pv 6))
  (aq (aJ (i:=3) (pv 5)))) aL))))))
  (aq (av (bc (aa (pv 2) (aa (pv 3) (aa (pv 1) af)))))))))),?_⟩
 refine⟨_,rfl,x,a,rfl,oa,sz,n8,λvt X H1 s1 dt sm dp cu gd=>?_⟩;obtain⟨L,eL,kL⟩:=gd;have MO:X.Sm 64:=sm.mono (by decide);have hk:=Hu.Tc.fN Hu.iu MO eL;have cn:=Hu.Tc.told_cone Hu.iu MO eL;refine⟨_,rfl,vt,X,rfl,dt,MO,by omega,λnn=>absurd (eL.symm.trans nn) (λz=>by cases z),λL' OB l us H2 s2 hl el al=>?_⟩;rw[eL]at OB;cases OB
 have L6:=s1.trans s2;have Q8:=al.all2;have lu:=Q8.len;have hp:∀g∈L,∀p∈g,0<p.u/\(0<=p.v/\p.v<=p.u/\0<=p.w/\p.w<=p.u)/\Bg p.u:=λg hg p hp=>⟨((hk g hg).1.ok p hp).n0,Hu.iB (cn g hg p hp),dG ((hk g hg).1.ok p hp).r.a (by decide)⟩
 have wb:∀g∈L,∀p∈g,Bg (WF a p).1/\Bg (WF a p).2/\0<(WF a p).2/\(WF a p).1*p.u=a.worth p.u p.v p.w*(WF a p).2:=λg hg p QO=>by
  obtain⟨u0,⟨v0,v1,w0,w1⟩,ub⟩:=hp g hg p QO;have b:=di (n:=p.u) (x:=p.v) (y:=p.w) (by omega) ⟨v0,v1⟩ ⟨w0,w1⟩ a;have e:=CS (w:=a.worth p.u p.v p.w) u0;exact⟨d9 (Lo.CP (by omega)) (d9 (by omega) ub),d9 (Lo.CU (by omega)) ub,e.2,e.1⟩
 refine⟨l,rfl,⟨us,LA.of el⟩,?_⟩;refine eU (xs:=us) (λi σ H'=>aK H2 H'/\∃ol op o4 o5 o6,σ=[some (.ref x),some vt,some ol,some op,o4,o5,o6]/\Xb K H' a (L.take i).flatten ol op) ⟨aK.refl _,_,_,_,_,_,rfl,.inl ⟨rfl,rfl,rfl⟩⟩ (λi σ H' _ z=>LA.of (z.1 _ _ el)) (λi v σ H' hv z=>?_) (λσ H' z=>?_)
 .obtain⟨s3,ol,op,o4,o5,o6,rfl,be⟩:=z;obtain⟨g,hg,ga,NG,rfl,eg,dg⟩:=(Q8.imp (Og.to s3)).get i v hv;have gm:=w8 hg;refine⟨_,rfl,ga,rfl,⟨NG,LA.of eg⟩,?_⟩;refine eU (xs:=NG) (λj σ LD=>aK H' LD/\∃ol op o5 o6,σ=[some (.ref x),some vt,some ol,some op,some (.ref ga),o5,o6]/\Xb K LD a ((L.take i).flatten++g.take j) ol op) ⟨aK.refl _,_,_,_,_,rfl,by simpa using be⟩ (λj σ LD _ z=>LA.of (z.1 _ _ eg)) (λj v σ LD hv z=>?_) (λσ LD z=>?_)
  .obtain⟨s4,ol,op,o5,o6,rfl,be⟩:=z;obtain⟨p,hpj,dpv⟩:=kF (dg.ts s4.ts) hv;obtain⟨pa,rfl,sp⟩:=cW dpv;have pm:=w8 hpj;obtain⟨u0,bx,ub⟩:=hp g gm p pm;obtain⟨w1,w2,w3,w4⟩:=wb g gm p pm;have RU:=(L6.trans s3).trans s4;refine⟨_,rfl,_,rfl,x,pa,a,p.u,p.v,p.w,rfl,oa.to (Kp.of RU),by omega,⟨sp,by omega,bx.1,bx.2.1,bx.2.2.1,bx.2.2.2⟩,λH5 s5=>?_⟩;refine⟨_,rfl,_,_,_,_,rfl,rfl,sp.ts s5.ts,rfl,_,_,rfl,by omega,ub,λvf H6 s6 fv=>?_⟩;have Me:=s5.trans s6;have tk:g.take (j+1)=g.take j++[p]:=by rw[A7,hpj];rfl
   have inL:∀c∈(L.take i).flatten++g.take j,∃g'∈L,c∈g':=λc hc=>by
    rcases j9.mp hc with h | h
    .obtain⟨g',h1,h2⟩:=Lh.mp h;exact⟨g',JU h1,h2⟩
    .exact⟨g,gm,JU h⟩
   have ap:(L.take i).flatten++g.take (j+1)=((L.take i).flatten++g.take j)++[p]:=by rw[tk,w6]
   rw[ap];rcases be with⟨ec,rfl,rfl⟩ | ⟨pt,ND,Wl,Nl,NC⟩
   .refine⟨_,rfl,rfl,_,rfl,dR (dR ?_)⟩;refine⟨_,rfl,_,rfl,?_⟩;refine⟨s4.trans Me,vf,.ref pa,_,_,rfl,.inr ⟨p,by simp,fv,dpv.ts Me.ts,λc hc=>?_⟩⟩;rw[ec,x9]at hc;rw[d7.mp hc];exact JZ w4
   .obtain⟨la,rfl,sl⟩:=id Wl;obtain⟨g',ZR,ZA⟩:=inL pt ND;obtain⟨y1,y2,y3,y4⟩:=wb g' ZR pt ZA;refine⟨_,rfl,rfl,_,rfl,bJ ?_⟩;refine⟨_,rfl,_,rfl,vf,.ref la,WF a p,WF a pt,rfl,fv,Wl.to Me,w1,w2,y1,y2,_,rfl,cU (λcc=>?_) (λcc=>?_)⟩
    .have cc:(WF a p).1*(WF a pt).2<(WF a pt).1*(WF a p).2:=i9 cc;refine⟨_,rfl,_,rfl,?_⟩;refine⟨s4.trans Me,vf,.ref pa,_,_,rfl,.inr ⟨p,by simp,fv,dpv.ts Me.ts,λc hc=>?_⟩⟩;rcases j9.mp hc with h | h
     .obtain⟨g2,QP,QR⟩:=inL c h;exact lg y3 w3 (hp g2 QP c QR).1 (z5 cc) (NC c h)
     .rw[d7.mp h];exact JZ w4
    .have cc:¬(WF a p).1*(WF a pt).2<(WF a pt).1*(WF a p).2:=λz=>cc (i6 z);refine⟨s4.trans Me,_,_,_,_,rfl,.inr ⟨pt,B2 _ ND,Wl.to Me,Nl.ts Me.ts,λc hc=>?_⟩⟩;rcases j9.mp hc with h | h
     .exact NC c h
     .rw[d7.mp h];exact lg w3 y3 u0 (by omega) (JZ w4)
  .obtain⟨s4,ol,op,o5,o6,rfl,be⟩:=z;have gl:=fc dg;refine⟨s3.trans s4,ol,op,_,_,_,rfl,?_⟩;rw[gl,A6]at be;rw[A7,hg];simpa using be
 .obtain⟨s3,ol,op,o4,o5,o6,rfl,be⟩:=z;rw[lu,A6]at be;rcases be with⟨ec,_,_⟩ | ⟨pt,ND,Wl,Nl,NC⟩
  .exfalso;have ln:=iG eL;cases L with
   | nil=>simp at ln
   | cons g r =>
    have n3:=(hk g x8).1.n3;rw[List.flatten_cons]at ec;have e0:=(List.append_eq_nil_iff.mp ec).1;rw[e0]at n3;simp at n3
  .refine⟨_,rfl,_,rfl,_,rfl,(by show 3<=sizeLine;decide),λp9 hp9=>?_⟩;have u:=ak hp9 (.tup [ol,op,vt]);obtain⟨g,hg,PB⟩:=Lh.mp ND;exact q p9 ol op vt pt X L _ ((L6.trans s3).trans u) ae (Wl.to u) (Nl.ts u.ts) (dt.ts ((s2.trans s3).trans u).ts) sm dp cu eL (λg hg=>kL g hg _ x8) ⟨g,hg,PB⟩ (λg hg c hc=>NC c (Lh.mpr ⟨g,hg,hc⟩))
end
end Mine
namespace L2
open PySem PySem.Spec PyProof.Rows
variable{N:List Str}{x:Str}{i n:Nat}{sc:Scope}{pos:Pos}{ks:List (Option Expr)}{vs:List Expr}{Ni:List (TE×TE)}{id:String}{ss rest b:List Stmt}{st:Stmt}{u:TS}{c e:Expr}{tc:TT}{X:Cx}{xs:List Lt}
inductive Lt where
 | non | bl (b:Bool) | int (i:Int) | str (x:Str) | var (i:Nat) | tup (xs:List Lt) | lst (xs:List Lt) | dic
noncomputable def Ft(sc:Scope)(x:Str):Bool:=match sc.names.lookup x with
 | some .local=>true
 | some .cell=>true
 | some .free=>true
 | _=>false
mutual
noncomputable def litE(N:List Str)(sc:Scope):Expr->Option Lt
 | .Constant .none _ _=>some .non
 | .Constant (.bool b) _ _=>some (.bl b)
 | .Constant (.int i) _ _=>some (.int i)
 | .Constant (.str x) _ _=>some (.str x)
 | .UnaryOp .USub (.Constant (.int i) _ _) _=>some (.int (-i))
 | .Name x _=>match N.idxOf? x with
  | some i=>if Ft sc x && !(x==("__debug__":Str)) && !(x==("__classdict__":Str)) then some (.var i) else none
  | none=>none
 | .Tuple es _ _=>match mv N sc es with
  | some xs=>some (.tup xs)
  | none=>none
 | .List es _=>match mv N sc es with
  | some xs=>some (.lst xs)
  | none=>none
 | .Dict [] [] _=>some .dic
 | _=>none
noncomputable def mv(N:List Str)(sc:Scope):List Expr->Option (List Lt)
 | []=>some []
 | e::es=>match litE N sc e,mv N sc es with
  | some x,some xs=>if plainArg e then some (x::xs) else none
  | _,_=>none
end
mutual
noncomputable def Rz:Lt->TE
 | .non=>tC .non
 | .bl b=>tC (.bl b)
 | .int i=>tC (.int i)
 | .str x=>tC (.str x)
 | .var i=>OK i
 | .tup xs=>OL (xP xs)
 | .lst xs=>OM (xP xs)
 | .dic=>FG
noncomputable def xP:List Lt->TA
 | []=>kE
 | x::xs=>eZ (Rz x) (xP xs)
end
mutual
def Rh(σ:St)(H:Hp):Lt->V->Prop
 | .non,v=>v=.non
 | .bl b,v=>v=.bl b
 | .int i,v=>v=.int i
 | .str x,v=>v=.str x
 | .var i,v=>σ[i]?=some (some v)
 | .tup xs,v=>∃a us,v=.ref a/\H a=some (.tup us)/\nF σ H xs us
 | .lst xs,v=>∃a us,v=.ref a/\H a=some (.lst us)/\nF σ H xs us
 | .dic,v=>∃a,v=.ref a/\H a=some (.dK [])
def nF(σ:St)(H:Hp):List Lt->List V->Prop
 | [],us=>us=[]
 | x::xs,us=>∃u r,us=u::r/\Rh σ H x u/\nF σ H xs r
end
mutual
noncomputable def vo(σ:St):Lt->Bool
 | .var i=>match σ[i]? with | some (some _)=>true | _=>false
 | .tup xs=>decide (xs.length<=1000) && nj σ xs
 | .lst xs=>decide (xs.length<=1000) && nj σ xs
 | _=>true
noncomputable def nj(σ:St):List Lt->Bool
 | []=>true
 | x::xs=>vo σ x && nj σ xs
end
mutual
theorem Rh.same(s:aK H H'):∀{l:Lt}{v:V},Rh σ H l v->Rh σ H' l v
 | .non,_,h=>h
 | .bl _,_,h=>h
 | .int _,_,h=>h
 | .str _,_,h=>h
 | .var _,_,h=>h
 | .tup _,_,⟨a,us,h1,h2,h3⟩=>⟨a,us,h1,s _ _ h2,nF.same s h3⟩
 | .lst _,_,⟨a,us,h1,h2,h3⟩=>⟨a,us,h1,s _ _ h2,nF.same s h3⟩
 | .dic,_,⟨a,h1,h2⟩=>⟨a,h1,s _ _ h2⟩
theorem nF.same(s:aK H H'):∀{l:List Lt}{us:List V},nF σ H l us->nF σ H' l us
 | [],_,h=>h
 | _::_,_,⟨u,r,h1,h2,h3⟩=>⟨u,r,h1,Rh.same s h2,nF.same s h3⟩
end
theorem nF.len:∀{l:List Lt}{us:List V},nF σ H l us->us.length=l.length
 | [],_,h=>by cases(show _=([]:List V) from h);rfl
 | _::_,_,⟨u,r,h1,_,h3⟩=>by subst h1;simp[nF.len h3]
theorem sameNew(h:H p=none)(o:HO):aK H (upd H p o):=λb u z=>by rw[aA (aF z h)];exact z
mutual
theorem AY:∀l {H:Hp} {Q:VK},vo σ l=true->(∀v H',aK H H'->Rh σ H' l v->Q v H')->Rz l σ H Q
 | .non,H,Q,_,q=>q _ _ (λ_ _ z=>z) rfl
 | .bl _,H,Q,_,q=>q _ _ (λ_ _ z=>z) rfl
 | .int _,H,Q,_,q=>q _ _ (λ_ _ z=>z) rfl
 | .str _,H,Q,_,q=>q _ _ (λ_ _ z=>z) rfl
 | .var i,H,Q,h,q=>by
  have h':(match σ[i]? with | some (some _)=>true | _=>false)=true:=h
  cases e:σ[i]? with
  | none=>rw[e]at h';cases h'
  | some o =>
   cases o with
   | none=>rw[e]at h';cases h'
   | some v=>exact⟨v,e,q v H (λ_ _ z=>z) e⟩
 | .tup xs,H,Q,h,q=>by
  have h':(decide (xs.length<=1000) && nj σ xs)=true:=h;rw[B6]at h';refine xa xs h'.2 λus H1 s1 l1=>⟨?_,λp hp=>?_⟩
  .rw[l1.len];exact l8 (i9 h'.1) (by decide)
  .have s2:=sameNew hp (.tup us);exact q _ _ (λb o z=>s2 _ _ (s1 _ _ z)) ⟨p,us,rfl,ae,l1.same s2⟩
 | .lst xs,H,Q,h,q=>by
  have h':(decide (xs.length<=1000) && nj σ xs)=true:=h;rw[B6]at h';refine xa xs h'.2 λus H1 s1 l1=>⟨?_,λp hp=>?_⟩
  .rw[l1.len];exact l8 (i9 h'.1) (by decide)
  .have s2:=sameNew hp (.lst us);exact q _ _ (λb o z=>s2 _ _ (s1 _ _ z)) ⟨p,us,rfl,ae,l1.same s2⟩
 | .dic,H,Q,_,q=>λp hp=>q _ _ (sameNew hp _) ⟨p,rfl,ae⟩
theorem xa:∀l {H:Hp} {Q:List V->Hp->Prop},nj σ l=true->(∀us H',aK H H'->nF σ H' l us->Q us H')->xP l σ H Q
 | [],H,Q,_,q=>q [] H (λ_ _ z=>z) rfl
 | x::xs,H,Q,h,q=>by
  have h':(vo σ x && nj σ xs)=true:=h;rw[B6]at h';refine AY x h'.1 λv H1 s1 l1=>xa xs h'.2 λus H2 s2 l2=>?_;exact q _ _ (λb o z=>s2 _ _ (s1 _ _ z)) ⟨v,us,rfl,l1.same s2,l2⟩
end
section
variable{X:Cx}
theorem Ig(h:N.idxOf? x=some i):N[i]?=some x:=by
 have:=List.of_findIdx?_eq_some (p:=λy=>y==x) (xs:=N) h;cases e:N[i]? with
 | none=>rw[e]at this;cases this
 | some y =>
  rw[e]at this;have:(y==x)=true:=this;rw[JB]at this;rw[this]
theorem Rp(h:Ft sc x=true):Rf sc x:=by
 unfold Ft at h;unfold Rf;cases e:sc.names.lookup x with
 | none=>rw[e]at h;cases h
 | some k =>
  rw[e]at h;cases k with
  | «local»=>exact .inl rfl
  | cell=>exact .inr (.inl rfl)
  | free=>exact .inr (.inr rfl)
  | globalExplicit=>cases h
  | globalImplicit=>cases h
mutual
theorem wK(eN:X.N=N)(es:X.env.scope=sc):∀e {l:Lt},litE N sc e=some l->PE X e (Rz l):=λe l h=>by
 cases e with
 | Constant c k p =>
  cases c with
  | none=>cases h;exact bN
  | bool b=>cases h;exact iw
  | int i=>cases h;exact ao
  | str x=>cases h;exact aR
  | _=>cases h
 | UnaryOp o a p =>
  cases o with
  | USub =>
   cases a with
   | Constant c k q =>
    cases c with
    | int i =>
     cases h
     intro Ly s σ H Q I q;exact mq gE ao Ly s σ H Q I ⟨i,rfl,q⟩
    | _=>cases h
   | _=>cases h
  | _=>cases h
 | Name x p =>
  have h:(match N.idxOf? x with
   | some i=>if Ft sc x && !(x==("__debug__":Str)) && !(x==("__classdict__":Str)) then some (Lt.var i) else none
   | none=>none)=some l:=h
  cases z:N.idxOf? x with
  | none=>rw[z]at h;cases h
  | some i =>
   rw[z]at h;dsimp only at h
   by_cases c:(Ft sc x && !(x==("__debug__":Str)) && !(x==("__classdict__":Str)))=true
   .rw[d8 c]at h;cases h
    rw[B6,B6]at c;exact Av (by rw[eN];exact Ig z) (by rw[es];exact Rp c.1.1) (by simpa using c.1.2) (by simpa using c.2)
   .rw[i5 c]at h;cases h
 | Tuple xs c p =>
  have h:(match mv N sc xs with
   | some ls=>some (Lt.tup ls)
   | none=>none)=some l:=h
  cases z:mv N sc xs with
  | none=>rw[z]at h;cases h
  | some ls=>rw[z]at h;cases h;exact bc (wO eN es xs z)
 | List xs p =>
  have h:(match mv N sc xs with
   | some ls=>some (Lt.lst ls)
   | none=>none)=some l:=h
  cases z:mv N sc xs with
  | none=>rw[z]at h;cases h
  | some ls=>rw[z]at h;cases h;exact bW (wO eN es xs z)
 | Dict ks vs p =>
  cases ks with
  | nil =>
   cases vs with
   | nil=>cases h;exact GZ
   | cons _ _=>cases h
  | cons _ _=>cases h
 | _=>cases h
theorem wO(eN:X.N=N)(es:X.env.scope=sc):∀xs {ls:List Lt},mv N sc xs=some ls->PA X xs (xP ls)
 | [],ls,h=>by cases h;exact af
 | e::r,ls,h=>by
  unfold mv at h;cases z1:litE N sc e with
  | none=>rw[z1]at h;cases h
  | some x =>
   cases z2:mv N sc r with
   | none=>rw[z1,z2]at h;cases h
   | some ys =>
    rw[z1,z2]at h;dsimp only at h
    by_cases c:plainArg e=true
    .rw[d8 c]at h;cases h
     exact paS (wK eN es e z1) (wO eN es r z2) c
    .rw[i5 c]at h;cases h
end
structure ud(X:Cx)(ss:List Stmt)(t:TS):Prop where
 h:LV X ss t
end
structure HE(X:Cx)(e:Expr)(t:TE):Prop where
 h:PE X e t
structure HA(X:Cx)(es:List Expr)(t:TA):Prop where
 h:PA X es t
structure HP(X:Cx)(pos:Pos)(ks:List (Option Expr))(vs:List Expr)(Ni:List (TE×TE)):Prop where
 h:WZ X pos ks vs Ni
structure HT(X:Cx)(e:Expr)(t:TT):Prop where
 h:PT X e t
structure HS(X:Cx)(s:Stmt)(t:TS):Prop where
 h:PS X s t
section
variable{X:Cx}{e f a b:Expr}{es fs:List Expr}{t:TA}{te ta tb:TE}{k j:Nat}{p pos:Pos}{i:Int}{x:Str}
theorem gf:HE X (.Constant (.int i) j pos) (tC (.int i)):=⟨ao⟩
theorem dN:HE X (.Constant (.str x) j pos) (tC (.str x)):=⟨aR⟩
theorem Ik:HE X (.Constant .none j pos) (tC .non):=⟨bN⟩
theorem hv(i:Nat)(hN:X.N[i]?=some x:=by rfl)(hv:Rf X.env.scope x:=by first | exact Or.inl rfl | exact Or.inr (Or.inl rfl) | exact Or.inr (Or.inr rfl))(hd:(x==("__debug__":Str))=false:=by decide)(hd2:(x==("__classdict__":Str))=false:=by decide):HE X (.Name x pos) (OK i):=⟨pv i hN hv hd hd2⟩
theorem bO(h:HA X es t):HE X (.Tuple es k pos) (OL t):=⟨bc h.h⟩
theorem Il(h:HA X es t):HE X (.List es pos) (OM t):=⟨bW h.h⟩
theorem bf:HA X [] kE:=⟨af⟩
theorem aV(ha:HE X e te)(hr:HA X es t)(h:plainArg e=true:=by rfl):HA X (e::es) (eZ te t):=⟨aa ha.h hr.h (jL h)⟩
theorem bG(hr:HA X es t):HA X (.Constant (.int i) j p::es) (eZ (tC (.int i)) t):=⟨aa ao hr.h⟩
theorem fg(ha:HE X (.Tuple fs k p) te)(hr:HA X es t):HA X (.Tuple fs k p::es) (eZ te t):=⟨aa ha.h hr.h⟩
theorem qU:HP X pos [] [] []:=⟨O4⟩
theorem fZ{k v:Expr}{tk tv:TE}(hk:HE X k tk)(hv:HE X v tv)(hr:HP X pos ks vs Ni):HP X pos (some k::ks) (v::vs) ((tk,tv)::Ni):=⟨GU hk.h hv.h hr.h⟩
theorem qV(h:HP X pos keys values Ni)(N3:keys.all (·.isSome)=true)(hl:keys.length=values.length)(h0:keys≠[])(ZZ:keys.length<=15):HE X (.Dict keys values pos) (Qo Ni):=⟨O7 h.h N3 hl h0 ZZ⟩
theorem gQ(D:Def X.prog X.w X.K X.mg X.base n x ps sp)(ha:HA X (e::es) t)(hr:dY n X.A:=by walk_at "rm")(hg:Gl X x:=by rfl)(hdb:(x==("__debug__":Str))=false:=by decide)(hp:plainArg e=true:=by rfl)(hpl:(backTo pos (starEach es X.env)).any (·.1)=false:=by rfl):HE X (.Call (.Name x p) (e::es) [] pos) (rn sp [] E0 t):=⟨aH D ha.h (hr:=hr) (hg:=hg) (hdb:=hdb) (hpl:=hpl) (he:=(jL hp))⟩
theorem Dc(ho:Yb X (unaryOp op) r)(ha:HE X a ta):HE X (.UnaryOp op a pos) (tUn r ta):=⟨mq ho ha.h⟩
theorem qm(hr:UC X r)(ha:HE X a ta)(hb:HE X b tb)(hs:Ds b:=by intro _ _;rfl):HE X (.Subscript a b pos) (Oi r ta tb):=⟨aB hr ha.h hb.h (hs:=hs)⟩
theorem PD(hu:X.A.units+1<cLine)(ho:HE X a ta)(hi:HE X b tb)(hs:T6 b:=by intro _ _;rfl):HE X (.Subscript a b pos) (Qp ta tb):=⟨qQ hu ho.h hi.h (hs:=hs)⟩
theorem zf{r:List V->Hp->VK->Prop}(hc:gy X (.builtin id) r)(hm:X.mg x=none)(ha:HA X (e::es) t)(hg:Gl X x:=by rfl)(hv:bootBuiltins x=some (.builtin id):=by decide+kernel)(hn:x≠"__name__":=by decide)(hdb:(x==("__debug__":Str))=false:=by decide)(hp:plainArg e=true:=by rfl)(hpl:(backTo pos (starEach es X.env)).any (·.1)=false:=by rfl):HE X (.Call (.Name x p) (e::es) [] pos) (Oj r t):=⟨aG hc hm ha.h (hg:=hg) (hv:=hv) (hn:=hn) (hdb:=hdb) (hpl:=hpl) (he:=(jL hp))⟩
theorem lU(ho:LQ X (compareOp op) r)(ha:HE X a ta)(hb:HE X b tb)(hm:behindInMarks op b=false):HT X (.Compare a [op] [b] pos) (FE (Oi r ta tb)):=⟨aE ho ha.h hb.h hm⟩
theorem un{t:TS}(h:ud X ss t):LV X ss t:=h.h
theorem lV:ud X [] BP:=⟨aL⟩
theorem gZ{t:TS}(h:HS X st t):ud X [st] t:=⟨aq h.h⟩
theorem aP{t:TS}(h1:HS X st t)(h2:ud X rest u):ud X (st::rest) (jt t u):=⟨ah h1.h h2.h⟩
theorem vC{b e:List Stmt}{t:TS}(hc:HT X c tc)(hb:ud X b t)(he:ud X e u):HS X (.If c b e pos) (RB tc t u):=⟨aT hc.h hb.h he.h⟩
theorem Be(h:HE X e te):HS X (.Return (some e) pos) (DF te):=⟨av h.h⟩
theorem gP{i:Nat}(he:HE X e te)(hN:X.N.Nodup:=by assumption)(hi:X.N[i]?=some x:=by rfl)(hx:Loc X.env.scope x:=by walk_at "oi")(hs:swapsWith e (some (.Name x pos')) pos.line X.env=pure false:=by rfl)(hf:X.fn x=true\/X.env.scope.names.lookup x=some .local:=by first | exact .inl rfl | exact .inr rfl | assumption):HS X (.Assign [.Name x pos'] e pos) (FI te (my i)):=⟨aJ he.h (hN:=hN) (hi:=hi) (hx:=hx) (hs:=hs) (hf:=hf)⟩
end
noncomputable def stN(s:Stmt)(i:Nat):Stmt:=(bI s).getD i (.Pass ⟨0,0,0,0⟩)
theorem qY{t:TS}{R:TS->Prop}(h:ud X ss t)(r:R t):∃t,LV X ss t/\R t:=⟨t,h.h,r⟩
theorem SH{l:Lt}{p:Pos}(ee:st=.Assign [.Name x p] e pos)(h:litE N sc e=some l)(eN:X.N=N)(es:X.env.scope=sc)(hN:X.N.Nodup)(hi:X.N[i]?=some x)(hx:Loc X.env.scope x)(hs:swapsWith e (some (.Name x p)) pos.line X.env=pure false)(hf:X.fn x=true\/X.env.scope.names.lookup x=some .local) :
  ∃t,HS X st t/\∀D σ H,vo σ l=true->(∀v H',aK H H'->Rh σ H' l v->D.nx (σ.set i (some v)) H')->t D σ H:=by
 subst ee;exact⟨_,⟨aJ (wK eN es e h) (hN:=hN) (hi:=hi) (hx:=hx) (hs:=hs) (hf:=hf)⟩,λD σ H hv q=>AY l hv λv H' s' lv=>q v H' s' lv⟩
theorem EG{p p2 p3:Pos}(ee:st=.Assign [.Name x p] (.BinOp (.Name x p2) .Add e p3) pos)(h:litE N sc e=some (.lst xs))(eN:X.N=N)(es:X.env.scope=sc)(hN:X.N.Nodup)(hi:X.N[i]?=some x)(hx:Loc X.env.scope x)(hv:Rf X.env.scope x)(hd:(x==("__debug__":Str))=false)(hd2:(x==("__classdict__":Str))=false)(hs:swapsWith (.BinOp (.Name x p2) .Add e p3) (some (.Name x p)) pos.line X.env=pure false)(hf:X.fn x=true\/X.env.scope.names.lookup x=some .local) :
  ∃t,HS X st t/\∀D σ H a us,vo σ (.lst xs)=true->σ[i]?=some (some (.ref a))->H a=some (.lst us)->us.length+xs.length<=1000->(∀b vs H',aK H H'->H' b=some (.lst (us++vs))->nF σ H' xs vs->D.nx (σ.set i (some (.ref b))) H')->t D σ H:=by
 subst ee;refine⟨_,⟨aJ (aM Ax (Av hi hv hd hd2) (wK eN es e h)) (hN:=hN) (hi:=hi) (hx:=hx) (hs:=hs) (hf:=hf)⟩,λD σ H a us hl ha ea few q=>?_⟩;refine⟨_,ha,AY _ hl λv H1 s1 lv=>?_⟩;obtain⟨b,vs,rfl,eb,lu⟩:=lv;refine⟨a,b,us,vs,rfl,rfl,s1 _ _ ea,eb,l8 (by rw[lu.len];exact few) (by decide),λp hp=>?_⟩;have s2:=sameNew hp (.lst (us++vs));exact q p vs _ (λd o z=>s2 _ _ (s1 _ _ z)) ae (lu.same s2)
end L2
namespace Mine
open PySem L2
variable{σ:St}{c f:Addr}{ls xs:List Lt}{n:Int}{cdv:Value}{A:Around}{outer:List Env}{E:XK}{H1:Hp}{F:Int->Int->Int}{te:TE}{g:TG}{js:List Nat}
inductive NK(x y z:Tr):Lt->Tr->Prop
 | va:NK x y z (.var 1) x
 | vb:NK x y z (.var 2) y
 | vc:NK x y z (.var 3) z
 | al:NK x y z (.tup [.str "always"]) .always
 | no {l:Lt} {t:Tr}:NK x y z l t->NK x y z (.tup [.str "not",l]) (.no t)
 | fold {l m:Lt} {t r:Tr} (u:W5):NK x y z l t->NK x y z m r->NK x y z (.tup [.str u.str,l,m]) (.fold u t r)
inductive lG(x y z:Tr):List Lt->List Tr->Prop
 | nil:lG x y z [] []
 | cons {l:Lt} {t:Tr} {ls:List Lt} {ts:List Tr}:NK x y z l t->lG x y z ls ts->lG x y z (l::ls) (t::ts)
theorem NK.tu{x y z:Tr}{H:Hp}{a b:Addr}(ha:σ[1]?=some (some (.ref a)))(hb:σ[2]?=some (some (.ref b)))(hc:σ[3]?=some (some (.ref c)))(ta:Tu H a x)(tb:Tu H b y)(tc:Tu H c z){l:Lt}{t:Tr}(h:NK x y z l t):∀{v:V},Rh σ H l v->Ml H v t:=by
 induction h with
 | va=>intro v hv;have hv:σ[1]?=some (some v):=hv;rw[ha]at hv;cases hv;exact⟨_,rfl,ta⟩
 | vb=>intro v hv;have hv:σ[2]?=some (some v):=hv;rw[hb]at hv;cases hv;exact⟨_,rfl,tb⟩
 | vc=>intro v hv;have hv:σ[3]?=some (some v):=hv;rw[hc]at hv;cases hv;exact⟨_,rfl,tc⟩
 | al =>
  intro v hv;obtain⟨a,us,rfl,e,v,r,rfl,rfl,rfl⟩:=hv;exact⟨a,rfl,.always e⟩
 | no _ ih =>
  intro v hv;obtain⟨a,us,rfl,e,v,r,rfl,rfl,v2,r2,rfl,h2,rfl⟩:=hv;obtain⟨b,rfl,tb⟩:=ih h2;exact⟨a,rfl,.no e tb⟩
 | fold u _ _ ih1 ih2 =>
  intro v hv;obtain⟨a,us,rfl,e,v,r,rfl,rfl,v2,r2,rfl,h2,v3,r3,rfl,h3,rfl⟩:=hv;obtain⟨b,rfl,tb⟩:=ih1 h2;obtain⟨d,rfl,td⟩:=ih2 h3;exact⟨a,rfl,.fold e tb td⟩
theorem lG.tu{x y z:Tr}{H:Hp}{a b:Addr}(ha:σ[1]?=some (some (.ref a)))(hb:σ[2]?=some (some (.ref b)))(hc:σ[3]?=some (some (.ref c)))(ta:Tu H a x)(tb:Tu H b y)(tc:Tu H c z){ts:List Tr}(h:lG x y z ls ts):∀{us:List V},nF σ H ls us->cB (Ml H) us ts:=by
 induction h with
 | nil=>intro us hu;cases(show us=[] from hu);exact .nil
 | cons h1 _ ih =>
  intro us hu;obtain⟨u,r,rfl,h2,h3⟩:=hu;exact .cons (h1.tu ha hb hc ta tb tc h2) (ih h3)
noncomputable def ya(x y z:Tr):List Tr:=[(.fold .leads x x),(.fold .leads x (.fold .leads y x)),(.fold .leads (.fold .less x y) x),(.fold .leads x (.fold .more x y)),(.fold .greater (.fold .leads x y) (.fold .leads y x)),(.fold .leads (.fold .lesser x y) y),(.fold .more x (.no x)),(.no (.fold .less x (.no x))),(.fold .leads (.fold .leads (.no x) (.no y)) (.fold .leads y x)),(.fold .leads (.fold .less x (.fold .leads x y)) y),(.fold .leads x (.fold .greater y x)),(.fold .more (.no x) x),(.fold .leads (.fold .leads x y) (.fold .leads (.fold .leads y z) (.fold .leads x z))),(.fold .leads (.fold .leads (.fold .leads x y) y) (.fold .leads (.fold .leads y x) x)),(.fold .lesser (.fold .leads y y) .always)]
theorem wl{a b:Int}(h:a<=b):W5.worth .leads n a b=n:=by show min (n-a+b) n=n;omega
theorem wll{a b:Int}(ha:a<=n)(hb:b<=n):W5.worth .leads n (W5.worth .leads n a b) b=max a b:=by show min (n-min (n-a+b) n+b) n=max a b;omega
theorem Yj(n a b:Int):W5.worth .leads n a b=n/\a<=b\/W5.worth .leads n a b=n-a+b/\b<=a:=by
 show min (n-a+b) n=n/\_\/min (n-a+b) n=_/\_;omega
theorem wk{x y z t:Tr}(h:t∈ya x y z){p q:Int}(hn:0<=n)(hp:0<=p/\p<=n)(hq:0<=q/\q<=n):t.worth n p q=n:=by
 have bx:=di hn hp hq x;have b_y:=di hn hp hq y;have bz:=di hn hp hq z;simp only[ya,j6,A2,F9]at h;have ef:∀(u:W5)(a b:Tr),Tr.worth n p q (.fold u a b)=u.worth n (a.worth n p q) (b.worth n p q):=λ_ _ _=>rfl;have en:∀a:Tr,Tr.worth n p q (.no a)=n-a.worth n p q:=λ_=>rfl;have ea:Tr.worth n p q .always=n:=rfl
 have k13:∀{a b c:Int},W5.worth .leads n a b<=W5.worth .leads n (W5.worth .leads n b c) (W5.worth .leads n a c):=λ{a b c}=>by
  rcases Yj n a b with e1 | e1<;>rcases Yj n b c with e2 | e2<;>rcases Yj n a c with e3 | e3<;>rw[e1.1,e2.1,e3.1]<;>(refine Lx.mpr ⟨?_,?_⟩<;>omega)
 rcases h with rfl | rfl | rfl | rfl | rfl | rfl | rfl | rfl | rfl | rfl | rfl | rfl | rfl | rfl | rfl<;>simp only[ef,en,ea]<;>generalize x.worth n p q=α at*<;> generalize y.worth n p q=β at*<;> generalize z.worth n p q=γ at *
 .exact wl (C3 _)
 .exact wl (Lx.mpr ⟨by omega,bx.2⟩)
 .exact wl (Int.max_le.mpr ⟨by omega,bx.1⟩)
 .exact wl (Lx.mpr ⟨by omega,bx.2⟩)
 .rcases Ll α β with e | e
  .rw[wl e];show max n (min _ n)=n;omega
  .rw[wl e];show max (min _ n) n=n;omega
 .exact wl (Int.min_le_right _ _)
 .show min (α+(n-α)) n=n;omega
 .show n-max (α+(n-α)-n) 0=n;omega
 .refine wl (Lx.mpr ⟨?_,Int.min_le_right _ _⟩);have:=Int.min_le_left (n-(n-α)+(n-β)) n;show min (n-(n-α)+(n-β)) n<=_;omega
 .refine wl (Int.max_le.mpr ⟨?_,b_y.1⟩);have:=Int.min_le_left (n-α+β) n;show α+min (n-α+β) n-n<=β;omega
 .exact wl (Int.le_max_right _ _)
 .show min (n-α+α) n=n;omega
 .exact wl k13
 .rw[wll bx.2 b_y.2,wll b_y.2 bx.2,Int.max_comm];exact wl (C3 _)
 .rw[wl (C3 _)];show min n n=n;omega
theorem RP{x y z t:Tr}(h:t∈ya x y z)(nx:x.nf=0)(ny:y.nf=0)(nz:z.nf=0):t.nf<=5:=by
 simp only[ya,j6,A2,F9]at h;have ea:Tr.always.nf=0:=rfl;rcases h with rfl | rfl | rfl | rfl | rfl | rfl | rfl | rfl | rfl | rfl | rfl | rfl | rfl | rfl | rfl<;>(simp only[qS,CK,nx,ny,nz,ea];omega)
theorem Al{x y z t:Tr}(h:t∈ya x y z)(nx:x.size<=6)(ny:y.size<=6)(nz:z.size<=6):t.size<=50:=by
 simp only[ya,j6,A2,F9]at h;rcases h with rfl | rfl | rfl | rfl | rfl | rfl | rfl | rfl | rfl | rfl | rfl | rfl | rfl | rfl | rfl<;>(simp only[Tr.size];omega)
noncomputable def P5:Stmt->Expr
 | .Assign _ (.BinOp _ _ e _) _=>e
 | .Assign _ e _=>e
 | _=>.Constant .none 0 ⟨0,0,0,0⟩
noncomputable def WL:Expr->Pos
 | .Name _ p=>p
 | _=>⟨0,0,0,0⟩
noncomputable def TB:Stmt->Pos
 | .Assign [e] _ _=>WL e
 | _=>⟨0,0,0,0⟩
noncomputable def Q6:Stmt->Pos
 | .Assign _ (.BinOp e _ _ _) _=>WL e
 | _=>⟨0,0,0,0⟩
noncomputable def Q5:Stmt->Pos
 | .Assign _ (.BinOp _ _ _ p) _=>p
 | _=>⟨0,0,0,0⟩
noncomputable def TC:Stmt->Pos
 | .Assign _ _ p=>p
 | _=>⟨0,0,0,0⟩
structure CatT(X:Cx)(st:Stmt)(ts:Tr->Tr->Tr->List Tr):Prop where
 ex:∃t,HS X st t/\∀(D:Ends)(i:Int)(a1 a2 a3 b:Addr)(us:List V)(x y z:Tr)(H:Hp),Tu H a1 x->Tu H a2 y->Tu H a3 z->H b=some (.lst us)->us.length<=100->
  (∀(b':Addr)(vs:List V)(H':Hp),aK H H'->H' b'=some (.lst (us++vs))->cB (Ml H') vs (ts x y z)->D.nx [some (.int i),some (.ref a1),some (.ref a2),some (.ref a3),some (.ref b')] H')->t D [some (.int i),some (.ref a1),some (.ref a2),some (.ref a3),some (.ref b)] H
inductive FO(vs:List V)(H:Hp)(Q:VK)(E:XK):Prop
 | mk (i:Int) (a b c:Addr) (x y z:Tr):vs=[.int i,.ref a,.ref b,.ref c]->Tu H a x->Tu H b y->Tu H c z->(∀(d:Addr)(t:Tr)(H':Hp),aK H H'->Tu H' d t->t∈ya x y z->Q (.ref d) H')->FO vs H Q E
variable{P:Program}{w:World}{K:W.Frag}{mg:Str->Option Value}{base:Heap}
noncomputable def sT0(x y z:Tr):List Tr:=[(.fold .leads x x),(.fold .leads x (.fold .leads y x)),(.fold .leads (.fold .less x y) x)]
noncomputable abbrev sX0:List Lt:=[.tup [.str "leads",.var 1,.var 1],.tup [.str "leads",.var 1,.tup [.str "leads",.var 2,.var 1]],.tup [.str "leads",.tup [.str "less",.var 1,.var 2],.var 1]]
theorem sL0(x y z:Tr):lG x y z sX0 (sT0 x y z):=(.cons (.fold .leads .va .va) (.cons (.fold .leads .va (.fold .leads .vb .va)) (.cons (.fold .leads (.fold .less .va .vb) .va) .nil)))
noncomputable def sT1(x y z:Tr):List Tr:=[(.fold .leads x (.fold .more x y))]
noncomputable abbrev sX1:List Lt:=[.tup [.str "leads",.var 1,.tup [.str "more",.var 1,.var 2]]]
theorem sL1(x y z:Tr):lG x y z sX1 (sT1 x y z):=(.cons (.fold .leads .va (.fold .more .va .vb)) .nil)
noncomputable def sT2(x y z:Tr):List Tr:=[(.fold .greater (.fold .leads x y) (.fold .leads y x)),(.fold .leads (.fold .lesser x y) y)]
noncomputable abbrev sX2:List Lt:=[.tup [.str "greater",.tup [.str "leads",.var 1,.var 2],.tup [.str "leads",.var 2,.var 1]],.tup [.str "leads",.tup [.str "lesser",.var 1,.var 2],.var 2]]
theorem sL2(x y z:Tr):lG x y z sX2 (sT2 x y z):=(.cons (.fold .greater (.fold .leads .va .vb) (.fold .leads .vb .va)) (.cons (.fold .leads (.fold .lesser .va .vb) .vb) .nil))
noncomputable def sT3(x y z:Tr):List Tr:=[(.fold .more x (.no x))]
noncomputable abbrev sX3:List Lt:=[.tup [.str "more",.var 1,.tup [.str "not",.var 1]]]
theorem sL3(x y z:Tr):lG x y z sX3 (sT3 x y z):=(.cons (.fold .more .va (.no .va)) .nil)
noncomputable def sT4(x y z:Tr):List Tr:=[(.no (.fold .less x (.no x)))]
noncomputable abbrev sX4:List Lt:=[.tup [.str "not",.tup [.str "less",.var 1,.tup [.str "not",.var 1]]]]
theorem sL4(x y z:Tr):lG x y z sX4 (sT4 x y z):=(.cons (.no (.fold .less .va (.no .va))) .nil)
noncomputable def sT5(x y z:Tr):List Tr:=[(.fold .leads (.fold .leads (.no x) (.no y)) (.fold .leads y x))]
noncomputable abbrev sX5:List Lt:=[.tup [.str "leads",.tup [.str "leads",.tup [.str "not",.var 1],.tup [.str "not",.var 2]],.tup [.str "leads",.var 2,.var 1]]]
theorem sL5(x y z:Tr):lG x y z sX5 (sT5 x y z):=(.cons (.fold .leads (.fold .leads (.no .va) (.no .vb)) (.fold .leads .vb .va)) .nil)
noncomputable def sT6(x y z:Tr):List Tr:=[(.fold .leads (.fold .less x (.fold .leads x y)) y),(.fold .leads x (.fold .greater y x))]
noncomputable abbrev sX6:List Lt:=[.tup [.str "leads",.tup [.str "less",.var 1,.tup [.str "leads",.var 1,.var 2]],.var 2],.tup [.str "leads",.var 1,.tup [.str "greater",.var 2,.var 1]]]
theorem sL6(x y z:Tr):lG x y z sX6 (sT6 x y z):=(.cons (.fold .leads (.fold .less .va (.fold .leads .va .vb)) .vb) (.cons (.fold .leads .va (.fold .greater .vb .va)) .nil))
noncomputable def sT7(x y z:Tr):List Tr:=[(.fold .more (.no x) x)]
noncomputable abbrev sX7:List Lt:=[.tup [.str "more",.tup [.str "not",.var 1],.var 1]]
theorem sL7(x y z:Tr):lG x y z sX7 (sT7 x y z):=(.cons (.fold .more (.no .va) .va) .nil)
noncomputable def sT8(x y z:Tr):List Tr:=[(.fold .leads (.fold .leads x y) (.fold .leads (.fold .leads y z) (.fold .leads x z)))]
noncomputable abbrev sX8:List Lt:=[.tup [.str "leads",.tup [.str "leads",.var 1,.var 2],.tup [.str "leads",.tup [.str "leads",.var 2,.var 3],.tup [.str "leads",.var 1,.var 3]]]]
theorem sL8(x y z:Tr):lG x y z sX8 (sT8 x y z):=(.cons (.fold .leads (.fold .leads .va .vb) (.fold .leads (.fold .leads .vb .vc) (.fold .leads .va .vc))) .nil)
noncomputable def sT9(x y z:Tr):List Tr:=[(.fold .leads (.fold .leads (.fold .leads x y) y) (.fold .leads (.fold .leads y x) x))]
noncomputable abbrev sX9:List Lt:=[.tup [.str "leads",.tup [.str "leads",.tup [.str "leads",.var 1,.var 2],.var 2],.tup [.str "leads",.tup [.str "leads",.var 2,.var 1],.var 1]]]
theorem sL9(x y z:Tr):lG x y z sX9 (sT9 x y z):=(.cons (.fold .leads (.fold .leads (.fold .leads .va .vb) .vb) (.fold .leads (.fold .leads .vb .va) .va)) .nil)
noncomputable def YD(x y z:Tr):List Tr:=[(.fold .lesser (.fold .leads y y) .always)]
noncomputable abbrev YC:List Lt:=[.tup [.str "lesser",.tup [.str "leads",.var 2,.var 2],.tup [.str "always"]]]
theorem YE(x y z:Tr):lG x y z YC (YD x y z):=(.cons (.fold .lesser (.fold .leads .vb .vb) .al) .nil)
theorem jm{s:Shared}{H:Hp}(st:Stmt){ts:Tr->Tr->Tr->List Tr}(hts:∀x y z,lG x y z xs (ts x y z))(ee:st=.Assign [.Name "_law_some" (TB st)] (.BinOp (.Name "_law_some" (Q6 st)) .Add (P5 st) (Q5 st)) (TC st))(h:litE eS (au aN) (P5 st)=some (.lst xs))(few:xs.length<=100)
  (hs:swapsWith (.BinOp (.Name "_law_some" (Q6 st)) .Add (P5 st) (Q5 st)) (some (.Name "_law_some" (TB st))) (TC st).line (cN CX0 P w K mg base eS "_law_scheme" (au aN) f cdv A outer s H E).nox.env=pure false)(hv:∀(v0 v1 v2 v3 v4:V),vo [some v0,some v1,some v2,some v3,some v4] (.lst xs)=true):CatT (cN CX0 P w K mg base eS "_law_scheme" (au aN) f cdv A outer s H E).nox st ts:=by
 obtain⟨t,ht,k⟩:=EG (X:=(cN CX0 P w K mg base eS "_law_scheme" (au aN) f cdv A outer s H E).nox) (i:=4) ee h rfl rfl kN.nd rfl (Or.inl rfl) (Or.inl rfl) (by decide) (by decide) hs (Or.inr rfl);refine⟨t,ht,λD i a1 a2 a3 b us x y z H1 t1 t2 t3 eb lu q=>?_⟩;refine k D _ H1 b us (hv _ _ _ _ _) rfl eb (by omega) λb' vs H' s' e' lv=>q b' vs H' s' e' ?_;exact(hts x y z).tu rfl rfl rfl (t1.to (Kp.of s')) (t2.to (Kp.of s')) (t3.to (Kp.of s')) lv
theorem ok_sch(T:aC K mg "_law_scheme" aN)(bE:mg "len"=none):Def P w K mg base 1 "_law_scheme" ["_law_cell","_law_a","_law_b","_law_c"] FO:=by
 refine aQ T kN ?_ ?_
 .walk_at "i1"
 walk_at "i2";obtain⟨i,a1,a2,a3,x,y,z,rfl,t1,t2,t3,q⟩:=h;have nd:=kN.nd;obtain⟨g1,hg1,k1⟩:=(jm (P:=P) (w:=w) (K:=K) (mg:=mg) (base:=base) (f:=f) (cdv:=cdv) (A:=A) (outer:=outer) (s:=s) (H:=H) (E:=E) (stN aN 1) sL1 (by kernel_rfl) (by kernel_rfl) (by decide) (by kernel_rfl) (λ_ _ _ _ _=>rfl)).ex;obtain⟨g2,QP,k2⟩:=(jm (P:=P) (w:=w) (K:=K) (mg:=mg) (base:=base) (f:=f) (cdv:=cdv) (A:=A) (outer:=outer) (s:=s) (H:=H) (E:=E) (stN aN 2) sL2 (by kernel_rfl) (by kernel_rfl) (by decide) (by kernel_rfl) (λ_ _ _ _ _=>rfl)).ex;obtain⟨g3,hg3,k3⟩:=(jm (P:=P) (w:=w) (K:=K) (mg:=mg) (base:=base) (f:=f) (cdv:=cdv) (A:=A) (outer:=outer) (s:=s) (H:=H) (E:=E) (stN aN 3) sL3 (by kernel_rfl) (by kernel_rfl) (by decide) (by kernel_rfl) (λ_ _ _ _ _=>rfl)).ex;obtain⟨g4,hg4,k4⟩:=(jm (P:=P) (w:=w) (K:=K) (mg:=mg) (base:=base) (f:=f) (cdv:=cdv) (A:=A) (outer:=outer) (s:=s) (H:=H) (E:=E) (stN aN 4) sL4 (by kernel_rfl) (by kernel_rfl) (by decide) (by kernel_rfl) (λ_ _ _ _ _=>rfl)).ex;obtain⟨g5,hg5,k5⟩:=(jm (P:=P) (w:=w) (K:=K) (mg:=mg) (base:=base) (f:=f) (cdv:=cdv) (A:=A) (outer:=outer) (s:=s) (H:=H) (E:=E) (stN aN 5) sL5 (by kernel_rfl) (by kernel_rfl) (by decide) (by kernel_rfl) (λ_ _ _ _ _=>rfl)).ex;obtain⟨g6,hg6,k6⟩:=(jm (P:=P) (w:=w) (K:=K) (mg:=mg) (base:=base) (f:=f) (cdv:=cdv) (A:=A) (outer:=outer) (s:=s) (H:=H) (E:=E) (stN aN 6) sL6 (by kernel_rfl) (by kernel_rfl) (by decide) (by kernel_rfl) (λ_ _ _ _ _=>rfl)).ex;obtain⟨g7,hg7,k7⟩:=(jm (P:=P) (w:=w) (K:=K) (mg:=mg) (base:=base) (f:=f) (cdv:=cdv) (A:=A) (outer:=outer) (s:=s) (H:=H) (E:=E) (stN aN 7) sL7 (by kernel_rfl) (by kernel_rfl) (by decide) (by kernel_rfl) (λ_ _ _ _ _=>rfl)).ex;obtain⟨g8,hg8,k8⟩:=(jm (P:=P) (w:=w) (K:=K) (mg:=mg) (base:=base) (f:=f) (cdv:=cdv) (A:=A) (outer:=outer) (s:=s) (H:=H) (E:=E) (stN aN 8) sL8 (by kernel_rfl) (by kernel_rfl) (by decide) (by kernel_rfl) (λ_ _ _ _ _=>rfl)).ex;obtain⟨g9,hg9,k9⟩:=(jm (P:=P) (w:=w) (K:=K) (mg:=mg) (base:=base) (f:=f) (cdv:=cdv) (A:=A) (outer:=outer) (s:=s) (H:=H) (E:=E) (stN aN 9) sL9 (by kernel_rfl) (by kernel_rfl) (by decide) (by kernel_rfl) (λ_ _ _ _ _=>rfl)).ex;obtain⟨g10,ZQ,k10⟩:=(jm (P:=P) (w:=w) (K:=K) (mg:=mg) (base:=base) (f:=f) (cdv:=cdv) (A:=A) (outer:=outer) (s:=s) (H:=H) (E:=E) (stN aN 10) YE (by kernel_rfl) (by kernel_rfl) (by decide) (by kernel_rfl) (λ_ _ _ _ _=>rfl)).ex;obtain⟨g0,hg0,k0⟩:=SH (X:=(cN CX0 P w K mg base eS "_law_scheme" (au aN) f cdv A outer s H E).nox) (i:=4) (st:=stN aN 0) (e:=P5 (stN aN 0)) (x:="_law_some") (p:=TB (stN aN 0)) (pos:=TC (stN aN 0)) (l:=.lst sX0) (by kernel_rfl) (by kernel_rfl) rfl rfl nd rfl (Or.inl rfl) (by kernel_rfl) (Or.inr rfl)
 have tl:∃t,HS (cN CX0 P w K mg base eS "_law_scheme" (au aN) f cdv A outer s H E).nox (stN aN 11) t/\∀(i:Int)(a1 a2 a3 b:Addr)(us:List V)(ts:List Tr)(H1:Hp),aK H H1->H1 b=some (.lst us)->cB (Ml H1) us ts->0<ts.length->(∀t∈ts,t∈ya x y z)->t {nx:=λ_ H'=>Q .non H',rt:=Q} [some (.int i),some (.ref a1),some (.ref a2),some (.ref a3),some (.ref b)] H1:=by
  refine⟨_,⟨(av (aB bC (pv 4) (aM iA (pv 0) (aG bL bE (aa (pv 4) af)))))⟩,?_⟩;intro i a1 a2 a3 b us ts H1 s1 eb al pos sub;have ul:=al.len;have g0:=G5 i (show 0<(us.length:Int) by omega);have g1:=Jx i (show 0<(us.length:Int) by omega);obtain⟨v,hv⟩:∃v,us[(i.fmod (us.length:Int)).toNat]?=some v:=⟨us[(i.fmod (us.length:Int)).toNat]'(by omega),c9 (by omega)⟩;obtain⟨t,ht,d,rfl,td⟩:=al.get _ v hv;refine⟨_,rfl,_,rfl,_,rfl,_,_,rfl,.inl ⟨_,LA.of eb,rfl⟩,_,_,rfl,rfl,(by omega),_,_,_,_,rfl,rfl,LA.of eb,?_,q d t H1 s1 td (sub t (w8 ht))⟩;rw[show i.fmod (us.length:Int)=((i.fmod (us.length:Int)).toNat:Int) by omega];exact cF hv
 obtain⟨gl,hgl,kl⟩:=tl;have eb:bI aN=[stN aN 0,stN aN 1,stN aN 2,stN aN 3,stN aN 4,stN aN 5,stN aN 6,stN aN 7,stN aN 8,stN aN 9,stN aN 10,stN aN 11]:=by kernel_rfl
 have hh:ud (cN CX0 P w K mg base eS "_law_scheme" (au aN) f cdv A outer s H E).nox (bI aN) (jt g0 (jt g1 (jt g2 (jt g3 (jt g4 (jt g5 (jt g6 (jt g7 (jt g8 (jt g9 (jt g10 gl))))))))))):=by
  rw[eb];exact aP hg0 (aP hg1 (aP QP (aP hg3 (aP hg4 (aP hg5 (aP hg6 (aP hg7 (aP hg8 (aP hg9 (aP ZQ (gZ hgl)))))))))))
 refine qY hh ?_;refine k0 _ _ H rfl λv H1 s1 lv=>?_;obtain⟨b,us,rfl,eb,lu⟩:=lv;have al:=(sL0 x y z).tu (σ:=[some (.int i),some (.ref a1),some (.ref a2),some (.ref a3),none]) rfl rfl rfl (t1.to (Kp.of s1)) (t2.to (Kp.of s1)) (t3.to (Kp.of s1)) lu;have l0:=al.len;refine k1 _ i a1 a2 a3 b (us) x y z _ (t1.to (Kp.of s1)) (t2.to (Kp.of s1)) (t3.to (Kp.of s1)) eb (by rw[al.len];exact z8 rfl) λb1 v1 H2 r1 e1 n1=>?_;have Xx:=s1.trans r1;have WR:=(al.imp (Ml.to (Kp.of r1))).app n1;refine k2 _ i a1 a2 a3 b1 (us++v1) x y z _ (t1.to (Kp.of Xx)) (t2.to (Kp.of Xx)) (t3.to (Kp.of Xx)) e1 (by rw[WR.len];exact z8 rfl) λb2 v2 H3 r2 e2 n2=>?_;have Xw:=Xx.trans r2;have Q8:=(WR.imp (Ml.to (Kp.of r2))).app n2;refine k3 _ i a1 a2 a3 b2 ((us++v1)++v2) x y z _ (t1.to (Kp.of Xw)) (t2.to (Kp.of Xw)) (t3.to (Kp.of Xw)) e2 (by rw[Q8.len];exact z8 rfl) λb3 v3 H4 r3 e3 n3=>?_;have Xu:=Xw.trans r3;have al3:=(Q8.imp (Ml.to (Kp.of r3))).app n3;refine k4 _ i a1 a2 a3 b3 (((us++v1)++v2)++v3) x y z _ (t1.to (Kp.of Xu)) (t2.to (Kp.of Xu)) (t3.to (Kp.of Xu)) e3 (by rw[al3.len];exact z8 rfl) λb4 v4 H5 r4 e4 n4=>?_;have Xt:=Xu.trans r4;have al4:=(al3.imp (Ml.to (Kp.of r4))).app n4;refine k5 _ i a1 a2 a3 b4 ((((us++v1)++v2)++v3)++v4) x y z _ (t1.to (Kp.of Xt)) (t2.to (Kp.of Xt)) (t3.to (Kp.of Xt)) e4 (by rw[al4.len];exact z8 rfl) λb5 v5 H6 r5 e5 n5=>?_;have Xs:=Xt.trans r5;have al5:=(al4.imp (Ml.to (Kp.of r5))).app n5;refine k6 _ i a1 a2 a3 b5 (((((us++v1)++v2)++v3)++v4)++v5) x y z _ (t1.to (Kp.of Xs)) (t2.to (Kp.of Xs)) (t3.to (Kp.of Xs)) e5 (by rw[al5.len];exact z8 rfl) λb6 v6 H7 r6 e6 n6=>?_;have Xr:=Xs.trans r6;have Ya:=(al5.imp (Ml.to (Kp.of r6))).app n6;refine k7 _ i a1 a2 a3 b6 ((((((us++v1)++v2)++v3)++v4)++v5)++v6) x y z _ (t1.to (Kp.of Xr)) (t2.to (Kp.of Xr)) (t3.to (Kp.of Xr)) e6 (by rw[Ya.len];exact z8 rfl) λb7 v7 H8 r7 e7 n7=>?_;have Xq:=Xr.trans r7;have al7:=(Ya.imp (Ml.to (Kp.of r7))).app n7;refine k8 _ i a1 a2 a3 b7 (((((((us++v1)++v2)++v3)++v4)++v5)++v6)++v7) x y z _ (t1.to (Kp.of Xq)) (t2.to (Kp.of Xq)) (t3.to (Kp.of Xq)) e7 (by rw[al7.len];exact z8 rfl) λb8 v8 H9 r8 e8 n8=>?_;have Xp:=Xq.trans r8;have al8:=(al7.imp (Ml.to (Kp.of r8))).app n8;refine k9 _ i a1 a2 a3 b8 ((((((((us++v1)++v2)++v3)++v4)++v5)++v6)++v7)++v8) x y z _ (t1.to (Kp.of Xp)) (t2.to (Kp.of Xp)) (t3.to (Kp.of Xp)) e8 (by rw[al8.len];exact z8 rfl) λb9 v9 Rj r9 e9 n9=>?_;have Xo:=Xp.trans r9;have al9:=(al8.imp (Ml.to (Kp.of r9))).app n9;refine k10 _ i a1 a2 a3 b9 (((((((((us++v1)++v2)++v3)++v4)++v5)++v6)++v7)++v8)++v9) x y z _ (t1.to (Kp.of Xo)) (t2.to (Kp.of Xo)) (t3.to (Kp.of Xo)) e9 (by rw[al9.len];exact z8 rfl) λb10 v10 H11 r10 Wz n10=>?_;have YH:=Xo.trans r10;have al10:=(al9.imp (Ml.to (Kp.of r10))).app n10;exact kl i a1 a2 a3 b10 _ _ _ YH Wz al10 (Nat.lt_of_sub_pos (by exact Nat.zero_lt_succ 14)) (λt ht=>ht)
noncomputable def MB(ns:List Int):Int:=ns.foldl (λg n=>Lo.gc g n) 0
theorem zh(ns:List Int)(n:Int):MB (ns++[n])=Lo.gc (MB ns) n:=by
 unfold MB;rw[List.foldl_append];rfl
theorem Iv:∀(ns:List Int)(g:Int),0<=g->0<=ns.foldl (λg n=>Lo.gc g n) g
 | [],_,h=>h
 | n::ns,g,_=>Iv ns _ (Lo.pL g n)
theorem tH(ns:List Int):0<=MB ns:=Iv ns 0 (C3 0)
theorem V0(a:Int)(h:0<=a):Lo.gc 0 a=a:=by
 unfold Lo.gc;rw[Int.gcd_zero_left];omega
theorem Z1{a:Int}(b c:Int)(h:0<=a):MB [a,b,c]=Hu.gg a b c:=by
 show Lo.gc (Lo.gc (Lo.gc 0 a) b) c=_;rw[V0 a h];rfl
theorem Z2{a:Int}(b:Int)(h:0<=a):MB [a,b]=Lo.gc a b:=by
 show Lo.gc (Lo.gc 0 a) b=_;rw[V0 a h]
noncomputable def sg(s:Int)(p q:T3):T3:=⟨p.u+s*q.u,p.v+s*q.v,p.w+s*q.w⟩
theorem Gb(p q:T3):sg 1 p q=Hu.pl p q:=by simp only[sg,Hu.pl,Lw]
theorem xW(p q:T3):sg (-1) p q=Hu.mi p q:=by
 simp only[sg,Hu.mi,T3.mk.injEq];omega
inductive Ga(K:W.Frag)(vs:List V)(H:Hp)(Q:VK)(E:XK):Prop
 | mk (x y p q) (s:Int):vs=[x,y,.int s]->Dat K H (LC p) x->Dat K H (LC q) y->(s=1\/s = -1)->Hu.R3 3000 q->(∀t H',aK H H'->Dat K H' (LC (sg s p q)) (.ref t)->Q (.ref t) H')->Ga K vs H Q E
theorem tX:∀ns:List Int,cB (λv n=>v=V.int n) (ns.map V.int) ns
 | []=>.nil
 | _::r=>.cons rfl (tX r)
inductive FU(vs:List V)(H:Hp)(Q:VK)(E:XK):Prop
 | mk (l ns):vs=[.ref l]->H l=some (.lst (ns.map V.int))->(∀n∈ns,0<=n)->MB ns≠0->Bg (MB ns)->ns.length<=100->(∀t H',aK H H'->H' t=some (.tup (ns.map λn=>V.int (n.fdiv (MB ns))))->Q (.ref t) H')->FU vs H Q E
inductive FT(vs:List V)(H:Hp)(Q:VK)(E:XK):Prop
 | mk (l ns):vs=[.ref l]->H l=some (.tup (ns.map V.int))->(∀n∈ns,0<=n)->MB ns≠0->Bg (MB ns)->ns.length<=100->(∀t H',aK H H'->H' t=some (.tup (ns.map λn=>V.int (n.fdiv (MB ns))))->Q (.ref t) H')->FT vs H Q E
theorem uL{ax ay D:Addr}{p q:T3}{R:Hp->Prop}
  (sx:Lz K H1 ax [.int p.u,.int p.v,.int p.w])(sy:Lz K H1 ay [.int q.u,.int q.v,.int q.w])(hD:H1 D=none)
  (hg:∀T' x y o1 o2 H R,Lz K H T' [x,y]->R (some x::some y::bR js σ) H->g (.ref T') (o1::o2::bR js σ) H R)
  (step:∀(x y:Int) H' k,(y=q.u\/y=q.v\/y=q.w)->(x=p.u\/x=p.v\/x=p.w)->k (.int (F x y)) H'->te (some (.int x)::some (.int y)::bR js σ) H' k)
  (fin:∀H',aK H1 H'->H' D=some (.lst [.int (F p.u q.u),.int (F p.v q.v),.int (F p.w q.w)])->R H') :
  ∃W:Nat->Nat->Hp->Prop,(∃m,W 0 m (upd H1 D (.lst [])))/\∀i m H2,W i m H2->((Fn K ax ay).stop i H2/\R H2)\/
   ((
    Fn K ax ay).go i H2/\∀o:St,o.length=2->∀v H3,(Fn K ax ay).yld i H2 v H3->g v (o++bR js σ) H3 λσ4 H4=>∃o',o'.length=2/\σ4=o'++bR js σ/\te (o'++bR js σ) H4 λy H5 =>
    ∃ys,H5 D=some (.lst ys)/\ys.length<sizeLine/\∃m',m'<m/\W (i+1) m' (upd H5 D (.lst (ys++[y])))):=by
 refine⟨λi m H2=>m=3-i/\i<=3/\aK H1 H2/\H2 D=some (.lst ([V.int (F p.u q.u),.int (F p.v q.v),.int (F p.w q.w)].take i)),⟨_,rfl,y7 _,ak hD _,ae⟩,?_⟩;rintro i m H2 ⟨rfl,hi,sm,Md⟩
 have M6:=sx.ts sm.ts;have M5:=sy.ts sm.ts
 by_cases LI:i<3
 .refine .inr ⟨⟨_,_,M6,M5,LI,c7 _⟩,λo ho v H3 y=>?_⟩;obtain⟨T',vs,nT,rfl,rfl,x,y,rfl,hx,hy⟩:=y;have zx:=hx _ M6;have zy:=hy _ M5;obtain⟨o1,o2,rfl⟩:=Pr ho;have uT:=ak nT (.tup [x,y]);refine hg T' x y o1 o2 _ _ (Lz.of ae) ⟨[some x,some y],rfl,rfl,?_⟩;have LY:=uT _ _ Md;rcases(show i=0\/i=1\/i=2 by omega) with rfl | rfl | rfl
  .cases zx
   cases zy
   exact step _ _ _ _ (.inl rfl) (.inl rfl) ⟨_,LY,aZ (by simp),3-1,by omega,rfl,by omega,aX (sm.trans uT) hD _,ae⟩
  .cases zx
   cases zy
   exact step _ _ _ _ (.inr (.inl rfl)) (.inr (.inl rfl)) ⟨_,LY,aZ (by simp),3-2,by omega,rfl,by omega,aX (sm.trans uT) hD _,ae⟩
  .cases zx
   cases zy
   exact step _ _ _ _ (.inr (.inr rfl)) (.inr (.inr rfl)) ⟨_,LY,aZ (by simp),3-3,by omega,rfl,by omega,aX (sm.trans uT) hD _,ae⟩
 .have ei:i=3:=by omega
  subst ei;exact .inl ⟨⟨_,_,M6,M5,c7 _,c7 _⟩,fin _ sm Md⟩
theorem ok_lsum(T:aC K mg "_law_sum" wo)(gD:mg "zip"=none)(aW:mg "tuple"=none):Def P w K mg base 1 "_law_sum" ["_law_one","_law_other","_law_by"] (Ga K):=by
 refine aQ T yh ?_ ?_
 .walk_at "i1"
 walk_at "i2";obtain⟨x,y,p,q,sn,rfl,dx,dy,hs,bq,k⟩:=h;obtain⟨ax,rfl,sx⟩:=cW dx;obtain⟨ay,rfl,sy⟩:=cW dy;have nd:=yh.nd;have bs:Bg sn:=dG (n:=1) (by rcases hs with rfl | rfl<;>decide) (by decide)
 obtain⟨q1,q2,q3⟩:=NQ bq;refine⟨_,(aq (av (cJ cH aW (aa (lP (xs:=["_law_a","_law_b"]) (oq rfl gD (pv 0) (pv 1)) (cq (j:=2) cC) (λ_ _ _ _=>lO (K:=K) (n:=2) rfl rfl (aY (aS (i:=0) (hN:=(show(["_law_a","_law_b","_law_by"]:List Str).Nodup by decide+kernel)) (hf:=(.inr rfl))) (aY (aS (i:=1) (hN:=(show(["_law_a","_law_b","_law_by"]:List Str).Nodup by decide+kernel)) (hf:=(.inr rfl))) cZ))) (λ_ _ _ _=>(aM cA (pv 0) (aM bu (pv 2) (pv 1))))) af)))),?_⟩;refine⟨_,rfl,_,rfl,ax,ay,_,_,rfl,rfl,sx,sy,λD hD=>?_⟩;refine uL (K:=K) (F:=λx y=>x+sn*y) sx sy hD (λT' x y o1 o2 H R s r=>⟨T',_,rfl,s,rfl,_,_,rfl,_,_,rfl,rfl,r⟩) (λx y H' k hy hx z=>?_) (λH' s' eD=>?_)
 .have TF:Bg y:=by rcases hy with rfl | rfl | rfl<;>assumption
  exact⟨_,rfl,_,rfl,_,rfl,_,_,rfl,rfl,dX bs TF,_,_,rfl,rfl,z⟩
 .refine⟨D,_,rfl,.inl ⟨LA.of eD,λtt M9=>?_⟩⟩;exact k tt _ (s'.trans (ak M9 _)) (cg (p:=sg sn p q) (Lz.of ae))
theorem ok_lwL(T:aC K mg "_law_lowest" jR)(aW:mg "tuple"=none):Def P w K mg base 1 "_law_lowest" ["_law_point"] FU:=by
 refine aQ T iX ?_ ?_
 .walk_at "i1"
 walk_at "i2";obtain⟨l,ns,rfl,el,pos,g0,gb,few,q⟩:=h;have nd:=iX.nd
 refine⟨_,(ah (aJ (i:=1) ao)
  (ah (eQ z7 rfl (cf (pv 0)) (aS (i:=2)) (aq (iQ z7 (aE ix (pv 2) ao (aI _)) (aq (sO (bc (aa (pv 2) (aa (aM iA (pv 1) (pv 2)) af))) (iR rfl (aY (aS (i:=1)) (aY (aS (i:=2)) cZ))))))))
  (aq (av (cJ cH aW (aa (dQ (cf (pv 0)) (cq (j:=1) cC) (λ_ _ _ _=>cM) (λ_ _ _ _=>(aM hV (pv 0) (pv 1)))) af)))))),?_⟩
 refine⟨_,rfl,l,rfl,⟨_,LA.of el⟩,?_⟩;refine eU (xs:=ns.map V.int) (λi σ H'=>aK H H'/\∃o2,σ=[some (.ref l),some (.int (MB (ns.take i))),o2]) ⟨aK.refl _,_,rfl⟩ (λi σ H' _ z=>LA.of (z.1 _ _ el)) (λi v σ H' hv z=>?_) (λσ H' z=>?_)
 .obtain⟨s1,o2,rfl⟩:=z;rw[x6]at hv;obtain⟨n,hn,rfl⟩:=JI.mp hv;have n0:=pos n (w8 hn);have gn:=tH (ns.take i);refine⟨λm σ LD=>aK H LD/\∃(g l':Int),σ=[some (.ref l),some (.int g),some (.int l')]/\0<=g/\0<=l'/\l'.toNat=m/\Lo.gc g l'=Lo.gc (MB (ns.take i)) n,⟨_,s1,_,_,rfl,gn,n0,rfl,rfl⟩,?_⟩;rintro m σ LD ⟨s2,g,l',rfl,hg,hl',rfl,e⟩
  refine⟨_,rfl,_,_,rfl,rfl,_,rfl,?_⟩;refine cU (λc=>?_) (λc=>?_)
  .have c2:0<l':=i9 c;refine⟨λσ' H3=>aK H H3/\σ'=[some (.ref l),some (.int l'),some (.int (g.fmod l'))],?_,?_⟩
   .rintro σ' H3 ⟨s3,rfl⟩
    have z0:=G5 g c2;have z1:=Jx g c2;exact⟨_,(show(g.fmod l').toNat<l'.toNat by omega),s3,l',g.fmod l',rfl,by omega,z0,rfl,by rw[Lo.xj];exact e⟩
   .exact⟨_,rfl,_,rfl,_,rfl,_,_,rfl,rfl,(by omega),(by show 2<=sizeLine;decide),λp hp=>⟨p,_,rfl,Lz.of ae,rfl,_,_,rfl,_,_,rfl,rfl,s2.trans (ak hp _),rfl⟩⟩
  .have c2:¬0<l':=λz=>c (i6 z);have l0:l'=0:=by omega
   subst l0;rw[Lo.xi hg]at e;refine⟨s2,some (.int 0),?_⟩;rw[A7,hn];show _=[_,some (V.int (MB (ns.take i++[n]))),_];rw[zh,<- e]
 .obtain⟨s1,o2,rfl⟩:=z;have el:=s1 _ _ el;rw[j4,A6];dsimp only[DF,Oi,tC,Oj,eZ,kE]
  refine comp_map (K:=K) (ts:=ns) (R:=λ_ v n=>v=V.int n) (xs:=ns.map V.int) (λn=>.int (n.fdiv (MB ns))) (λ_ _ _ _ _ h=>h) (λl' H2=>l'=l/\H2=H') (λR h=>⟨_,rfl,l,rfl,⟨_,LA.of el⟩,h l _ ⟨rfl,rfl⟩⟩) (λl' H2 h=>by obtain⟨rfl,rfl⟩:=h;exact⟨el,aK.refl _⟩) (by simp;omega)
   (tX ns) (λv n H2 N hn hv hN=>?_) (λD H2 s2 hD eD=>?_)
  .subst hv;exact⟨_,rfl,_,rfl,_,_,rfl,rfl,uv g0 gb,hN _ (aK.refl _)⟩
  .refine⟨D,_,rfl,.inl ⟨LA.of eD,λtt M9=>?_⟩⟩;exact q tt _ ((s1.trans s2).trans (ak M9 _)) ae
theorem ok_lwT(T:aC K mg "_law_lowest" jR)(aW:mg "tuple"=none):Def P w K mg base 1 "_law_lowest" ["_law_point"] FT:=by
 refine aQ T iX ?_ ?_
 .walk_at "i1"
 walk_at "i2";obtain⟨l,ns,rfl,el,pos,g0,gb,few,q⟩:=h;have nd:=iX.nd
 refine⟨_,(ah (aJ (i:=1) ao)
  (ah (eQ z7 rfl (kX (pv 0)) (aS (i:=2)) (aq (iQ z7 (aE ix (pv 2) ao (aI _)) (aq (sO (bc (aa (pv 2) (aa (aM iA (pv 1) (pv 2)) af))) (iR rfl (aY (aS (i:=1)) (aY (aS (i:=2)) cZ))))))))
  (aq (av (cJ cH aW (aa (dQ (kX (pv 0)) (cq (j:=1) cC) (λ_ _ _ _=>cM) (λ_ _ _ _=>(aM hV (pv 0) (pv 1)))) af)))))),?_⟩
 refine⟨_,rfl,l,rfl,⟨_,Lz.of el⟩,?_⟩;refine PJ (xs:=ns.map V.int) (λi σ H'=>aK H H'/\∃o2,σ=[some (.ref l),some (.int (MB (ns.take i))),o2]) ⟨aK.refl _,_,rfl⟩ (λi σ H' _ z=>Lz.of (z.1 _ _ el)) (λi v σ H' hv z=>?_) (λσ H' z=>?_)
 .obtain⟨s1,o2,rfl⟩:=z;rw[x6]at hv;obtain⟨n,hn,rfl⟩:=JI.mp hv;have n0:=pos n (w8 hn);have gn:=tH (ns.take i);refine⟨λm σ LD=>aK H LD/\∃(g l':Int),σ=[some (.ref l),some (.int g),some (.int l')]/\0<=g/\0<=l'/\l'.toNat=m/\Lo.gc g l'=Lo.gc (MB (ns.take i)) n,⟨_,s1,_,_,rfl,gn,n0,rfl,rfl⟩,?_⟩;rintro m σ LD ⟨s2,g,l',rfl,hg,hl',rfl,e⟩
  refine⟨_,rfl,_,_,rfl,rfl,_,rfl,?_⟩;refine cU (λc=>?_) (λc=>?_)
  .have c2:0<l':=i9 c;refine⟨λσ' H3=>aK H H3/\σ'=[some (.ref l),some (.int l'),some (.int (g.fmod l'))],?_,?_⟩
   .rintro σ' H3 ⟨s3,rfl⟩
    have z0:=G5 g c2;have z1:=Jx g c2;exact⟨_,(show(g.fmod l').toNat<l'.toNat by omega),s3,l',g.fmod l',rfl,by omega,z0,rfl,by rw[Lo.xj];exact e⟩
   .exact⟨_,rfl,_,rfl,_,rfl,_,_,rfl,rfl,(by omega),(by show 2<=sizeLine;decide),λp hp=>⟨p,_,rfl,Lz.of ae,rfl,_,_,rfl,_,_,rfl,rfl,s2.trans (ak hp _),rfl⟩⟩
  .have c2:¬0<l':=λz=>c (i6 z);have l0:l'=0:=by omega
   subst l0;rw[Lo.xi hg]at e;refine⟨s2,some (.int 0),?_⟩;rw[A7,hn];show _=[_,some (V.int (MB (ns.take i++[n]))),_];rw[zh,<- e]
 .obtain⟨s1,o2,rfl⟩:=z;have el:=s1 _ _ el;rw[j4,A6];dsimp only[DF,Oi,tC,Oj,eZ,kE]
  refine vF (K:=K) (ts:=ns) (R:=λ_ v n=>v=V.int n) (xs:=ns.map V.int) (λn=>.int (n.fdiv (MB ns))) (λ_ _ _ _ _ h=>h) (λl' H2=>l'=l/\H2=H') (λR h=>⟨_,rfl,l,rfl,⟨_,Lz.of el⟩,h l _ ⟨rfl,rfl⟩⟩) (λl' H2 h=>by obtain⟨rfl,rfl⟩:=h;exact⟨el,aK.refl _⟩) (by simp;omega)
   (tX ns) (λv n H2 N hn hv hN=>?_) (λD H2 s2 hD eD=>?_)
  .subst hv;exact⟨_,rfl,_,rfl,_,_,rfl,rfl,uv g0 gb,hN _ (aK.refl _)⟩
  .refine⟨D,_,rfl,.inl ⟨LA.of eD,λtt M9=>?_⟩⟩;exact q tt _ ((s1.trans s2).trans (ak M9 _)) ae
theorem AG(T:aC K mg "_law_tells" pe):Def P w K mg base 1 "_law_tells" ["_law_rule_here","_law_corner"] (vR K):=by
 refine aQ T rX ?_ ?_
 .walk_at "i1"
 walk_at "i2";obtain⟨x,y,r,p,rfl,dx,dy,br,bp,q⟩:=h;obtain⟨ar,rfl,sr⟩:=cW dx;obtain⟨ap,rfl,st⟩:=cW dy;obtain⟨r1,r2,r3⟩:=NQ br;obtain⟨p1,p2,p3⟩:=NQ bp;have nd:=rX.nd;refine⟨_,(aq (av (aM cA (aM cA (aM bu (aB az (pv 0) ao) (aB az (pv 1) ao)) (aM bu (aB az (pv 0) ao) (aB az (pv 1) ao))) (aM bu (aB az (pv 0) ao) (aB az (pv 1) ao))))),?_⟩;exact⟨_,rfl,_,_,_,_,rfl,rfl,sr,rfl,_,rfl,_,_,_,_,rfl,rfl,st,rfl,_,_,rfl,rfl,dX r1 p2,_,rfl,_,_,_,_,rfl,rfl,sr,rfl,_,rfl,_,_,_,_,rfl,rfl,st,rfl,_,_,rfl,rfl,dX r2 p3,_,_,rfl,rfl,_,rfl,_,_,_,_,rfl,rfl,sr,rfl,_,rfl,_,_,_,_,rfl,rfl,st,rfl,_,_,rfl,rfl,dX r3 p1,_,_,rfl,rfl,q⟩
theorem dF{h:List T3}{x:T3}:Hu.bo h (Hu.z0,x,x)=some x:=by
 unfold Hu.bo;rw[d8 (λq _=>JZ (Hu.pY q))]
theorem Ym{k:Nat}(hk:k<4)(t1 t2 t3 t4:V):fM (bX [] [(Sum.inr "never",t1),(Sum.inr "always",t2),(Sum.inr "p",t3),(Sum.inr "q",t4)]) (Sum.inr (lw k))=some (if k=0 then t1 else if k=1 then t2 else if k=2 then t3 else t4):=by
 simp only[bX,Kt,KO,jq];rcases(by omega:k=0\/k=1\/k=2\/k=3) with rfl | rfl | rfl | rfl
 .rw[i5 (by decide+kernel),i5 (by decide+kernel),i5 (by decide+kernel),d8 (by decide+kernel)];rfl
 .rw[i5 (by decide+kernel),i5 (by decide+kernel),d8 (by decide+kernel)];rfl
 .rw[i5 (by decide+kernel),d8 (by decide+kernel)];rfl
 .rw[d8 (by decide+kernel)];rfl
theorem Ql(t1 t2:V)(h:(Sum.inr a:Key)≠Sum.inr b):fM (bX [] [(Sum.inr a,t1),(Sum.inr b,t2)]) (Sum.inr a)=some t1:=by
 simp only[bX,Kt,KO,jq];rw[i5 h,d8 trivial]
theorem Qk(t1 t2:V):fM (bX [] [(Sum.inr a,t1),(Sum.inr b,t2)]) (Sum.inr b)=some t2:=by
 simp only[bX,Kt,KO,jq];rw[d8 trivial]
theorem Yn(t1:V):fM (bX [] [(Sum.inr a,t1)]) (Sum.inr a)=some t1:=by
 simp only[bX,Kt,KO,jq];rw[d8 trivial]
theorem xK(e:H l=some (.dK LB)):Mv H (upd H l u):=
 ⟨λb ys h=>by rw[aA (sT h e (by intro z;cases z))];exact h,λb o u h=>by rw[aA (sT h e (by intro z;cases z))];exact h⟩
inductive vX(K:W.Frag)(vs:List V)(H:Hp)(Q:VK)(E:XK):Prop
 | mk (x lr lh ws hs r rs h):vs=[x,.ref lr,.ref lh]->Dat K H (mU r) x->H lr=some (.lst ws)->DatAll K H (rs.map LC) ws->r.Ok rs.length->Hu.Rb rs->rs.length<=100->H lh=some (.lst hs)->DatAll K H (h.map LC) hs->(∀p∈h,Hu.R3 3000 p)->0<h.length->h.length<=900->((∀x u t H',aK H H'->Hu.bo h (Hu.choice rs r)=some x->Dat K H' (LC x) u->H' t=some (.tup [u,.non])->Q (.ref t) H'))->((Hu.bo h (Hu.choice rs r)=none->∀u t H',aK H H'->Dat K H' (LC (Hu.choice rs r).1) u->H' t=some (.tup [.non,u])->Q (.ref t) H'))->vX K vs H Q E
inductive nV(K:W.Frag)(vs:List V)(H:Hp)(Q:VK)(E:XK):Prop
 | mk (l lh us hs rows h):vs=[.ref l,.ref lh]->H l=some (.lst us)->DatAll K H (rows.map mU) us->nB rows->rows.length<=100->H lh=some (.lst hs)->DatAll K H (h.map LC) hs->(∀p∈h,Hu.R3 3000 p)->0<h.length->h.length<=900->((∀rs t lr ws H',aK H H'->Hu.run h rows []=.rules rs->Hu.Rb rs->rs.length=rows.length->H' t=some (.tup [.ref lr,.non])->H' lr=some (.lst ws)->DatAll K H' (rs.map LC) ws->Q (.ref t) H'))->((∀(k:Nat) tt t v H',aK H H'->Hu.run h rows []=.mixed k tt->k<rows.length->Hu.R3 (k+1) tt->H' t=some (.tup [.non,v])->Dat K H' (LC tt) v->Q (.ref t) H'))->nV K vs H Q E
theorem Hq(T:aC K mg "_law_rule" kQ)(bE:mg "len"=none)(bS:mg "min"=none)(ck:mg "max"=none)(fB:Def P w K mg base 1 "_law_sum" ["_law_one","_law_other","_law_by"] (Ga K))(dP:Def P w K mg base 1 "_law_tells" ["_law_rule_here","_law_corner"] (vR K)):Def P w K mg base 2 "_law_rule" ["_law_row","_law_rules_here","_law_hull"] (vX K):=by
 refine aQ T uY ?_ ?_
 .walk_at "i1"
 walk_at "i2";obtain⟨x,lr,lh,ws,hs,r,rs,h,rfl,dx,MG,dr,ok,rb,few,Nf,dh,bp,pos,Mz,q1,q2⟩:=h;have nd:=uY.nd;obtain⟨a,rfl,sa⟩:=Gz dx;have d2:(2:Nat)<=sizeLine:=by decide
 have d3:(3:Nat)<=sizeLine:=by decide
 obtain⟨cb,_,_⟩:=Hu.lE rb ok
 have t8:∃t,LV (cN CX0 P w K mg base yS "_law_rule" (au kQ) f cdv A outer s H E).nox ((bI kQ).drop 8) t/\
   ∀H1 (k i j:Nat) x1 x2 x3 dw tw LB o3 o4 o5 o8,r=.fd k i j->aK H H1->H1 dw=some (.dK LB)->fM LB (Sum.inr (fw k))=some (.ref tw)->Lz K H1 tw [x2,x3]->Dat K H1 (LC (Hu.choice rs r).1) x1->Dat K H1 (LC (Hu.choice rs r).2.1) x2->Dat K H1 (LC (Hu.choice rs r).2.2) x3->
    t {nx:=λ_ H'=>Q .non H',rt:=Q} [some (.ref a),some (.ref lr),some (.ref lh),o3,o4,o5,some x1,some (.ref dw),o8] H1:=by
  refine⟨_,(ah (jX (i:=8) (cf (pv 2)) (cq (j:=6) cC) (λ_ _ _ _=>cM) (λ_ _ _ _=>(aH dP (aa (pv 1) (aa (pv 0) af)))))
  (ah (aT (aE jF (aG (jI rfl) ck (aa (pv 8) af)) ao (aI _)) (aq (av (bc (aa (aB az (qQ (CZ hr) (pv 7) (aB az (pv 0) ao)) ao) (aa bN af))))) aL)
  (ah (aT (aE sR (aG (iI rfl) bS (aa (pv 8) af)) ao (aI _)) (aq (av (bc (aa (aB az (qQ (CZ hr) (pv 7) (aB az (pv 0) ao)) ao) (aa bN af))))) aL)
  (aq (av (bc (aa bN (aa (pv 6) af)))))))),?_⟩
  intro H1 k i j x1 x2 x3 dw tw LB o3 o4 o5 o8 er s1 ed ev st e1 e2 e3;refine⟨_,rfl,lh,rfl,⟨hs,LA.of (s1 _ _ Nf)⟩,λD hD=>?_⟩;refine ri (K:=K) (r:=(Hu.choice rs r).1) (λH' s'=>LA.of (s' _ _ (s1 _ _ Nf))) (dh.ts s1.ts) Mz hD ?step ?fin
  case step =>
   intro v p H' kk s' hp dp q;exact⟨_,rfl,_,rfl,x1,v,(Hu.choice rs r).1,p,rfl,e1.ts s'.ts,dp,cb.mono (by omega),bp p hp,q⟩
  intro H4 s4 hD4;have m4:=s1.trans s4;have L4:0<(h.map (Hu.tl (Hu.choice rs r).1)).length:=by rw[j4];exact pos
  have YB:Lz K H4 a (Xy r):=sa.ts m4.ts;have hrw:Xy r=[.str (fw k),.int i,.int j]:=by rw[er];rfl
  rw[hrw]at YB;refine⟨_,rfl,D,_,rfl,LA.of hD4,L4,λM hM MR=>?_⟩;refine⟨_,_,rfl,rfl,_,rfl,?_⟩;obtain⟨p1,Mi,Ut⟩:=y9.mp hM;refine cU (λcc=>?_) (λcc=>?_)
  .have c':M<=0:=i9 cc;have al:∀q∈h,Hu.tl (Hu.choice rs r).1 q<=0:=λq hq=>JL (MR _ (y9.mpr ⟨q,hq,rfl⟩)) c';refine⟨_,rfl,_,rfl,_,_,_,_,rfl,rfl,YB,rfl,dw,_,rfl,(show kA H4 dw (kV (Sum.inr (fw k))) (some (.ref tw)) from by rw[<- ev];exact kA.k (s4 _ _ ed)),_,_,_,_,rfl,rfl,st.ts s4.ts,rfl,d2,λp hp=>?_⟩;have u:=ak hp (.tup [x2,.non]);exact q1 _ _ p _ (m4.trans u) (by unfold Hu.bo;rw[d8 al]) ((e2.ts s4.ts).ts u.ts) ae
  have c1:¬M<=0:=λz=>cc (i6 z);have n1:¬ ∀q∈h,Hu.tl (Hu.choice rs r).1 q<=0:=λz=>by have:=z p1 Mi;omega
  refine⟨_,rfl,D,_,rfl,LA.of hD4,L4,λM2 Oy MF=>?_⟩;refine⟨_,_,rfl,rfl,_,rfl,?_⟩;obtain⟨p2,LO,QW⟩:=y9.mp Oy;refine cU (λcc=>?_) (λcc=>?_)
  .have c':0<=M2:=i9 cc;have al:∀q∈h,0<=Hu.tl (Hu.choice rs r).1 q:=λq hq=>JL c' (MF _ (y9.mpr ⟨q,hq,rfl⟩));refine⟨_,rfl,_,rfl,_,_,_,_,rfl,rfl,YB,rfl,dw,_,rfl,(show kA H4 dw (kV (Sum.inr (fw k))) (some (.ref tw)) from by rw[<- ev];exact kA.k (s4 _ _ ed)),_,_,_,_,rfl,rfl,st.ts s4.ts,rfl,d2,λp hp=>?_⟩;have u:=ak hp (.tup [x3,.non]);exact q1 _ _ p _ (m4.trans u) (by unfold Hu.bo;rw[i5 n1,d8 al]) ((e3.ts s4.ts).ts u.ts) ae
  .have c2:¬0<=M2:=λz=>cc (i6 z);have n2:¬ ∀q∈h,0<=Hu.tl (Hu.choice rs r).1 q:=λz=>by have:=z p2 LO;omega
   refine⟨_,rfl,d2,λp hp=>?_⟩;have u:=ak hp (.tup [.non,x1]);exact q2 (by unfold Hu.bo;rw[i5 n1,i5 n2]) _ p _ (m4.trans u) ((e1.ts s4.ts).ts u.ts) ae
 obtain⟨t8,ht8,Up⟩:=t8
 refine⟨_,un (aP (vC (lU cy (zf bL bE (aV (hv 0) bf)) gf (aI _)) (aP (gP (i:=3) (qV (fZ dN (bO (bG (bG (bG bf)))) (fZ dN (bO (bG (bG (bG bf)))) (fZ dN (bO (bG (bG (bG bf)))) (fZ dN (bO (bG (bG (bG bf)))) qU)))) rfl rfl (by intro z;cases z) (by decide)))
  (gZ (Be (bO (aV (PD (CZ hr) (hv 3) (qm az (hv 0) gf)) (aV Ik bf)))))) lV) (aP (gP (i:=4) (qm bC (hv 1) (qm az (hv 0) gf))) (aP (vC (lU cy (zf bL bE (aV (hv 0) bf)) gf (aI _)) (gZ (Be (bO (aV (gQ fB (fg (bO (bG (bG (bG bf)))) (aV (hv 4) (aV (Dc gE gf) bf)))) (aV Ik bf))))) lV) (aP (gP (i:=5) (qm bC (hv 1) (qm az (hv 0) gf))) (aP (gP (i:=6) (gQ fB (aV (gQ fB (aV (hv 4) (aV (hv 5) (bG bf)))) (fg (bO (bG (bG (bG bf)))) (aV (Dc gE gf) bf))))) (aP (gP (i:=7) (qV (fZ dN (bO (aV (gQ fB (aV (hv 4) (aV (hv 5) (bG bf)))) (fg (bO (bG (bG (bG bf)))) bf))) (fZ dN (bO (fg (bO (bG (bG (bG bf)))) (aV (hv 6) bf))) qU)) rfl rfl (by intro z;cases z) (by decide))) (aP (vC (lU lQ (qm az (hv 0) gf) (bO (aV dN (aV dN bf))) rfl) (aP (gP (i:=6) (gQ fB (aV (hv 4) (aV (hv 5) (aV (Dc gE gf) bf)))))
  (gZ (gP (i:=7) (qV (fZ dN (bO (aV (hv 5) (aV (hv 4) bf))) (fZ dN (bO (aV (hv 4) (aV (hv 5) bf))) qU)) rfl rfl (by intro z;cases z) (by decide))))) lV) (aP (vC (lU cy (qm az (hv 0) gf) dN (aI _)) (aP (gP (i:=6) (gQ fB (aV (hv 5) (aV (hv 4) (aV (Dc gE gf) bf)))))
  (gZ (gP (i:=7) (qV (fZ dN (bO (aV (gQ fB (fg (bO (bG (bG (bG bf)))) (aV (hv 6) (bG bf)))) (fg (bO (bG (bG (bG bf)))) bf))) qU) rfl rfl (by intro z;cases z) (by decide))))) lV) ⟨ht8⟩)))))))),?_⟩
 cases r with
 | lf k =>
  have hk:k<4:=ok;refine⟨_,rfl,_,_,rfl,.inr ⟨_,sa,rfl⟩,rfl,_,rfl,dR ?_⟩;intro dw VU;refine⟨d3,λt1 h1=>⟨d3,λt2 h2=>⟨d3,λt3 h3=>⟨d3,λt4 h4=>?_⟩⟩⟩⟩;have u0:=ak VU (.dK []);have u1:=ak h1 (.tup [.int 0,.int 0,.int 0]);have u2:=ak h2 (.tup [.int 0,.int 0,.int 1]);have u3:=ak h3 (.tup [.int 1,.int 0,.int 0]);have u4:=ak h4 (.tup [.int 0,.int 1,.int 0]);have e1:=(u2.trans (u3.trans u4)) _ _ ae;have e2:=(u3.trans u4) _ _ ae;have e3:=u4 _ _ ae;have e4:_=some (HO.tup [.int 0,.int 1,.int 0]):=ae (H:=upd (upd (upd (upd H dw (.dK [])) t1 (.tup [.int 0,.int 0,.int 0])) t2 (.tup [.int 0,.int 0,.int 1])) t3 (.tup [.int 1,.int 0,.int 0])) (a:=t4);have ed:=(u1.trans (u2.trans (u3.trans u4))) _ _ ae;have s5:=u0.trans (u1.trans (u2.trans (u3.trans u4)));generalize upd (upd (upd (upd (upd H dw (.dK [])) t1 (.tup [.int 0,.int 0,.int 0])) t2 (.tup [.int 0,.int 0,.int 1])) t3 (.tup [.int 1,.int 0,.int 0])) t4 (.tup [.int 0,.int 1,.int 0])=H5 at *;refine⟨ed,[(Sum.inr "never",.ref t1),(Sum.inr "always",.ref t2),(Sum.inr "p",.ref t3),(Sum.inr "q",.ref t4)],rfl,z8 rfl,?_⟩;have tm:Mv H5 (upd H5 dw (.dK (bX [] [(Sum.inr "never",.ref t1),(Sum.inr "always",.ref t2),(Sum.inr "p",.ref t3),(Sum.inr "q",.ref t4)]))):=xK ed;have s6:=aX s5 VU (.dK (bX [] [(Sum.inr "never",.ref t1),(Sum.inr "always",.ref t2),(Sum.inr "p",.ref t3),(Sum.inr "q",.ref t4)]));have hv:=Ym hk (.ref t1) (.ref t2) (.ref t3) (.ref t4);have ed6:upd H5 dw (.dK (bX [] [(Sum.inr "never",.ref t1),(Sum.inr "always",.ref t2),(Sum.inr "p",.ref t3),(Sum.inr "q",.ref t4)])) dw=some (.dK (bX [] [(Sum.inr "never",.ref t1),(Sum.inr "always",.ref t2),(Sum.inr "p",.ref t3),(Sum.inr "q",.ref t4)])):=ae;have D1:=((cg (K:=K) (p:=Hu.lft 0) (Lz.of e1)).ts tm);have D2:=((cg (K:=K) (p:=Hu.lft 1) (Lz.of e2)).ts tm);have D3:=((cg (K:=K) (p:=Hu.lft 2) (Lz.of e3)).ts tm);have D4:=((cg (K:=K) (p:=Hu.lft 3) (Lz.of e4)).ts tm);generalize bX [] [(Sum.inr "never",V.ref t1),(Sum.inr "always",.ref t2),(Sum.inr "p",.ref t3),(Sum.inr "q",.ref t4)]=LB at *;generalize upd H5 dw (.dK LB)=H6 at *
  have dv:Dat K H6 (LC (Hu.lft k)) (if k=0 then .ref t1 else if k=1 then .ref t2 else if k=2 then .ref t3 else .ref t4):=by
   rcases(by omega:k=0\/k=1\/k=2\/k=3) with rfl | rfl | rfl | rfl
   .exact D1
   .exact D2
   .exact D3
   .exact D4
  generalize (if k=0 then V.ref t1 else if k=1 then .ref t2 else if k=2 then .ref t3 else .ref t4)=u at hv dv;refine⟨_,rfl,_,rfl,_,_,_,_,rfl,rfl,sa.ts s6.ts,rfl,dw,u,rfl,(show kA H6 dw (kV (Sum.inr (lw k))) (some u) from by rw[<- hv];exact kA.k ed6),d2,λp hp=>?_⟩;have u7:=ak hp (.tup [u,.non]);exact q1 _ u p _ (s6.trans u7) dF (dv.ts u7.ts) ae
 | nt i =>
  obtain⟨y,hy,dy⟩:=ma dr (getD_at (show i<rs.length from ok));have TF:=(Hu.qj rb (show i<rs.length from ok)).mono (show rs.length<=3000 by omega)
  refine⟨_,rfl,_,_,rfl,.inr ⟨_,sa,rfl⟩,rfl,_,rfl,bJ ?_⟩;refine⟨_,rfl,_,rfl,_,_,_,_,rfl,rfl,sa,rfl,_,_,_,_,rfl,rfl,LA.of MG,cF hy,?_⟩;refine⟨_,rfl,_,_,rfl,.inr ⟨_,sa,rfl⟩,rfl,_,rfl,dR ?_⟩;refine⟨d3,λt1 h1=>?_⟩;have u1:=ak h1 (.tup [.int 0,.int 0,.int 1]);refine⟨_,rfl,_,rfl,.ref t1,y,Hu.al,rs.getD i Hu.z0,-1,rfl,cg (p:=Hu.al) (Lz.of ae),dy.ts u1.ts,.inr rfl,TF,λt2 H2 s2 e2=>?_⟩;rw[xW]at e2;refine⟨d2,λp hp=>?_⟩;have u3:=ak hp (.tup [.ref t2,.non]);exact q1 _ (.ref t2) p _ ((u1.trans s2).trans u3) dF (e2.ts u3.ts) ae
 | fd k i j =>
  obtain⟨hk,hi,hj⟩:=ok;obtain⟨y,hy,dy⟩:=ma dr (getD_at hi);obtain⟨z,hz,dz⟩:=ma dr (getD_at hj);have TF:=(Hu.qj rb hi).mono (show rs.length<=3000 by omega)
  have X7:=(Hu.qj rb hj).mono (show rs.length<=3000 by omega);have byz:=(Hu.vh (Hu.qj rb hj) (Hu.qj rb hi)).mono (show rs.length+1<=3000 by omega);have ech:Hu.choice rs (.fd k i j)=Hu.fch k (rs.getD i Hu.z0) (rs.getD j Hu.z0):=rfl;rw[ech]at Up;generalize rs.getD i Hu.z0=A1 at *;generalize rs.getD j Hu.z0=B1 at *;refine⟨_,rfl,_,_,rfl,.inr ⟨_,sa,rfl⟩,rfl,_,rfl,bJ ?_⟩;refine⟨_,rfl,_,rfl,_,_,_,_,rfl,rfl,sa,rfl,_,_,_,_,rfl,rfl,LA.of MG,cF hy,?_⟩;refine⟨_,rfl,_,_,rfl,.inr ⟨_,sa,rfl⟩,rfl,_,rfl,bJ ?_⟩;refine⟨_,rfl,_,rfl,_,_,_,_,rfl,rfl,sa,rfl,_,_,_,_,rfl,rfl,LA.of MG,cF hz,?_⟩;refine⟨_,rfl,_,rfl,y,z,A1,B1,1,rfl,dy,dz,.inl rfl,X7,λt1 H1 s1 e1=>⟨d3,λt2 h2=>?_⟩⟩;rw[Gb]at e1;have u2:=ak h2 (.tup [.int 0,.int 0,.int 1]);refine⟨_,rfl,.ref t1,.ref t2,Hu.pl A1 B1,Hu.al,-1,rfl,e1.ts u2.ts,cg (p:=Hu.al) (Lz.of ae),.inr rfl,(Hu.wG 0).mono (by decide),λt3 H3 s3 e3=>?_⟩;rw[xW]at e3;have m3:=(s1.trans u2).trans s3;intro dw VU;have u4:=ak VU (.dK []);have ed4:upd H3 dw (.dK []) dw=some (.dK []):=ae;generalize upd H3 dw (.dK [])=H4 at u4 ed4 ⊢;have m4:=m3.trans u4;refine⟨_,rfl,_,rfl,y,z,A1,B1,1,rfl,dy.ts m4.ts,dz.ts m4.ts,.inl rfl,X7,λt5 H5 s5 e5=>⟨d3,λt6 h6=>⟨d2,λt7 h7=>⟨d3,λRD h8=>⟨_,rfl,d2,λt9 h9=>?_⟩⟩⟩⟩⟩;rw[Gb]at e5;have u6:=ak h6 (.tup [.int 0,.int 0,.int 1]);have u7:=ak h7 (.tup [.ref t5,.ref t6]);have u8:=ak h8 (.tup [.int 0,.int 0,.int 0]);have u9:=ak h9 (.tup [.ref RD,.ref t3]);have ed9:=(s5.trans (u6.trans (u7.trans (u8.trans u9)))) _ _ ed4;have f6:=(u7.trans (u8.trans u9)) _ _ ae;have f7:=(u8.trans u9) _ _ ae;have f8:=u9 _ _ ae;have f9:upd (upd (upd (upd H5 t6 (.tup [.int 0,.int 0,.int 1])) t7 (.tup [.ref t5,.ref t6])) RD (.tup [.int 0,.int 0,.int 0])) t9 (.tup [.ref RD,.ref t3]) t9=some (.tup [.ref RD,.ref t3]):=ae;have e59:=e5.ts (u6.trans (u7.trans (u8.trans u9))).ts;have Zi:=s5.trans (u6.trans (u7.trans (u8.trans u9)));generalize upd (upd (upd (upd H5 t6 (.tup [.int 0,.int 0,.int 1])) t7 (.tup [.ref t5,.ref t6])) RD (.tup [.int 0,.int 0,.int 0])) t9 (.tup [.ref RD,.ref t3])=H9 at *;refine⟨ed9,[(Sum.inr "more",.ref t7),(Sum.inr "less",.ref t9)],rfl,z8 rfl,?_⟩;have m9:=(m3.trans u4).trans Zi;have tA:Mv H9 (upd H9 dw (.dK (bX [] [(Sum.inr "more",.ref t7),(Sum.inr "less",.ref t9)]))):=xK ed9;have mA:aK H (upd H9 dw (.dK (bX [] [(Sum.inr "more",.ref t7),(Sum.inr "less",.ref t9)]))):=aX m9 (m3.free VU) _;have edA:upd H9 dw (.dK (bX [] [(Sum.inr "more",.ref t7),(Sum.inr "less",.ref t9)])) dw=some (.dK (bX [] [(Sum.inr "more",.ref t7),(Sum.inr "less",.ref t9)])):=ae;have g3:=(e3.ts (u4.trans Zi).ts).ts tA;have g5:=e59.ts tA;have g6:=(cg (K:=K) (p:=Hu.al) (Lz.of f6)).ts tA;have g7:=(Lz.of (K:=K) f7).ts tA;have g8:=(cg (K:=K) (p:=Hu.z0) (Lz.of f8)).ts tA;have g9:=(Lz.of (K:=K) f9).ts tA;have v7:=Ql (a:="more") (b:="less") (V.ref t7) (V.ref t9) (by decide+kernel);have v9:=Qk (a:="more") (b:="less") (V.ref t7) (V.ref t9);generalize bX [] [(Sum.inr "more",V.ref t7),(Sum.inr "less",.ref t9)]=LB at *;generalize upd H9 dw (.dK LB)=HA at *;clear ed9 f6 f7 f8 f9 e59 Zi e5 s5 h6 h7 h8 h9 u6 u7 u8 u9;have Qx:=sa.ts mA.ts;rcases(by omega:k=0\/k=1\/k=2\/k=3\/k=4) with rfl | rfl | rfl | rfl | rfl
  .refine⟨_,rfl,_,_,_,_,rfl,rfl,Qx,rfl,d2,λpB hB=>⟨pB,_,rfl,.inr (Lz.of ae),rfl,rfl,_,rfl,lB (by decide+kernel) ?_⟩⟩;have uB:=ak hB (.tup [V.str "greater",.str "lesser"]);refine⟨_,rfl,_,_,_,_,rfl,rfl,Qx.ts uB.ts,rfl,rfl,_,rfl,ite_no (by decide+kernel) ?_⟩;exact Up _ 0 i j (.ref t3) (.ref t5) (.ref t6) dw t7 LB _ _ _ _ rfl (mA.trans uB) (uB _ _ edA) v7 (g7.ts uB.ts) (g3.ts uB.ts) (g5.ts uB.ts) (g6.ts uB.ts)
  .refine⟨_,rfl,_,_,_,_,rfl,rfl,Qx,rfl,d2,λpB hB=>⟨pB,_,rfl,.inr (Lz.of ae),rfl,rfl,_,rfl,lB (by decide+kernel) ?_⟩⟩;have uB:=ak hB (.tup [V.str "greater",.str "lesser"]);refine⟨_,rfl,_,_,_,_,rfl,rfl,Qx.ts uB.ts,rfl,rfl,_,rfl,ite_no (by decide+kernel) ?_⟩;exact Up _ 1 i j (.ref t3) (.ref RD) (.ref t3) dw t9 LB _ _ _ _ rfl (mA.trans uB) (uB _ _ edA) v9 (g9.ts uB.ts) (g3.ts uB.ts) (g8.ts uB.ts) (g3.ts uB.ts)
  .refine⟨_,rfl,_,_,_,_,rfl,rfl,Qx,rfl,d2,λpB hB=>⟨pB,_,rfl,.inr (Lz.of ae),rfl,rfl,_,rfl,lA (by decide+kernel) ?_⟩⟩;have uB:=ak hB (.tup [V.str "greater",.str "lesser"]);have mB:=mA.trans uB;refine⟨_,rfl,_,rfl,_,rfl,y,z,A1,B1,-1,rfl,dy.ts mB.ts,dz.ts mB.ts,.inr rfl,X7,λtC HC sC eC=>?_⟩;rw[xW]at eC;have mC:=mB.trans sC;intro OC hd2;have uD:=ak hd2 (.dK []);refine⟨_,rfl,_,rfl,d2,λtE hE=>⟨_,rfl,_,rfl,d2,λtF hF=>?_⟩⟩;have uE:=ak hE (.tup [z,y]);have uF:=ak hF (.tup [y,z]);have Wu:=(uE.trans uF) _ _ ae;have fE:=uF _ _ ae;have mF:=mC.trans (uD.trans (uE.trans uF));have eF:=eC.ts (uD.trans (uE.trans uF)).ts;generalize upd (upd (upd HC OC (.dK [])) tE (.tup [z,y])) tF (.tup [y,z])=HF at *;refine⟨Wu,[(Sum.inr "greater",.ref tE),(Sum.inr "lesser",.ref tF)],rfl,z8 rfl,?_⟩;have tG:=xK (u:=.dK (bX [] [(Sum.inr "greater",.ref tE),(Sum.inr "lesser",.ref tF)])) Wu;have mG:=aX mF (mC.free hd2) (.dK (bX [] [(Sum.inr "greater",.ref tE),(Sum.inr "lesser",.ref tF)]));refine⟨_,rfl,_,_,_,_,rfl,rfl,sa.ts mG.ts,rfl,rfl,_,rfl,ite_no (by decide+kernel) ?_⟩;exact Up _ 2 i j (.ref tC) z y OC tE _ _ _ _ _ rfl mG ae (Ql _ _ (by decide+kernel)) ((Lz.of (K:=K) fE).ts tG) (eF.ts tG) (dz.ts mG.ts) (dy.ts mG.ts)
  .refine⟨_,rfl,_,_,_,_,rfl,rfl,Qx,rfl,d2,λpB hB=>⟨pB,_,rfl,.inr (Lz.of ae),rfl,rfl,_,rfl,lA (by decide+kernel) ?_⟩⟩;have uB:=ak hB (.tup [V.str "greater",.str "lesser"]);have mB:=mA.trans uB;refine⟨_,rfl,_,rfl,_,rfl,y,z,A1,B1,-1,rfl,dy.ts mB.ts,dz.ts mB.ts,.inr rfl,X7,λtC HC sC eC=>?_⟩;rw[xW]at eC;have mC:=mB.trans sC;intro OC hd2;have uD:=ak hd2 (.dK []);refine⟨_,rfl,_,rfl,d2,λtE hE=>⟨_,rfl,_,rfl,d2,λtF hF=>?_⟩⟩;have uE:=ak hE (.tup [z,y]);have uF:=ak hF (.tup [y,z]);have Wu:=(uE.trans uF) _ _ ae;have fF:upd (upd (upd HC OC (.dK [])) tE (.tup [z,y])) tF (.tup [y,z]) tF=some (.tup [y,z]):=ae;have mF:=mC.trans (uD.trans (uE.trans uF));have eF:=eC.ts (uD.trans (uE.trans uF)).ts;generalize upd (upd (upd HC OC (.dK [])) tE (.tup [z,y])) tF (.tup [y,z])=HF at *;refine⟨Wu,[(Sum.inr "greater",.ref tE),(Sum.inr "lesser",.ref tF)],rfl,z8 rfl,?_⟩;have tG:=xK (u:=.dK (bX [] [(Sum.inr "greater",.ref tE),(Sum.inr "lesser",.ref tF)])) Wu;have mG:=aX mF (mC.free hd2) (.dK (bX [] [(Sum.inr "greater",.ref tE),(Sum.inr "lesser",.ref tF)]));refine⟨_,rfl,_,_,_,_,rfl,rfl,sa.ts mG.ts,rfl,rfl,_,rfl,ite_no (by decide+kernel) ?_⟩;exact Up _ 3 i j (.ref tC) y z OC tF _ _ _ _ _ rfl mG ae (Qk _ _) ((Lz.of (K:=K) fF).ts tG) (eF.ts tG) (dy.ts mG.ts) (dz.ts mG.ts)
  .refine⟨_,rfl,_,_,_,_,rfl,rfl,Qx,rfl,d2,λpB hB=>⟨pB,_,rfl,.inr (Lz.of ae),rfl,rfl,_,rfl,lB (by decide+kernel) ?_⟩⟩;have uB:=ak hB (.tup [V.str "greater",.str "lesser"]);have mB:=mA.trans uB;refine⟨_,rfl,_,_,_,_,rfl,rfl,Qx.ts uB.ts,rfl,rfl,_,rfl,ite_yes rfl ?_⟩;refine⟨_,rfl,_,rfl,_,rfl,z,y,B1,A1,-1,rfl,dz.ts mB.ts,dy.ts mB.ts,.inr rfl,TF,λtC HC sC eC=>?_⟩;rw[xW]at eC;have mC:=mB.trans sC;intro OC hd2;have uD:=ak hd2 (.dK []);refine⟨d3,λt0 h0=>?_⟩;have u0:=ak h0 (.tup [.int 0,.int 0,.int 1]);refine⟨_,rfl,.ref t0,.ref tC,Hu.al,Hu.mi B1 A1,1,rfl,cg (p:=Hu.al) (Lz.of ae),eC.ts (uD.trans u0).ts,.inl rfl,byz,λtE HE sE eE=>⟨d3,λtF hF=>⟨d2,λtG hG=>?_⟩⟩⟩;rw[Gb]at eE;have uF:=ak hF (.tup [.int 0,.int 0,.int 1]);have uG:=ak hG (.tup [.ref tE,.ref tF]);have edG:=(sE.trans (uF.trans uG)) _ _ (u0 _ _ (show upd HC OC (.dK []) OC=some (.dK []) from ae));have fF:=uG _ _ ae;have fG:upd (upd HE tF (.tup [.int 0,.int 0,.int 1])) tG (.tup [.ref tE,.ref tF]) tG=some (.tup [.ref tE,.ref tF]):=ae;have mD:=(uD.trans u0).trans (sE.trans (uF.trans uG));have eG:=eE.ts (uF.trans uG).ts;generalize upd (upd HE tF (.tup [.int 0,.int 0,.int 1])) tG (.tup [.ref tE,.ref tF])=HG at *;refine⟨edG,[(Sum.inr "leads",.ref tG)],rfl,z8 rfl,?_⟩;have tI:=xK (u:=.dK (bX [] [(Sum.inr "leads",.ref tG)])) edG;have mG:=aX (mC.trans mD) (mC.free hd2) (.dK (bX [] [(Sum.inr "leads",.ref tG)]));exact Up _ 4 i j (.ref tC) (.ref tE) (.ref tF) OC tG _ _ _ _ _ rfl mG ae (Yn _) ((Lz.of (K:=K) fG).ts tI) ((eC.ts mD.ts).ts tI) (eG.ts tI) ((cg (K:=K) (p:=Hu.al) (Lz.of fF)).ts tI)
theorem Ee(T:aC K mg "_law_cut" fP)(bS:mg "min"=none)(ck:mg "max"=none)(cV:mg "enumerate"=none)(bE:mg "len"=none)(gD:mg "zip"=none)(gp:mg "abs"=none)
  (dP:Def P w K mg base 1 "_law_tells" ["_law_rule_here","_law_corner"] (vR K))(jo:Def P w K mg base 1 "_law_lowest" ["_law_point"] FU):Def P w K mg base 3 "_law_cut" ["_law_hull","_law_rule_here"] (vZ K):=by
 refine aQ T yj ?_ ?_
 .walk_at "i1"
 walk_at "i2";obtain⟨l,x,us,h,r,rfl,hl,da,dx,hu,SJ,kn,kc⟩:=h;have nd:=yj.nd;have lu:=fc da;have Mf:=hu.pos;have Mz:=hu.few;have br:Hu.R3 3000 r:=SJ.mono (by decide);have bp:∀p∈h,Hu.R3 3000 p:=λp hp=>((hu.ok p hp).r).mono (by decide);have tb:∀i,(Hu.tv r h i).natAbs<2^2000:=λi=>i7 (Hu.tl_b SJ (hu.ok _ (Hu.cD Mf i)).r) (G0 (by decide) (by decide));have tB:∀i,Bg (Hu.tv r h i):=λi=>dG (tb i) (by decide)
 have t3:∃t,LV (cN CX0 P w K mg base oz "_law_cut" (au fP) f cdv A outer s H E).nox ((lW (DH fP 4)).drop 4) t/\
   ∀N B H1 H' d lo hi v (i:Nat) L1 L2 o8 o9,i<h.length->MI K H1 H' lo hi L1 L2->H1 l=some (.lst us)->H1 d=some (.lst ((h.map (Hu.tl r)).map V.int))->H1 lo=none->H1 hi=none->lo≠hi->DatAll K H1 (h.map LC) us->Dat K H' (LC (Hu.cor h i)) v->L1.length<=900->L2.length<=900->
    (∀LD Nu Uk,MI K H1 LD lo hi (L1++(if Hu.tv r h i*Hu.tv r h (i+1)<0 then[Hu.mid (Hu.cor h i) (Hu.cor h (i+1)) (Hu.tv r h i) (Hu.tv r h (i+1))] else[])) (L2++(if Hu.tv r h i*Hu.tv r h (i+1)<0 then[Hu.mid (Hu.cor h i) (Hu.cor h (i+1)) (Hu.tv r h i) (Hu.tv r h (i+1))] else[]))->
     N [some (.ref l),some x,some (.ref d),some (.ref lo),some (.ref hi),some (.int i),some v,some (.int (Hu.tv r h i)),some (.int (Hu.tv r h (i+1))),Nu,Uk] LD)->
    t {nx:=N,ct:=N,bk:=B,rt:=Q} [some (.ref l),some x,some (.ref d),some (.ref lo),some (.ref hi),some (.int i),some v,some (.int (Hu.tv r h i)),some (.int (Hu.tv r h (i+1))),o8,o9] H':=by
  refine⟨_,(aq (aT (aE jb (aM bu (pv 7) (pv 8)) ao (aI _)) (ah (aJ (i:=9) (aB bC (pv 0) (aM iA (aM cA (pv 5) ao) (aG bL bE (aa (pv 0) af)))))
  (ah (aJ (i:=10) (aH jo (aa (lP (xs:=["_law_a","_law_b"]) (oq rfl gD (pv 6) (pv 9)) (cq (j:=8) (cq (j:=7) cC)) (λ_ _ _ _=>lO (K:=K) (n:=2) rfl rfl (aY (aS (i:=0) (hN:=(show(["_law_a","_law_b","_law_there","_law_here"]:List Str).Nodup by decide+kernel)) (hf:=(.inr rfl))) (aY (aS (i:=1) (hN:=(show(["_law_a","_law_b","_law_there","_law_here"]:List Str).Nodup by decide+kernel)) (hf:=(.inr rfl))) cZ))) (λ_ _ _ _=>(aM cA (aM bu (aG gk gp (aa (pv 2) af)) (pv 0)) (aM bu (aG gk gp (aa (pv 3) af)) (pv 1))))) af)))
  (ah (bB (cO c6 j7 j8 bj (pv 3) (aa (pv 10) af)))
  (aq (bB (cO c6 j7 j8 bj (pv 4) (aa (pv 10) af))))))) aL)),?_⟩
  intro N B H1 H' d lo hi v i L1 L2 o8 o9 Mj mi L8 MC L7 LZ ne Mq dv l1 l2 n;have jl:(i+1)%h.length<h.length:=Lk _ Mf;have sd:LA K H' d ((h.map (Hu.tl r)).map V.int):=LA.of (mi.sm _ _ MC);have ai:=iy (r:=r) Mj;have aj:=iy (r:=r) jl;rw[Hu.zU]at aj;refine⟨_,rfl,_,rfl,_,_,rfl,rfl,dX (tB _) (tB _),_,_,rfl,rfl,_,rfl,?_⟩;refine cU (λc=>?_) (λc=>?_)
  .have c':Hu.tv r h i*Hu.tv r h (i+1)<0:=i9 c;rw[d8 c']at n;obtain⟨y,hy,dy⟩:=ma (Mq.ts mi.sm.ts) (Hu.kj jl);rw[Hu.oF]at dy;have sl:LA K H' l us:=LA.of (mi.sm _ _ L8);have hp:=hu.ok _ (Hu.cD Mf i);have hq:=hu.ok _ (Hu.cD Mf (i+1));obtain⟨u0,ub⟩:=vm (a:=Hu.cor h i) (b:=Hu.cor h i) (z5 hp.n0) (z5 hq.n0) hp.n1 hq.n1 (tb i) (tb (i+1));obtain⟨v0,vb⟩:=vm (a:=Hu.cor h i) (b:=Hu.cor h i) hp.x0 hq.x0 hp.x1 hq.x1 (tb i) (tb (i+1));obtain⟨w0,wb⟩:=vm (a:=Hu.cor h i) (b:=Hu.cor h i) hp.y0 hq.y0 hp.y1 hq.y1 (tb i) (tb (i+1));have up:=Hu.jc hp hq c';obtain⟨g0,gb⟩:=QT (V:=Hu.nm (Hu.cor h i).v (Hu.cor h (i+1)).v (Hu.tv r h i) (Hu.tv r h (i+1))) (W:=Hu.nm (Hu.cor h i).w (Hu.cor h (i+1)).w (Hu.tv r h i) (Hu.tv r h (i+1))) up ub;have bs:Bg ((Hu.tv r h i).natAbs:Int):=dG (n:=2000) (by simpa using tb i) (by decide);have bt:Bg ((Hu.tv r h (i+1)).natAbs:Int):=dG (n:=2000) (by simpa using tb (i+1)) (by decide);obtain⟨pb1,pb2,pb3⟩:=NQ (hp.r.mono (by decide));obtain⟨qb1,qb2,qb3⟩:=NQ (hq.r.mono (by decide));obtain⟨ax,rfl,sx⟩:=cW dv;obtain⟨ay,rfl,sy⟩:=cW dy;refine⟨_,rfl,_,rfl,_,_,rfl,rfl,_,rfl,_,_,rfl,.inl ⟨_,sl,rfl⟩,_,_,rfl,rfl,(by rw[lu];omega),_,_,_,_,rfl,rfl,sl,(by rw[lu];show MW us (Int.fmod ((i:Int)+1) (h.length:Int))=_;rw[Hu.tK];exact cF hy),?_⟩;refine⟨_,rfl,_,rfl,ax,ay,_,_,rfl,rfl,sx,sy,λD hD=>?_⟩;refine uL (K:=K) (F:=λx y=>Hu.nm x y (Hu.tv r h i) (Hu.tv r h (i+1))) sx sy hD (λT' x y o1 o2 H R s r=>⟨T',_,rfl,s,rfl,_,_,rfl,_,_,rfl,rfl,r⟩) (λx y H' k hy hx z=>?_) (λH2 s2 eD=>?_)
   .have TF:Bg y:=by rcases hy with rfl | rfl | rfl<;>assumption
    have bx':Bg x:=by rcases hx with rfl | rfl | rfl<;>assumption
    refine⟨_,rfl,_,rfl,_,rfl,_,_,rfl,rfl,(by rw[dH];exact dX bt bx'),_,rfl,_,rfl,_,rfl,_,_,rfl,rfl,(by rw[dH];exact dX bs TF),_,_,rfl,rfl,?_⟩;rw[dH,dH];exact z
   have ge:=Z1 (Hu.nm (Hu.cor h i).v (Hu.cor h (i+1)).v (Hu.tv r h i) (Hu.tv r h (i+1))) (Hu.nm (Hu.cor h i).w (Hu.cor h (i+1)).w (Hu.tv r h i) (Hu.tv r h (i+1))) u0;refine⟨D,[_,_,_],rfl,eD,λn hn=>?_,by rw[ge];exact g0,by rw[ge];exact gb,by simp,λmt H3 s3 em=>?_⟩
   .simp only[j6,A2,F9]at hn;rcases hn with rfl | rfl | rfl<;>assumption
   rw[ge]at em;have dm:Dat K H3 (LC (Hu.mid (Hu.cor h i) (Hu.cor h (i+1)) (Hu.tv r h i) (Hu.tv r h (i+1)))) (.ref mt):=cg (p:=Hu.mid _ _ _ _) (Lz.of em);obtain⟨m,em'⟩:∃m,m=V.ref mt:=⟨_,rfl⟩;rw[<- em']at dm ⊢;have s2:=s2.trans s3;have m2:=mi.new s2;obtain⟨⟨u1,e1,k1⟩,u2,e2,k2⟩:=m2.len (by omega) (by omega);refine⟨_,rfl,.inl ⟨rfl,_,LA.of e1⟩,_,rfl,lo,u1,_,rfl,rfl,e1,aZ k1,?_⟩;have m3:=m2.app1 L7 ne e1 dm;have N9:(upd H3 lo (.lst (u1++[m]))) hi=some (.lst u2):=by rw[aA (Jp ne)];exact e2
   refine⟨_,rfl,.inl ⟨rfl,_,LA.of N9⟩,_,rfl,hi,u2,_,rfl,rfl,N9,aZ k2,?_⟩;exact n _ _ _ (m3.app2 LZ ne N9 (dm.ts (dj e1)))
  .have c':¬Hu.tv r h i*Hu.tv r h (i+1)<0:=λz=>c (i6 z);rw[i5 c',B0,B0]at n;exact n _ _ _ mi
 obtain⟨t3,VM,QN⟩:=t3
 have t2:∃t,LV (cN CX0 P w K mg base oz "_law_cut" (au fP) f cdv A outer s H E).nox ((lW (DH fP 4)).drop 3) t/\
   ∀N B H1 H' d lo hi v (i:Nat) L1 L2 o8 o9,i<h.length->MI K H1 H' lo hi L1 L2->H1 l=some (.lst us)->H1 d=some (.lst ((h.map (Hu.tl r)).map V.int))->H1 lo=none->H1 hi=none->lo≠hi->DatAll K H1 (h.map LC) us->Dat K H' (LC (Hu.cor h i)) v->L1.length<=800->L2.length<=800->
    (∀LD Nu Uk,MI K H1 LD lo hi (L1++(if Hu.tv r h i*Hu.tv r h (i+1)<0 then[Hu.mid (Hu.cor h i) (Hu.cor h (i+1)) (Hu.tv r h i) (Hu.tv r h (i+1))] else[])) (L2++Hu.stp h (Hu.tn r h) i)->
     N [some (.ref l),some x,some (.ref d),some (.ref lo),some (.ref hi),some (.int i),some v,some (.int (Hu.tv r h i)),some (.int (Hu.tv r h (i+1))),Nu,Uk] LD)->
    t {nx:=N,ct:=N,bk:=B,rt:=Q} [some (.ref l),some x,some (.ref d),some (.ref lo),some (.ref hi),some (.int i),some v,some (.int (Hu.tv r h i)),some (.int (Hu.tv r h (i+1))),o8,o9] H':=by
  refine⟨_,ah (aT (aE sR (pv 7) ao (aI _)) (aq (bB (cO c6 j7 j8 bj (pv 4) (aa (pv 6) af)))) aL) VM,?_⟩;intro N B H1 H' d lo hi v i L1 L2 o8 o9 Mj mi L8 MC L7 LZ ne Mq dv l1 l2 n;have sd:LA K H' d ((h.map (Hu.tl r)).map V.int):=LA.of (mi.sm _ _ MC);have ai:=iy (r:=r) Mj;rw[Hu.xS]at n;refine⟨_,rfl,_,_,rfl,rfl,_,rfl,?_⟩;refine cU (λc=>?_) (λc=>?_)
  .have c':0<=Hu.tv r h i:=i9 c;rw[d8 c']at n;obtain⟨_,u2,e2,k2⟩:=mi.len (by omega) (by omega);refine⟨_,rfl,.inl ⟨rfl,_,LA.of e2⟩,_,rfl,hi,u2,_,rfl,rfl,e2,aZ k2,?_⟩;refine QN N B H1 _ d lo hi v i L1 (L2++[Hu.cor h i]) o8 o9 Mj (mi.app2 LZ ne e2 dv) L8 MC L7 LZ ne Mq (dv.ts (dj e2)) (by omega) (by simp;omega) λLD o' Vq m=>n LD o' Vq ?_;rw[w6]at m;exact m
  .have c':¬0<=Hu.tv r h i:=λz=>c (i6 z);rw[i5 c',x9]at n;exact QN N B H1 _ d lo hi v i L1 L2 o8 o9 Mj mi L8 MC L7 LZ ne Mq dv (by omega) (by omega) n
 obtain⟨t2,Zt,Mu⟩:=t2
 have t1:∃t,LV (cN CX0 P w K mg base oz "_law_cut" (au fP) f cdv A outer s H E).nox (lW (DH fP 4)) t/\
   ∀N B H1 H' d lo hi v (i:Nat) L1 L2 o6 o7 o8 o9,i<h.length->MI K H1 H' lo hi L1 L2->H1 l=some (.lst us)->H1 d=some (.lst ((h.map (Hu.tl r)).map V.int))->H1 lo=none->H1 hi=none->lo≠hi->DatAll K H1 (h.map LC) us->Dat K H' (LC (Hu.cor h i)) v->L1.length<=700->L2.length<=700->
    (∀LD o6' Vp Nu Uk,MI K H1 LD lo hi (L1++Hu.stp h (Hu.tv r h) i) (L2++Hu.stp h (Hu.tn r h) i)->
     N [some (.ref l),some x,some (.ref d),some (.ref lo),some (.ref hi),some (.int i),some v,o6',Vp,Nu,Uk] LD)->
    t {nx:=N,ct:=N,bk:=B,rt:=Q} [some (.ref l),some x,some (.ref d),some (.ref lo),some (.ref hi),some (.int i),some v,o6,o7,o8,o9] H':=by
  refine⟨_,ah (aJ (i:=7) (aB bC (pv 2) (pv 5))) (ah (aJ (i:=8) (aB bC (pv 2) (aM iA (aM cA (pv 5) ao) (aG bL bE (aa (pv 0) af))))) (ah (aT (aE jF (pv 7) ao (aI _)) (aq (bB (cO c6 j7 j8 bj (pv 3) (aa (pv 6) af)))) aL) Zt)),?_⟩;intro N B H1 H' d lo hi v i L1 L2 o6 o7 o8 o9 Mj mi L8 MC L7 LZ ne Mq dv l1 l2 n;have sl:LA K H' l us:=LA.of (mi.sm _ _ L8);have sd:LA K H' d ((h.map (Hu.tl r)).map V.int):=LA.of (mi.sm _ _ MC);have ai:=iy (r:=r) Mj;have jl:(i+1)%h.length<h.length:=Lk _ Mf;have aj:=iy (r:=r) jl;rw[Hu.zU]at aj;refine⟨_,rfl,_,rfl,_,_,_,_,rfl,rfl,sd,ai,?_⟩;refine⟨_,rfl,_,rfl,_,_,rfl,rfl,_,rfl,_,_,rfl,.inl ⟨_,sl,rfl⟩,_,_,rfl,rfl,(by rw[lu];omega),_,_,_,_,rfl,rfl,sd,(by rw[lu];show MW _ (Int.fmod ((i:Int)+1) (h.length:Int))=_;rw[Hu.tK];exact aj),?_⟩;refine⟨_,rfl,_,_,rfl,rfl,_,rfl,?_⟩;refine cU (λc=>?_) (λc=>?_)
  .have c':Hu.tv r h i<=0:=i9 c;obtain⟨⟨u1,e1,k1⟩,_⟩:=mi.len (by omega) (by omega);refine⟨_,rfl,.inl ⟨rfl,_,LA.of e1⟩,_,rfl,lo,u1,_,rfl,rfl,e1,aZ k1,?_⟩;refine Mu N B H1 _ d lo hi v i (L1++[Hu.cor h i]) L2 o8 o9 Mj (mi.app1 L7 ne e1 dv) L8 MC L7 LZ ne Mq (dv.ts (dj e1)) (by simp;omega) (by omega) λLD o' Vq m=>n LD _ _ o' Vq ?_;rw[w6]at m;rw[show Hu.stp h (Hu.tv r h) i=[Hu.cor h i]++(if Hu.tv r h i*Hu.tv r h (i+1)<0 then[Hu.mid (Hu.cor h i) (Hu.cor h (i+1)) (Hu.tv r h i) (Hu.tv r h (i+1))] else[]) by unfold Hu.stp;rw[d8 c']];exact m
  .have c':¬Hu.tv r h i<=0:=λz=>c (i6 z);refine Mu N B H1 _ d lo hi v i L1 L2 o8 o9 Mj mi L8 MC L7 LZ ne Mq dv (by omega) (by omega) λLD o' Vq m=>n LD _ _ o' Vq ?_;rw[show Hu.stp h (Hu.tv r h) i=(if Hu.tv r h i*Hu.tv r h (i+1)<0 then[Hu.mid (Hu.cor h i) (Hu.cor h (i+1)) (Hu.tv r h i) (Hu.tv r h (i+1))] else[]) by unfold Hu.stp;rw[i5 c',x9]];exact m
 obtain⟨t1,SF,Ov⟩:=t1
 have t4:∃t,LV (cN CX0 P w K mg base oz "_law_cut" (au fP) f cdv A outer s H E).nox ((bI fP).drop 2) t/\
   ∀H1 d,¬Hu.hX r h->aK H H1->H1 d=some (.lst ((h.map (Hu.tl r)).map V.int))->t {nx:=λ_ H'=>Q .non H',rt:=Q} [some (.ref l),some x,some (.ref d),none,none,none,none,none,none,none,none] H1:=by
  refine⟨_,ah (aJ (i:=3) (bW af)) (ah (aJ (i:=4) (bW af)) (ah (eQ z7 rfl (wJ rfl cV (pv 0)) (iR rfl (aY (aS (i:=5)) (aY (aS (i:=6)) cZ))) SF) (aq (av (bc (aa (pv 3) (aa (pv 4) af))))))),?_⟩;intro H1 d nc sm hd;have L8:=sm _ _ hl;have Mq:=da.ts sm.ts;refine⟨(by show 0<=sizeLine;decide),λlo L7=>⟨(by show 0<=sizeLine;decide),λhi LZ=>?_⟩⟩;have u1:=ak L7 (.lst []);have u2:=ak LZ (.lst []);have ne:lo≠hi:=λz=>by subst z;rw[ae]at LZ;cases LZ
  have NZ:H1 hi=none:=by rw[aA (Jp ne)]at LZ;exact LZ
  refine⟨_,rfl,l,rfl,⟨us,LA.of ((u1.trans u2) _ _ L8)⟩,?_⟩
  refine tJ (xs:=us) (λi σ H'=>i<=us.length/\MI K H1 H' lo hi (Hu.fl (Hu.stp h (Hu.tv r h)) i) (Hu.fl (Hu.stp h (Hu.tn r h)) i)/\∃o5 o6 o7 o8 o9 Xz,σ=[some (.ref l),some x,some (.ref d),some (.ref lo),some (.ref hi),o5,o6,o7,o8,o9,Xz])
   ⟨y7 _,⟨u1.trans u2,[],[],u2 _ _ ae,ae,rfl,rfl⟩,_,_,_,_,_,_,rfl⟩ (λi σ H' _ z=>LA.of (z.2.1.sm _ _ L8)) (λi v T' σ H' hv z hT=>?_) (λσ H' z=>?_)
  .obtain⟨_,mi,o5,o6,o7,o8,o9,Xz,rfl⟩:=z;have Mj:i<us.length:=(d6.mp hv).1;have uT:=ak hT (.tup [.int i,v]);obtain⟨p,hp,dp⟩:=kF (Mq.ts mi.sm.ts) hv;have ep:p=Hu.cor h i:=by rw[Hu.kj (by omega)]at hp;exact(l7 hp).symm
   subst ep;have f1:=Hu.tL (Hu.nP hu (Hu.tv r h)).len i;have f2:=Hu.tL (Hu.nP hu (Hu.tn r h)).len i;refine⟨T',_,rfl,Lz.of ae,rfl,_,_,rfl,_,_,rfl,rfl,?_⟩;refine Ov _ _ H1 _ d lo hi v i _ _ o7 o8 o9 Xz (by omega) (mi.new uT) L8 hd L7 NZ ne Mq (dp.ts uT.ts) (by omega) (by omega) λLD Vp Nu Uk o10' m=>⟨Mj,?_,_,_,_,_,_,_,rfl⟩;rw[Hu.bD,Hu.bD];exact m
  .obtain⟨_,mi,o5,o6,o7,o8,o9,Xz,rfl⟩:=z;rw[lu]at mi;refine⟨_,rfl,_,rfl,(by show 2<=sizeLine;decide),λtt M9=>?_⟩;have u3:=ak M9 (.tup [.ref lo,.ref hi]);obtain⟨w1,w2,e1,e2,d1,d2⟩:=(mi.new u3).ex;refine kc nc _ _ (sm.trans (mi.sm.trans u3)) ⟨tt,lo,hi,w1,w2,rfl,ne,?_,?_,Lz.of ae,e1,e2,d1,d2⟩
   .exact sm.free L7
   .exact sm.free NZ
 obtain⟨t4,SE,Uq⟩:=t4;refine⟨_,ah (jX (i:=2) (cf (pv 0)) (cq (j:=1) cC) (λ_ _ _ _=>cM) (λ_ _ _ _=>(aH dP (aa (pv 1) (aa (pv 0) af))))) (ah (aT (PW.pt (eM (aE sR (aG (iI rfl) bS (aa (pv 2) af)) ao (aI _)) (fV (aE jF (aG (jI rfl) ck (aa (pv 2) af)) ao (aI _))))) (aq (av bN)) aL) SE),?_⟩;refine⟨_,rfl,l,rfl,⟨us,LA.of hl⟩,λd hd0=>?_⟩;refine ri (K:=K) (r:=r) (λH' s'=>LA.of (s' _ _ hl)) da (by omega) hd0 ?step ?fin
 case step =>
  intro v p H' kk sm hp dp q;exact⟨_,rfl,_,rfl,x,v,r,p,rfl,dx.ts sm.ts,dp,br,bp p hp,q⟩
 intro H1 s1 hd;have L4:0<(h.map (Hu.tl r)).length:=by rw[j4];exact Mf
 refine⟨_,rfl,d,_,rfl,LA.of hd,L4,λM hM MF=>?_⟩;refine⟨_,_,rfl,rfl,_,rfl,?_⟩;refine cU (λc=>?_) (λc=>?_)
 .have c':0<=M:=i9 c;exact kn (.inl λp hp=>JL c' (MF _ (y9.mpr ⟨p,hp,rfl⟩))) _ s1
 have c1:¬0<=M:=λz=>c (i6 z);refine⟨_,rfl,d,_,rfl,LA.of hd,L4,λM2 Oy MR=>?_⟩;refine⟨_,_,rfl,rfl,_,rfl,?_⟩;refine cU (λc=>?_) (λc=>?_)
 .have c':M2<=0:=i9 c;exact kn (.inr λp hp=>JL (MR _ (y9.mpr ⟨p,hp,rfl⟩)) c') _ s1
 have c2:¬M2<=0:=λz=>c (i6 z);obtain⟨p1,Mi,Ut⟩:=y9.mp hM;obtain⟨p2,LO,QW⟩:=y9.mp Oy;refine Uq H1 d (λnc=>?_) s1 hd;rcases nc with z | z
 .have:=z p1 Mi;omega
 .have:=z p2 LO;omega
noncomputable def eO:List Tr->List Rw->List Rw×List Nat
 | [],rs=>(rs,[])
 | t::r,rs=>((eO r (t.putR rs).1).1,(t.putR rs).2::(eO r (t.putR rs).1).2)
theorem mV(x:Tr):∀l rs,eO (l++[x]) rs=((x.putR (eO l rs).1).1,(eO l rs).2++[(x.putR (eO l rs).1).2])
 | [],rs=>rfl
 | t::r,rs=>by
  show((eO (r++[x]) (t.putR rs).1).1,(t.putR rs).2::(eO (r++[x]) (t.putR rs).1).2)=_;rw[mV x r];rfl
theorem DP(t:Tr)(rs:List Rw):t.putR rs=bg (eO t.kids rs).1 (fu t.word (eO t.kids rs).2):=by cases t<;>rfl
theorem pD:∀l rs,(eO l rs).1.length<=rs.length+bY l
 | [],rs=>by simp[eO,bY]
 | t::r,rs=>by
  have h1:=jD t rs;have h2:=pD r (t.putR rs).1;have e:bY (t::r)=t.size+bY r:=by simp[bY]
  show(eO r (t.putR rs).1).1.length<=_;omega
theorem sM:∀l rs,(∀x∈rs,pR x)->∀x∈(eO l rs).1,pR x
 | [],rs,h=>h
 | t::r,rs,h=>sM r _ (qO t rs h)
theorem vi:∀l rs,(eO l rs).2.length=l.length
 | [],rs=>rfl
 | t::r,rs=>z6 (·+1) (vi r _)
theorem Aj(l:List Tr)(i:Nat):bY (l.take i)<=bY l:=by
 have:bY l=bY (l.take i)+bY (l.drop i):=by rw[<- lK,List.take_append_drop]
 omega
inductive rB(n:Nat)(vs:List V)(H:Hp)(Q:VK)(E:XK):Prop
 | mk (a t):vs=[.ref a]->Tu H a t->t.size<=n->(∀H',aK H H'->Q (.int (t.nf:Int)) H')->rB n vs H Q E
theorem Pu(t:Tr):(if(t.kids.length+1:Nat)=3 then(1:Int) else 0)+(t.kids.map λx=>(x.nf:Int)).sum=(t.nf:Int):=by
 cases t with
 | no t=>rw[CK];simp[Tr.kids]
 | fold u a b=>rw[qS];simp[Tr.kids];omega
 | never=>rfl
 | always=>rfl
 | lp=>rfl
 | lq=>rfl
variable{c:CCs}
theorem CH(T:aC K mg "_law_folds" pw)(Dr:mg "sum"=none)(fK:mg "int"=none)(bE:mg "len"=none):∀n:Nat,Def P w K mg base (n+1) "_law_folds" ["_law_tree"] (rB n):=by
 intro n
 induction n with
 | zero =>
  refine aQ T mL ?_ ?_
  .walk_at "i1"
  .walk_at "i2";obtain⟨a,t,rfl,_,z,_⟩:=h;have:=t.size_pos;omega
 | succ n cG =>
  refine aQ T mL ?_ ?_
  .walk_at "i1"
  walk_at "i2";obtain⟨a,t,rfl,tu,hz,q⟩:=h;have nd:=mL.nd;obtain⟨us,e,ou⟩:=tu.parts;have ul:=ou.len;refine⟨_,(aq (av (aM cA (cJ jJ fK (aa (dM cy (aG bL bE (aa (pv 0) af)) ao (aI _)) af)) (aG (ES rfl) Dr (aa (dQ (kX (iS qN (pv 0) (jY ao) jZ)) cC (λ_ _ _ _=>cM) (λ_ _ _ _=>(aH cG (aa (pv 0) af)))) af))))),?_⟩;refine⟨_,rfl,_,_,rfl,.inr ⟨_,Lz.of e,rfl⟩,rfl,.inr ⟨_,rfl,?_⟩⟩;dsimp only[DF,Oi,tC,Oj,eZ,kE];refine iH ?_;refine⟨_,rfl,_,rfl,?_⟩;dsimp only[nM];refine sl1 (K:=K) e λp hp=>?_;refine⟨p,rfl,⟨_,Lz.of ae⟩,?_⟩;have sp:=ak hp (.tup us)
  refine vF (K:=K) (ts:=t.kids) (R:=Ml) (xs:=us) (λx=>.int (x.nf:Int)) (λ_ _ v t e h=>Ml.to (Kp.of e) v t h) (λl H'=>l=p/\H'=upd H p (.tup us)) (λR h=>h p _ ⟨rfl,rfl⟩) (λl H' h=>by obtain⟨rfl,rfl⟩:=h;exact⟨ae,aK.refl _⟩) (by rw[ul];have:=lz t;omega)
   (ou.imp (Ml.to (Kp.of sp))) (λv x H' N hx hv hN=>?_) (λD H6 s6 hD eD=>?_)
  .obtain⟨b,rfl,tb⟩:=hv;have:=sZ hx;exact⟨_,rfl,b,x,rfl,tb,by omega,hN⟩
  .refine⟨D,t.kids.map λx=>(x.nf:Int),rfl,LA.of (by rw[Kb];exact eD),_,_,rfl,rfl,?_⟩;have ks:=Pu t
   have e1:(if decide (V.int (((V.str t.word::us).length:Nat):Int)=V.int 3)=true then(1:Int) else 0)=if t.kids.length+1=3 then(1:Int) else 0:=by
    rw[m6,ul]
    by_cases h3:t.kids.length+1=3
    .rw[d8 h3,h3,d8 (by decide)]
    .rw[i5 h3,i5 (λz=>h3 (by have:=V.int.inj (i9 z);omega))]
   try dsimp only
   rw[e1,ks];exact q _ (sp.trans s6)
inductive vS(K:W.Frag)(n:Nat)(vs:List V)(H:Hp)(Q:VK)(E:XK):Prop
 | mk (a l t rs us):vs=[.ref a,.ref l]->Tu H a t->t.size<=n->H l=some (.lst us)->cB (LU H) us rs->rs.length+t.size<=1000->(∀x∈rs,pR x)->(∀H' us',SB (.ref l) H H'->H' l=some (.lst us')->cB (LU H') us' (t.putR rs).1->Q (.int ((t.putR rs).2:Nat)) H')->vS K n vs H Q E
theorem ok_rt50(T:aC K mg "_law_rows_to" kR)(aW:mg "tuple"=none):∀n:Nat,Def P w K mg base (n+1) "_law_rows_to" ["_law_tree","_law_rows"] (vS K n):=by
 intro n
 induction n with
 | zero =>
  refine aQ T jO ?_ ?_
  .walk_at "i1"
  .walk_at "i2";obtain⟨a,l,t,rs,us,rfl,_,z,_⟩:=h;have:=t.size_pos;omega
 | succ n eV =>
  refine aQ T jO ?_ ?_
  .walk_at "i1"
  walk_at "i2";obtain⟨a,l,t,rs,vs0,rfl,tu,hz,el,rv,hb,rok,q⟩:=h;have nd:=jO.nd;have hu:=hr.units;obtain⟨us,e,ou⟩:=tu.parts;refine⟨_,(ah (jX (i:=2) (kX (iS qN (pv 0) (jY ao) jZ)) (cq (j:=1) cC) (λ_ _ _ _=>cM) (λ_ _ _ _=>(aH eV (aa (pv 0) (aa (pv 1) af)))))
  (ah (aJ (i:=3) (aM CG (bc (aa (aB az (pv 0) ao) af)) (cJ cH aW (aa (pv 2) af))))
  (ah (aT (aE (DT hu) (pv 3) (pv 1) rfl) (aq (bB (cO c6 j7 j8 bj (pv 1) (aa (pv 3) af)))) aL)
  (aq (av (cO c6 PySem.F.slot_list_index PySem.F.type_list_index (Ex hu) (pv 1) (aa (pv 3) af))))))),?_⟩
  have ksz:=vx t;have kl:=lz t;have ul:=ou.len;dsimp only[jt,nO];refine iH ?_;refine⟨_,rfl,_,rfl,?_⟩;dsimp only[nM];refine sl1 (K:=K) e λp hp=>?_;refine⟨p,rfl,⟨_,Lz.of ae⟩,?_⟩;have sp:=ak hp (.tup us);have ep:upd H p (.tup us) p=some (.tup us):=ae;generalize upd H p (.tup us)=H1 at sp ep ⊢;have Nx:=sp _ _ el
  refine zp (K:=K) (xs:=us) (λl' H'=>l'=p/\H'=H1) (λR h=>h p _ ⟨rfl,rfl⟩) (λl' H' h=>by obtain⟨rfl,rfl⟩:=h;exact ep) (by omega)
   (λl' D i ys H'=>H1 D=none/\ys=(eO (t.kids.take i) rs).2.map (λi:Nat=>V.int (i:Int))/\SB (.ref l) H1 H'/\∃Oh,H' l=some (.lst Oh)/\cB (LU H') Oh (eO (t.kids.take i) rs).1) (λl' H' D src hD=>?_) (λl' D i v ys H' hv nl N7 eD h N hN=>?_) (λl' D ys H' N7 eD h=>?_)
  .obtain⟨rfl,rfl⟩:=src;have sD:=ak hD (.lst []);exact⟨hD,rfl,SB.of sD,vs0,sD _ _ Nx,rv.imp (LU.to (Kp.of (sp.trans sD)))⟩
  .obtain⟨hD,rfl,sb,Oh,elv,rv1⟩:=h;obtain⟨x,hx,b,rfl,tb⟩:=ou.get i v hv;have xm:x∈t.kids:=w8 hx;have xs:=sZ xm;have kp:Kp H1 H':=sb.kp λa' o' z1 z2=>by cases z1;rw[Nx]at z2;cases z2;rfl
   have pl:=pD (t.kids.take i) rs;have Zv:t.kids.take (i+1)=t.kids.take i++[x]:=by rw[A7,hx];rfl
   have st:bY (t.kids.take (i+1))<=bY t.kids:=Aj _ _;have Qq:bY (t.kids.take (i+1))=bY (t.kids.take i)+x.size:=by rw[Zv,lK];simp[bY]
   have nDl:D≠l:=λz=>by subst z;rw[hD]at Nx;cases Nx
   refine⟨_,rfl,_,rfl,b,l,x,(eO (t.kids.take i) rs).1,Oh,rfl,(tb.to (Kp.of sp)).to kp,by omega,elv,rv1,by omega,sM _ _ rok,λH2 vs2 MJ OA Ot=>?_⟩;have QW:=MJ _ _ N7 λz=>by cases z;rw[N7]at elv;cases elv
   have MV:=MJ _ _ eD λz=>nDl (by cases z;rfl);refine hN _ _ QW MV ⟨hD,?_,λd o z n=>?_,vs2,?_,?_⟩
   .rw[Zv,mV,p7];rfl
   .rw[aA (λy=>by subst y;rw[hD]at z;cases z)]
    exact MJ _ _ (sb _ _ z n) n
   .rw[aA (Jp nDl)];exact OA
   .rw[Zv,mV];exact Ot.imp (LU.to (iU MV rfl))
  .obtain⟨hD,rfl,sb,Oh,N6,Oq⟩:=h;rw[ul,A6]at eD Oq;have pl:=pD t.kids rs;have pc:=vi t.kids rs;have pok:=sM t.kids rs rok;have e6:H' a=some (.tup (.str t.word::us)):=sb _ _ (sp _ _ e) λz=>by cases z;rw[sp _ _ e]at Nx;cases Nx
   refine⟨_,rfl,_,_,_,_,rfl,rfl,Lz.of e6,cF (j:=0) rfl,(by show 1<=sizeLine;decide),λr0 Zz=>?_⟩;have sr:=ak Zz (.tup [V.str t.word]);refine⟨_,rfl,D,_,rfl,.inl ⟨LA.of (sr _ _ eD),λr1 hr1=>?_⟩⟩;have sr1:=ak hr1 (.tup ((eO t.kids rs).2.map λi:Nat=>V.int (i:Int)));refine zu (K:=K) (sr1 _ _ ae) ae (by simp) (by simp only[m6,J6,j4];exact l8 (show _<=5 by omega) (by decide)) λMb H4 s4 e4=>?_;have RS:=(sr.trans sr1).trans s4;have N8:LU H4 (.ref Mb) (fu t.word (eO t.kids rs).2):=⟨Mb,rfl,by rw[wA];exact e4⟩;have U2:SB (.ref l) H H4:=λd o z n=>RS _ _ (sb _ _ (sp _ _ z) n);have N6:=RS _ _ N6;have Oq:=Oq.imp (LU.to (Kp.of RS));have Na:pR (fu t.word (eO t.kids rs).2):=jU (OG t);have vl:=Oq.len;have SK:=DP t rs;clear eD;generalize fu t.word (eO t.kids rs).2=r at N8 Na SK;generalize (eO t.kids rs).1=MY at *;refine⟨_,rfl,_,rfl,Mx r,MY.map Mx,l,Oh,.inl N8.dat,rfl,LA.of N6,LU.all Oq,wx pok,Aq Na,l8 (pA _) (by decide),_,rfl,?_⟩;rw[OW]
   have fin:∀H7 UJ,SB (.ref l) H H7->H7 l=some (.lst UJ)->cB (LU H7) UJ (bg MY r).1->LU H7 (.ref Mb) r->∃j,(bg MY r).2=j/\Cw K (.ref l) [.ref Mb] H7 Q:=by
    intro H7 UJ sb7 el7 rv7 e7;refine⟨_,rfl,l,UJ,.ref Mb,(bg MY r).1.map Mx,Mx r,(bg MY r).2,Mx r,rfl,rfl,el7,LU.all rv7,e7.dat,wx (jW pok Na),Aq Na,l8 (pA _) (by decide),?_,?_,?_,?_⟩
    .rw[x6];unfold bg;cases M8:idx MY r with
     | some i=>exact z6 (Option.map Mx) (Bc M8)
     | none=>show((MY++[r])[MY.length]?).map Mx=_;simp
    .rw[wy,i6 rfl]
    .intro m x hm hx;rw[x6]at hx;obtain⟨y,hy,rfl⟩:=JI.mp hx;rw[wy,decide_eq_false_iff_not];unfold bg at hm hy;cases M8:idx MY r with
     | some i=>rw[M8]at hm hy;exact vB M8 m y hm hy
     | none =>
      rw[M8]at hm hy;have SO:m<MY.length:=hm
      have Py:MY[m]?=some y:=by
       have:=hy;simp only[B8 SO]at this;exact this
      intro z;subst z;exact ze M8 (w8 Py)
    .have:=q H7 UJ sb7 el7 (by rw[SK];exact rv7);rw[SK]at this;exact this
   cases M8:idx MY r with
   | some i =>
    refine bJ ?_;have ZC:(bg MY r).1=MY:=by unfold bg;rw[M8]
    obtain⟨_,_,g⟩:=fin H4 Oh U2 N6 (by rw[ZC];exact Oq) N8;exact⟨_,rfl,.inl ⟨rfl,_,LA.of N6⟩,_,rfl,g⟩
   | none =>
    refine dR ?_;have ZC:(bg MY r).1=MY++[r]:=by unfold bg;rw[M8]
    refine⟨_,rfl,.inl ⟨rfl,_,LA.of N6⟩,_,rfl,l,_,_,rfl,rfl,N6,by rw[vl];exact d9 (show _<=1000 by omega) (by decide),?_⟩;have km:Kp H4 (upd H4 l (.lst (Oh++[.ref Mb]))):=iU N6 rfl;obtain⟨_,_,g⟩:=fin (upd H4 l (.lst (Oh++[.ref Mb]))) (Oh++[.ref Mb]) (U2.trans (jf _ _)) ae (by rw[ZC];exact(Oq.imp (LU.to km)).app (.cons (LU.to km _ _ N8) .nil)) (LU.to km _ _ N8);exact⟨_,rfl,.inl ⟨rfl,_,LA.of ae⟩,_,rfl,g⟩
end Mine
namespace PySem
section
variable{prog:Program}{w:World}{A:Around}{E:Value->Shared->Prop}{s:Shared}{l:Addr}{xs:Array (Int×Tok)}
theorem AR(hh:A.handled=none)(hl:s.heap.IsTuple l (intItems xs))(L4:0<xs.size)
  (h:∀v h' tk,(intItems xs)[argBest (λi j=>decide (numAt xs i<numAt xs j)) (xs.size-1)]?=some v->(∀b o,s.heap.get? b=some o->h'.get? b=some o)->Q v {s with heap:=h',toks:=tk}) :
  wpAny (model prog w) A (call (.builtin "min") [.ref l]) Q E s:=by
 have LI:l<s.heap.objs.size:=by obtain⟨_,e,_⟩:=hl;exact p5 e
 refine call_min_walk (JH hl ?_);refine⟨_,[s.heap.objs.size,l],[s.heap.objs.size],_,_,_,_,rfl,Walks.tuple (A:=A.in1) hh _ l (A4 LI) (intItems xs),⟨⟨_,x5 _ rfl,rfl,rfl⟩,hl.push _⟩,(λb hb=>?_),by simpa [intItems] using L4,CmpOf.ints_lt (numAt xs) (λ_ _=>Kn),λv h' tk hP hk=>?_⟩
 .show b<(s.heap.push _).objs.size;rw[F4];rcases j6.mp hb with rfl | hb
  .exact Js _
  .rcases j6.mp hb with rfl | hb
   .exact Ka LI
   .cases hb
 .exact h v h' tk (by simpa [intItems] using hP) (λb o e=>hk b o (λhm=>by
   rcases j6.mp hm with e1 | hm
   .exact absurd (e1 ▸ p5 e) (B9 _)
   .cases hm) (i8 _ e))
theorem AU(hh:A.handled=none)(hl:s.heap.IsTuple l (intItems xs))(L4:0<xs.size)
  (h:∀v h' tk,(intItems xs)[argBest (λi j=>decide (numAt xs i>numAt xs j)) (xs.size-1)]?=some v->(∀b o,s.heap.get? b=some o->h'.get? b=some o)->Q v {s with heap:=h',toks:=tk}) :
  wpAny (model prog w) A (call (.builtin "max") [.ref l]) Q E s:=by
 have LI:l<s.heap.objs.size:=by obtain⟨_,e,_⟩:=hl;exact p5 e
 refine call_max_walk (JH hl ?_);refine⟨_,[s.heap.objs.size,l],[s.heap.objs.size],_,_,_,_,rfl,Walks.tuple (A:=A.in1) hh _ l (A4 LI) (intItems xs),⟨⟨_,x5 _ rfl,rfl,rfl⟩,hl.push _⟩,(λb hb=>?_),by simpa [intItems] using L4,CmpOf.ints_gt (numAt xs) (λ_ _=>Kn),λv h' tk hP hk=>?_⟩
 .show b<(s.heap.push _).objs.size;rw[F4];rcases j6.mp hb with rfl | hb
  .exact Js _
  .rcases j6.mp hb with rfl | hb
   .exact Ka LI
   .cases hb
 .exact h v h' tk (by simpa [intItems] using hP) (λb o e=>hk b o (λhm=>by
   rcases j6.mp hm with e1 | hm
   .exact absurd (e1 ▸ p5 e) (B9 _)
   .cases hm) (i8 _ e))
end
end PySem
namespace L2
open PySem PySem.Spec PyProof.Rows
section
variable{X:Cx}
theorem ET{K:W.Frag}(hk:X.K=K)(hc:X.calm=true):gy X (.builtin "min") (λxs H Q=>∃(l:Addr)(ns:List Int),xs=[.ref l]/\Lz K H l (ns.map V.int)/\0<ns.length/\∀M,M∈ns->(∀a∈ns,M<=a)->Q (.int M) H):=by
 subst hk;intro Ly s σ H xs us Q I r h;obtain⟨l,ns,rfl,hq,L4,q⟩:=h;obtain⟨u,rfl,rx⟩:=vals1 r;cases rx
 obtain⟨its,rv,pl,_⟩:=I.tuple hq;have hi:IntsAre its ns:=intsAre_of rv;have hl:s.heap.IsTuple l its.toArray:=pl;obtain⟨ys,e⟩:=hi.allInts.items;have en:ns=ys.toList.map (·.1):=by rw[<- hi.numsOf,<- Kk,<- e]
 have sz:ns.length=ys.size:=by rw[en,j4,B7]
 rw[e]at hl;refine AR (I.ok.hd hc) hl (by omega) λv h' tk hv hk=>?_;obtain⟨t,rfl⟩:=Kn hv;obtain⟨h1,h2⟩:=argBest_lt (numAt ys) (ys.size-1);refine⟨.int _,H,I.kept hk,⟨t,rfl⟩,q _ ?_ λa ha=>?_⟩
 .rw[KJ,<- en];exact KL (by omega)
 .rw[en]at ha;obtain⟨j,hj,rfl⟩:=mem_getD ha;rw[<- KJ];exact h2 j (by rw[j4,B7]at hj;omega)
theorem EU{K:W.Frag}(hk:X.K=K)(hc:X.calm=true):gy X (.builtin "max") (λxs H Q=>∃(l:Addr)(ns:List Int),xs=[.ref l]/\Lz K H l (ns.map V.int)/\0<ns.length/\∀M,M∈ns->(∀a∈ns,a<=M)->Q (.int M) H):=by
 subst hk;intro Ly s σ H xs us Q I r h;obtain⟨l,ns,rfl,hq,L4,q⟩:=h;obtain⟨u,rfl,rx⟩:=vals1 r;cases rx
 obtain⟨its,rv,pl,_⟩:=I.tuple hq;have hi:IntsAre its ns:=intsAre_of rv;have hl:s.heap.IsTuple l its.toArray:=pl;obtain⟨ys,e⟩:=hi.allInts.items;have en:ns=ys.toList.map (·.1):=by rw[<- hi.numsOf,<- Kk,<- e]
 have sz:ns.length=ys.size:=by rw[en,j4,B7]
 rw[e]at hl;refine AU (I.ok.hd hc) hl (by omega) λv h' tk hv hk=>?_;obtain⟨t,rfl⟩:=Kn hv;obtain⟨h1,h2⟩:=argBest_gt (numAt ys) (ys.size-1);refine⟨.int _,H,I.kept hk,⟨t,rfl⟩,q _ ?_ λa ha=>?_⟩
 .rw[KJ,<- en];exact KL (by omega)
 .rw[en]at ha;obtain⟨j,hj,rfl⟩:=mem_getD ha;rw[<- KJ];exact h2 j (by rw[j4,B7]at hj;omega)
end
end L2
namespace Mine
open PySem L2
variable{a:Addr}{H1:Hp}{te:TE}{js:List Nat}{σ:St}{i n:Nat}
theorem Te(u:W5)(n a b:Int):Hu.fld (u5 u) n a b=u.worth n a b:=by
 cases u<;>simp[u5,Hu.fld,W5.worth]<;>omega
theorem hU(C:Hu.eW g p):∀{t:Tr}{r:T3},rl g t=some r->t.worth p.u p.v p.w=Hu.tl r p
 | .never,r,h=>by cases h;rw[Hu.oP];rfl
 | .always,r,h=>by cases h;rw[Hu.oP];rfl
 | .lp,r,h=>by cases h;rw[Hu.oP];rfl
 | .lq,r,h=>by cases h;rw[Hu.oP];rfl
 | .no t,r,h=>by
  cases e:rl g t with
  | none=>rw[show rl g (.no t)=(rl g t).map λr=>Hu.mi Hu.al r from rfl,e]at h;cases h
  | some x =>
   rw[show rl g (.no t)=(rl g t).map λr=>Hu.mi Hu.al r from rfl,e]at h;cases h
   rw[Hu.lZ,Hu.nL,<- hU C e];rfl
 | .fold u a b,r,h=>by
  unfold rl at h;cases e1:rl g a with
  | none=>rw[e1]at h;cases h
  | some x=>cases e2:rl g b with
   | none=>rw[e1,e2]at h;cases h
   | some y =>
    rw[e1,e2]at h;have z:=Hu.gj (rs:=[x,y]) (r:=.fd (u5 u) 0 1) h C;rw[z];show u.worth p.u (a.worth p.u p.v p.w) (b.worth p.u p.v p.w)=Hu.fld (u5 u) p.u (Hu.tl x p) (Hu.tl y p);rw[Te,hU C e1,hU C e2]
theorem U0(e:Lz K H a (x::us))(h:∀p,H p=none->Q (.ref p) (upd H p (.tup us))):RY K (.ref a) (some 1) none H Q:=by
 refine⟨a,_,rfl,e,λz=>?_,λ_ p=>?_⟩
 .have SQ:_root_.HT.sIx (x::us).length 0 (some 1)=1:=by
   rw[show(some (1:Int))=some ((1:Nat):Int) from rfl,_root_.HT.oi,m6];omega
  exact absurd (SQ.symm.trans z) (by decide)
 .intro QO;rw[WG];exact h _ QO
theorem vM(h:0<xs.length):MW xs (-1)=xs[xs.length-1]?:=by
 unfold MW QK;rw[i5 (by decide),d8 (by omega)];show xs[((-1:Int)+(xs.length:Nat)).toNat]?=_;congr 1;omega
theorem zY(e:(Hu.Tc.cut r l g).told h=some L):¬Hu.hX r h/\∃a b,l.told (Hu.low r h)=some a/\g.told (Hu.high r h)=some b/\L=a++b:=by
 by_cases n:Hu.hX r h
 .unfold Hu.Tc.told at e;rw[d8 n]at e;cases e
 .rw[xM n]at e;cases e1:l.told (Hu.low r h) with
  | none=>rw[e1]at e;cases e
  | some a=>cases e2:g.told (Hu.high r h) with
   | none=>rw[e1,e2]at e;cases e
   | some b=>rw[e1,e2]at e;cases e;exact⟨n,a,b,rfl,rfl,rfl⟩
theorem Ab:∀t:Hu.Tc,(LR t).canLay0=true
 | .leaf=>by decide+kernel
 | .cut r l g=>by
  have h1:=Ab l;have h2:=Ab g;have h3:(LC r).canLay0=true:=rfl;have h4:(PyData.str "cut").canLay0=true:=by decide+kernel
  unfold LR;simp only[PyData.canLay0,PyData.canLayAll0,h1,h2,h3,Bool.and_true,Bool.true_and]at h4 ⊢;exact h4
theorem rj:∀t:Hu.Tc,(LR t).depth<=t.deep+3
 | .leaf=>by decide+kernel
 | .cut r l g=>by
  have h1:=rj l;have h2:=rj g;have h3:(LC r).depth<=2:=by simp[LC,PyData.depth,PyData.depthAll]
  unfold LR;simp only[PyData.depth,PyData.depthAll,Hu.Tc.deep];omega
theorem DE(h:t.deep<=20):SeqAt.shaped (LR t)=true:=by
 have:=rj t;simp only[SeqAt.shaped,Ab,Bool.true_and];exact i6 (by omega)
theorem UM(r:T3)(l g:Hu.Tc):PyData.eqv (LR (.cut r l g)) (LR .leaf)=false:=by
 unfold LR;simp[PyData.eqv,PyData.eqvAll]
inductive nU(vs:List V)(H:Hp)(Q:VK)(E:XK):Prop
 | mk (i:Int):vs=[.int i]->Q (.bl true) H->nU vs H Q E
inductive rF(K:W.Frag)(n:Nat)(vs:List V)(H:Hp)(Q:VK)(E:XK):Prop
 | mk (x l us t h L):vs=[x,.ref l]->H l=some (.lst us)->DatAll K H (h.map LC) us->Hu.HK h->t.Sm 64->h.length+t.deep<=20->t.deep+1<=n->t.iV<=700->Dat K H (LR t) x->t.told h=some L->(∀ll ws H',aK H H'->H' ll=some (.lst ws)->cB (Og K H') ws L->Q (.ref ll) H')->rF K n vs H Q E
inductive rG(K:W.Frag)(vs:List V)(H:Hp)(Q:VK)(E:XK):Prop
 | mk (x l us rows) (tp bt:Int) (t L):vs=[x,.ref l,.int tp,.int bt]->H l=some (.lst us)->DatAll K H (rows.map mU) us->nB rows->0<rows.length->rows.length<=100->Bg tp->Bg bt->t.Sm 64->t.deep<=8->t.iV<=700->Dat K H (LR t) x->t.told Hu.sqH=some L->((∀g∈L,∃rs,Hu.run g rows []=.rules rs/\∀r,rs.getLast?=some r->∀c∈g,tp*c.u<=Hu.tl r c*bt))->(∀H',aK H H'->Q (.bl true) H')->rG K vs H Q E
inductive FX(K:W.Frag)(vs:List V)(H:Hp)(Q:VK)(E:XK):Prop
 | mk (v f):vs=[v]->OF K H v f->0<f.2->Lo.gc f.1 f.2=1->(∀H',aK H H'->Q (.bl true) H')->FX K vs H Q E
inductive FW(K:W.Frag)(vs:List V)(H:Hp)(Q:VK)(E:XK):Prop
 | mk (v p):vs=[v]->Dat K H (LC p) v->0<p.u->0<=p.v->p.v<=p.u->0<=p.w->p.w<=p.u->(∀H',aK H H'->Q (.bl true) H')->FW K vs H Q E
variable{P:Program}{w:World}{K:W.Frag}{mg:Str->Option Value}{base:Heap}
theorem rW:aD ["_law_found"] ["_law_found"] (au pd):=L2.fsc rfl (by decide+kernel)
theorem Hh(T:aC K mg "_law_whole" pd)(aO:mg "isinstance"=none)(fK:mg "int"=none)(pP:mg "bool"=none)(kb:PySem.W.kitOne K (.type "int") (.type "bool")=some false):Def P w K mg base 1 "_law_whole" ["_law_found"] nU:=by
 refine aQ T rW ?_ ?_
 .walk_at "i1"
 walk_at "i2";obtain⟨i,rfl,q⟩:=h;have nd:=rW.nd;refine⟨_,(aq (av (ke (aG lF aO (aa (pv 0) (aa (fq (v:=V.ty "int") rfl fK (by decide+kernel) rfl) af))) (mX (GX (aG lF aO (aa (pv 0) (aa (fq (v:=V.ty "bool") rfl pP (by decide+kernel) rfl) af)))))))),?_⟩;exact⟨_,rfl,_,_,_,_,true,rfl,(λ_ h=>h),ko.int _,ff,_,rfl,dR ⟨_,rfl,_,_,_,_,false,rfl,(λ_ h=>h),ko.int _,kb,_,rfl,q⟩⟩
theorem BN{t D:Addr}{a b c:Int}{R:Hp->Prop}(st:Lz K H1 t [.int a,.int b,.int c])(hD:H1 D=none)
  (step:∀(n:Int) H' k,k (.bl true) H'->te (some (.int n)::bR js σ) H' k)
  (fin:∀H',aK H1 H'->H' D=some (.lst ((List.replicate 3 true).map V.bl))->R H') :
  ∃W:Nat->Nat->Hp->Prop,(∃m,W 0 m (upd H1 D (.lst [])))/\∀i m H2,W i m H2->((Nq K t).stop i H2/\R H2)\/
   ((
    Nq K t).go i H2/\∀v H3,(Nq K t).yld i H2 v H3->kq (some v::bR js σ) H3 λb H4=>if b=true then te (some v::bR js σ) H4 λy H5 =>
    ∃ys,H5 D=some (.lst ys)/\ys.length<sizeLine/\∃m',m'<m/\W (i+1) m' (upd H5 D (.lst (ys++[y]))) else ∃m',m'<m/\W (i+1) m' H4):=by
 refine⟨λi m H2=>m=3-i/\i<=3/\aK H1 H2/\H2 D=some (.lst ((List.replicate i true).map V.bl)),⟨_,rfl,y7 _,ak hD _,ae⟩,?_⟩;rintro i m H2 ⟨rfl,hi,sm,Md⟩
 have RQ:=st.ts sm.ts
 by_cases LI:i<3
 .refine .inr ⟨⟨_,_,RQ,c9 (show i<3 from LI)⟩,λv H3 y=>?_⟩;obtain⟨rfl,y⟩:=y
  have hv:∃n:Int,v=.int n:=by
   have z:=y _ RQ;rcases(show i=0\/i=1\/i=2 by omega) with rfl | rfl | rfl
   .exact⟨a,(l7 z).symm⟩
   .exact⟨b,(l7 z).symm⟩
   .exact⟨c,(l7 z).symm⟩
  obtain⟨n,rfl⟩:=hv;refine hJ ?_;refine step n _ _ ⟨_,Md,aZ (by simp;omega),3-(i+1),by omega,rfl,LI,aX sm hD _,?_⟩;rw[ae,List.replicate_succ',p7];rfl
 .have e:i=3:=by omega
  subst e;exact .inl ⟨⟨_,RQ,c7 _⟩,fin _ sm Md⟩
theorem yI(T:aC K mg "_law_rules" pf)(zR:Def P w K mg base 2 "_law_rule" ["_law_row","_law_rules_here","_law_hull"] (vX K)):Def P w K mg base 3 "_law_rules" ["_law_rows","_law_hull"] (nV K):=by
 refine aQ T rY ?_ ?_
 .walk_at "i1"
 walk_at "i2";obtain⟨l,lh,us,hs,rows,h,rfl,hl,da,ok,few,Nf,dh,bp,pos,Mz,q1,q2⟩:=h;have nd:=rY.nd;have lu:=Ct da;have d2:(2:Nat)<=sizeLine:=by decide
 refine⟨_,(ah (aJ (i:=2) (bW af))
  (ah (eQ z7 rfl (cf (pv 0)) (aS (i:=3)) (ah (sO (aH zR (aa (pv 3) (aa (pv 2) (aa (pv 1) af)))) (iR rfl (aY (aS (i:=4)) (aY (aS (i:=5)) cZ))))
  (ah (aT (aE kg (pv 4) bN (aI _)) (aq (av (bc (aa bN (aa (pv 5) af))))) aL)
  (aq (bB (cO c6 j7 j8 bj (pv 2) (aa (pv 4) af)))))))
  (aq (av (bc (aa (pv 2) (aa bN af))))))),?_⟩
 refine⟨(by show 0<=sizeLine;decide),λlr MG=>?_⟩;have u0:=ak MG (.lst []);refine⟨_,rfl,l,rfl,⟨us,LA.of (u0 _ _ hl)⟩,?_⟩
 refine eU (xs:=us) (λi σ H'=>i<=us.length/\aK H H'/\∃(ws:List V)(rs:List T3)(o3 o4 o5:Option V),σ=[some (.ref l),some (.ref lh),some (.ref lr),o3,o4,o5]/\H' lr=some (.lst ws)/\DatAll K H' (rs.map LC) ws/\rs.length=i/\Hu.Rb rs/\Hu.run h rows []=Hu.run h (rows.drop i) rs)
  ⟨y7 _,u0,[],[],_,_,_,rfl,ae,rfl,rfl,(λi x e=>by simp at e),rfl⟩ (λi σ H' _ z=>LA.of (z.2.1 _ _ hl)) (λi v σ H' hv z=>?_) (λσ H' z=>?_)
 .obtain⟨_,sm,ws,rs,o3,o4,o5,rfl,Nd,dr,NR,rb,er⟩:=z;have hi:i<us.length:=(d6.mp hv).1;obtain⟨r,Wo,dv⟩:=Cu (da.ts sm.ts) hv;have Sa:r.Ok rs.length:=by rw[NR];exact ok i r Wo
  have dp:rows.drop i=r::rows.drop (i+1):=by
   obtain⟨g1,g2⟩:=d6.mp Wo;rw[<- g2];exact C9 g1
  rw[dp]at er;obtain⟨cb,_,_⟩:=Hu.lE rb Sa;refine⟨_,rfl,_,rfl,_,rfl,v,lr,lh,ws,hs,r,rs,h,rfl,dv,Nd,dr,Sa,rb,by omega,sm _ _ Nf,dh.ts sm.ts,bp,pos,Mz,λx u t H3 s3 ex du et=>?_,λex u t H3 s3 du et=>?_⟩
  .refine⟨t,_,rfl,Lz.of et,rfl,_,_,rfl,_,_,rfl,rfl,?_⟩;obtain⟨ua,rfl,su⟩:=cW du;refine⟨_,rfl,rfl,_,rfl,bJ ?_⟩;have m4:=sm.trans s3;have SI:=s3 _ _ Nd;have lw:=fc dr;refine⟨_,rfl,.inl ⟨rfl,_,LA.of SI⟩,_,rfl,lr,ws,_,rfl,rfl,SI,aZ (by omega),?_⟩;have t5:Mv H3 (upd H3 lr (.lst (ws++[.ref ua]))):=dj SI;refine⟨hi,aX m4 MG _,ws++[.ref ua],rs++[x],_,_,_,rfl,ae,?_,?_,Hu.wD rb (Hu.tT rb Sa ex),?_⟩
   .rw[p7];exact((dr.ts s3.ts).ts t5).snoc (du.ts t5)
   .rw[c8,NR];rfl
   .rw[er];show(match Hu.bo h (Hu.choice rs r) with | some x=>_ | none=>_)=_
    rw[ex]
  .refine⟨t,_,rfl,Lz.of et,rfl,_,_,rfl,_,_,rfl,rfl,?_⟩;refine⟨_,rfl,rfl,_,rfl,dR ?_⟩;refine⟨_,rfl,d2,λp hp=>?_⟩;have u3:=ak hp (.tup [.non,u]);refine q2 i (Hu.choice rs r).1 p u _ ((sm.trans s3).trans u3) ?_ (by omega) (by rw[<- NR];exact cb) ae (du.ts u3.ts);rw[er];show(match Hu.bo h (Hu.choice rs r) with | some x=>_ | none=>_)=_
   rw[ex,NR]
 .obtain⟨_,sm,ws,rs,o3,o4,o5,rfl,Nd,dr,NR,rb,er⟩:=z;refine⟨_,rfl,d2,λp hp=>?_⟩;have u:=ak hp (.tup [.ref lr,.non]);refine q1 rs p lr ws _ (sm.trans u) ?_ rb (by omega) ae (u _ _ Nd) (dr.ts u.ts);rw[er,List.drop_eq_nil_of_le (by omega)];rfl
theorem Ea(T:aC K mg "_law_hulls" pq)(aO:mg "isinstance"=none)(aW:mg "tuple"=none)(bE:mg "len"=none)(oH:mg "all"=none)(fL:Def P w K mg base 1 "_law_whole" ["_law_found"] nU)(pV:Def P w K mg base 3 "_law_cut" ["_law_hull","_law_rule_here"] (vZ K)):∀n:Nat,Def P w K mg base (n+4) "_law_hulls" ["_law_tree","_law_hull"] (rF K n):=by
 intro n
 induction n with
 | zero =>
  refine aQ T mK ?_ ?_
  .walk_at "i1"
  .walk_at "i2";obtain⟨x,l,us,t,h,L,rfl,_,_,_,_,_,z,_⟩:=h;omega
 | succ n iF =>
  refine aQ T mK ?_ ?_
  .walk_at "i1"
  walk_at "i2";obtain⟨x,l,us,t,h,L,rfl,el,da,hk,sm,hl,dn,cu,dx,eL,q⟩:=h;have nd:=mK.nd;have hu:=hr.units;have n3:=hk.n3;refine⟨_,(ah (aT (aE (Aw hu) (pv 0) (bc (aa aR af)) (aI _)) (aq (av (bW (aa (pv 1) af)))) aL)
  (ah (aT (PW.pt (eM (eP (dA (aG fJ aO (aa (pv 0) (aa (fq (v:=V.ty "tuple") rfl aW (by decide+kernel) rfl) af))))) (eM (aE ky (aG bL bE (aa (pv 0) af)) ao (aI _)) (eM (aE ky (aB az (pv 0) ao) aR (aI _)) (fV (eP (dA (aG fJ aO (aa (aB az (pv 0) ao) (aa (fq (v:=V.ty "tuple") rfl aW (by decide+kernel) rfl) af)))))))))) (aq (av bN)) aL)
  (ah (aT (PW.pt (eM (aE ky (aG bL bE (aa (aB az (pv 0) ao) af)) ao (aI _)) (fV (eP (dA (aG (tV rfl) oH (aa (dQ (kX (aB az (pv 0) ao)) cC (λ_ _ _ _=>cM) (λ_ _ _ _=>(aH fL (aa (pv 0) af)))) af))))))) (aq (av bN)) aL)
  (ah (aJ (i:=2) (aH pV (aa (pv 1) (aa (aB az (pv 0) ao) af))))
  (ah (aT (aE kg (pv 2) bN (aI _)) (aq (av bN)) aL)
  (ah (aJ (i:=3) (aH iF (aa (aB az (pv 0) ao) (aa (aB az (pv 2) ao) af))))
  (ah (aJ (i:=4) (aH iF (aa (aB az (pv 0) ao) (aa (aB az (pv 2) ao) af))))
  (ah (aT (PW.pt (eM (aE kg (pv 3) bN (aI _)) (fV (aE kg (pv 4) bN (aI _))))) (aq (av bN)) aL)
  (aq (av (aM Ax (pv 3) (pv 4)))))))))))),?_⟩
  cases t with
  | leaf =>
   refine⟨_,rfl,(by show 1<=sizeLine;decide),λp2 LO=>?_⟩;have u2:=ak LO (.tup [V.str "leaf"]);have dl:Dat K (upd H p2 (.tup [V.str "leaf"])) (LR .leaf) (.ref p2):=oR (Lz.of ae);refine⟨_,_,.inl (dx.ts u2.ts),.inl dl,(by decide+kernel),(by decide+kernel),?_⟩;rw[show PyData.eqv (LR .leaf) (LR .leaf)=true from by decide+kernel];refine⟨_,rfl,dR ?_⟩;refine⟨_,rfl,(by show 1<=sizeLine;decide),λll hll=>?_⟩;have u:=ak hll (.lst [.ref l]);cases eL
   exact q ll [.ref l] _ (u2.trans u) ae (.cons ⟨l,us,rfl,(u2.trans u) _ _ el,da.ts (u2.trans u).ts⟩ .nil)
  | cut r t1 t2 =>
   obtain⟨a,x1,y1,z1,rfl,sq,d1,d2,d3⟩:=FC dx;obtain⟨ta,rfl,Xk⟩:=cW d1;obtain⟨nc,L1,L2,e1,e2,rfl⟩:=zY eL;refine⟨_,rfl,(by show 1<=sizeLine;decide),λp2 LO=>?_⟩;have u2:=ak LO (.tup [V.str "leaf"]);have dl:Dat K (upd H p2 (.tup [V.str "leaf"])) (LR .leaf) (.ref p2):=oR (Lz.of ae);refine⟨_,_,.inl (dx.ts u2.ts),.inl dl,DE (by omega),(by decide+kernel),?_⟩;rw[UM];refine⟨_,rfl,bJ ?_⟩;generalize upd H p2 (.tup [V.str "leaf"])=H0 at u2 ⊢;have Ue:=sq.ts u2.ts;refine⟨_,rfl,a,_,_,_,true,rfl,(λ_ h=>h),Ue,ff,_,rfl,bJ ?_⟩;refine⟨_,rfl,_,_,rfl,.inr ⟨_,Ue,rfl⟩,rfl,_,rfl,bJ ?_⟩;refine⟨_,rfl,_,_,_,_,rfl,rfl,Ue,rfl,rfl,_,rfl,bJ ?_⟩;refine⟨_,rfl,_,_,_,_,rfl,rfl,Ue,rfl,ta,_,_,_,true,rfl,(λ_ h=>h),Xk.ts u2.ts,ff,_,rfl,bJ ?_⟩;refine⟨_,rfl,_,_,_,_,rfl,rfl,Ue,rfl,_,_,rfl,.inr ⟨_,Xk.ts u2.ts,rfl⟩,rfl,_,rfl,bJ ?_⟩;refine⟨_,rfl,_,_,_,_,rfl,rfl,Ue,rfl,ta,rfl,⟨_,Xk.ts u2.ts⟩,λD hD=>?_⟩;refine BN (K:=K) (Xk.ts u2.ts) hD (λn H' k z=>⟨_,rfl,n,rfl,z⟩) (λH1 s1' Md=>?_);have s1:=u2.trans s1';refine⟨D,List.replicate 3 true,rfl,LA.of Md,_,rfl,bJ ?_⟩;have dp:max t1.deep t2.deep+1+h.length<=20:=by simp only[Hu.Tc.deep]at hl;omega
   have dn':max t1.deep t2.deep+1+1<=n+1:=dn;have cu':1+t1.iV+t2.iV<=700:=cu;refine⟨_,rfl,_,rfl,_,_,_,_,rfl,rfl,sq.ts s1.ts,rfl,l,.ref ta,us,h,r,rfl,s1 _ _ el,da.ts s1.ts,d1.ts s1.ts,hk.hull.mono (by decide) (by omega),sm.1.mono (by decide),λz=>absurd z nc,λ_ v2 H2 s2' cr=>?_⟩;obtain⟨t2',la,lb,NN,NM,rfl,Zc,fa,fb,sqp,ea,eb,Mq,da2⟩:=cr;have s2:=s1.trans s2';have C:=Hu.iV hk sm.1 nc;have c1:=C.ll;have c2:=C.lh;refine⟨_,rfl,rfl,_,rfl,bJ ?_⟩;refine⟨_,rfl,_,_,_,_,rfl,rfl,sq.ts s2.ts,rfl,_,rfl,_,_,_,_,rfl,rfl,sqp,rfl,y1,la,NN,t1,_,L1,rfl,ea,Mq,C.lo,sm.2.1,by omega,by omega,by omega,d2.ts s2.ts,e1,λl1 w1 H3 Xv Nx WR=>?_⟩;have s3:=s2.trans Xv;refine⟨_,rfl,_,_,_,_,rfl,rfl,sq.ts s3.ts,rfl,_,rfl,_,_,_,_,rfl,rfl,sqp.ts Xv.ts,rfl,z1,lb,NM,t2,_,L2,rfl,Xv _ _ eb,da2.ts Xv.ts,C.hi,sm.2.2,by omega,by omega,by omega,d3.ts s3.ts,e2,λl2 w2 H4 s4 OA Q8=>?_⟩;refine⟨_,rfl,rfl,_,rfl,bJ ⟨_,rfl,rfl,_,rfl,bJ ?_⟩⟩;have k1:=iG e1;have k2:=iG e2;have lw1:=WR.len;have lw2:=Q8.len;refine⟨_,rfl,_,rfl,l1,l2,w1,w2,rfl,rfl,s4 _ _ Nx,OA,JX (aZ (by omega)),λl3 h3=>?_⟩;have u3:=ak h3 (.lst (w1++w2));exact q l3 _ _ ((s3.trans s4).trans u3) ae ((WR.imp (Og.to (s4.trans u3))).app (Q8.imp (Og.to u3)))
variable{c:CCs}
theorem Cg:aD ["_law_cells"] ["_law_cells"] (au Qy):=L2.fsc rfl (by decide+kernel)
theorem ok_next(T:aC K mg "_law_next" Qy)(bE:mg "len"=none):Def P w K mg base 1 "_law_next" ["_law_cells"] vU:=by
 refine aQ T Cg ?_ ?_
 .walk_at "i1"
 walk_at "i2";obtain⟨l,ms,rfl,e,hc,q⟩:=h;have nd:=Cg.nd
 refine⟨_,(ah (aT (aE cy (aG bL bE (aa (pv 0) af)) ao (aI _)) (aq (av ao)) aL)
  (aq (av (cO c6 C4 C5 HQ (pv 0) (eB af))))),?_⟩
 refine⟨_,rfl,_,_,rfl,.inl ⟨_,LA.of e,rfl⟩,rfl,_,rfl,?_⟩;refine cU (λz=>?_) (λz=>?_)
 .exact q 0 ms H cel0 hc (SB.refl _ _) e
 .cases ms with
  | nil=>exact absurd (i6 rfl) z
  | cons m r =>
   refine⟨_,rfl,.inl ⟨rfl,_,LA.of e⟩,l,_,0,0,V.int m,rfl,rfl,e,by decide,by decide,seqIndex_of (C3 0) (by rw[j4,m6];omega),rfl,?_⟩;exact q m r _ (hc m (by simp)) (λn hn=>hc n (y8 _ hn)) (jf _ _) ae
theorem ym:aD ["_law_word","_law_n","_law_one","_law_other"] ["_law_word","_law_n","_law_one","_law_other"] (au Gm):=L2.fsc rfl (by decide+kernel)
theorem Hw(T:aC K mg "_law_fold" Gm)(bS:mg "min"=none)(ck:mg "max"=none):Def P w K mg base 1 "_law_fold" ["_law_word","_law_n","_law_one","_law_other"] Cb:=by
 refine aQ T ym ?_ ?_
 .walk_at "i1"
 walk_at "i2";obtain⟨u,n,x,y,rfl,q⟩:=h;have nd:=ym.nd
 refine⟨_,(ah (aT (aE cy (pv 0) aR (aI _)) (aq (av (aG (fH rfl) bS (aa (pv 1) (aa (aM cA (pv 2) (pv 3)) af))))) aL)
  (ah (aT (aE cy (pv 0) aR (aI _)) (aq (av (aG (iJ rfl) ck (eB (aa (aM dB (aM cA (pv 2) (pv 3)) (pv 1)) af))))) aL)
  (ah (aT (aE cy (pv 0) aR (aI _)) (aq (av (aG (iJ rfl) ck (aa (pv 2) (aa (pv 3) af))))) aL)
  (ah (aT (aE cy (pv 0) aR (aI _)) (aq (av (aG (fH rfl) bS (aa (pv 2) (aa (pv 3) af))))) aL)
  (aq (av (aG (fH rfl) bS (aa (pv 1) (aa (aM cA (aM dB (pv 1) (pv 2)) (pv 3)) af))))))))),?_⟩
 cases u with
 | more =>
  refine⟨_,rfl,rfl,_,rfl,ite_yes rfl ⟨_,rfl,_,rfl,_,rfl,_,_,rfl,rfl,_,_,rfl,?_⟩⟩;rw[kh,Int.min_comm];exact q
 | less =>
  refine⟨_,rfl,rfl,_,rfl,ite_no (by decide+kernel) ⟨_,rfl,rfl,_,rfl,ite_yes rfl ⟨_,rfl,_,rfl,_,_,rfl,rfl,_,rfl,_,_,rfl,rfl,_,_,rfl,?_⟩⟩⟩;rw[nh,Int.max_comm];exact q
 | greater =>
  refine⟨_,rfl,rfl,_,rfl,ite_no (by decide+kernel) ⟨_,rfl,rfl,_,rfl,ite_no (by decide+kernel) ⟨_,rfl,rfl,_,rfl,ite_yes rfl ⟨_,rfl,_,rfl,_,_,rfl,?_⟩⟩⟩⟩;rw[nh];exact q
 | lesser =>
  refine⟨_,rfl,rfl,_,rfl,ite_no (by decide+kernel) ⟨_,rfl,rfl,_,rfl,ite_no (by decide+kernel) ⟨_,rfl,rfl,_,rfl,ite_no (by decide+kernel) ⟨_,rfl,rfl,_,rfl,ite_yes rfl ⟨_,rfl,_,rfl,_,_,rfl,?_⟩⟩⟩⟩⟩;rw[kh];exact q
 | leads =>
  refine⟨_,rfl,rfl,_,rfl,ite_no (by decide+kernel) ⟨_,rfl,rfl,_,rfl,ite_no (by decide+kernel) ⟨_,rfl,rfl,_,rfl,ite_no (by decide+kernel) ⟨_,rfl,rfl,_,rfl,ite_no (by decide+kernel) ⟨_,rfl,_,rfl,_,rfl,_,_,rfl,rfl,_,rfl,_,_,rfl,rfl,_,_,rfl,?_⟩⟩⟩⟩⟩;rw[kh,Int.min_comm];exact q
noncomputable abbrev HV:List PySem.Str:=["_law_script","_law_least_here","_law_as_they_stand","_law_made","_law_k","_law_cell"]
theorem ye:aD HV ["_law_script","_law_least_here"] (au wu):=L2.fsc rfl (by decide+kernel)
theorem Hn(T:aC K mg "_law_mixed" wu)(bE:mg "len"=none)(ck:mg "max"=none)(bS:mg "min"=none)(iC:mg "range"=none)(gp:mg "abs"=none)(fK:mg "int"=none):Def P w K mg base 1 "_law_mixed" ["_law_script","_law_least_here"] (Ca K):=by
 refine aQ T ye ?_ ?_
 .walk_at "i1"
 walk_at "i2";obtain⟨a,ns,k,rfl,S,k0,k1,q⟩:=h;have nd:=ye.nd;have hlen:=S.few
 have tail:∃t,LV (cN CX0 P w K mg base HV "_law_mixed" (au wu) f cdv A outer s H E).nox ((bI wu).drop 1) t/\∀b:Bool,t {nx:=λ_ H'=>Q .non H',rt:=Q} [some (.ref a),some (.int k),some (.bl b),none,none,none] H:=by
  refine⟨_,(ah (aJ (i:=3) (bW af))
  (ah (eQ z7 rfl (vj iC (aa (aG (iJ rfl) ck (aa (aM cA (pv 1) ao) (aa (aG (fH rfl) bS (eB (aa (aG bL bE (aa (pv 0) af)) af))) af))) af)) (aS (i:=4)) (ah (aJ (i:=5) ao)
  (ah (aT (aE jb (pv 4) (aG bL bE (aa (pv 0) af)) (aI _)) (aq (aJ (i:=5) (aB bC (pv 0) (pv 4)))) aL)
  (aq (aT (PW.pt (As (sN (pv 2) (λ_=>rfl)) (wH (GP jb jb ao (pv 4) (aG bL bE (aa (pv 0) af)))))) (aq (bB (cO c6 j7 j8 bj (pv 3) (aa (aG gk gp (aa (pv 5) af)) af)))) (aq (bB (cO c6 j7 j8 bj (pv 3) (aa (aM iT (aM bu (aM iT (aM cA (aM bu (aM iT (pv 5) (aM R8 ao ao)) ao) (aM bu ao (aM cA (pv 4) ao))) ao) ao) ao) af)))))))))
  (aq (av (iS wj (pv 3) (jY (cJ jJ fK (aa (pv 2) af))) jZ))))),?_⟩
  intro b;refine⟨(by show 0<=sizeLine;decide),λD hD=>?_⟩;refine⟨_,rfl,_,_,rfl,rfl,_,rfl,_,_,rfl,.inl ⟨_,(ak hD _).seq S.l,rfl⟩,_,_,rfl,_,_,rfl,_,rfl,?_,?_,?_⟩
  .rw[kh,nh,j4];omega
  .rw[kh,nh,j4];omega
  rw[kh,nh,j4];have hN:(max (k+1) (min 63 (ns.length:Int))).toNat<=1000:=by omega
  refine vD (λi σ H2=>∃(ms:List Int)(o4 o5:Option V),σ=[some (.ref a),some (.int k),some (.bl b),some (.ref D),o4,o5]/\aK H H2/\H2 D=some (.lst (ms.map V.int))/\ms.length=i/\∀m∈ms,Mr m)
   ⟨[],_,_,rfl,ak hD _,ae,rfl,λ_ h=>nomatch h⟩ (λi σ H2 hi h=>?_) (λσ H2 h=>?_)
  .obtain⟨ms,o4,o5,rfl,sm,e,hm,hc⟩:=h;have S2:=S.to sm
   have next:∀v:Int,Mr v->∀z:Int,∃(Mt:List Int)(o4 o5:Option V),[some (V.ref a),some (.int k),some (.bl b),some (.ref D),some (.int (0+(i:Int))),some (.int z)]=[some (V.ref a),some (.int k),some (.bl b),some (.ref D),o4,o5]/\aK H (upd H2 D (.lst (ms.map V.int++[V.int v])))/\
     upd H2 D (.lst (ms.map V.int++[V.int v])) D=some (.lst (Mt.map V.int))/\Mt.length=i+1/\∀m∈Mt,Mr m:=λv cv z=>by
    refine⟨ms++[v],_,_,rfl,λd o zz=>?_,by rw[ae,p7];rfl,by rw[c8,hm];rfl,λm SO=>?_⟩
    .rw[aA (aF zz hD)];exact sm d o zz
    .rcases j9.mp SO with zz | zz
     .exact hc m zz
     .have:m=v:=by simpa using zz
      rw[this];exact cv
   have ml:(ms.map V.int).length<sizeLine:=by rw[j4,hm];exact i7 hi (l8 hN (by decide))
   have Pq:∃xs,LA K H2 a xs/\(ns.length:Nat)=xs.length:=⟨_,S2.l,(j4 _).symm⟩;refine⟨_,rfl,_,rfl,_,ns.length,rfl,.inl Pq,_,_,rfl,rfl,_,rfl,?_⟩
   have Tz:∃z:Int,Builtin.Int.intBits z<=1048576/\(decide ((0+(i:Int))<(ns.length:Int))=true->MW (ns.map V.int) (0+(i:Int))=some (V.int z))/\(¬decide ((0+(i:Int))<(ns.length:Int))=true->z=0):=by
    by_cases LI:i<ns.length
    .refine⟨ns[i],S.bit _ (JG LI),λ_=>?_,λz=>absurd (i6 (by omega)) z⟩;rw[Int.zero_add];exact cF (by rw[x6,c9 LI];rfl)
    .exact⟨0,by decide,λz=>absurd (i9 z) (by omega),λ_=>rfl⟩
   obtain⟨z,hz,hz1,Uo⟩:=Tz;refine cU (λg=>?a) (λg=>?b)
   case' a=>refine⟨_,rfl,_,rfl,_,_,_,_,rfl,rfl,S2.l,hz1 g,?_⟩
   case' b=>have ez:=Uo g;subst ez
   all_goals
    cases b with
    | false =>
     refine⟨_,rfl,false,rfl,bJ (bJ ?_)⟩;refine⟨_,rfl,.inl ⟨rfl,_,LA.of e⟩,_,rfl,_,_,rfl,rfl,⟨by decide,by decide,by decide⟩,_,_,rfl,rfl,(show(0:Int)<10^(Int.toNat 18) by decide+kernel),_,_,rfl,rfl,fY (by decide+kernel),_,rfl,_,_,rfl,rfl,_,_,rfl,rfl,sV (by decide+kernel),_,_,rfl,rfl,_,_,rfl,rfl,(show(0:Int)<2147483647 by decide),_,_,rfl,rfl,fY (by decide+kernel),_,_,rfl,rfl,(show(0:Int)<2147483629 by decide),D,_,_,rfl,rfl,e,ml,?_⟩;exact next _ (pN (JR _ (by decide)) (Lm (Jn _ (by decide)) (by decide))) _
    | true =>
     refine⟨_,rfl,true,rfl,dR ?_⟩;refine⟨_,rfl,_,_,rfl,rfl,_,rfl,?_⟩;refine cU (λg1=>?_) (λg1=>?_)
     .refine⟨_,rfl,_,ns.length,rfl,.inl Pq,_,_,rfl,rfl,_,rfl,?_⟩;refine cU (λg2=>?_) (λg2=>?_)
      .refine⟨_,rfl,.inl ⟨rfl,_,LA.of e⟩,_,rfl,_,rfl,D,_,_,rfl,rfl,e,ml,?_⟩;exact next _ (P4 hz) _
      .refine⟨_,rfl,.inl ⟨rfl,_,LA.of e⟩,_,rfl,_,_,rfl,rfl,⟨by decide,by decide,by decide⟩,_,_,rfl,rfl,(show(0:Int)<10^(Int.toNat 18) by decide+kernel),_,_,rfl,rfl,fY (by decide+kernel),_,rfl,_,_,rfl,rfl,_,_,rfl,rfl,sV (by decide+kernel),_,_,rfl,rfl,_,_,rfl,rfl,(show(0:Int)<2147483647 by decide),_,_,rfl,rfl,fY (by decide+kernel),_,_,rfl,rfl,(show(0:Int)<2147483629 by decide),D,_,_,rfl,rfl,e,ml,?_⟩;exact next _ (pN (JR _ (by decide)) (Lm (Jn _ (by decide)) (by decide))) _
     .refine⟨_,rfl,bJ ?_⟩;refine⟨_,rfl,.inl ⟨rfl,_,LA.of e⟩,_,rfl,_,_,rfl,rfl,⟨by decide,by decide,by decide⟩,_,_,rfl,rfl,(show(0:Int)<10^(Int.toNat 18) by decide+kernel),_,_,rfl,rfl,fY (by decide+kernel),_,rfl,_,_,rfl,rfl,_,_,rfl,rfl,sV (by decide+kernel),_,_,rfl,rfl,_,_,rfl,rfl,(show(0:Int)<2147483647 by decide),_,_,rfl,rfl,fY (by decide+kernel),_,_,rfl,rfl,(show(0:Int)<2147483629 by decide),D,_,_,rfl,rfl,e,ml,?_⟩;exact next _ (pN (JR _ (by decide)) (Lm (Jn _ (by decide)) (by decide))) _
  .obtain⟨ms,o4,o5,rfl,sm,e,hm,hc⟩:=h;refine⟨_,rfl,_,rfl,.inr ⟨b,rfl,_,rfl,D,_,rfl,LA.of e,λp hp=>?_⟩⟩;obtain⟨Mt,em,SO⟩:=PZ ms (some (if b then 1 else 0)) none;rw[em];have np:H p=none:=sm.free hp;exact q p Mt _ (λd o zz=>by rw[aA (aF zz np)];exact sm d o zz) np ae λm h=>hc m (SO m h)
 obtain⟨t1,SF,Ov⟩:=tail;refine⟨_,ah (aJ (i:=2) (ke (dM ix (aG bL bE (aa (pv 0) af)) ao (aI _)) (mX (dM cy (aM iT (aB bC (pv 0) ao) ao) ao (aI _))))) SF,?_⟩;refine⟨_,rfl,_,ns.length,rfl,.inl ⟨_,S.l,(j4 _).symm⟩,_,_,rfl,rfl,_,rfl,?_⟩;refine cU (λg=>?_) (λg=>?_)
 .cases ns with
  | nil=>exact absurd (i9 g) (by decide)
  | cons n r=>exact⟨_,rfl,_,_,_,_,rfl,rfl,S.l,cF (j:=0) rfl,_,_,rfl,rfl,(show(0:Int)<2 by decide),rfl,Ov _⟩
 .exact Ov false
structure B4 where
 a:Int
 b:Int
 c:Int
 l:Int
noncomputable def NI(q:B4):PyData:=.tuple [.int q.a,.int q.b,.int q.c,.int q.l]
def B4.Kp(q:B4)(n x y:Int):Prop:=q.l<=q.a*x+q.b*y+q.c*n
def B4.R(q:B4):Prop:=q.a.natAbs<2^200/\q.b.natAbs<2^200/\q.c.natAbs<2^200/\q.l.natAbs<2^200
def Kept(bs:List B4)(n x y:Int):Prop:=∀q∈bs,q.Kp n x y
noncomputable def NB(t b:Int):Int:=-((-t).fdiv b)
theorem sJ{t b y:Int}(hb:0<b):NB t b<=y↔t<=b*y:=by
 unfold NB;rw[G2 _ (z5 hb)];have:=Ke (a:=-y) (b:=-t) hb;rw[show -(-t/b)<=y↔-y<=-t/b by omega,this,Int.neg_mul,JA];omega
theorem Tf{t b y:Int}(hb:b<0):y<=t.fdiv b↔t<=b*y:=by
 rw[<- Int.neg_fdiv_neg,G2 _ (show 0<=-b by omega)];rw[Ke (show 0 < -b by omega),Int.mul_neg,JA];omega
noncomputable def sb(p q:T3):B4:=⟨p.w*q.u-p.u*q.w,p.u*q.v-p.v*q.u,p.v*q.w-p.w*q.v,0⟩
theorem Qw(p q:T3)(n x y:Int):(sb p q).Kp n x y↔0<=Hu.det p q ⟨n,x,y⟩:=by
 unfold B4.Kp sb;rw[show(p.w*q.u-p.u*q.w)*x+(p.u*q.v-p.v*q.u)*y+(p.v*q.w-p.w*q.v)*n=Hu.det p q ⟨n,x,y⟩ by simp only[Hu.det];grind]
noncomputable def YM(r:T3):B4:=⟨-r.u,-r.v,1-r.w,1⟩
theorem GD(r:T3)(n x y:Int):(YM r).Kp n x y↔Hu.tl r ⟨n,x,y⟩ < n:=by
 show 1<=-r.u*x + -r.v*y+(1-r.w)*n↔_;have e:-r.u*x + -r.v*y+(1-r.w)*n=n-Hu.tl r ⟨n,x,y⟩:=by simp only[Hu.tl];grind
 rw[e];omega
noncomputable def zA(h:List T3)(r:T3):List B4:=(List.range h.length).map (λi=>sb (Hu.cor h i) (Hu.cor h (i+1)))++[YM r]
theorem pO(h:List T3)(r:T3)(n x y:Int):Kept (zA h r) n x y↔Hu.Ins h ⟨n,x,y⟩/\Hu.tl r ⟨n,x,y⟩ < n:=by
 unfold Kept zA;constructor
 .intro k;refine⟨λi hi=>(Qw _ _ _ _ _).mp (k _ (B2 _ (y9.mpr ⟨i,KA.mpr hi,rfl⟩))),(GD _ _ _ _).mp (k _ (p8 _ x8))⟩
 .rintro⟨k1,k2⟩ q hq
  rcases j9.mp hq with z | z
  .obtain⟨i,hi,rfl⟩:=y9.mp z;exact(Qw _ _ _ _ _).mpr (k1 i (KA.mp hi))
  .rw[d7.mp z];exact(GD _ _ _ _).mpr k2
section
variable{K:W.Frag}{H H':Hp}{v:V}{q:B4}
theorem WN(d:Dat K H (NI q) v):∃a,v=.ref a/\Lz K H a [.int q.a,.int q.b,.int q.c,.int q.l]:=by
 obtain⟨a,xs,rfl,s,x,t,rfl,hx,y,t2,rfl,hy,z,t3,rfl,hz,w,t4,rfl,hw,h4⟩:=d;cases(show x=V.int q.a from hx)
 cases(show y=V.int q.b from hy)
 cases(show z=V.int q.c from hz)
 cases(show w=V.int q.l from hw)
 cases(show t4=[] from h4)
 exact⟨a,rfl,s⟩
theorem Q7(s:Lz K H a [.int q.a,.int q.b,.int q.c,.int q.l]):Dat K H (NI q) (.ref a):=⟨a,_,rfl,s,_,_,rfl,rfl,_,_,rfl,rfl,_,_,rfl,rfl,_,_,rfl,rfl,rfl⟩
theorem TU{xs:List V}{bs:List B4}(g:DatAll K H (bs.map NI) xs){x:V}(e:xs[i]?=some x):∃r,bs[i]?=some r/\Dat K H (NI r) x:=by
 obtain⟨d,e1,e2⟩:=g.get' e;rw[x6]at e1;cases z:bs[i]? with
 | none=>rw[z]at e1;cases e1
 | some s=>rw[z]at e1;cases e1;exact⟨s,rfl,e2⟩
theorem TR{xs:List V}{bs:List B4}(g:DatAll K H (bs.map NI) xs):xs.length=bs.length:=by rw[g.len,j4]
end
theorem Q1:ki (x::us) none (some 1)=[x]:=by
 unfold ki
 rw[_root_.HT.sI,show _root_.HT.sIx (x::us).length (x::us).length (some 1)=1 from by
  rw[show(some (1:Int))=some ((1:Nat):Int) from rfl,_root_.HT.oi,m6];omega]
 rfl
theorem Q0(x:V)(us:List V):ki (x::us) (some 1) none=us:=by
 unfold ki
 rw[show _root_.HT.sIx (x::us).length 0 (some 1)=1 from by
  rw[show(some (1:Int))=some ((1:Nat):Int) from rfl,_root_.HT.oi,m6];omega,_root_.HT.sI]
 show List.take ((x::us).length-1) us=us;rw[m6,Nat.add_sub_cancel,A6]
inductive BZ(vs:List V)(H:Hp)(Q:VK)(E:XK):Prop
 | mk (t b:Int):vs=[.int t,.int b]->b≠0->Bg b->Q (.int (NB t b)) H->BZ vs H Q E
inductive RI(K:W.Frag)(vs:List V)(H:Hp)(Q:VK)(E:XK):Prop
 | mk (x y p q):vs=[x,y]->Dat K H (LC p) x->Dat K H (LC q) y->Hu.R3 3000 p->Hu.R3 3000 q->(∀t H',aK H H'->Dat K H' (NI (sb p q)) (.ref t)->Q (.ref t) H')->RI K vs H Q E
inductive Ai(K:W.Frag)(vs:List V)(H:Hp)(Q:VK)(E:XK):Prop
 | mk (l x us h r):vs=[.ref l,x]->H l=some (.lst us)->DatAll K H (h.map LC) us->Dat K H (LC r) x->(∀p∈h,Hu.R3 3000 p)->0<h.length->h.length<=100->(∀l' ws H',aK H H'->H l'=none->H' l'=some (.lst ws)->DatAll K H' ((zA h r).map NI) ws->Q (.ref l') H')->Ai K vs H Q E
inductive RG(K:W.Frag)(vs:List V)(H:Hp)(Q:VK)(E:XK):Prop
 | mk (l ws bs) (n x:Int):vs=[.ref l,.int n,.int x]->H l=some (.lst ws)->DatAll K H (bs.map NI) ws->(∀q∈bs,q.R)->0<=n->n.natAbs<2^200->x.natAbs<2^200->((∀y,0<=y->y<=n->Kept bs n x y->Q (.int y) H))->(((∀y,0<=y->y<=n->¬Kept bs n x y)->Q .non H))->RG K vs H Q E
theorem ok_rup(T:aC K mg "round_up" mO):Def P w K mg base 1 "round_up" ["top","bottom"] BZ:=by
 refine aQ T qd ?_ ?_
 .walk_at "i1"
 walk_at "i2";obtain⟨t,b,rfl,b0,bb,q⟩:=h;have nd:=qd.nd;refine⟨_,(aq (av (mq gE (aM hV (mq gE (pv 0)) (pv 1))))),?_⟩;exact⟨_,rfl,_,rfl,_,rfl,_,_,rfl,rfl,uv b0 bb,_,rfl,q⟩
theorem ok_sb(T:aC K mg "side_bound" jQ):Def P w K mg base 1 "side_bound" ["one","other"] (RI K):=by
 refine aQ T mh ?_ ?_
 .walk_at "i1"
 walk_at "i2";obtain⟨x,y,p,q,rfl,dx,dy,bp,bq,k⟩:=h;obtain⟨ax,rfl,sx⟩:=cW dx;obtain⟨ay,rfl,sy⟩:=cW dy;obtain⟨p1,p2,p3⟩:=NQ bp;obtain⟨q1,q2,q3⟩:=NQ bq;have nd:=mh.nd
 refine⟨_,(ah (aJ (i:=2) (aM dB (aM bu (aB az (pv 0) ao) (aB az (pv 1) ao)) (aM bu (aB az (pv 0) ao) (aB az (pv 1) ao))))
  (ah (aJ (i:=3) (aM dB (aM bu (aB az (pv 0) ao) (aB az (pv 1) ao)) (aM bu (aB az (pv 0) ao) (aB az (pv 1) ao))))
  (ah (aJ (i:=4) (aM dB (aM bu (aB az (pv 0) ao) (aB az (pv 1) ao)) (aM bu (aB az (pv 0) ao) (aB az (pv 1) ao))))
  (aq (av (bc (aa (pv 2) (aa (pv 3) (aa (pv 4) (eB af)))))))))),?_⟩
 refine⟨_,rfl,_,_,_,_,rfl,rfl,sx,rfl,_,rfl,_,_,_,_,rfl,rfl,sy,rfl,_,_,rfl,rfl,dX p3 q1,_,rfl,_,_,_,_,rfl,rfl,sx,rfl,_,rfl,_,_,_,_,rfl,rfl,sy,rfl,_,_,rfl,rfl,dX p1 q3,_,_,rfl,rfl,?_⟩;refine⟨_,rfl,_,_,_,_,rfl,rfl,sx,rfl,_,rfl,_,_,_,_,rfl,rfl,sy,rfl,_,_,rfl,rfl,dX p1 q2,_,rfl,_,_,_,_,rfl,rfl,sx,rfl,_,rfl,_,_,_,_,rfl,rfl,sy,rfl,_,_,rfl,rfl,dX p2 q1,_,_,rfl,rfl,?_⟩;refine⟨_,rfl,_,_,_,_,rfl,rfl,sx,rfl,_,rfl,_,_,_,_,rfl,rfl,sy,rfl,_,_,rfl,rfl,dX p2 q3,_,rfl,_,_,_,_,rfl,rfl,sx,rfl,_,rfl,_,_,_,_,rfl,rfl,sy,rfl,_,_,rfl,rfl,dX p3 q2,_,_,rfl,rfl,?_⟩;refine⟨_,rfl,_,rfl,_,rfl,(by show 4<=sizeLine;decide),λt ht=>?_⟩;exact k t _ (ak ht _) (Q7 (q:=sb p q) (Lz.of ae))
theorem ok_yw(T:aC K mg "y_within" mM)(ck:mg "max"=none)(bS:mg "min"=none)(nG:Def P w K mg base 1 "round_up" ["top","bottom"] BZ):Def P w K mg base 2 "y_within" ["bounds","n","x"] (RG K):=by
 refine aQ T pZ ?_ ?_
 .walk_at "i1"
 walk_at "i2";obtain⟨l,ws,bs,n,x,rfl,el,da,rb,n0,bn,bx,q1,q2⟩:=h;have nd:=pZ.nd;have X9:Bg n:=dG bn (by decide);have bxB:Bg x:=dG bx (by decide)
 refine⟨_,(ah (aJ (i:=3) ao)
  (ah (aJ (i:=4) (pv 1))
  (ah (eQ z7 rfl (cf (pv 0)) (iR rfl (aY (aS (i:=5)) (aY (aS (i:=6)) (aY (aS (i:=7)) (aY (aS (i:=8)) cZ))))) (ah (aJ (i:=9) (aM dB (aM dB (pv 8) (aM bu (pv 5) (pv 2))) (aM bu (pv 7) (pv 1))))
  (aq (aT (aE ix (pv 6) ao (aI _)) (aq (aJ (i:=3) (aG (iJ rfl) ck (aa (pv 3) (aa (aH nG (aa (pv 9) (aa (pv 6) af))) af))))) (aq (aT (aE jb (pv 6) ao (aI _)) (aq (aJ (i:=4) (aG (fH rfl) bS (aa (pv 4) (aa (aM hV (pv 9) (pv 6)) af))))) (aq (aT (aE ix (pv 9) ao (aI _)) (aq (av bN)) aL))))))))
  (aq (av (kY (aE jF (pv 3) (pv 4) (aI _)) (pv 3) bN)))))),?_⟩
 refine⟨_,rfl,_,rfl,l,rfl,⟨ws,LA.of el⟩,?_⟩;refine eU (xs:=ws) (λi σ H'=>H'=H/\∃(lo hi:Int)(o5 o6 o7 o8 o9:Option V),σ=[some (.ref l),some (.int n),some (.int x),some (.int lo),some (.int hi),o5,o6,o7,o8,o9]/\∀y,(0<=y/\y<=n/\Kept (bs.take i) n x y)↔(lo<=y/\y<=hi)) ⟨rfl,0,n,_,_,_,_,_,rfl,λy=>⟨λz=>⟨z.1,z.2.1⟩,λz=>⟨z.1,z.2,λq hq=>by simp at hq⟩⟩⟩ (λi σ H' _ z=>by rw[z.1];exact LA.of el) (λi v σ H' hv z=>?_) (λσ H' z=>?_)
 .obtain⟨rfl,lo,hi,o5,o6,o7,o8,o9,rfl,iv⟩:=z;obtain⟨b,hb,db⟩:=TU da hv;obtain⟨ba,rfl,sb⟩:=WN db;obtain⟨r1,r2,r3,r4⟩:=rb b (w8 hb);have tk:bs.take (i+1)=bs.take i++[b]:=by rw[A7,hb];rfl
  have kt:∀y,Kept (bs.take (i+1)) n x y↔Kept (bs.take i) n x y/\b.l-b.a*x-b.c*n<=b.b*y:=λy=>by
   rw[tk];unfold Kept;constructor
   .intro k;have k2:=k b (p8 _ x8);unfold B4.Kp at k2;exact⟨λq hq=>k q (B2 _ hq),by omega⟩
   .rintro⟨k1,k2⟩ q hq
    rcases j9.mp hq with z | z
    .exact k1 q z
    .rw[d7.mp z];unfold B4.Kp;omega
  refine⟨ba,_,rfl,sb,rfl,_,_,rfl,_,_,rfl,_,_,rfl,_,_,rfl,rfl,?_⟩;refine⟨_,rfl,_,rfl,_,rfl,_,_,rfl,rfl,dX (dG r1 (by decide)) bxB,_,_,rfl,rfl,_,rfl,_,rfl,_,_,rfl,rfl,dX (dG r3 (by decide)) X9,_,_,rfl,rfl,?_⟩;refine⟨_,rfl,_,_,rfl,rfl,_,rfl,cU (λc1=>?_) (λc1=>?_)⟩
  .have c1:0<b.b:=i9 c1;refine⟨_,rfl,_,rfl,_,rfl,_,b.b,rfl,by omega,dG r2 (by decide),?_⟩;refine⟨_,_,rfl,?_⟩;refine⟨rfl,_,hi,_,_,_,_,_,rfl,λy=>?_⟩;rw[kt];have e:=sJ (t:=b.l-b.a*x-b.c*n) (y:=y) c1;have v:=iv y;generalize NB (b.l-b.a*x-b.c*n) b.b=z at *;split<;>constructor
   .rintro⟨a1,a2,a3,a4⟩;have:=v.mp ⟨a1,a2,a3⟩;have:=e.mpr a4;omega
   .rintro⟨a1,a2⟩;have w:=v.mpr ⟨by omega,a2⟩;exact⟨w.1,w.2.1,w.2.2,e.mp a1⟩
   .rintro⟨a1,a2,a3,a4⟩;exact v.mp ⟨a1,a2,a3⟩
   .rintro⟨a1,a2⟩;have w:=v.mpr ⟨a1,a2⟩;exact⟨w.1,w.2.1,w.2.2,e.mp (by omega)⟩
  .have c1:¬0<b.b:=λz=>c1 (i6 z);refine⟨_,rfl,_,_,rfl,rfl,_,rfl,cU (λc2=>?_) (λc2=>?_)⟩
   .have c2:b.b<0:=i9 c2;refine⟨_,rfl,_,rfl,_,rfl,_,_,rfl,rfl,uv (by omega) (dG r2 (by decide)),?_⟩;refine⟨_,_,rfl,?_⟩;refine⟨rfl,lo,_,_,_,_,_,_,rfl,λy=>?_⟩;rw[kt];have e:=Tf (t:=b.l-b.a*x-b.c*n) (y:=y) c2;have v:=iv y;generalize (b.l-b.a*x-b.c*n).fdiv b.b=z at *;split<;>constructor
    .rintro⟨a1,a2,a3,a4⟩;have:=v.mp ⟨a1,a2,a3⟩;have:=e.mpr a4;omega
    .rintro⟨a1,a2⟩;have w:=v.mpr ⟨a1,by omega⟩;exact⟨w.1,w.2.1,w.2.2,e.mp a2⟩
    .rintro⟨a1,a2,a3,a4⟩;exact v.mp ⟨a1,a2,a3⟩
    .rintro⟨a1,a2⟩;have w:=v.mpr ⟨a1,a2⟩;exact⟨w.1,w.2.1,w.2.2,e.mp (by omega)⟩
   .have c2:¬b.b<0:=λz=>c2 (i6 z);have b0:b.b=0:=by omega
    refine⟨_,rfl,_,_,rfl,rfl,_,rfl,cU (λc3=>?_) (λc3=>?_)⟩
    .have c3:0<b.l-b.a*x-b.c*n:=i9 c3;refine q2 λy y0 y1 k=>?_;have k2:=k b (w8 hb);unfold B4.Kp at k2;rw[b0,Kd]at k2;omega
    .have c3:¬0<b.l-b.a*x-b.c*n:=λz=>c3 (i6 z);refine⟨rfl,lo,hi,_,_,_,_,_,rfl,λy=>?_⟩;rw[kt,b0,Kd];have v:=iv y;constructor
     .rintro⟨a1,a2,a3,a4⟩;exact v.mp ⟨a1,a2,a3⟩
     .rintro z;have w:=v.mpr z;exact⟨w.1,w.2.1,w.2.2,by omega⟩
 .obtain⟨rfl,lo,hi,o5,o6,o7,o8,o9,rfl,iv⟩:=z;rw[TR da,A6]at iv;refine⟨_,rfl,_,rfl,_,_,rfl,rfl,_,rfl,cU (λc=>?_) (λc=>?_)⟩
  .have c:lo<=hi:=i9 c;have w:=(iv lo).mpr ⟨C3 _,c⟩;exact⟨_,rfl,q1 lo w.1 w.2.1 w.2.2⟩
  .have c:¬lo<=hi:=λz=>c (i6 z);refine q2 λy y0 y1 k=>?_;have:=(iv y).mp ⟨y0,y1,k⟩;omega
theorem Bo(h:wi σ H λJ H1=>mE n (λ_ H R=>R J H) g te js σ H1 Q):mE n wi g te js σ H Q:=h
theorem EO(zs:List PyData)(ha:H a=some (.lst xs))(hb:H b=some (.lst ys))(l1:ys.length=xs.length)(l2:zs.length=xs.length)(hx:xs.length<=1000)
  (hs:∀(i:Nat) x y z H' N,xs[i]?=some x->ys[i]?=some y->zs[i]?=some z->aK H H'->(∀t LD,aK H' LD->Dat K LD z t->N t LD)->te (some x::some y::bR js σ) H' N)
  (hd:∀D us H',aK H H'->H D=none->H' D=some (.lst us)->DatAll K H' zs us->Q (.ref D) H') :
  mE 2 (λ_ H R=>R (Ye K a b) H) (S8 K 2 (Iw (my 0) (Iw (my 1) Wi))) te js σ H Q:=by
 intro D hD;have na:a≠D:=aF ha hD;have nb:b≠D:=aF hb hD;refine⟨λi m H'=>m=xs.length-i/\i<=xs.length/\aK H H'/\∃us,us.length=i/\H' D=some (.lst us)/\DatAll K H' (zs.take i) us,⟨xs.length,rfl,y7 _,ak hD _,[],rfl,ae,rfl⟩,?_⟩;rintro i m H2 ⟨rfl,hi,s2,us,lu,eD,al⟩
 have ea:=s2 _ _ ha;have eb:=s2 _ _ hb
 by_cases LI:i<xs.length
 .have h1:xs[i]?=some xs[i]:=c9 LI;have h2:ys[i]?=some (ys[i]'(by omega)):=c9 (by omega);have h3:zs[i]?=some (zs[i]'(by omega)):=c9 (by omega);refine .inr ⟨⟨xs,ys,_,_,LA.of ea,LA.of eb,h1,h2⟩,λo lo v H3 y=>?_⟩;obtain⟨T,vs',hT,rfl,rfl,x,y',rfl,q1,q2⟩:=y;have q1:=q1 xs (LA.of ea);have q2:=q2 ys (LA.of eb);rw[h1]at q1;rw[h2]at q2;cases q1
  cases q2
  have uT:=ak hT (.tup [xs[i],ys[i]'(by omega)])
  obtain⟨o1,o2,rfl⟩:∃o1 o2,o=[o1,o2]:=by
   match o,lo with
   | [o1,o2],_=>exact⟨o1,o2,rfl⟩
  refine⟨T,_,rfl,Lz.of ae,rfl,_,_,rfl,_,_,rfl,rfl,[some xs[i],some (ys[i]'(by omega))],rfl,rfl,?_⟩;refine hs i _ _ _ _ _ h1 h2 h3 (s2.trans uT) λt H4 s4 et=>?_;have OV:=uT.trans s4;have Ti:=OV _ _ eD;have t5:Mv H4 (upd H4 D (.lst (us++[t]))):=dj Ti;refine⟨us,Ti,d9 (show us.length<=1000 by omega) (by decide),xs.length-(i+1),by omega,rfl,LI,aX (s2.trans OV) hD _,us++[t],by simp[lu],ae,?_⟩;rw[A7,h3];exact((al.ts OV.ts).ts t5).snoc (et.ts t5)
 .have ei:i=xs.length:=by omega
  subst ei;rw[<- l2,A6]at al;exact .inl ⟨⟨xs,ys,LA.of ea,LA.of eb,.inl (c7 _)⟩,hd D us H2 s2 hD eD al⟩
theorem ok_bnds(T:aC K mg "bounds_of" kW)(gD:mg "zip"=none)(xG:Def P w K mg base 1 "side_bound" ["one","other"] (RI K)):Def P w K mg base 2 "bounds_of" ["hull","rule"] (Ai K):=by
 refine aQ T og ?_ ?_
 .walk_at "i1"
 walk_at "i2";obtain⟨l,x,us,h,r,rfl,el,da,dx,rb,h0,h1,q⟩:=h;have nd:=og.nd
 refine⟨_,(ah (yz (i:=2) (xs:=["one","other"]) (R7 rfl gD (pv 0) (aM Ax (iS wj (pv 0) (jY ao) jZ) (iS wj (pv 0) jZ (jY ao)))) cC (λ_ _ _ _=>lO (K:=K) (n:=2) rfl rfl (aY (aS (i:=0) (hN:=(show(["one","other"]:List Str).Nodup by decide+kernel)) (hf:=(.inr rfl))) (aY (aS (i:=1) (hN:=(show(["one","other"]:List Str).Nodup by decide+kernel)) (hf:=(.inr rfl))) cZ))) (λ_ _ _ _=>(aH xG (aa (pv 0) (aa (pv 1) af)))))
  (ah (bB (cO c6 j7 j8 bj (pv 2) (yE (bc (aa (mq gE (aB az (pv 1) ao)) (aa (mq gE (aB az (pv 1) ao)) (aa (aM dB ao (aB az (pv 1) ao)) (eB af))))) af)))
  (aq (av (pv 2))))),?_⟩
 have hl:=fc da
 obtain⟨u0,ur,rfl⟩:∃u0 ur,us=u0::ur:=by
  cases us with
  | nil=>simp at hl;omega
  | cons a b=>exact⟨a,b,rfl⟩
 have s0:ur.length+1=h.length:=by rw[<- hl,m6]
 dsimp only[jt,nO];refine Bo ?_;refine⟨_,rfl,_,rfl,_,rfl,l,_,rfl,LA.of el,λp1 Mi=>⟨_,rfl,_,rfl,l,_,rfl,LA.of ((ak Mi _) _ _ el),λp2 LO=>?_⟩⟩;have u1:=ak Mi (.lst (ki (u0::ur) (some 1) none));have u2:=ak LO (.lst (ki (u0::ur) none (some 1)));refine⟨p1,p2,_,_,rfl,rfl,u2 _ _ ae,ae,?_,λp3 ZD=>?_⟩
 .rw[Q0,Q1];exact l8 (show _<=100 by simp;omega) (by decide)
 have u3:=ak ZD (.lst (ki (u0::ur) (some 1) none++ki (u0::ur) none (some 1)));have s3:=(u1.trans u2).trans u3;refine⟨l,p3,rfl,rfl,⟨_,LA.of (s3 _ _ el)⟩,⟨_,LA.of ae⟩,?_⟩;refine EO (K:=K) (xs:=u0::ur) (ys:=ur++[u0]) (((List.range h.length).map (λi=>sb (Hu.cor h i) (Hu.cor h (i+1)))).map NI) (s3 _ _ el) (by rw[ae,Q0,Q1]) (by simp) (by simp;omega) (by simp;omega) (λi x y z H' N hx hy hz s4 hN=>?_) (λD ws H' s4 hD eD dD=>?_)
 .have RU:=s3.trans s4;have hi:i<h.length:=by have:=(d6.mp hx).1;rw[m6]at this;omega
  have hz:z=NI (sb (Hu.cor h i) (Hu.cor h (i+1))):=by
   rw[x6,x6,List.getElem?_range hi]at hz;exact(l7 hz).symm
  obtain⟨p,hp,dp⟩:=kF (da.ts RU.ts) hx;rw[Hu.kj hi]at hp
  have Py:(u0::ur)[(i+1)%h.length]?=some y:=by
   rcases B5 (i+1) h.length with c | c
   .rw[Lg c,List.getElem?_cons_succ,<- hy,B8 (by omega)]
   .have e:i+1=h.length:=by omega
    rw[e,Nat.mod_self,<- hy,G3 (by omega),show i-ur.length=0 by omega];rfl
  obtain⟨p',QO,dp'⟩:=kF (da.ts RU.ts) Py;rw[Hu.kj (Lk _ h0),Hu.oF]at QO;cases hp
  cases QO
  subst hz;exact⟨_,rfl,_,rfl,x,y,_,_,rfl,dp,dp',rb _ (Hu.cD h0 _),rb _ (Hu.cD h0 _),λt LD s5 d5=>hN _ _ s5 d5⟩
 .have RU:=s3.trans s4;obtain⟨ax,rfl,sx⟩:=cW dx;have sx:=sx.ts RU.ts;have lw:=dD.len;refine⟨_,rfl,.inl ⟨rfl,_,LA.of eD⟩,?_⟩;refine⟨_,rfl,_,_,_,_,rfl,rfl,sx,rfl,_,rfl,?_⟩;refine⟨_,rfl,_,_,_,_,rfl,rfl,sx,rfl,_,rfl,?_⟩;refine⟨_,rfl,_,_,_,_,rfl,rfl,sx,rfl,_,_,rfl,rfl,?_⟩;refine⟨(by show 4<=sizeLine;decide),λt ht=>?_⟩;have ut:=ak ht (.tup [.int (-r.u),.int (-r.v),.int (1-r.w),.int 1]);have eD1:=ut _ _ eD;refine⟨D,ws,.ref t,rfl,rfl,eD1,d9 (show ws.length<=100 by simp at lw;omega) (by decide),_,rfl,?_⟩;have t5:Mv (upd H' t (.tup [.int (-r.u),.int (-r.v),.int (1-r.w),.int 1])) (upd (upd H' t (.tup [.int (-r.u),.int (-r.v),.int (1-r.w),.int 1])) D (.lst (ws++[.ref t]))):=dj eD1;refine q D _ _ (aX (RU.trans ut) (s3.free hD) _) (s3.free hD) ae ?_;unfold zA;rw[p7];exact((dD.ts ut.ts).ts t5).snoc ((Q7 (q:=YM r) (Lz.of ae)).ts t5)
theorem RW{t b:Int}(t0:0<=t)(b0:0<b):0<=NB t b/\NB t b<=t:=by
 refine⟨?_,(sJ b0).mpr ?_⟩
 .rcases A8 (NB t b) 0 with c | c
  .have:=(sJ (t:=t) (y:=-1) b0).mp (by omega);omega
  .exact c
 .have:=C6 (show 1<=b by omega) t0;omega
theorem Wm{t b:Int}(t0:0<=t)(b0:0<b):0<=t.fdiv b/\t.fdiv b<=t:=by
 rw[G2 _ (z5 b0)];exact⟨Int.ediv_nonneg t0 (z5 b0),Int.ediv_le_self _ t0⟩
theorem qZ:∀{h:List T3}{us:List V},DatAll K H (h.map LC) us->cB (λv p=>Dat K H (LC p) v) us h
 | [],_,g=>by cases(show _=([]:List V) from g);exact .nil
 | p::h,us,g=>by
  obtain⟨v,r,rfl,d,g2⟩:=g;exact .cons d (qZ g2)
def Nar(c:T3):Prop:=0<c.u/\c.u<2^24/\0<=c.v/\c.v<=c.u
inductive RH(K:W.Frag)(vs:List V)(H:Hp)(Q:VK)(E:XK):Prop
 | mk (l lb:Addr) (us ws:List V) (h:List T3) (bs:List B4) (n:Int):vs=[.ref l,.ref lb,.int n]->H l=some (.lst us)->DatAll K H (h.map LC) us->(∀c∈h,Nar c)->0<h.length->h.length<=100->H lb=some (.lst ws)->DatAll K H (bs.map NI) ws->(∀q∈bs,q.R)->0<=n->n<2^32->((∀x y,0<=y->y<=n->Kept bs n x y->∀(t:Addr)(H':Hp),aK H H'->Dat K H' (LC ⟨n,x,y⟩) (.ref t)->Q (.ref t) H'))->(((∀x y,(∃c∈h,NB (c.v*n) c.u<=x)->(∃c∈h,x<=(c.v*n).fdiv c.u)->0<=y->y<=n->¬Kept bs n x y)->∀H',aK H H'->Q .non H'))->RH K vs H Q E
theorem ok_sw(T:aC K mg "step_within" jg)(bS:mg "min"=none)(ck:mg "max"=none)(iC:mg "range"=none)(nG:Def P w K mg base 1 "round_up" ["top","bottom"] BZ)(BG:Def P w K mg base 2 "y_within" ["bounds","n","x"] (RG K)):Def P w K mg base 3 "step_within" ["hull","bounds","n"] (RH K):=by
 refine aQ T kJ ?_ ?_
 .walk_at "i1"
 walk_at "i2";obtain⟨l,lb,us,ws,h,bs,n,rfl,el,da,Sg,h0,h1,eb,db,rb,n0,n1,q1,q2⟩:=h;have nd:=kJ.nd;have hl:=fc da;have al:=qZ da
 have Uy:∀c∈h,0<=c.v*n/\c.v*n<2^56/\Bg c.v/\Bg c.u:=λc hc=>by
  obtain⟨k1,k2,k3,k4⟩:=Sg c hc;refine⟨A0 k3 n0,?_,dG (n:=24) (by omega) (by decide),dG (n:=24) (by omega) (by decide)⟩;have e1:=Int.mul_le_mul_of_nonneg_left (show n<=2^32 by omega) k3;have e2:=C6 (show c.v<=2^24-1 by omega) (show(0:Int)<=2^32 by decide);omega
 have X9:Bg n:=dG (n:=32) (by omega) (by decide)
 refine⟨_,(ah (aJ (i:=3) (aG (iI rfl) bS (aa (dQ (cf (pv 0)) (cq (j:=2) cC) (λ_ _ _ _=>cM) (λ_ _ _ _=>(aH nG (aa (aM bu (aB (lT (K:=K) rfl) (pv 0) ao) (pv 1)) (aa (aB (lT (K:=K) rfl) (pv 0) ao) af))))) af)))
  (ah (aJ (i:=4) (aG (jI rfl) ck (aa (dQ (cf (pv 0)) (cq (j:=2) cC) (λ_ _ _ _=>cM) (λ_ _ _ _=>(aM hV (aM bu (aB (lT (K:=K) rfl) (pv 0) ao) (pv 1)) (aB (lT (K:=K) rfl) (pv 0) ao)))) af)))
  (ah (eQ z7 rfl (DR iC (aa (pv 3) (aa (aM cA (pv 4) ao) af))) (aS (i:=5)) (ah (aJ (i:=6) (aH BG (aa (pv 1) (aa (pv 2) (aa (pv 5) af)))))
  (aq (aT (aE qR (pv 6) bN (aI _)) (aq (av (bc (aa (pv 2) (aa (pv 5) (aa (pv 6) af)))))) aL))))
  (aq (av bN))))),?_⟩
 dsimp only[jt,FI,Oj,eZ,kE];refine comp_map (K:=K) (xs:=us) (ts:=h) (R:=λH v c=>Dat K H (LC c) v) (λc=>V.int (NB (c.v*n) c.u)) (λH H' v t s z=>z.ts s.ts) (λl' H'=>l'=l/\H'=H) (λR k=>⟨_,rfl,l,rfl,⟨_,LA.of el⟩,k l H ⟨rfl,rfl⟩⟩) (λl' H' z=>by obtain⟨rfl,rfl⟩:=z;exact⟨el,aK.refl _⟩) (by omega) al (λv c H3 N hc rv hN=>?_) (λD1 H1 s1 hD1 e1=>?_)
 .obtain⟨ca,rfl,sc⟩:=cW rv;obtain⟨k1,k2,k3,k4⟩:=Uy c hc;have nc:=(Sg c hc).1;refine⟨_,rfl,_,_,_,_,rfl,rfl,sc,cF (j:=1) rfl,_,rfl,_,_,rfl,rfl,dX k3 X9,?_⟩;exact⟨_,rfl,_,_,_,_,rfl,rfl,sc,cF (j:=0) rfl,_,_,rfl,by omega,k4,hN _ (aK.refl _)⟩
 refine⟨D1,h.map λc=>NB (c.v*n) c.u,rfl,LA.of (by rw[e1,Kb];rfl),by simpa using h0,λlo L7 klo=>?_⟩;dsimp only[my,jt,FI,Oj,eZ,kE];have Nx:=s1 _ _ el;refine comp_map (K:=K) (xs:=us) (ts:=h) (R:=λH v c=>Dat K H (LC c) v) (λc=>V.int ((c.v*n).fdiv c.u)) (λH H' v t s z=>z.ts s.ts) (λl' H'=>l'=l/\H'=H1) (λR k=>⟨_,rfl,l,rfl,⟨_,LA.of Nx⟩,k l H1 ⟨rfl,rfl⟩⟩) (λl' H' z=>by obtain⟨rfl,rfl⟩:=z;exact⟨Nx,aK.refl _⟩) (by omega) (al.imp λv c z=>z.ts s1.ts) (λv c H3 N hc rv hN=>?_) (λD2 H2 s2 hD2 e2=>?_)
 .obtain⟨ca,rfl,sc⟩:=cW rv;obtain⟨k1,k2,k3,k4⟩:=Uy c hc;have nc:=(Sg c hc).1;refine⟨_,rfl,_,_,_,_,rfl,rfl,sc,cF (j:=1) rfl,_,rfl,_,_,rfl,rfl,dX k3 X9,?_⟩;exact⟨_,rfl,_,_,_,_,rfl,rfl,sc,cF (j:=0) rfl,_,_,rfl,rfl,uv (by omega) k4,hN _ (aK.refl _)⟩
 refine⟨D2,h.map λc=>(c.v*n).fdiv c.u,rfl,LA.of (by rw[e2,Kb];rfl),by simpa using h0,λhi LZ khi=>?_⟩;have L6:=s1.trans s2;obtain⟨cl,Zg,rfl⟩:=y9.mp L7;obtain⟨ch,Zh,rfl⟩:=y9.mp LZ;have bl:=RW (Uy cl Zg).1 (Sg cl Zg).1;have bl2:=(Uy cl Zg).2.1;have bh:=Wm (Uy ch Zh).1 (Sg ch Zh).1;have bh2:=(Uy ch Zh).2.1;generalize elo:NB (cl.v*n) cl.u=lo at *;generalize ehi:(ch.v*n).fdiv ch.u=hi at *;refine⟨_,rfl,_,rfl,_,_,rfl,rfl,?_⟩;refine⟨_,_,rfl,⟨by omega,by omega,by omega,by omega⟩,?_⟩;refine vD (λi σ H'=>H'=H2/\∃o5 o6,σ=[some (.ref l),some (.ref lb),some (.int n),some (.int lo),some (.int hi),o5,o6]/\∀x y,lo<=x->x<lo+i->0<=y->y<=n->¬Kept bs n x y) ⟨rfl,_,_,rfl,λx y a b=>by omega⟩ (λi σ H' hi z=>?_) (λσ H' z=>?_)
 .obtain⟨rfl,o5,o6,rfl,iv⟩:=z;refine⟨_,rfl,_,rfl,_,rfl,lb,ws,bs,n,lo+i,rfl,L6 _ _ eb,db.ts L6.ts,rb,n0,i7 (show n.natAbs<2^32 by omega) (by decide),i7 (show(lo+i).natAbs<2^60 by omega) (by decide),λy y0 y1 k=>?_,λno=>?_⟩
  .refine⟨_,rfl,rfl,_,rfl,dR ?_⟩;refine⟨_,rfl,_,rfl,_,rfl,(by show 3<=sizeLine;decide),λt ht=>?_⟩;exact q1 _ _ y0 y1 k t _ (L6.trans (ak ht _)) (cg (p:=⟨n,lo+i,y⟩) (Lz.of ae))
  .refine⟨_,rfl,rfl,_,rfl,bJ ?_⟩;refine⟨rfl,_,_,rfl,λx y x0 x1 y0 y1=>?_⟩;rcases A8 x (lo+i) with c | c
   .exact iv x y x0 c y0 y1
   .rw[show x=lo+i by omega];exact no y y0 y1
 .obtain⟨rfl,o5,o6,rfl,iv⟩:=z;refine q2 (λx y a b y0 y1=>?_) _ L6;obtain⟨c1,m1,l1⟩:=a;obtain⟨c2,m2,l2⟩:=b;have:=klo _ (y9.mpr ⟨c1,m1,rfl⟩);have:=khi _ (y9.mpr ⟨c2,m2,rfl⟩);exact iv x y (by omega) (by omega) y0 y1
inductive qK(vs:List V)(H:Hp)(Q:VK)(E:XK):Prop
 | mk (l:Addr) (ms:List Int) (r m:Int):vs=[.ref l,.int r,.int m]->H l=some (.lst (ms.map V.int))->(∀m∈ms,Mr m)->1<=r->r<=60->0<=m->(∀(a:Addr)(t:Tr)(Mt:List Int)(H':Hp),(t.size:Int)<=r->(t.nf:Int)<=m->(∀m∈Mt,Mr m)->SB (.ref l) H H'->H' l=some (.lst (Mt.map V.int))->Tu H' a t->Q (.ref a) H')->qK vs H Q E
theorem Eb(T : aC K mg "_law_holds" s_l_holds)(bS : mg "min" = none)(iF : Def P w K mg base 13 "_law_hulls" ["_law_tree", "_law_hull"] (rF K 9))(lH : Def P w K mg base 3 "_law_rules" ["_law_rows", "_law_hull"] (nV K))(dP : Def P w K mg base 1 "_law_tells" ["_law_rule_here", "_law_corner"] (vR K)) : Def P w K mg base 14 "_law_holds" ["_law_tree", "_law_rows", "_law_top", "_law_bottom"] (rG K) := by
 refine aQ T sc_l_holds (fun vs H Q E h => ?_) (fun f cdv A outer s H vs Q E hr h => ?_)
 .obtain⟨x,l,us,rows,tp,bt,t,L,rfl,_⟩:=h;rfl
 obtain ⟨x,l,us,rows,tp,bt,t,L,rfl,el,da,ok,pos,few,b1,b2,sm,dp,cu,dx,eL,hg,q⟩:=h;have nd := sc_l_holds.nd
 have d3:(3:Nat)<=sizeLine:=by decide
 have hk:=Hu.Tc.fN Hu.iu sm eL
 refine⟨_,un (aP (gP (i:=4) (gQ iF (aV (hv 0) (aV (Il (fg (bO (bG (bG (bG bf)))) (fg (bO (bG (bG (bG bf)))) (fg (bO (bG (bG (bG bf)))) (fg (bO (bG (bG (bG bf)))) bf))))) bf)))) ⟨(ah (aT (aE kg (pv 4) bN (aI _)) (aq (av iw)) aL)
  (ah (eQ z7 rfl (cf (pv 4)) (aS (i:=5)) (ah (aJ (i:=6) (aB az (aH lH (aa (pv 1) (aa (pv 5) af))) ao))
  (ah (aT (aE kg (pv 6) bN (aI _)) (aq (av iw)) aL)
  (ah (jX (i:=7) (cf (pv 5)) (cq (j:=6) (cq (j:=3) (cq (j:=2) cC))) (λ_ _ _ _=>cM) (λ_ _ _ _=>(aM dB (aM bu (aH dP (aa (aB (Ie (K:=K) rfl) (pv 1) (mq gE ao)) (aa (pv 0) af))) (pv 2)) (aM bu (pv 3) (aB (lT (K:=K) rfl) (pv 0) ao)))))
  (aq (aT (aE jb (aG (iI rfl) bS (aa (pv 7) af)) ao (aI _)) (aq (av iw)) aL))))))
  (aq (av iw))))⟩),?_⟩
 refine⟨_,rfl,d3,λp1 h1=>⟨d3,λp2 h2=>⟨d3,λp3 h3=>⟨d3,λp4 h4=>⟨(by show 4<=sizeLine;decide),λl5 h5=>?_⟩⟩⟩⟩⟩;have u1:=ak h1 (.tup [.int 1,.int 0,.int 0]);have u2:=ak h2 (.tup [.int 1,.int 1,.int 0]);have u3:=ak h3 (.tup [.int 1,.int 1,.int 1]);have u4:=ak h4 (.tup [.int 1,.int 0,.int 1]);have u5:=ak h5 (.lst [V.ref p1,.ref p2,.ref p3,.ref p4]);have e1:=(u2.trans (u3.trans (u4.trans u5))) _ _ ae;have e2:=(u3.trans (u4.trans u5)) _ _ ae;have e3:=(u4.trans u5) _ _ ae;have e4:=u5 _ _ ae;have e5:upd (upd (upd (upd (upd H p1 (.tup [.int 1,.int 0,.int 0])) p2 (.tup [.int 1,.int 1,.int 0])) p3 (.tup [.int 1,.int 1,.int 1])) p4 (.tup [.int 1,.int 0,.int 1])) l5 (.lst [V.ref p1,.ref p2,.ref p3,.ref p4]) l5=some (.lst [V.ref p1,.ref p2,.ref p3,.ref p4]):=ae;have s5:=u1.trans (u2.trans (u3.trans (u4.trans u5)));generalize upd (upd (upd (upd (upd H p1 (.tup [.int 1,.int 0,.int 0])) p2 (.tup [.int 1,.int 1,.int 0])) p3 (.tup [.int 1,.int 1,.int 1])) p4 (.tup [.int 1,.int 0,.int 1])) l5 (.lst [V.ref p1,.ref p2,.ref p3,.ref p4])=H5 at *;have dsq:DatAll K H5 (Hu.sqH.map LC) [V.ref p1,.ref p2,.ref p3,.ref p4]:=⟨_,_,rfl,cg (p:=⟨1,0,0⟩) (Lz.of e1),_,_,rfl,cg (p:=⟨1,1,0⟩) (Lz.of e2),_,_,rfl,cg (p:=⟨1,1,1⟩) (Lz.of e3),_,_,rfl,cg (p:=⟨1,0,1⟩) (Lz.of e4),rfl⟩;refine⟨x,l5,_,t,Hu.sqH,L,rfl,e5,dsq,Hu.iu,sm,by show 4+t.deep<=20;omega,by omega,cu,dx.ts s5.ts,eL,λll ws H6 s6 N6 Ya=>?_⟩;have s06:=s5.trans s6;refine⟨_,rfl,rfl,_,rfl,bJ ?_⟩;refine⟨_,rfl,ll,rfl,⟨ws,LA.of N6⟩,?_⟩;refine eU (xs:=ws) (λi σ H'=>aK H6 H'/\∃o5 o6 o7,σ=[some x,some (.ref l),some (.int tp),some (.int bt),some (.ref ll),o5,o6,o7]) ⟨aK.refl _,_,_,_,rfl⟩ (λi σ H' _ z=>LA.of (z.1 _ _ N6)) (λi v σ H' hv z=>?_) (λσ H' z=>?_)
 .obtain⟨s7,o5,o6,o7,rfl⟩:=z;obtain⟨g,XO,ga,NG,rfl,eg,dg⟩:=(Ya.imp (Og.to s7)).get i v hv;have gm:=w8 XO;obtain⟨YK,ru,kr⟩:=hg g gm;obtain⟨ZO,hlg⟩:=hk g gm;have s07:=s06.trans s7;have VY:∀p∈g,Hu.R3 3000 p:=λp hp=>(ZO.ok p hp).r.mono (by decide);have n3:=ZO.n3;have sqn:Hu.sqH.length=4:=rfl;refine⟨_,rfl,_,rfl,l,ga,us,NG,rows,g,rfl,s07 _ _ el,da.ts s07.ts,ok,few,eg,dg,VY,by omega,by omega,λrs t2 lr wr H8 s8 er rb ln et elr WB=>?_,λk tt t2 v2 H8 s8 er _ _ _ _=>?_⟩
  .rw[ru]at er;cases er
   have lw:=fc WB;have Rm:0<wr.length:=by omega
   obtain⟨r,Na⟩:∃r,YK[wr.length-1]?=some r:=⟨YK[wr.length-1]'(by omega),c9 (by omega)⟩;obtain⟨rv0,Zy,drv⟩:=ma WB Na;have NY:YK.getLast?=some r:=by rw[J0,<- lw];exact Na
   have Vb:Hu.R3 101 r:=(rb _ r Na).mono (by omega);have rb3:Hu.R3 3000 r:=Vb.mono (by decide);have kr:=kr r NY;refine⟨_,_,_,_,rfl,rfl,Lz.of et,rfl,?_⟩;refine⟨_,rfl,rfl,_,rfl,bJ ?_⟩;have eg8:=s8 _ _ eg;dsimp only[BP,jt,nO]
   refine comp_map (K:=K) (ts:=g) (R:=λH v p=>Dat K H (LC p) v/\H lr=some (.lst wr)/\Dat K H (LC r) rv0) (xs:=NG) (λp=>.int (Hu.tl r p*bt-tp*p.u)) (λ_ _ _ _ e h=>⟨h.1.ts e.ts,e _ _ h.2.1,h.2.2.ts e.ts⟩) (λl' H'=>l'=ga/\H'=H8) (λR h=>⟨_,rfl,ga,rfl,⟨_,LA.of eg8⟩,h ga _ ⟨rfl,rfl⟩⟩) (λl' H' h=>by obtain⟨rfl,rfl⟩:=h;exact⟨eg8,aK.refl _⟩) (by rw[fc dg];omega)
    ((qZ (dg.ts s8.ts)).imp λv p h=>⟨h,elr,drv⟩) (λv p H' N hp hv hN=>?_) (λD H9 s9 hD eD=>?_)
   .obtain⟨dv,slr,drv'⟩:=hv;obtain⟨pa,rfl,sp⟩:=cW dv;have pb:=(ZO.ok p hp).r;have Ud:Bg (Hu.tl r p):=i7 (Hu.tl_b Vb pb) (G0 (by decide) (by decide));have pub:Bg p.u:=dG pb.a (by decide);exact⟨_,rfl,_,rfl,_,_,_,_,rfl,rfl,LA.of slr,(by rw[vM Rm];exact Zy),_,rfl,_,_,r,p,rfl,drv',dv,rb3,VY p hp,_,rfl,_,_,rfl,rfl,dX Ud b2,_,rfl,_,rfl,_,_,_,_,rfl,rfl,sp,rfl,_,_,rfl,rfl,dX b1 pub,_,_,rfl,rfl,hN _ (aK.refl _)⟩
   .have L4:0<(g.map λp=>Hu.tl r p*bt-tp*p.u).length:=by rw[j4];omega
    refine⟨_,rfl,D,g.map λp=>Hu.tl r p*bt-tp*p.u,rfl,LA.of (by rw[Kb];exact eD),L4,λM hM MF=>?_⟩;refine⟨_,_,rfl,rfl,_,rfl,cU (λc=>?_) (λc=>?_)⟩
    .have c':M<0:=i9 c;obtain⟨p,hp,ep⟩:=y9.mp hM;have:=kr p hp;omega
    .exact⟨(s7.trans s8).trans s9,_,_,_,rfl⟩
  .rw[ru]at er;cases er
 .obtain⟨s7,o5,o6,o7,rfl⟩:=z;exact q _ (s06.trans s7)
theorem ok_isfr(T:aC K mg "_law_is_fraction" ik)(aO:mg "isinstance"=none)(aW:mg "tuple"=none)(bE:mg "len"=none)(gp:mg "abs"=none)(fL:Def P w K mg base 1 "_law_whole" ["_law_found"] nU)(jo:Def P w K mg base 1 "_law_lowest" ["_law_point"] FT):Def P w K mg base 2 "_law_is_fraction" ["_law_found"] (FX K):=by
 refine aQ T jz ?_ ?_
 .walk_at "i1"
 walk_at "i2";obtain⟨v,fr,rfl,⟨a,rfl,sq⟩,f0,g1,q⟩:=h;have nd:=jz.nd;have hu:=hr.units;have d2:(2:Nat)<=sizeLine:=by decide
 refine⟨_,(ah (aT (PW.pt (eM (eP (dA (aG fJ aO (aa (pv 0) (aa (fq (v:=V.ty "tuple") rfl aW (by decide+kernel) rfl) af))))) (eM (aE ky (aG bL bE (aa (pv 0) af)) ao (aI _)) (eM (eP (dA (aH fL (aa (aB az (pv 0) ao) af)))) (fV (eP (dA (aH fL (aa (aB az (pv 0) ao) af))))))))) (aq (av iw)) aL)
  (aq (av (ke (dM ix (aB az (pv 0) ao) ao (aI _)) (mX (dM (Aw hu) (aH jo (yE (bc (aa (aG gk gp (aa (aB az (pv 0) ao) af)) (aa (aB az (pv 0) ao) af))) af)) (bc (aa (aG gk gp (aa (aB az (pv 0) ao) af)) (aa (aB az (pv 0) ao) af))) (aI _))))))),?_⟩
 refine⟨_,rfl,a,_,_,_,true,rfl,(λ_ h=>h),sq,ff,_,rfl,bJ ?_⟩;refine⟨_,rfl,_,_,rfl,.inr ⟨_,sq,rfl⟩,rfl,_,rfl,bJ ?_⟩;refine⟨_,rfl,_,_,_,_,rfl,rfl,sq,rfl,fr.1,rfl,_,rfl,bJ ?_⟩;refine⟨_,rfl,_,_,_,_,rfl,rfl,sq,rfl,fr.2,rfl,_,rfl,bJ ?_⟩;refine⟨_,rfl,_,_,_,_,rfl,rfl,sq,rfl,_,_,rfl,rfl,_,rfl,?_⟩;rw[show decide (fr.2>0)=true from i6 f0];refine dR ?_;refine⟨_,rfl,_,_,_,_,rfl,rfl,sq,rfl,_,rfl,_,rfl,_,_,_,_,rfl,rfl,sq,rfl,d2,λp hp=>?_⟩;rw[dH];have u1:=ak hp (.tup [.int (fr.1.natAbs:Int),.int fr.2]);have ge:MB [(fr.1.natAbs:Int),fr.2]=1:=by rw[Z2 _ (by omega),show Lo.gc (fr.1.natAbs:Int) fr.2=Lo.gc fr.1 fr.2 from(by show((Nat.gcd (Int.natAbs (fr.1.natAbs:Int)) fr.2.natAbs:Nat):Int)=((Nat.gcd fr.1.natAbs fr.2.natAbs:Nat):Int);rw[Int.natAbs_natCast]),g1]
 refine⟨p,[(fr.1.natAbs:Int),fr.2],rfl,ae,λn hn=>?_,by rw[ge];decide,by rw[ge];exact dG (n:=1) (by decide) (by decide),by simp,λt H2 s2 et=>?_⟩
 .simp only[j6,A2,F9]at hn;rcases hn with rfl | rfl<;>omega
 rw[ge]at et
 have et:H2 t=some (.tup [.int (fr.1.natAbs:Int),.int fr.2]):=by
  rw[et];show some (HO.tup [V.int (Int.fdiv _ 1),V.int (Int.fdiv _ 1)])=_;rw[Int.fdiv_one,Int.fdiv_one]
 have OR:=sq.ts (u1.trans s2).ts;refine⟨_,rfl,_,_,_,_,rfl,rfl,OR,rfl,_,rfl,_,rfl,_,_,_,_,rfl,rfl,OR,rfl,d2,λp2 LO=>?_⟩;rw[dH];have u3:=ak LO (.tup [.int (fr.1.natAbs:Int),.int fr.2]);have da:∀{H:Hp}{v:Addr},Lz K H v [.int (fr.1.natAbs:Int),.int fr.2]->Dat K H (NH (fr.1.natAbs:Int) fr.2) (.ref v):=λ{H v} s=>⟨v,_,rfl,s,_,_,rfl,rfl,_,_,rfl,rfl,rfl⟩;refine⟨_,_,.inl (da (Lz.of (u3 _ _ et))),.inl (da (Lz.of ae)),dE _ _,dE _ _,?_⟩;rw[nu (dE _ _)];exact q _ ((u1.trans s2).trans u3)
theorem ok_ispt(T:aC K mg "_law_is_point" jS)(aO:mg "isinstance"=none)(aW:mg "tuple"=none)(bE:mg "len"=none)(oH:mg "all"=none)(bS:mg "min"=none)(ck:mg "max"=none)(fL:Def P w K mg base 1 "_law_whole" ["_law_found"] nU):Def P w K mg base 2 "_law_is_point" ["_law_found"] (FW K):=by
 refine aQ T mj ?_ ?_
 .walk_at "i1"
 walk_at "i2";obtain⟨v,p,rfl,dv,u0,v0,v1,w0,w1,q⟩:=h;obtain⟨a,rfl,sq⟩:=cW dv;have nd:=mj.nd
 refine⟨_,(ah (aT (PW.pt (eM (eP (dA (aG fJ aO (aa (pv 0) (aa (fq (v:=V.ty "tuple") rfl aW (by decide+kernel) rfl) af))))) (eM (aE ky (aG bL bE (aa (pv 0) af)) ao (aI _)) (fV (eP (dA (aG (tV rfl) oH (aa (dQ (kX (pv 0)) cC (λ_ _ _ _=>cM) (λ_ _ _ _=>(aH fL (aa (pv 0) af)))) af)))))))) (aq (av iw)) aL)
  (aq (av (ke (dM ix (aB az (pv 0) ao) ao (aI _)) (ke (dM jF ao (aG (ET (K:=K) rfl rfl) bS (aa (iS qN (pv 0) (jY ao) jZ) af)) (aI _)) (mX (dM jF (aG (EU (K:=K) rfl rfl) ck (aa (iS qN (pv 0) (jY ao) jZ) af)) (aB az (pv 0) ao) (aI _)))))))),?_⟩
 refine⟨_,rfl,a,_,_,_,true,rfl,(λ_ h=>h),sq,ff,_,rfl,bJ ?_⟩;refine⟨_,rfl,_,_,rfl,.inr ⟨_,sq,rfl⟩,rfl,_,rfl,bJ ?_⟩;refine⟨_,rfl,a,rfl,⟨_,sq⟩,λD hD=>?_⟩;refine BN (K:=K) sq hD (λn H' k z=>⟨_,rfl,n,rfl,z⟩) (λH1 s1 Md=>?_);refine⟨D,List.replicate 3 true,rfl,LA.of Md,_,rfl,bJ ?_⟩;have Yx:=sq.ts s1.ts;refine⟨_,rfl,_,_,_,_,rfl,rfl,Yx,rfl,_,_,rfl,rfl,_,rfl,?_⟩;rw[show decide (p.u>0)=true from i6 u0];refine dR ?_;refine⟨_,rfl,_,rfl,?_⟩;dsimp only[nM];refine U0 (K:=K) Yx λp2 LO=>?_;have u2:=ak LO (.tup [.int p.v,.int p.w]);refine⟨p2,[p.v,p.w],rfl,Lz.of ae,by simp,λM hM MF=>?_⟩
 have M0:0<=M:=by
  simp only[j6,A2,F9]at hM;rcases hM with rfl | rfl<;>assumption
 refine⟨_,_,rfl,rfl,_,rfl,?_⟩;rw[show decide ((0:Int)<=M)=true from i6 M0];refine dR ?_;have OR:=Yx.ts u2.ts;refine⟨_,rfl,_,rfl,?_⟩;dsimp only[nM];refine U0 (K:=K) OR λp3 ZD=>?_;have u3:=ak ZD (.tup [.int p.v,.int p.w]);refine⟨p3,[p.v,p.w],rfl,Lz.of ae,by simp,λM2 Oy MR=>?_⟩
 have M1:M2<=p.u:=by
  simp only[j6,A2,F9]at Oy;rcases Oy with rfl | rfl<;>assumption
 refine⟨_,rfl,_,_,_,_,rfl,rfl,OR.ts u3.ts,rfl,_,_,rfl,rfl,?_⟩;show Q (.bl (decide (M2<=p.u))) _;rw[show decide (M2<=p.u)=true from i6 M1];exact q _ ((s1.trans u2).trans u3)
theorem ok_lfew(T:aC K mg "_law_few" wq)(bE:mg "len"=none)(gR:Def P w K mg base 1 "_law_next" ["_law_cells"] vU)(gx:Def P w K mg base 62 "_law_saying" ["_law_cells","_law_room","_law_two"] (xV 60))(cG:Def P w K mg base 61 "_law_folds" ["_law_tree"] (rB 60)):Def P w K mg base 63 "_law_few" ["_law_cells","_law_room","_law_most"] qK:=by
 refine aQ T yi ?_ ?_
 .walk_at "i1"
 walk_at "i2";obtain⟨l,ms,r,m,rfl,el,WK,r1,r60,m0,q⟩:=h;have nd:=yi.nd
 refine⟨_,(ah (aJ (i:=3) (aH gx (aa (pv 0) (aa (aM cA ao (aM iA (aH gR (aa (pv 0) af)) (pv 1))) (aa iw af)))))
  (ah (iQ z7 (aE ix (aH cG (aa (pv 3) af)) (pv 2) (aI _)) (aq (aJ (i:=3) (aB az (pv 3) (aM cA ao (aM iA (aH gR (aa (pv 0) af)) (aM dB (aG bL bE (aa (pv 3) af)) ao)))))))
  (aq (av (pv 3))))),?_⟩
 refine⟨_,rfl,_,rfl,l,ms,rfl,el,WK,λi MP H1 ci c1 NO Nx=>?_⟩;refine⟨_,rfl,_,_,rfl,rfl,(by omega),_,_,rfl,rfl,?_⟩;have f0:=G5 i (show 0<r by omega);have f1:=Jx i (show 0<r by omega);refine⟨l,MP,1+i.fmod r,true,rfl,Nx,c1,by omega,by omega,λa t Nv H2 sz c2 MJ OA tu=>?_⟩;refine⟨λk σ H'=>∃(a:Addr)(t:Tr)(ms:List Int),σ=[some (.ref l),some (.int r),some (.int m),some (.ref a)]/\k=t.size/\(t.size:Int)<=r/\(∀m∈ms,Mr m)/\SB (.ref l) H H'/\H' l=some (.lst (ms.map V.int))/\Tu H' a t,⟨_,a,t,Nv,rfl,rfl,by omega,c2,NO.trans MJ,OA,tu⟩,?_⟩;rintro k σ H' ⟨a,t,ms,rfl,rfl,sz,cm,sb,XZ,tu⟩
 refine⟨_,rfl,a,t,rfl,tu,by omega,λH3 s3=>?_⟩;refine⟨_,rfl,_,_,rfl,rfl,_,rfl,cU (λcc=>?_) (λcc=>?_)⟩
 .have cc:m<(t.nf:Int):=i9 cc;obtain⟨us,e,ou⟩:=(tu.to (Kp.of s3)).parts;have ul:=ou.len
  have kp:0<t.kids.length:=by
   cases t with
   | no t=>exact Nat.zero_lt_one
   | fold u a b=>exact Nat.zero_lt_two
   | never=>have z:(Tr.never.nf:Int)=0:=rfl;omega
   | always=>have z:(Tr.always.nf:Int)=0:=rfl;omega
   | lp=>have z:(Tr.lp.nf:Int)=0:=rfl;omega
   | lq=>have z:(Tr.lq.nf:Int)=0:=rfl;omega
  refine⟨λσ' LD=>∃(a':Addr)(t':Tr)(ms:List Int),t'∈t.kids/\σ'=[some (.ref l),some (.int r),some (.int m),some (.ref a')]/\(∀m∈ms,Mr m)/\SB (.ref l) H LD/\LD l=some (.lst (ms.map V.int))/\Tu LD a' t',?_,?_⟩
  .rintro σ' LD ⟨a',t',Mt,tk,rfl,cm',sb',N7,tu'⟩
   have ks:=sZ tk;exact⟨t'.size,by omega,a',t',Mt,rfl,rfl,by omega,cm',sb',N7,tu'⟩
  .have Yz:SB (.ref l) H H3:=λd o z n=>s3 _ _ (sb _ _ z n);refine⟨_,rfl,_,rfl,l,ms,rfl,s3 _ _ XZ,cm,λj ms4 H4 cj c4 YA el4=>?_⟩;have e4:=YA _ _ e λz=>by cases z;rw[s3 _ _ XZ]at e;cases e
   have Vy:Kp H3 H4:=YA.kp λa' o' z1 z2=>by cases z1;rw[s3 _ _ XZ]at z2;cases z2;rfl
   have lk:(((V.str t.word::us).length:Nat):Int)-1=(t.kids.length:Int):=by rw[m6,ul];omega
   have g0:=G5 j (show 0<(t.kids.length:Int) by omega);have g1:=Jx j (show 0<(t.kids.length:Int) by omega);have hj:∃v,us[(j.fmod (t.kids.length:Int)).toNat]?=some v:=⟨us[(j.fmod (t.kids.length:Int)).toNat]'(by omega),c9 (by omega)⟩;obtain⟨v,hv⟩:=hj;obtain⟨t',Zu,b,rfl,tb⟩:=ou.get _ v hv;refine⟨_,rfl,_,_,rfl,.inr ⟨_,Lz.of e4,rfl⟩,_,_,rfl,rfl,_,_,rfl,rfl,(by rw[lk];omega),_,_,rfl,rfl,_,_,_,_,rfl,rfl,Lz.of e4,?_,b,t',ms4,w8 Zu,rfl,c4,Yz.trans YA,el4,tb.to Vy⟩;show MW (V.str t.word::us) (1+j.fmod ((((V.str t.word::us).length:Nat):Int)-1))=_;rw[lk,show(1:Int)+j.fmod (t.kids.length:Int)=(((j.fmod (t.kids.length:Int)).toNat+1:Nat):Int) by omega];exact cF (by simpa using hv)
 .have cc:¬m<(t.nf:Int):=λz=>cc (i6 z);exact⟨_,rfl,q a t ms H3 sz (by omega) cm (λd o z n=>s3 _ _ (sb _ _ z n)) (s3 _ _ XZ) (tu.to (Kp.of s3))⟩
end Mine
namespace L2
open PySem PySem.Spec PyProof.Rows
end L2
namespace Mine
open PySem L2
variable{wi:TI}{te:TE}{js:List Nat}{σ:St}{H0 H1:Hp}{Q:VK}{lo:Int}{n:Nat}
theorem Bn(Src:Hp->Prop)(NT:∀R:It->Hp->Prop,(∀H,Src H->R (Ri lo n) H)->wi σ H0 R)(hx:n<=1000)
  (Pv:Addr->Nat->List V->Hp->Prop)(h0:∀H D,Src H->H D=none->Pv D 0 [] (upd H D (.lst [])))
  (hs:∀D i ys H',i<n->H' D=some (.lst ys)->Pv D i ys H'->∀N:VK,(∀y LD,LD D=some (.lst ys)->Pv D (i+1) (ys++[y]) (upd LD D (.lst (ys++[y])))->N y LD)->te (some (.int (lo+i))::bR js σ) H' N)
  (hd:∀D ys H',H' D=some (.lst ys)->Pv D n ys H'->Q (.ref D) H'):iW wi kq te js σ H0 Q:=by
 refine NT _ λH src=>?_;intro D hD;refine⟨λi m H'=>m=n-i/\i<=n/\∃ys,ys.length=i/\H' D=some (.lst ys)/\Pv D i ys H',⟨n,rfl,y7 _,[],rfl,ae,h0 H D src hD⟩,?_⟩;rintro i m H2 ⟨rfl,hi,ys,hy,eD,p⟩
 by_cases LI:i<n
 .refine .inr ⟨LI,λv H3 y=>?_⟩;obtain⟨eh,ev⟩:=y;subst eh ev;refine hJ ?_;refine hs D i ys _ LI eD p _ λy H5 z2 z3=>?_;exact⟨ys,z2,d9 (show ys.length<=1000 by omega) (by decide),n-(i+1),by omega,rfl,LI,ys++[y],by rw[c8,hy];rfl,ae,z3⟩
 .have ei:i=n:=by omega
  subst ei;exact .inl ⟨c7 _,hd D ys H2 eD p⟩
def One(t:Tr):Prop:=∀n p q:Int,0<=n->(0<=p/\p<=n)->(0<=q/\q<=n)->t.worth n p q=n
inductive wa(vs:List V)(H:Hp)(Q:VK)(E:XK):Prop
 | mk (l:Addr) (ms:List Int):vs=[.ref l]->H l=some (.lst (ms.map V.int))->(∀m∈ms,Mr m)->(∀(a:Addr)(t:Tr)(Mt:List Int)(H':Hp),t.size<=50->t.nf<=8->One t->(∀m∈Mt,Mr m)->H' l=some (.lst (Mt.map V.int))->Tu H' a t->Q (.ref a) H')->wa vs H Q E
variable{P:Program}{w:World}{K:W.Frag}{mg:Str->Option Value}{base:Heap}{c:CCs}
theorem Hs(T:aC K mg "_law_known" jC)(iC:mg "range"=none)(nJ:Def P w K mg base 63 "_law_few" ["_law_cells","_law_room","_law_most"] qK)(gR:Def P w K mg base 1 "_law_next" ["_law_cells"] vU)(jn:Def P w K mg base 1 "_law_scheme" ["_law_cell","_law_a","_law_b","_law_c"] FO)(cG:Def P w K mg base 61 "_law_folds" ["_law_tree"] (rB 60)):Def P w K mg base 64 "_law_known" ["_law_cells"] wa:=by
 refine aQ T rZ ?_ ?_
 .walk_at "i1"
 walk_at "i2";obtain⟨l,ms,rfl,el,WK,q⟩:=h;have nd:=rZ.nd;have d1:(1:Nat)<=sizeLine:=by decide
 have d2:(2:Nat)<=sizeLine:=by decide
 have t4:∃t,ud (cN CX0 P w K mg base vn "_law_known" (au jC) f cdv A outer s H E).nox ((bI jC).drop 4) t/\∀(o1:Option V)(i:Int)(d:Addr)(x:Tr)(ms:List Int)(H1:Hp),Tu H1 d x->x.size<=50->One x->H1 l=some (.lst (ms.map V.int))->(∀m∈ms,Mr m)->t {nx:=λ_ H'=>Q .non H',rt:=Q} [some (.ref l),o1,some (.int i),some (.ref d)] H1:=by
  refine⟨_,aP (vC (lU ix (gQ cG (aV (hv 3) bf)) gf (aI _)) (gZ (gP (i:=3) (gQ jn (aV (hv 2) (fg (bO (aV dN bf)) (fg (bO (aV dN bf)) (fg (bO (aV dN (fg (bO (aV dN bf)) bf))) bf))))))) lV) (gZ (Be (hv 3))),?_⟩;intro o1 i d x ms H1 tu sz on el cm;refine⟨_,rfl,d,x,rfl,tu,by omega,λH2 s2=>?_⟩;refine⟨_,_,rfl,rfl,_,rfl,cU (λcc=>?_) (λcc=>?_)⟩
  .refine⟨_,rfl,d1,λp1 h1=>⟨d1,λp2 h2=>⟨d1,λp3 h3=>⟨d2,λp4 h4=>?_⟩⟩⟩⟩;have u1:=ak h1 (.tup [V.str "p"]);have u2:=ak h2 (.tup [V.str "q"]);have u3:=ak h3 (.tup [V.str "p"]);have u4:=ak h4 (.tup [V.str "not",.ref p3]);have E1:=(u2.trans (u3.trans u4)) _ _ ae;have E2:=(u3.trans u4) _ _ ae;have E3:=u4 _ _ ae;have s4:=((u1.trans u2).trans u3).trans u4;refine⟨i,p1,p2,p4,.lp,.lq,.no .lp,rfl,.lp E1,.lq E2,.no ae (.lp E3),λe t H3 s3 te mem=>?_⟩;exact⟨_,rfl,q e t ms H3 (Al mem (by decide) (by decide) (by decide)) (l8 (RP mem rfl rfl rfl) (by decide)) (λn p q' hn hp hq=>wk mem hn hp hq) cm (((s2.trans s4).trans s3) _ _ el) te⟩
  .have cc:¬(8:Int)<(x.nf:Int):=λz=>cc (i6 z);exact⟨_,rfl,q d x ms H2 sz (by omega) on cm (s2 _ _ el) (tu.to (Kp.of s2))⟩
 obtain⟨t4,SE,k4⟩:=t4;refine qY (aP ⟨(jX (i:=1) (vj iC (eB af)) (cq (j:=0) cC) (λ_ _ _ _=>cM) (λ_ _ _ _=>(aH nJ (aa (pv 1) (eB (eB af))))))⟩ (aP ⟨(aJ (i:=2) (aH gR (aa (pv 0) af)))⟩ (aP ⟨(aJ (i:=3) (aH jn (aa (pv 2) (aa (aB bC (pv 1) ao) (aa (aB bC (pv 1) ao) (aa (aB bC (pv 1) ao) af))))))⟩ (aP (vC (lU ix (gQ cG (aV (hv 3) bf)) gf (aI _)) (gZ (gP (i:=3) (gQ jn (aV (hv 2) (fg (bO (aV dN bf)) (aV (qm bC (hv 1) gf) (fg (bO (aV dN (fg (bO (aV dN bf)) bf))) bf))))))) lV) SE)))) ?_;dsimp only[jt,nO]
 refine Bn (lo:=0) (n:=3) (λH'=>H'=H) (λR h=>⟨3,rfl,by decide,by decide,h _ rfl⟩) (by decide) (λD i ys H'=>H D=none/\SB (.ref l) H H'/\(∃ms:List Int,H' l=some (.lst (ms.map V.int))/\∀m∈ms,Mr m)/\∃ts:List Tr,cB (Ml H') ys ts/\ts.length=i/\∀t∈ts,t.size<=6/\t.nf<=2)
  (λH' D e hD=>?_) (λD i ys H' hi eD z N hN=>?_) (λD ys H' eD z=>?_)
 .subst e;exact⟨hD,SB.of (ak hD _),⟨ms,ak hD _ _ _ el,WK⟩,[],.nil,rfl,λ_ z=>nomatch z⟩
 .obtain⟨hD,sb,⟨ms,N7,cm⟩,ts,al,tl,kt⟩:=z;have nl:l≠D:=λz=>by subst z;rw[hD]at el;cases el
  refine⟨_,rfl,l,ms,6,2,rfl,N7,cm,by decide,by decide,by decide,λa t Nv H2 sz nf c2 MJ OA tu=>?_⟩;have MV:=MJ _ _ eD λz=>nl (by cases z;rfl);have NS:Kp H' H2:=MJ.kp λa' o' z1 z2=>by cases z1;rw[N7]at z2;cases z2;rfl
  have Vz:Kp H2 (upd H2 D (.lst (ys++[.ref a]))):=(jf _ _).kp λa' o' z1 z2=>by cases z1;rw[MV]at z2;cases z2;rfl
  refine hN _ _ MV ⟨hD,λd o z n=>?_,⟨Nv,by rw[aA nl];exact OA,c2⟩,ts++[t],?_,by rw[c8,tl];rfl,λt' Zu=>?_⟩
  .have nd:d≠D:=λy=>by subst y;rw[hD]at z;cases z
   rw[aA nd];exact MJ _ _ (sb _ _ z n) n
  .exact(al.imp λv t h=>Ml.to Vz v t (Ml.to NS v t h)).app (.cons ⟨a,rfl,tu.to Vz⟩ .nil)
  .rcases j9.mp Zu with y | y
   .exact kt t' y
   .rw[d7.mp y];exact⟨by omega,by omega⟩
 .obtain⟨hD,sb,⟨ms,N7,cm⟩,ts,al,tl,kt⟩:=z;have nl:l≠D:=λz=>by subst z;rw[hD]at el;cases el
  cases al with
  | nil=>cases tl
  | cons z0 al =>
   cases al with
   | nil=>cases tl
   | cons z1 al =>
    cases al with
    | nil=>cases tl
    | cons z2 al =>
     cases al with
     | cons _ _=>cases tl
     | nil =>
      rename_i v0 x0 v1 x1 v2 x2;obtain⟨a0,rfl,w0⟩:=z0;obtain⟨a1,rfl,w1⟩:=z1;obtain⟨a2,rfl,w2⟩:=z2;have k0:=kt x0 (by simp);have k1:=kt x1 (by simp);have k2:=kt x2 (by simp);refine⟨_,rfl,l,ms,rfl,N7,cm,λi Nv H2 ci c2 MJ OA=>?_⟩;have MV:=MJ _ _ eD λz=>nl (by cases z;rfl);have NS:Kp H' H2:=MJ.kp λa' o' z1 z2=>by cases z1;rw[N7]at z2;cases z2;rfl
      refine⟨_,rfl,_,rfl,_,_,_,_,rfl,rfl,LA.of MV,rfl,_,rfl,_,_,_,_,rfl,rfl,LA.of MV,rfl,_,rfl,_,_,_,_,rfl,rfl,LA.of MV,rfl,i,a0,a1,a2,x0,x1,x2,rfl,w0.to NS,w1.to NS,w2.to NS,λd t H3 s3 td mem=>?_⟩;have sz:=Al mem k0.1 k1.1 k2.1;refine⟨_,rfl,d,t,rfl,td,by omega,λH4 s4=>?_⟩;have OV:=s3.trans s4;refine⟨_,_,rfl,rfl,_,rfl,cU (λcc=>?_) (λcc=>?_)⟩
      .refine⟨_,rfl,d1,λp1 h1=>?_⟩;have u1:=ak h1 (.tup [V.str "p"]);refine⟨_,rfl,_,_,_,_,rfl,rfl,LA.of ((OV.trans u1) _ _ MV),rfl,d1,λp3 h3=>⟨d2,λp4 h4=>?_⟩⟩;have u3:=ak h3 (.tup [V.str "q"]);have u4:=ak h4 (.tup [V.str "not",.ref p3]);have E1:=(u3.trans u4) _ _ ae;have E3:=u4 _ _ ae;have s5:=OV.trans ((u1.trans u3).trans u4);refine⟨i,p1,a1,p4,.lp,x1,.no .lq,rfl,.lp E1,(w1.to NS).to (Kp.of s5),.no ae (.lq E3),λe t H5 s6 te mem=>?_⟩;exact k4 _ i e t Nv H5 te (Al mem (by decide) k1.1 (by decide)) (λn p q' hn hp hq=>wk mem hn hp hq) ((s5.trans s6) _ _ OA) c2
      .exact k4 _ i d t Nv H4 (td.to (Kp.of s4)) sz (λn p q' hn hp hq=>wk mem hn hp hq) (OV _ _ OA) c2
inductive vT(c:CCs)(n:Nat)(vs:List V)(H:Hp)(Q:VK)(E:XK):Prop
 | mk (a t):vs=[.ref a]->Tu H a t->t.size<=n->(∀x H',aK H H'->Ob c H' x t->Q (.ref x) H')->vT c n vs H Q E
theorem rV:aD ["_law_tree","_law_one","_law_other"] ["_law_tree"] (au Cp):=L2.fsc rfl (by decide+kernel)
theorem Hm(T:aC K mg "_law_object" Cp)(Qc:Mk0 K c.ne)(Qd:mg "Never"=some (.ref c.ne))(Jh:Mk0 K c.al)(Ji:mg "Always"=some (.ref c.al))(Jj:qC P w K mg base "Letter" c.le 1 ["self","name"] (jN c.le oE))(zK:qC P w K mg base "Not" c.no 1 ["self","part"] (jN c.no lC))(uc:∀u:W5,qC P w K mg base u.cls (c.fold u) 1 ["self","one","other"] (wd (c.fold u))):∀n:Nat,Def P w K mg base (n+3) "_law_object" ["_law_tree"] (vT c n):=by
 intro n
 induction n with
 | zero =>
  refine aQ T rV ?_ ?_
  .walk_at "i1"
  .walk_at "i2";obtain⟨a,t,rfl,_,z,_⟩:=h;have:=t.size_pos;omega
 | succ n dO =>
  refine aQ T rV ?_ ?_
  .walk_at "i1"
  walk_at "i2";obtain⟨a,t,rfl,tu,hz,q⟩:=h;have nd:=rV.nd;refine⟨_,(ah (aT (aE cy (aB az (pv 0) ao) aR (aI _)) (aq (av (yB Qc rfl Qd))) aL)
  (ah (aT (aE cy (aB az (pv 0) ao) aR (aI _)) (aq (av (yB Jh rfl Ji))) aL)
  (ah (aT (aE lQ (aB az (pv 0) ao) (bc (aa aR (aa aR af))) rfl) (aq (av (mr Jj (aa (aB az (pv 0) ao) af)))) aL)
  (ah (aT (aE cy (aB az (pv 0) ao) aR (aI _)) (aq (av (mr zK (aa (aH dO (aa (aB az (pv 0) ao) af)) af)))) aL)
  (ah (aJ (i:=1) (aH dO (aa (aB az (pv 0) ao) af)))
  (ah (aJ (i:=2) (aH dO (aa (aB az (pv 0) ao) af)))
  (ah (aT (aE cy (aB az (pv 0) ao) aR (aI _)) (aq (av (mr (uc .more) (aa (pv 1) (aa (pv 2) af))))) aL)
  (ah (aT (aE cy (aB az (pv 0) ao) aR (aI _)) (aq (av (mr (uc .less) (aa (pv 1) (aa (pv 2) af))))) aL)
  (ah (aT (aE cy (aB az (pv 0) ao) aR (aI _)) (aq (av (mr (uc .greater) (aa (pv 1) (aa (pv 2) af))))) aL)
  (ah (aT (aE cy (aB az (pv 0) ao) aR (aI _)) (aq (av (mr (uc .lesser) (aa (pv 1) (aa (pv 2) af))))) aL)
  (aq (av (mr (uc .leads) (aa (pv 1) (aa (pv 2) af))))))))))))))),?_⟩
  cases tu with
  | never e =>
   refine⟨_,rfl,_,_,_,_,rfl,rfl,Lz.of e,rfl,rfl,_,rfl,ite_yes rfl (λz dz h1 h2 ne=>?_)⟩;exact q z _ (sF (C:=c.ne) h1 h2) (.never ae)
  | always e =>
   refine⟨_,rfl,_,_,_,_,rfl,rfl,Lz.of e,rfl,rfl,_,rfl,ite_no (by decide+kernel) ?_⟩;refine⟨_,rfl,_,_,_,_,rfl,rfl,Lz.of e,rfl,rfl,_,rfl,ite_yes rfl (λz dz h1 h2 ne=>?_)⟩;exact q z _ (sF (C:=c.al) h1 h2) (.always ae)
  | lp e =>
   refine⟨_,rfl,_,_,_,_,rfl,rfl,Lz.of e,rfl,rfl,_,rfl,ite_no (by decide+kernel) ?_⟩;refine⟨_,rfl,_,_,_,_,rfl,rfl,Lz.of e,rfl,rfl,_,rfl,ite_no (by decide+kernel) ?_⟩;refine⟨_,rfl,_,_,_,_,rfl,rfl,Lz.of e,rfl,(by show 2<=sizeLine;decide),λp hp=>⟨p,_,rfl,.inr (Lz.of ae),rfl,rfl,_,rfl,lA Vi ?_⟩⟩;have s0:=ak hp (.tup [V.str "p",.str "q"]);refine⟨_,rfl,_,_,_,_,rfl,rfl,Lz.of (s0 _ _ e),rfl,λz dz h1 h2 ne=>⟨z,dz,_,rfl,ae,rfl,?_⟩⟩;exact q z _ (s0.trans (gH (C:=c.le) (fs:=oE (.str "p")) h1 h2 ne)) (.lp ae)
  | lq e =>
   refine⟨_,rfl,_,_,_,_,rfl,rfl,Lz.of e,rfl,rfl,_,rfl,ite_no (by decide+kernel) ?_⟩;refine⟨_,rfl,_,_,_,_,rfl,rfl,Lz.of e,rfl,rfl,_,rfl,ite_no (by decide+kernel) ?_⟩;refine⟨_,rfl,_,_,_,_,rfl,rfl,Lz.of e,rfl,(by show 2<=sizeLine;decide),λp hp=>⟨p,_,rfl,.inr (Lz.of ae),rfl,rfl,_,rfl,lA Vh ?_⟩⟩;have s0:=ak hp (.tup [V.str "p",.str "q"]);refine⟨_,rfl,_,_,_,_,rfl,rfl,Lz.of (s0 _ _ e),rfl,λz dz h1 h2 ne=>⟨z,dz,_,rfl,ae,rfl,?_⟩⟩;exact q z _ (s0.trans (gH (C:=c.le) (fs:=oE (.str "q")) h1 h2 ne)) (.lq ae)
  | @no _ b x e tb =>
   have SD:x.size+1<=n+1:=hz;refine⟨_,rfl,_,_,_,_,rfl,rfl,Lz.of e,rfl,rfl,_,rfl,ite_no (by decide+kernel) ?_⟩;refine⟨_,rfl,_,_,_,_,rfl,rfl,Lz.of e,rfl,rfl,_,rfl,ite_no (by decide+kernel) ?_⟩;refine⟨_,rfl,_,_,_,_,rfl,rfl,Lz.of e,rfl,(by show 2<=sizeLine;decide),λp hp=>⟨p,_,rfl,.inr (Lz.of ae),rfl,rfl,_,rfl,lB GR ?_⟩⟩;have s0:=ak hp (.tup [V.str "p",.str "q"]);refine⟨_,rfl,_,_,_,_,rfl,rfl,Lz.of (s0 _ _ e),rfl,rfl,_,rfl,ite_yes rfl ?_⟩;refine⟨_,rfl,_,_,_,_,rfl,rfl,Lz.of (s0 _ _ e),rfl,b,x,rfl,tb.to (Kp.of s0),by omega,λy H2 s2 oy=>?_⟩;have Oo:=s0.trans s2;refine λz dz h1 h2 ne=>⟨z,dz,_,rfl,ae,rfl,?_⟩;have sm:=gH (C:=c.no) (fs:=lC (.ref y)) h1 h2 ne;exact q z _ (Oo.trans sm) (.no ae (oy.to (Kp.of sm)))
  | @fold _ b d u x y e tb td =>
   have SD:x.size+y.size+1<=n+1:=hz;refine⟨_,rfl,_,_,_,_,rfl,rfl,Lz.of e,rfl,rfl,_,rfl,ite_no (Yk u) ?_⟩;refine⟨_,rfl,_,_,_,_,rfl,rfl,Lz.of e,rfl,rfl,_,rfl,ite_no (Yl u) ?_⟩;refine⟨_,rfl,_,_,_,_,rfl,rfl,Lz.of e,rfl,(by show 2<=sizeLine;decide),λp hp=>⟨p,_,rfl,.inr (Lz.of ae),rfl,rfl,_,rfl,lB (Vg u) ?_⟩⟩;have s0:=ak hp (.tup [V.str "p",.str "q"]);refine⟨_,rfl,_,_,_,_,rfl,rfl,Lz.of (s0 _ _ e),rfl,rfl,_,rfl,ite_no (w_not u) ?_⟩;refine⟨_,rfl,_,_,_,_,rfl,rfl,Lz.of (s0 _ _ e),rfl,b,x,rfl,tb.to (Kp.of s0),by omega,λv1 H2 s2 o1=>?_⟩;have Oo:=s0.trans s2;refine⟨_,rfl,_,_,_,_,rfl,rfl,Lz.of (Oo _ _ e),rfl,d,y,rfl,td.to (Kp.of Oo),by omega,λv2 H3 s3 o2=>?_⟩;have s03:=Oo.trans s3;have o1':=o1.to (Kp.of s3);have e3:=s03 _ _ e;have fin:∀z dz,H3 z=none->H3 dz=none->dz≠z->Q (.ref z) (upd (upd (upd H3 dz (.own z)) z (.ins (c.fold u) dz [])) z (.ins (c.fold u) dz (uu (.ref v1) (.ref v2)))):=λz dz h1 h2 ne=>Ez (Q:=Q) h1 h2 ne o1' o2 λe' H' s' o'=>q e' H' (s03.trans s') o';cases u
   .refine⟨_,rfl,_,_,_,_,rfl,rfl,Lz.of e3,rfl,rfl,_,rfl,ite_yes rfl ?_⟩;exact⟨_,rfl,_,rfl,λz dz h1 h2 ne=>⟨z,dz,_,_,rfl,ae,rfl,fin z dz h1 h2 ne⟩⟩
   .refine⟨_,rfl,_,_,_,_,rfl,rfl,Lz.of e3,rfl,rfl,_,rfl,ite_no (by decide+kernel) ?_⟩;refine⟨_,rfl,_,_,_,_,rfl,rfl,Lz.of e3,rfl,rfl,_,rfl,ite_yes rfl ?_⟩;exact⟨_,rfl,_,rfl,λz dz h1 h2 ne=>⟨z,dz,_,_,rfl,ae,rfl,fin z dz h1 h2 ne⟩⟩
   .refine⟨_,rfl,_,_,_,_,rfl,rfl,Lz.of e3,rfl,rfl,_,rfl,ite_no (by decide+kernel) ?_⟩;refine⟨_,rfl,_,_,_,_,rfl,rfl,Lz.of e3,rfl,rfl,_,rfl,ite_no (by decide+kernel) ?_⟩;refine⟨_,rfl,_,_,_,_,rfl,rfl,Lz.of e3,rfl,rfl,_,rfl,ite_yes rfl ?_⟩;exact⟨_,rfl,_,rfl,λz dz h1 h2 ne=>⟨z,dz,_,_,rfl,ae,rfl,fin z dz h1 h2 ne⟩⟩
   .refine⟨_,rfl,_,_,_,_,rfl,rfl,Lz.of e3,rfl,rfl,_,rfl,ite_no (by decide+kernel) ?_⟩;refine⟨_,rfl,_,_,_,_,rfl,rfl,Lz.of e3,rfl,rfl,_,rfl,ite_no (by decide+kernel) ?_⟩;refine⟨_,rfl,_,_,_,_,rfl,rfl,Lz.of e3,rfl,rfl,_,rfl,ite_no (by decide+kernel) ?_⟩;refine⟨_,rfl,_,_,_,_,rfl,rfl,Lz.of e3,rfl,rfl,_,rfl,ite_yes rfl ?_⟩;exact⟨_,rfl,_,rfl,λz dz h1 h2 ne=>⟨z,dz,_,_,rfl,ae,rfl,fin z dz h1 h2 ne⟩⟩
   .refine⟨_,rfl,_,_,_,_,rfl,rfl,Lz.of e3,rfl,rfl,_,rfl,ite_no (by decide+kernel) ?_⟩;refine⟨_,rfl,_,_,_,_,rfl,rfl,Lz.of e3,rfl,rfl,_,rfl,ite_no (by decide+kernel) ?_⟩;refine⟨_,rfl,_,_,_,_,rfl,rfl,Lz.of e3,rfl,rfl,_,rfl,ite_no (by decide+kernel) ?_⟩;refine⟨_,rfl,_,_,_,_,rfl,rfl,Lz.of e3,rfl,rfl,_,rfl,ite_no (by decide+kernel) ?_⟩;exact⟨_,rfl,_,rfl,λz dz h1 h2 ne=>⟨z,dz,_,_,rfl,ae,rfl,fin z dz h1 h2 ne⟩⟩
def Lst(a:Tr)(h:List T3)(t b:Int):Prop:=0<b/\Bg t/\Bg b/\(∃c,Hu.eW h c/\0<c.u/\t*c.u=a.worth c.u c.v c.w*b)/\∀p,Hu.Ins h p->0<p.u->t*p.u<=a.worth p.u p.v p.w*b
def Qg(a:Tr)(H:Hp)(v:V)(h:List T3):Prop:=∃(p:Addr)(t b:Int),v=.ref p/\H p=some (.tup [.int t,.int b])/\Lst a h t b
theorem Qg.to(v:V)(h:List T3)(s:aK H H')(z:Qg a H v h):Qg a H' v h:=by
 obtain⟨p,t,b,rfl,e,k⟩:=z;exact⟨p,t,b,rfl,s _ _ e,k⟩
theorem Qg.mut(e:H D=some (.lst ws))(z:Qg a H v h):Qg a (upd H D (.lst zs)) v h:=by
 obtain⟨p,t,b,rfl,e',k⟩:=z;exact⟨p,t,b,rfl,by rw[aA (λy=>by subst y;rw[e]at e';cases e')];exact e',k⟩
inductive rD(K:W.Frag)(n:Nat)(vs:List V)(H:Hp)(Q:VK)(E:XK):Prop
 | mk (l lh us hs a h) (d:Nat):vs=[.ref l,.ref lh]->H l=some (.lst us)->DatAll K H ((bA a).map mU) us->a.size<=60->H lh=some (.lst hs)->DatAll K H (h.map LC) hs->Hu.TnL [bA a] d h->(∀c∈h,Hu.eW Hu.sqH c)->d+1<=n->(∀p (t b:Int) H',aK H H'->H' p=some (.tup [.int t,.int b])->Lst a h t b->Q (.ref p) H')->rD K n vs H Q E
theorem Dz{α:Type}{t D:Addr}{xs:List V}{ts:List α}{R:Hp->Prop}{R0 R1:Hp->V->α->Prop}(m0:∀H H' v a,aK H H'->R0 H v a->R0 H' v a)(m1:∀H H' v a,aK H H'->R1 H v a->R1 H' v a)(m2:∀D H ws zs v a,H D=some (.lst ws)->R1 H v a->R1 (upd H D (.lst zs)) v a)
  (st:Lz K H1 t xs)(hD:H1 D=none)(few:xs.length<=100)(o:cB (R0 H1) xs ts)(step:∀v a H' k,a∈ts->aK H1 H'->R0 H' v a->(∀v' LD,aK H' LD->R1 LD v' a->k v' LD)->te (some v::bR js σ) H' k)
  (fin:∀ys H',aK H1 H'->H' D=some (.lst ys)->cB (R1 H') ys ts->R H') :
  ∃W:Nat->Nat->Hp->Prop,(∃m,W 0 m (upd H1 D (.lst [])))/\∀i m H2,W i m H2->((Nq K t).stop i H2/\R H2)\/
   ((
    Nq K t).go i H2/\∀v H3,(Nq K t).yld i H2 v H3->kq (some v::bR js σ) H3 λb H4=>if b=true then te (some v::bR js σ) H4 λy H5 =>
    ∃ys,H5 D=some (.lst ys)/\ys.length<sizeLine/\∃m',m'<m/\W (i+1) m' (upd H5 D (.lst (ys++[y]))) else ∃m',m'<m/\W (i+1) m' H4):=by
 refine⟨λi m H2=>m=xs.length-i/\i<=xs.length/\aK H1 H2/\∃ys,H2 D=some (.lst ys)/\cB (R1 H2) ys (ts.take i),⟨_,rfl,y7 _,ak hD _,[],ae,.nil⟩,?_⟩;rintro i m H2 ⟨rfl,hi,sm,ys,eD,al⟩
 have RQ:=st.ts sm.ts;have ol:=o.len
 by_cases LI:i<xs.length
 .refine .inr ⟨⟨_,_,RQ,c9 LI⟩,λv H3 y=>?_⟩;obtain⟨rfl,y⟩:=y;obtain⟨a,ha,r0⟩:=o.get i v (y _ RQ);refine hJ ?_;refine step v a _ _ (w8 ha) sm (m0 _ _ _ _ sm r0) λv' LD NP r1=>?_;have MV:=NP _ _ eD;have yl:=al.len;refine⟨ys,MV,aZ (by rw[yl,I0];omega),xs.length-(i+1),by omega,rfl,LI,aX (sm.trans NP) hD _,ys++[v'],ae,?_⟩;rw[A7,ha];exact((al.imp λu t ru=>m1 _ _ _ _ NP ru).app (.cons r1 .nil)).imp λu t ru=>m2 D _ _ _ _ _ MV ru
 .have e:i=xs.length:=by omega
  subst e;rw[ol,A6]at al;exact .inl ⟨⟨_,RQ,c7 _⟩,fin ys _ sm eD al⟩
theorem Ed(T:aC K mg "_law_least" pj)(lH:Def P w K mg base 3 "_law_rules" ["_law_rows","_law_hull"] (nV K))(dP:Def P w K mg base 1 "_law_tells" ["_law_rule_here","_law_corner"] (vR K))(pV:Def P w K mg base 3 "_law_cut" ["_law_hull","_law_rule_here"] (vZ K)):∀n:Nat,Def P w K mg base (n+4) "_law_least" ["_law_rows","_law_hull"] (rD K n):=by
 intro n
 induction n with
 | zero =>
  refine aQ T mJ ?_ ?_
  .walk_at "i1"
  .walk_at "i2";obtain⟨l,lh,us,hs,a,h,d,rfl,_,_,_,_,_,_,_,z,_⟩:=h;omega
 | succ n lI =>
  refine aQ T mJ ?_ ?_
  .walk_at "i1"
  walk_at "i2";obtain⟨l,lh,us,hs,a,h,d,rfl,el,da,sz,XY,dh,tn,cn,dn,q⟩:=h;have nd:=mJ.nd;have R:=qi a;have rl0:=R.len;have n3:=tn.hk.n3;have hl:=tn.ln;have VY:∀p∈h,Hu.R3 3000 p:=λp hp=>(tn.hk.ok p hp).r.mono (by decide);have d2:(2:Nat)<=sizeLine:=by decide
  refine⟨_,(ah (sO (aH lH (aa (pv 0) (aa (pv 1) af))) (iR rfl (aY (aS (i:=2)) (aY (aS (i:=3)) cZ))))
  (ah (aT (aE qR (pv 2) bN (aI _)) (ah (aJ (i:=4) (bc (eB (eB af))))
  (ah (eQ z7 rfl (cf (pv 1)) (aS (i:=5)) (ah (aJ (i:=6) (aH dP (aa (aB bC (pv 2) (mq gE ao)) (aa (pv 5) af))))
  (aq (aT (aE jb (aM bu (pv 6) (aB az (pv 4) ao)) (aM bu (aB az (pv 4) ao) (aB az (pv 5) ao)) (aI _)) (aq (aJ (i:=4) (bc (aa (pv 6) (aa (aB az (pv 5) ao) af))))) aL))))
  (aq (av (pv 4))))) aL)
  (ah (jX (i:=7) (kX (aH pV (aa (pv 1) (aa (pv 3) af)))) (cq (j:=0) cC) (λ_ _ _ _=>cM) (λ_ _ _ _=>(aH lI (aa (pv 1) (aa (pv 0) af)))))
  (ah (aT (aE jb (aM bu (aB az (aB bC (pv 7) ao) ao) (aB az (aB bC (pv 7) ao) ao)) (aM bu (aB az (aB bC (pv 7) ao) ao) (aB az (aB bC (pv 7) ao) ao)) (aI _)) (aq (av (aB bC (pv 7) ao))) aL)
  (aq (av (aB bC (pv 7) ao))))))),?_⟩
  refine⟨_,rfl,_,rfl,l,lh,us,hs,bA a,h,rfl,el,da,R.ok,by omega,XY,dh,VY,by omega,by omega,λrs t2 lr wr H1 s1 er rb ln et elr WB=>?_,λk tt t2 v2 H1 s1 er kl bt et dv=>?_⟩
  .refine⟨t2,_,rfl,Lz.of et,rfl,_,_,rfl,_,_,rfl,rfl,?_⟩;refine⟨_,rfl,rfl,_,rfl,dR ?_⟩;have pos:=R.pos;have lw:=fc WB;have Rm:0<wr.length:=by omega
   obtain⟨r,Na⟩:∃r,rs[wr.length-1]?=some r:=⟨rs[wr.length-1]'(by omega),c9 (by omega)⟩;obtain⟨rv0,Zy,drv⟩:=ma WB Na;have NY:rs.getLast?=some r:=by rw[J0,<- lw];exact Na
   have Vb:Hu.R3 101 r:=(rb _ r Na).mono (by omega)
   have erl:rl h a=some r:=by
    rcases R.run h with⟨out,r',e,e1,e2⟩ | ⟨⟨k,x,e⟩,_⟩
    .rw[er]at e;cases e
     rw[NY]at e1;cases e1
     exact e2
    .rw[er]at e;cases e
   have wt:∀{p:T3},Hu.eW h p->a.worth p.u p.v p.w=Hu.tl r p:=λC=>hU C erl;have Ud:∀p∈h,Bg (Hu.tl r p)/\Bg p.u/\0<p.u:=λp hp=>⟨i7 (Hu.tl_b Vb (tn.hk.ok p hp).r) (G0 (by decide) (by decide)),dG (tn.hk.ok p hp).r.a (by decide),(tn.hk.ok p hp).n0⟩;have o1:Bg 1:=dG (n:=1) (by decide) (by decide);refine⟨d2,λp0 ZE=>?_⟩;have u0:=ak ZE (.tup [.int 1,.int 1]);have s01:=s1.trans u0;refine⟨_,rfl,lh,rfl,⟨hs,LA.of (s01 _ _ XY)⟩,?_⟩
   refine eU (xs:=hs) (λi σ H'=>aK H1 H'/\∃(pb:Addr)(t b:Int)(o5 o6 o7:Option V),σ=[some (.ref l),some (.ref lh),some (.ref lr),some .non,some (.ref pb),o5,o6,o7]/\H' pb=some (.tup [.int t,.int b])/\0<b/\Bg t/\Bg b/\(∀c∈h.take i,t*c.u<=Hu.tl r c*b)/\((t=1/\b=1)\/∃c∈h,t=Hu.tl r c/\b=c.u))
    ⟨u0,p0,1,1,_,_,_,rfl,ae,by decide,o1,o1,(λc hc=>by simp at hc),.inl ⟨rfl,rfl⟩⟩ (λi σ H' _ z=>LA.of ((s1.trans z.1) _ _ XY)) (λi v σ H' hv z=>?_) (λσ H' z=>?_)
   .obtain⟨s2,pb,t,b,o5,o6,o7,rfl,Wq,b0,bt,bb,kt,kc⟩:=z;have Oo:=s1.trans s2;obtain⟨c,hc,dc⟩:=kF (dh.ts Oo.ts) hv;obtain⟨ca,rfl,sc⟩:=cW dc;have cm:=w8 hc;obtain⟨tb,cb,c0⟩:=Ud c cm;have tk:h.take (i+1)=h.take i++[c]:=by rw[A7,hc];rfl
    refine⟨_,rfl,_,rfl,_,_,_,_,rfl,rfl,LA.of (s2 _ _ elr),(by rw[vM Rm];exact Zy),_,rfl,_,_,r,c,rfl,drv.ts s2.ts,dc,Vb.mono (by decide),VY c cm,?_⟩;refine⟨_,rfl,_,rfl,_,_,_,_,rfl,rfl,Lz.of Wq,rfl,_,_,rfl,rfl,dX tb bb,_,rfl,_,_,_,_,rfl,rfl,Lz.of Wq,rfl,_,rfl,_,_,_,_,rfl,rfl,sc,rfl,_,_,rfl,rfl,dX bt cb,_,_,rfl,rfl,_,rfl,cU (λcc=>?_) (λcc=>?_)⟩
    .have cc:Hu.tl r c*b<t*c.u:=i9 cc;refine⟨_,rfl,_,rfl,_,_,_,_,rfl,rfl,sc,rfl,d2,λp2 LO=>?_⟩;have u2:=ak LO (.tup [.int (Hu.tl r c),.int c.u]);refine⟨s2.trans u2,p2,Hu.tl r c,c.u,_,_,_,rfl,ae,c0,tb,cb,λc' MA=>?_,.inr ⟨c,cm,rfl,rfl⟩⟩;rw[tk]at MA;rcases j9.mp MA with z | z
     .exact lg (f:=(t,b)) (g:=(Hu.tl r c,c.u)) b0 c0 (Ud c' (JU z)).2.2 (z5 cc) (kt c' z)
     .rw[d7.mp z];exact C3 _
    .have cc:¬Hu.tl r c*b<t*c.u:=λz=>cc (i6 z);refine⟨s2,pb,t,b,_,_,_,rfl,Wq,b0,bt,bb,λc' MA=>?_,kc⟩;rw[tk]at MA;rcases j9.mp MA with z | z
     .exact kt c' z
     .rw[d7.mp z];omega
   .obtain⟨s2,pb,t,b,o5,o6,o7,rfl,Wq,b0,bt,bb,kt,kc⟩:=z;rw[fc dh,A6]at kt;refine⟨_,rfl,q pb t b H' (s1.trans s2) Wq ⟨b0,bt,bb,?_,λp I p0=>?_⟩⟩
    .rcases kc with⟨rfl,rfl⟩ | ⟨c,cm,rfl,rfl⟩
     .obtain⟨c,cm⟩:∃c,c∈h:=by
       cases h with
       | nil=>simp at n3
       | cons c r=>exact⟨c,x8⟩
      obtain⟨_,_,c0⟩:=Ud c cm;have w1:=wt (Hu.dS cm);obtain⟨v0,v1,w0,w1'⟩:=Hu.iB (cn c cm);have bd:=di (n:=c.u) (x:=c.v) (y:=c.w) (by omega) ⟨v0,v1⟩ ⟨w0,w1'⟩ a;have k1:=kt c cm;exact⟨c,Hu.dS cm,c0,by omega⟩
     .exact⟨c,Hu.dS cm,(Ud c cm).2.2,by rw[wt (Hu.dS cm)]⟩
    .have C:=Hu.oA tn.hk.tri n3 I;rw[wt C];exact Hu.nv kt C
  .refine⟨t2,_,rfl,Lz.of et,rfl,_,_,rfl,_,_,rfl,rfl,?_⟩;refine⟨_,rfl,rfl,_,rfl,bJ ?_⟩;obtain⟨WO,d',ed,T1,T2⟩:=tn.cut x8 R.ok (by omega) er;subst ed;have nc:=Hu.pI er;dsimp only[BP,jt,nO];refine iH ?_;refine⟨_,rfl,_,rfl,lh,v2,hs,h,tt,rfl,s1 _ _ XY,dh.ts s1.ts,dv,tn.hk.hull.mono (by decide) (by omega),WO.mono (by decide),(λz=>absurd z nc),λ_ v3 H2 s2 cr=>?_⟩;obtain⟨t3,la,lb,NN,NM,rfl,Zc,fa,fb,sq,ea,eb,d1,d2'⟩:=cr;have L6:=s1.trans s2;refine⟨t3,rfl,⟨_,sq⟩,λD hD=>?_⟩;refine Dz (K:=K) (ts:=[Hu.low tt h,Hu.high tt h]) (R0:=Og K) (R1:=Qg a) (λ_ _ v g s z=>Og.to s v g z) (λ_ _ v g s z=>Qg.to v g s z) (λD H ws zs v g e z=>Qg.mut e z) sq hD (by show 2<=100;decide) (.cons ⟨la,NN,rfl,ea,d1⟩ (.cons ⟨lb,NM,rfl,eb,d2'⟩ .nil)) (λv g H3 k hg s3 hv hk=>?_) (λys H3 s3 eD al=>?_)
   .obtain⟨ga,NG,rfl,eg,dg⟩:=hv;have U8:=L6.trans s3
    have tg:Hu.TnL [bA a] d' g/\∀c∈g,Hu.eW Hu.sqH c:=by
     simp only[j6,A2,F9]at hg;rcases hg with rfl | rfl
     .exact⟨T1,λc hc=>Hu.eW.sub cn (Hu.fD tn.hk c hc)⟩
     .exact⟨T2,λc hc=>Hu.eW.sub cn (Hu.fD tn.hk c hc)⟩
    exact⟨_,rfl,_,rfl,l,ga,us,NG,a,g,d',rfl,U8 _ _ el,da.ts U8.ts,sz,eg,dg,tg.1,tg.2,by omega,λp t b H4 s4 ep ls=>hk _ _ s4 ⟨p,t,b,rfl,ep,ls⟩⟩
   .cases al with
    | cons z0 al =>
     cases al with
     | cons z1 al =>
      cases al
      obtain⟨q0,x0,y0,rfl,e0,b0,X8,bb0,⟨c0,C0,c0u,w0⟩,k0⟩:=z0;obtain⟨q1,x1,y1,rfl,e1,b1,bt1,bb1,⟨c1,C1,c1u,w1⟩,k1⟩:=z1;have U8:=L6.trans s3;refine⟨_,rfl,_,_,_,_,rfl,rfl,LA.of eD,rfl,_,_,_,_,rfl,rfl,Lz.of e1,rfl,_,rfl,_,_,_,_,rfl,rfl,LA.of eD,rfl,_,_,_,_,rfl,rfl,Lz.of e0,rfl,_,_,rfl,rfl,dX bt1 bb0,_,rfl,_,_,_,_,rfl,rfl,LA.of eD,rfl,_,_,_,_,rfl,rfl,Lz.of e0,rfl,_,rfl,_,_,_,_,rfl,rfl,LA.of eD,rfl,_,_,_,_,rfl,rfl,Lz.of e1,rfl,_,_,rfl,rfl,dX X8 bb1,_,_,rfl,rfl,_,rfl,cU (λcc=>?_) (λcc=>?_)⟩
      .have cc:x1*y0<x0*y1:=i9 cc;refine⟨_,rfl,_,_,_,_,rfl,rfl,LA.of eD,rfl,q q1 x1 y1 H3 U8 e1 ⟨b1,bt1,bb1,⟨c1,Hu.eW.sub (Hu.fD tn.hk) C1,c1u,w1⟩,λp I p0=>?_⟩⟩;have J:=Hu.xf tn.hk (WO.mono (by decide)) nc I;rcases Ll (Hu.tl tt p) 0 with z | z
       .exact lg (f:=(x0,y0)) (g:=(x1,y1)) b0 b1 p0 (z5 cc) (k0 p (J.1 z) p0)
       .exact k1 p (J.2 z) p0
      .have cc:¬x1*y0<x0*y1:=λz=>cc (i6 z);refine⟨_,rfl,_,_,_,_,rfl,rfl,LA.of eD,rfl,q q0 x0 y0 H3 U8 e0 ⟨b0,X8,bb0,⟨c0,Hu.eW.sub (Hu.fD tn.hk) C0,c0u,w0⟩,λp I p0=>?_⟩⟩;have J:=Hu.xf tn.hk (WO.mono (by decide)) nc I;rcases Ll (Hu.tl tt p) 0 with z | z
       .exact k0 p (J.1 z) p0
       .exact lg (f:=(x1,y1)) (g:=(x0,y0)) b1 b0 p0 (by show x0*y1<=x1*y0;omega) (k1 p (J.2 z) p0)
end Mine
namespace L2
open PySem PySem.Spec PyProof.Rows
section
variable{X:Cx}
noncomputable def HJ:V->Bool
 | .flt _=>false
 | .byt _=>false
 | _=>true
def YQ(K:W.Frag)(neg:Bool):R2:=λx y H Q=>∃a b xs ys,x=.ref a/\y=.ref b/\LA K H a xs/\LA K H b ys/\((xs=ys/\(∀v∈xs,HJ v=true)/\Q (.bl (!neg)) H)\/(xs.length≠ys.length/\Q (.bl neg) H))
theorem IF{A:Around}{s:Shared}(h:HJ v=true)(r:RelV v u)(r':RelV v u'):PySem.SeqAt.EqAt A s u u' true:=by
 cases v with
 | non=>cases(show u=Value.none from r);cases(show u'=Value.none from r');exact JT _
 | bl b=>cases(show u=Value.bool b from r);cases(show u'=Value.bool b from r');exact JT _
 | int i =>
  obtain⟨t,rfl⟩:=(show ∃t,u=Value.int i t from r);obtain⟨t',rfl⟩:=(show ∃t,u'=Value.int i t from r');have:=PySem.SeqAt.EqAt.int_int (A:=A) (s:=s) i t i t'
  rwa [F7]at this
 | str x =>
  obtain⟨t,rfl⟩:=(show ∃t,u=Value.str x t from r);obtain⟨t',rfl⟩:=(show ∃t,u'=Value.str x t from r');have:=PySem.SeqAt.EqAt.str_str (A:=A) (s:=s) x t x t'
  rwa [F7]at this
 | byt b=>cases h
 | flt b=>cases h
 | ref a=>cases(show u=Value.ref a from r);cases(show u'=Value.ref a from r');exact JT _
 | ty n=>cases(show u=Value.type n from r);cases(show u'=Value.type n from r');exact JT _
theorem DL(h:∀v∈xs,HJ v=true)(r:Vals xs us)(r':Vals xs ws):∀j (h1:j<us.toArray.size) (h2:j<ws.toArray.size),PySem.SeqAt.EqAt A s us.toArray[j] ws.toArray[j] true:=by
 intro j h1 h2;have l1:=r.length;have NF:j<us.length:=by simpa using h1
 have hj:j<xs.length:=by omega
 obtain⟨u,e1,e2⟩:=r.get (c9 hj);obtain⟨u',e3,e4⟩:=r'.get (c9 hj)
 have e5:us.toArray[j]=u:=by
  obtain⟨_,z⟩:=d6.mp e1;simpa using z
 have e6:ws.toArray[j]=u':=by
  obtain⟨_,z⟩:=d6.mp e3;simpa using z
 rw[e5,e6];exact IF (h _ (JG hj)) e2 e4
theorem all_true(n:Nat):(List.range n).all (λ_=>true)=true:=by
 rw[List.all_eq_true];exact λ_ _=>rfl
theorem Hd(hu:X.A.units+64<cLine):LQ X (compareOp .Eq) (YQ X.K false):=by
 intro Ly s σ H x y v u Q I rx ry h;obtain⟨a,b,xs,ys,rfl,rfl,ha,hb,q⟩:=h;cases(show v=Value.ref a from rx)
 cases(show u=Value.ref b from ry)
 obtain⟨us,ru,⟨o,n,ho,hc,_,hd⟩,_⟩:=I.list ha;obtain⟨ws,rw_,⟨o',n',MQ,MA,_,VW⟩,_⟩:=I.list hb;have l1:s.heap.IsList a us.toArray:=⟨o,ho,hc,n,hd⟩;have l2:s.heap.IsList b ws.toArray:=⟨o',MQ,MA,n',VW⟩;have n1:=ru.length;have n2:=rw_.length;rcases q with⟨rfl,hv,q⟩ | ⟨ne,q⟩
 .have z:=PySem.SeqAt.RcAt.lists (A:=X.A) (s:=s) (e:=λ_=>true) l1 l2 (by simp;omega) (by omega) (DL hv ru rw_);rw[all_true]at z;exact z _ _ _ _ ⟨.bl true,H,I,rfl,q⟩
 .have z:=PySem.SeqAt.RcAt.lists_lengths (A:=X.A) (s:=s) l1 l2 (by simp;omega) (by omega);exact z _ _ _ _ ⟨.bl false,H,I,rfl,q⟩
end
end L2
namespace Mine
open PySem L2
variable{D CN:Addr}{X:Hu.Tc}{L:List (List T3)}{g:List T3}{p:T3}{n y:Int}{f:Int×Int}{S:Tr}
theorem Hu.ins_cor(T:Hu.oI h)(n3:3<=h.length)(hc:c∈h):Hu.Ins h c:=by
 obtain⟨j,hj,rfl⟩:=E9.mp hc;rw[<- Hu.cK hj];intro i hi
 by_cases e1:j=i
 .rw[e1,Hu.IK];exact C3 _
 by_cases e2:j=(i+1)%h.length
 .rw[e2,Hu.oF];exact JZ (by simp only[Hu.det];grind)
 exact z5 (Hu.sideS T n3 hi hj e1 e2)
structure Rg where
 h:List T3
 bs:List B4
def Rg.Ok(r:Rg):Prop:=(∀c∈r.h,Nar c)/\0<r.h.length/\r.h.length<=100/\∀q∈r.bs,q.R
def Rg.Col(r:Rg)(n x:Int):Prop:=(∃c∈r.h,NB (c.v*n) c.u<=x)/\∃c∈r.h,x<=(c.v*n).fdiv c.u
def Ny(K:W.Frag)(N:Addr->Prop)(H:Hp)(v:V)(r:Rg):Prop:=∃t l lb us ws,v=.ref t/\Lz K H t [.ref l,.ref lb]/\N l/\N lb/\H l=some (.lst us)/\DatAll K H (r.h.map LC) us/\H lb=some (.lst ws)/\DatAll K H (r.bs.map NI) ws
theorem Ny.to(s:aK H H')(g:Ny K N H v r):Ny K N H' v r:=by
 obtain⟨t,l,lb,us,ws,rfl,h1,h2,h3,h4,h5,h6,h7⟩:=g;exact⟨t,l,lb,us,ws,rfl,h1.ts s.ts,h2,h3,s _ _ h4,h5.ts s.ts,s _ _ h6,h7.ts s.ts⟩
theorem Ny.mut(e:H D=some (.lst ws))(g:Ny K (·≠D) H v r):Ny K (·≠D) (upd H D (.lst zs)) v r:=by
 obtain⟨t,l,lb,us,ws,rfl,h1,h2,h3,h4,h5,h6,h7⟩:=g;have z:Mv H (upd H D (.lst zs)):=dj e;exact⟨t,l,lb,us,ws,rfl,h1.ts z,h2,h3,by rw[aA h2];exact h4,h5.ts z,by rw[aA h3];exact h6,h7.ts z⟩
inductive BY(K:W.Frag)(vs:List V)(H:Hp)(Q:VK)(E:XK):Prop
 | mk (l us N rs) (n:Int):vs=[.ref l,.int n]->H l=some (.lst us)->cB (Ny K N H) us rs->(∀r∈rs,r.Ok)->0<=n->n<2^32->((∀r∈rs,∀x y,0<=y->y<=n->Kept r.bs n x y->∀t H',aK H H'->Dat K H' (LC ⟨n,x,y⟩) (.ref t)->Q (.ref t) H'))->(((∀r∈rs,∀x y,r.Col n x->0<=y->y<=n->¬Kept r.bs n x y)->∀H',aK H H'->Q .non H'))->BY K vs H Q E
noncomputable def MD(rows:List Hu.Row)(g:List T3):T3:=match Hu.run g rows []with
 | .rules rs=>rs.getLastD Hu.z0
 | _=>Hu.z0
noncomputable def WM(rows:List Hu.Row)(g:List T3):Bool:=g.any λc=>decide (Hu.tl (MD rows g) c<c.u)
noncomputable def Mh(rows:List Hu.Row)(L:List (List T3)):List Rg:=(L.filter (WM rows)).map λg=>⟨g,zA g (MD rows g)⟩
inductive FP(c:CCs)(K:W.Frag)(vs:List V)(H:Hp)(Q:VK)(E:XK):Prop
 | mk (x:Addr) (a:Tr):vs=[.ref x]->Ob c H x a->a.size<=60->a.nf<=8->(∀(D:Addr)(us:List V)(T:Hu.Tc)(L:List (List T3))(H':Hp),aK H H'->H' D=some (.lst us)->cB (Ny K (·≠D) H') us (Mh (bA a) L)->(∀r∈Mh (bA a) L,r.Ok)->T.Sm 8->T.told Hu.sqH=some L->(∀g∈L,∃rs,Hu.run g (bA a) []=.rules rs)->Q (.ref D) H')->FP c K vs H Q E
structure Yg(rs:List Rg)(n x y:Int):Prop where
 n1:1<=n
 n2:n<2^18
 y0:0<=y
 y1:y<=n
 kp:∃r∈rs,Kept r.bs n x y
 no:∀m,1<=m->m<n->∀r∈rs,∀x y,r.Col m x->0<=y->y<=m->¬Kept r.bs m x y
inductive FY(c:CCs)(K:W.Frag)(vs:List V)(H:Hp)(Q:VK)(E:XK):Prop
 | mk (x:Addr) (a:Tr):vs=[.ref x]->Ob c H x a->a.size<=60->a.nf<=8->(∀(T:Hu.Tc)(L:List (List T3)),T.Sm 8->T.told Hu.sqH=some L->(∀g∈L,∃rs,Hu.run g (bA a) []=.rules rs)->(Mh (bA a) L=[]->∀H',aK H H'->Q .non H')/\(∀(n x y:Int)(t p:Addr)(H':Hp),Yg (Mh (bA a) L) n x y->aK H H'->H' t=some (.tup [.int n,.ref p])->Dat K H' (LC ⟨n,x,y⟩) (.ref p)->Q (.ref t) H'))->FY c K vs H Q E
variable{P:Program}{w:World}{K:W.Frag}{mg:Str->Option Value}{base:Heap}{c:CCs}
theorem ok_sbl(T:aC K mg "step_below" jP)(uH:Def P w K mg base 3 "step_within" ["hull","bounds","n"] (RH K)):Def P w K mg base 4 "step_below" ["regions","n"] (BY K):=by
 refine aQ T mf ?_ ?_
 .walk_at "i1"
 walk_at "i2";obtain⟨l,us,N,rs,n,rfl,el,al,ok,n0,n1,q1,q2⟩:=h;have nd:=mf.nd;have ll:=al.len
 refine⟨_,(ah (eQ z7 rfl (cf (pv 0)) (iR rfl (aY (aS (i:=2)) (aY (aS (i:=3)) cZ))) (ah (aJ (i:=4) (aH uH (aa (pv 2) (aa (pv 3) (aa (pv 1) af)))))
  (aq (aT (aE qR (pv 4) bN (aI _)) (aq (av (pv 4))) aL))))
  (aq (av bN))),?_⟩
 refine⟨_,rfl,_,rfl,⟨us,LA.of el⟩,?_⟩;refine eU (xs:=us) (λi σ H'=>aK H H'/\∃o2 o3 o4,σ=[some (.ref l),some (.int n),o2,o3,o4]/\∀r∈rs.take i,∀x y,r.Col n x->0<=y->y<=n->¬Kept r.bs n x y) ⟨aK.refl _,_,_,_,rfl,λr hr=>by simp at hr⟩ (λi σ H' _ z=>LA.of (z.1 _ _ el)) (λi v σ H' hv z=>?_) (λσ H' z=>?_)
 .obtain⟨s1,o2,o3,o4,rfl,iv⟩:=z;obtain⟨r,hri,rv⟩:=al.get i v hv;have rm:=w8 hri;obtain⟨t,lh,lb,hs,ws,rfl,st,_,_,eh,dh,eb,db⟩:=rv.to s1;obtain⟨k1,k2,k3,k4⟩:=ok r rm;refine⟨t,_,rfl,st,rfl,_,_,rfl,_,_,rfl,rfl,?_⟩;refine⟨_,rfl,_,rfl,_,rfl,lh,lb,hs,ws,r.h,r.bs,n,rfl,eh,dh,k1,k2,k3,eb,db,k4,n0,n1,λx y y0 y1 k t2 H2 s2 d2=>?_,λno H2 s2=>?_⟩
  .refine⟨_,rfl,rfl,_,rfl,dR ?_⟩;exact⟨_,rfl,q1 r rm x y y0 y1 k t2 _ (s1.trans s2) d2⟩
  .refine⟨_,rfl,rfl,_,rfl,bJ ?_⟩;refine⟨s1.trans s2,_,_,_,rfl,λr' Nd=>?_⟩;rw[A7,hri]at Nd;rcases j9.mp Nd with z | z
   .exact iv r' z
   .rw[show r'=r by simpa using z];exact λx y cl=>no x y cl.1 cl.2
 .obtain⟨s1,o2,o3,o4,rfl,iv⟩:=z;rw[ll,A6]at iv;exact q2 iv _ s1
theorem EW(h:0<xs.length):MW xs (-1)=xs[xs.length-1]?:=by
 unfold MW QK;rw[i5 (by decide),d8 (by omega)];show xs[((-1:Int)+(xs.length:Nat)).toNat]?=_;congr 1;omega
theorem SB.ts{H H':Hp}{ws:List V}(e:SB (.ref D) H H')(h:H D=some (.lst ws)):Mv H H':=by
 constructor
 .intro b xs hb;refine e b _ hb λz=>?_;cases z
  rw[h]at hb;cases hb
 .intro b o u hb;refine e b _ hb λz=>?_;cases z
  rw[h]at hb;cases hb
theorem Va{rows:List Hu.Row}(sm:X.Sm 8)(dp:X.deep<=8)(eL:X.told Hu.sqH=some L)(hg:g∈L):(∀p∈g,Hu.R3 3000 p)/\(3<=g.length/\g.length<=12/\Hu.oI g)/\∀{r:T3},Hu.R3 100 r->Rg.Ok ⟨g,zA g r⟩:=by
 obtain⟨hk,gl⟩:=Hu.Tc.fN (Hu.rq (by decide)) sm eL g hg;have cn:=Hu.Tc.told_cone Hu.iu (sm.mono (by decide)) eL g hg;have n3:=hk.n3;have gl:g.length<=4+X.deep:=gl;have Sg:∀p∈g,Nar p:=λp hp=>⟨(hk.ok p hp).n0,Lm (hk.ok p hp).n1 (by decide),(Hu.iB (cn p hp)).1,(Hu.iB (cn p hp)).2.1⟩;refine⟨λp hp=>(hk.ok p hp).r.mono (by decide),⟨n3,by omega,hk.tri⟩,λ{r} br=>⟨Sg,by show 0<g.length;omega,by show g.length<=100;omega,λq hq=>?_⟩⟩;rcases j9.mp hq with z | z
 .obtain⟨i,_,rfl⟩:=y9.mp z;have h1:=hk.cok i;have h2:=hk.cok (i+1)
  have mb:∀{a b c d:Int},0<=a->a<2^18->0<=b->b<2^18->0<=c->c<2^18->0<=d->d<2^18->(a*b-c*d).natAbs<2^200:=λ{a b c d} a0 a1 b0 b1 c0 c1 d0 d1=>by
   have e1:=Int.mul_le_mul (z5 a1) (z5 b1) b0 (by decide);have e2:=Int.mul_le_mul (z5 c1) (z5 d1) d0 (by decide);have e3:=A0 a0 b0;have e4:=A0 c0 d0;exact i7 (show(a*b-c*d).natAbs<2^40 by omega) (by decide)
  have u1:=z5 h1.n0;have u2:=z5 h2.n0;exact⟨mb h1.y0 h1.y1 u2 h2.n1 u1 h1.n1 h2.y0 h2.y1,mb u1 h1.n1 h2.x0 h2.x1 h1.x0 h1.x1 u2 h2.n1,mb h1.x0 h1.x1 h2.y0 h2.y1 h1.y0 h1.y1 h2.x0 h2.x1,(by show(0:Int).natAbs<_;decide)⟩
 .rw[d7.mp z];have k:(2:Nat)^100+1<2^200:=by decide
  have ka:=br.a;have kb:=br.b;have kc:=br.c;refine⟨?_,?_,?_,?_⟩
  .show(-r.u).natAbs<_;omega
  .show(-r.v).natAbs<_;omega
  .show(1-r.w).natAbs<_;omega
  .show(1:Int).natAbs<_;decide
theorem ok_rbl(T:aC K mg "regions_below" ic)(Jb:mg "any"=none)(pU:Def P w K mg base 3 "rows_of" ["saying"] (rA c))(pW:Def P w K mg base 14 "cutting" ["saying"] (qM c K))(nH:xE P w K mg base 4 "hulls_of" ["tree"] (qJ K CN))(ir:Def P w K mg base 4 "rules_of_rows" ["rows","hull"] (qI K))(pS:Def P w K mg base 1 "told_by" ["rule","point"] (vR K))(zP:Def P w K mg base 2 "bounds_of" ["hull","rule"] (Ai K)):Def P w K mg base 16 "regions_below" ["saying"] (FP c K):=by
 refine aQ T jy ?_ ?_
 .walk_at "i1"
 walk_at "i2";obtain⟨x,a,rfl,oa,sz,n8,q⟩:=h;have nd:=jy.nd;have R:=qi a;have fd:=R.fd;have ln:=R.len
 refine⟨_,(ah (aJ (i:=1) (aH pU (aa (pv 0) af)))
  (ah (aJ (i:=2) (bW af))
  (ah (eQ z7 rfl (cf (wM nH (hr.mono (by omega)) rfl (aa (aH pW (aa (pv 0) af)) af))) (aS (i:=3)) (ah (aJ (i:=4) (aB bC (aB az (aH ir (aa (pv 1) (aa (pv 3) af))) ao) (mq gE ao)))
  (aq (aT (dA (aG (IX rfl) Jb (aa (dQ (cf (pv 3)) (cq (j:=4) cC) (λ_ _ _ _=>cM) (λ_ _ _ _=>(dM jb (aH pS (aa (pv 1) (aa (pv 0) af))) (aB (lT (K:=K) rfl) (pv 0) ao) (aI _)))) af))) (aq (bB (cO c6 j7 j8 bj (pv 2) (yE (bc (aa (pv 3) (aa (aH zP (aa (pv 3) (aa (pv 4) af))) af))) af)))) aL))))
  (aq (av (pv 2)))))),?_⟩
 refine⟨_,rfl,x,a,rfl,oa,by omega,λlr rws H1 s1 MG er alr=>?_⟩;refine⟨(by show 0<=sizeLine;decide),λD hD=>?_⟩;have uD:=ak hD (.lst []);have s1D:=s1.trans uD;have nr:lr≠D:=aF er hD;refine⟨_,rfl,x,a,rfl,oa.to (Kp.of s1D),sz,n8,λvt X H2 s2 dt sm dp cu gd=>?_⟩;obtain⟨L,eL,kL⟩:=gd;have kL:∀g∈L,∃rs,Hu.run g (bA a) []=.rules rs:=λg hg=>kL g hg _ x8;have MV:=s2 _ _ ae;refine⟨vt,X,rfl,dt,sm.mono (by decide),by omega,λnn=>absurd (eL.symm.trans nn) (λz=>by cases z),λL' OB l us H3 s3 hl el al=>?_⟩;rw[eL]at OB;cases OB
 have eD3:=s3 _ _ MV;have er3:=(s2.trans s3) _ _ (uD _ _ er);have nl:l≠D:=λz=>by rw[z,MV]at hl;cases hl
 have X5:=(R.dat (K:=K) alr).ts (uD.trans (s2.trans s3)).ts;have lu:=al.len;refine⟨l,rfl,⟨us,LA.of el⟩,?_⟩;refine eU (xs:=us) (λi σ H'=>SB (.ref D) H3 H'/\∃ws o3 o4,σ=[some (.ref x),some (.ref lr),some (.ref D),o3,o4]/\H' D=some (.lst ws)/\cB (Ny K (·≠D) H') ws (Mh (bA a) (L.take i))/\∀r∈Mh (bA a) (L.take i),r.Ok) ⟨SB.refl _ _,[],_,_,rfl,eD3,.nil,λr hr=>by simp[Mh]at hr⟩ (λi σ H' _ z=>LA.of (z.1 _ _ el (λz=>nl (V.ref.inj z)))) (λi v σ H' hv z=>?_) (λσ H' z=>?_)
 .obtain⟨s4,ws,o3,o4,rfl,Ti,aw,Vn⟩:=z;obtain⟨g,XO,ga,NG,rfl,⟨gn,_⟩,eg,dg⟩:=al.at hv;have gm:=w8 XO;have ng:ga≠D:=λz=>by rw[z,MV]at gn;cases gn
  have ts4:=s4.ts eD3;have eg4:=s4 _ _ eg (λz=>ng (V.ref.inj z));have WC:=dg.ts ts4;obtain⟨rs,VO⟩:=kL g gm;obtain⟨g1,g2,g3⟩:=Va (rows:=bA a) sm dp eL gm;refine⟨_,rfl,_,rfl,lr,ga,rws,NG,bA a,g,rfl,s4 _ _ er3 (λz=>nr (V.ref.inj z)),X5.ts ts4,R.ok,R.pos,by omega,eg4,WC,g1,by omega,by omega,λMg t lt tws H5 s5 ru rb rl f5 st e5 d5=>?_,λk tt t v H5 s5 mx=>?_⟩
  rotate_left
  .rw[VO]at mx;cases mx
  rw[VO]at ru;cases ru
  have rp:0<rs.length:=by have:=R.pos;omega
  have tl:=fc d5
  have L8:rs[rs.length-1]?=some (MD (bA a) g):=by
   unfold MD;rw[VO];show _=some (rs.getLastD Hu.z0);rw[KY,J0,c9 (by omega)];rfl
  obtain⟨vr,hvr⟩:∃vr,tws[tws.length-1]?=some vr:=⟨_,c9 (by omega)⟩;obtain⟨r',Nd,dr'⟩:=kF d5 hvr;rw[tl,L8]at Nd;cases Nd
  have br:Hu.R3 100 (MD (bA a) g):=(rb _ _ L8).mono (by omega);refine⟨_,_,_,_,rfl,rfl,st,rfl,_,rfl,_,_,_,_,rfl,rfl,LA.of e5,(EW (by omega)).trans hvr,?_⟩;have X3:=s5 _ _ eg4;have ag:=qZ (WC.ts s5.ts);have gl:=fc WC;dsimp only[my,RB,tB,Oj,eZ,kE];refine comp_map (K:=K) (xs:=NG) (ts:=g) (R:=λH v c=>Dat K H (LC c) v/\Dat K H (LC (MD (bA a) g)) vr) (λc=>V.bl (decide (Hu.tl (MD (bA a) g) c<c.u))) (λH H' v t s z=>⟨z.1.ts s.ts,z.2.ts s.ts⟩) (λl' H'=>l'=ga/\H'=H5) (λR k=>⟨_,rfl,ga,rfl,⟨_,LA.of X3⟩,k ga H5 ⟨rfl,rfl⟩⟩) (λl' H' z=>by obtain⟨rfl,rfl⟩:=z;exact⟨X3,aK.refl _⟩) (by omega) (ag.imp λv c z=>⟨z,dr'⟩) (λv c H6 N hc rv hN=>?_) (λD6 H6 s6 hD6 e6=>?_)
  .obtain⟨dv,dr6⟩:=rv;obtain⟨ca,rfl,sc⟩:=cW dv;exact⟨_,rfl,_,rfl,_,_,_,_,rfl,dr6,dv,br.mono (by decide),g1 c hc,_,rfl,_,_,_,_,rfl,rfl,sc,cF (j:=0) rfl,_,_,rfl,rfl,hN _ (aK.refl _)⟩
  have Me:=s5.trans s6;have tk:L.take (i+1)=L.take i++[g]:=by rw[A7,XO];rfl
  have eb:(g.map λc=>decide (Hu.tl (MD (bA a) g) c<c.u)).any id=WM (bA a) g:=by unfold WM;rw[List.any_map];rfl
  refine⟨D6,g.map λc=>decide (Hu.tl (MD (bA a) g) c<c.u),rfl,LA.of (by rw[e6,Kb];rfl),_,rfl,?_⟩;rw[eb];refine cU (λcc=>?_) (λcc=>?_)
  .have rg:Mh (bA a) (L.take (i+1))=Mh (bA a) (L.take i)++[⟨g,zA g (MD (bA a) g)⟩]:=by
    unfold Mh;rw[tk,List.filter_append,p7,List.filter_cons,d8 cc];rfl
   have eD6:=Me _ _ Ti;refine⟨_,rfl,.inl ⟨rfl,_,LA.of eD6⟩,?_⟩;refine⟨_,rfl,_,rfl,_,rfl,ga,vr,NG,g,MD (bA a) g,rfl,s6 _ _ X3,WC.ts Me.ts,dr'.ts s6.ts,g1,by omega,by omega,λlb bws H7 s7 nb eb7 db7=>?_⟩;refine⟨(by show 2<=sizeLine;decide),λt8 ht8=>?_⟩;have u8:=ak ht8 (.tup [.ref ga,.ref lb]);have OU:=s7.trans u8;have X4:=OU _ _ eD6;have nlb:lb≠D:=λz=>by rw[z,eD6]at nb;cases nb
   refine⟨D,ws,.ref t8,rfl,rfl,X4,?_,?_⟩
   .have h1:=aw.len
    have h2:(Mh (bA a) (L.take i)).length<=L.length:=by
     unfold Mh;rw[j4];exact l8 (List.length_filter_le _ _) (by rw[I0];omega)
    have h3:=iG eL;exact d9 (show ws.length<=2^8 by omega) (by decide)
   have t9:Mv (upd H7 t8 (.tup [.ref ga,.ref lb])) (upd (upd H7 t8 (.tup [.ref ga,.ref lb])) D (.lst (ws++[.ref t8]))):=dj X4;refine⟨(s4.trans (SB.of (Me.trans OU))).trans (jf _ _),ws++[.ref t8],_,_,rfl,ae,?_,?_⟩
   .rw[rg];refine cB.app ?_ (.cons (Ny.mut X4 ⟨t8,ga,lb,NG,bws,rfl,Lz.of ae,ng,nlb,(s6.trans OU) _ _ X3,WC.ts (Me.trans OU).ts,u8 _ _ eb7,db7.ts u8.ts⟩) .nil);exact aw.imp λv r z=>Ny.mut X4 (z.to (Me.trans OU))
   .rw[rg];intro r hr;rcases j9.mp hr with z | z
    .exact Vn r z
    .rw[d7.mp z];exact(g3 br)
  .have rg:Mh (bA a) (L.take (i+1))=Mh (bA a) (L.take i):=by
    unfold Mh;rw[tk,List.filter_append,p7,List.filter_cons,i5 cc];simp
   refine⟨s4.trans (SB.of Me),ws,_,_,rfl,Me _ _ Ti,?_,?_⟩
   .rw[rg];exact aw.imp λv r z=>z.to Me
   .rw[rg];exact Vn
 .obtain⟨s4,ws,o3,o4,rfl,Ti,aw,Vn⟩:=z;rw[lu,A6]at aw Vn;refine⟨_,rfl,q D ws X L _ ?_ Ti aw Vn sm eL kL⟩;intro b o hb;exact s4 _ _ ((s1D.trans (s2.trans s3)) _ _ hb) λz=>by cases z;rw[s1.free hD]at hb;cases hb
theorem GB{rows:List Hu.Row}(sm:X.Sm 8)(eL:X.told Hu.sqH=some L)(ne:Mh rows L≠[]):∃(N x y:Int)(r:Rg),r∈Mh rows L/\1<=N/\N<2^18/\r.Col N x/\0<=y/\y<=N/\Kept r.bs N x y:=by
 obtain⟨r,hr⟩:=KZ _ ne;obtain⟨g,hg,rfl⟩:=y9.mp hr;obtain⟨gm,bl⟩:=JN.mp hg;obtain⟨p,hp,lt⟩:=List.any_eq_true.mp bl;have lt:=i9 lt;obtain⟨hk,gl⟩:=Hu.Tc.fN (Hu.rq (by decide)) sm eL g gm;have cn:=Hu.iB (Hu.Tc.told_cone Hu.iu (sm.mono (by decide)) eL g gm p hp);have p0:=(hk.ok p hp).n0;refine⟨p.u,p.v,p.w,_,hr,by omega,(hk.ok p hp).n1,⟨⟨p,hp,(sJ p0).mpr (JZ (JA _ _))⟩,p,hp,?_⟩,cn.2.2.1,cn.2.2.2,(pO _ _ _ _ _).mpr ⟨Hu.ins_cor hk.tri hk.n3 hp,lt⟩⟩;rw[Int.mul_fdiv_cancel _ (by omega)];exact C3 _
theorem ok_fst(T:aC K mg "fewest_steps" iP)(qD:Def P w K mg base 16 "regions_below" ["saying"] (FP c K))(oN:Def P w K mg base 4 "step_below" ["regions","n"] (BY K)):Def P w K mg base 17 "fewest_steps" ["saying"] (FY c K):=by
 refine aQ T ku ?_ ?_
 .walk_at "i1"
 walk_at "i2";obtain⟨x,a,rfl,oa,sz,n8,q⟩:=h;have nd:=ku.nd;have hu:=hr.units
 refine⟨_,(ah (aJ (i:=1) (aH qD (aa (pv 0) af)))
  (ah (aT (aE (Hd hu) (pv 1) (bW af) (aI _)) (aq (av bN)) aL)
  (ah (aJ (i:=2) ao)
  (ah (aJ (i:=3) (aH oN (aa (pv 1) (aa (pv 2) af))))
  (ah (iQ z7 (aE kg (pv 3) bN (aI _)) (ah (R6 (i:=2) nd rfl (Or.inl rfl) ao Sy)
  (aq (aJ (i:=3) (aH oN (aa (pv 1) (aa (pv 2) af)))))))
  (aq (av (bc (aa (pv 2) (aa (pv 3) af)))))))))),?_⟩
 refine⟨_,rfl,x,a,rfl,oa,sz,n8,λD us X L H1 s1 eD al ok sm eL kL=>?_⟩;obtain⟨q1,q2⟩:=q X L sm eL kL;have ul:=al.len;have met:=GB (rows:=bA a) sm eL;generalize Mh (bA a) L=rs at *;refine⟨_,rfl,(by show 0<=sizeLine;decide),λp0 ZE=>?_⟩;have u0:=ak ZE (.lst []);refine⟨D,p0,us,[],rfl,rfl,LA.of (u0 _ _ eD),LA.of ae,?_⟩
 by_cases er:rs=[]
 .refine .inl ⟨?_,λv hv=>?_,_,rfl,dR (q1 er _ (s1.trans u0))⟩
  .subst er;exact F1 ul
  .subst er;rw[F1 ul]at hv;cases hv
 refine .inr ⟨?_,_,rfl,bJ ?_⟩
 .rw[ul];intro z;exact er (F1 z)
 obtain⟨N,X0,Y0,r0,Na,N1,N2,col,Y1,Y2,kp⟩:=met er;have s1:=s1.trans u0;have eD:=u0 _ _ eD;have al:=al.imp λv r z=>Ny.to u0 z
 have step:∀(n:Int)(H':Hp)(M:VK),1<=n->n<=N->aK (upd H1 p0 (.lst [])) H'->(∀m,1<=m->m<n->∀r∈rs,∀x y,r.Col m x->0<=y->y<=m->¬Kept r.bs m x y)->
   (∀(v:V)(LD:Hp),aK (upd H1 p0 (.lst [])) LD->((v=.non/\n<N/\∀m,1<=m->m<n+1->∀r∈rs,∀x y,r.Col m x->0<=y->y<=m->¬Kept r.bs m x y)\/∃t x y,v=.ref t/\Dat K LD (LC ⟨n,x,y⟩) v/\Yg rs n x y)->M v LD)->BY K [.ref D,.int n] H' M E0:=λn H' M n1 nN s4 iv k=>by
  refine⟨D,us,_,rs,n,rfl,s4 _ _ eD,al.imp λv r z=>Ny.to s4 z,ok,by omega,by omega,λr hr x y y0 y1 kk t H5 s5 d5=>?_,λno H5 s5=>?_⟩
  .exact k _ _ (s4.trans s5) (.inr ⟨t,x,y,rfl,d5,⟨n1,by omega,y0,y1,⟨r,hr,kk⟩,iv⟩⟩)
  .refine k _ _ (s4.trans s5) (.inl ⟨rfl,?_,λm m1 m2 r hr x y cl y0 y1=>?_⟩)
   .rcases A8 n N with z | z
    .exact z
    .have e:n=N:=by omega
     subst e;exact absurd kp (no r0 Na _ _ col Y1 Y2)
   .rcases A8 m n with z | z
    .exact iv m m1 z r hr x y cl y0 y1
    .have e:m=n:=by omega
     subst e;exact no r hr x y cl y0 y1
 refine⟨_,rfl,_,rfl,?_⟩;dsimp only[kE,z9,x9];refine(step 1 _ _ (by omega) N1 (aK.refl _) (λm m1 m2=>by omega) λv H4 s4 hv=>?_);refine⟨λm σ H'=>aK (upd H1 p0 (.lst [])) H'/\∃(n:Int)(v:V),m=(N-n).toNat/\σ=[some (.ref x),some (.ref D),some (.int n),some v]/\1<=n/\n<=N/\((v=.non/\n<N/\∀m,1<=m->m<n+1->∀r∈rs,∀x y,r.Col m x->0<=y->y<=m->¬Kept r.bs m x y)\/∃t x y,v=.ref t/\Dat K H' (LC ⟨n,x,y⟩) v/\Yg rs n x y),⟨_,s4,1,v,rfl,rfl,by omega,N1,hv⟩,?_⟩;rintro m σ H' ⟨s5,n,v,rfl,rfl,n1,nN,iv⟩
 refine⟨_,rfl,rfl,_,rfl,?_⟩;rcases iv with⟨rfl,lt,no⟩ | ⟨t,X1,Y3,rfl,d5,few⟩
 .refine dR ⟨_,λσ' H' z=>z,?_⟩;refine⟨_,rfl,_,_,rfl,rfl,_,rfl,_,rfl,?_⟩;dsimp only[kE,z9,x9];refine(step (n+1) _ _ (by omega) (by omega) s5 no λv H6 s6 hv=>?_);exact⟨_,by omega,s6,n+1,v,rfl,rfl,by omega,by omega,hv⟩
 .refine bJ ?_;refine⟨_,rfl,_,rfl,(by show 2<=sizeLine;decide),λt6 ht6=>?_⟩;have u6:=ak ht6 (.tup [.int n,.ref t]);exact q2 n X1 Y3 t6 t _ few ((s1.trans s5).trans u6) ae (d5.ts u6.ts)
theorem sL(ru:Hu.run g (bA a) []=.rules rs)(C:Hu.eW g p):a.worth p.u p.v p.w=Hu.tl (MD (bA a) g) p:=by
 rcases(qi a).run g with⟨out,r,e,e1,e2⟩ | ⟨⟨k,x,e⟩,_⟩
 .have er:MD (bA a) g=r:=by
   unfold MD;rw[e];show out.getLastD Hu.z0=r;rw[KY,e1];rfl
  rw[er];exact hU C e2
 .rw[ru]at e;cases e
theorem GC{a:Tr}{T:Hu.Tc}(sm:T.Sm 8)(eL:T.told Hu.sqH=some L)(kL:∀g∈L,∃rs,Hu.run g (bA a) []=.rules rs){r:Rg}(hr:r∈Mh (bA a) L){x:Int}(k:Kept r.bs n x y):(0<=x/\x<=n)/\(0<=y/\y<=n)/\a.worth n x y<n:=by
 obtain⟨g,hg,rfl⟩:=y9.mp hr;have gm:=(JN.mp hg).1;obtain⟨I,lt⟩:=(pO _ _ _ _ _).mp k;obtain⟨hk,gl⟩:=Hu.Tc.fN (Hu.rq (by decide)) sm eL g gm;have C:=Hu.oA hk.tri hk.n3 I;have cn:=Hu.Tc.told_cone Hu.iu (sm.mono (by decide)) eL g gm;have Cs:Hu.eW Hu.sqH ⟨n,x,y⟩:=λf hf=>C f λc hc=>cn c hc f hf;have sq:=Hu.iB Cs;obtain⟨rs,ru⟩:=kL g gm;have e:=sL (p:=⟨n,x,y⟩) ru C;exact⟨⟨sq.1,sq.2.1⟩,⟨sq.2.2.1,sq.2.2.2⟩,by rw[show a.worth n x y=_ from e];exact lt⟩
theorem QB{a:Tr}{T:Hu.Tc}(sm:T.Sm 8)(eL:T.told Hu.sqH=some L)(kL:∀g∈L,∃rs,Hu.run g (bA a) []=.rules rs){m x:Int}(m1:1<=m)(x0:0<=x)(x1:x<=m)(y0:0<=y)(y1:y<=m)(lt:a.worth m x y<m):∃r∈Mh (bA a) L,r.Col m x/\Kept r.bs m x y:=by
 have MO:T.Sm 64:=sm.mono (by decide);obtain⟨g,gm,I⟩:=Hu.cover Hu.iu MO eL (Hu.Bb (p:=⟨m,x,y⟩) x0 x1 y0 y1);obtain⟨hk,gl⟩:=Hu.Tc.fN (Hu.rq (by decide)) sm eL g gm;have C:=Hu.oA hk.tri hk.n3 I;obtain⟨rs,ru⟩:=kL g gm;have e:a.worth m x y=_:=sL (p:=⟨m,x,y⟩) ru C;rw[e]at lt;have n3:=hk.n3
 have bl:WM (bA a) g=true:=by
  unfold WM;cases z:g.any λc=>decide (Hu.tl (MD (bA a) g) c<c.u) with
  | true=>rfl
  | false =>
   exfalso;have z:=List.any_eq_false.mp z
   have h:=Hu.nv (a:=1) (b:=1) (r:=MD (bA a) g) (λc hc=>by
    have:=z c hc;have:¬Hu.tl (MD (bA a) g) c<c.u:=λy=>this (i6 y);omega) C
   rw[Lw,K0]at h;have h:m<=Hu.tl (MD (bA a) g) ⟨m,x,y⟩:=h;omega
 have key:∀s:Int,(s=1\/s = -1)->∃c∈g,s*(c.v*m-c.u*x)<=0:=λs hs=>by
  rcases Classical.em (∃c∈g,s*(c.v*m-c.u*x)<=0) with z | z
  .exact z
  .exfalso
   have z:∀c∈g,1<=s*(c.v*m-c.u*x):=λc hc=>by
    rcases A8 0 (s*(c.v*m-c.u*x)) with y | y
    .omega
    .exact absurd ⟨c,hc,y⟩ z
   have ef:∀q:T3,Hu.tl ⟨2^18*s*m,0,-(2^18*s*x)-1⟩ q=2^18*(s*(q.v*m-q.u*x))-q.u:=λq=>by simp only[Hu.tl];grind
   have h:=C ⟨2^18*s*m,0,-(2^18*s*x)-1⟩ λc hc=>by
    rw[ef];have h1:=z c hc;have h2:c.u<2^18:=(hk.ok c hc).n1;omega
   rw[ef]at h;have e0:s*(x*m-m*x)=0:=by rw[JA x m,Int.sub_self,Int.mul_zero]
   have h:0<=2^18*(s*(x*m-m*x))-m:=h;rw[e0]at h;omega
 refine⟨⟨g,zA g (MD (bA a) g)⟩,y9.mpr ⟨g,JN.mpr ⟨gm,bl⟩,rfl⟩,⟨?_,?_⟩,(pO _ _ _ _ _).mpr ⟨I,lt⟩⟩
 .obtain⟨c,hc,z⟩:=key 1 (.inl rfl);refine⟨c,hc,(sJ (hk.ok c hc).n0).mpr ?_⟩;omega
 .obtain⟨c,hc,z⟩:=key (-1) (.inr rfl);refine⟨c,hc,?_⟩;have u0:=(hk.ok c hc).n0;rw[G2 _ (z5 u0),Ke u0,JA];omega
theorem Cv{a:Tr}{T:Hu.Tc}(sm:T.Sm 8)(eL:T.told Hu.sqH=some L)(kL:∀g∈L,∃rs,Hu.run g (bA a) []=.rules rs):Mh (bA a) L=[]↔∀m x y:Int,1<=m->0<=x->x<=m->0<=y->y<=m->a.worth m x y=m:=by
 constructor
 .intro e m x y m1 x0 x1 y0 y1;have bd:=di (show 0<=m by omega) ⟨x0,x1⟩ ⟨y0,y1⟩ a;rcases A8 (a.worth m x y) m with z | z
  .obtain⟨r,hr,_⟩:=QB sm eL kL m1 x0 x1 y0 y1 z;rw[e]at hr;cases hr
  .omega
 .intro h;rcases Classical.em (Mh (bA a) L=[]) with z | z
  .exact z
  .exfalso;obtain⟨N,x,y,r,hr,N1,_,_,_,_,k⟩:=GB sm eL z;obtain⟨⟨x0,x1⟩,⟨y0,y1⟩,lt⟩:=GC sm eL kL hr k;have:=h N x y N1 x0 x1 y0 y1;omega
theorem vE{a:Tr}{T:Hu.Tc}(sm:T.Sm 8)(eL:T.told Hu.sqH=some L)(kL:∀g∈L,∃rs,Hu.run g (bA a) []=.rules rs){x:Int}(F:Yg (Mh (bA a) L) n x y):(0<=x/\x<=n)/\(0<=y/\y<=n)/\a.worth n x y<n/\∀m x y:Int,1<=m->m<n->0<=x->x<=m->0<=y->y<=m->a.worth m x y=m:=by
 obtain⟨r,hr,k⟩:=F.kp;obtain⟨hx,hy,lt⟩:=GC sm eL kL hr k;refine⟨hx,hy,lt,λm x y m1 mn x0 x1 y0 y1=>?_⟩;have bd:=di (show 0<=m by omega) ⟨x0,x1⟩ ⟨y0,y1⟩ a;rcases A8 (a.worth m x y) m with z | z
 .obtain⟨r,hr,cl,k⟩:=QB sm eL kL m1 x0 x1 y0 y1 z;exact absurd k (F.no m m1 mn r hr x y cl y0 y1)
 .omega
theorem BO{a:Tr}{T:Hu.Tc}(sm:T.Sm 64)(eL:T.told Hu.sqH=some L)(hg:g∈L)(hp:p∈g) :
  0<p.u/\(0<=p.v/\p.v<=p.u/\0<=p.w/\p.w<=p.u)/\Bg p.u/\Bg (a.worth p.u p.v p.w)/\Bg (WF a p).1/\Bg (WF a p).2/\0<(WF a p).2/\Lo.gc (WF a p).1 (WF a p).2=1/\(WF a p).1*p.u=a.worth p.u p.v p.w*(WF a p).2:=by
 have hk:=Hu.Tc.fN Hu.iu sm eL;have cn:=Hu.Tc.told_cone Hu.iu sm eL;have u0:=((hk g hg).1.ok p hp).n0;have bx:=Hu.iB (cn g hg p hp);have ub:Bg p.u:=dG ((hk g hg).1.ok p hp).r.a (by decide);obtain⟨v0,v1,w0,w1⟩:=bx;have b:=di (n:=p.u) (x:=p.v) (y:=p.w) (by omega) ⟨v0,v1⟩ ⟨w0,w1⟩ a;have e:=CS (w:=a.worth p.u p.v p.w) u0;exact⟨u0,⟨v0,v1,w0,w1⟩,ub,d9 (by omega) ub,d9 (Lo.CP (by omega)) (d9 (by omega) ub),d9 (Lo.CU (by omega)) ub,e.2,Lo.low_gc (by omega),e.1⟩
inductive we(c:CCs)(K:W.Frag)(vs:List V)(H:Hp)(Q:VK)(E:XK):Prop
 | mk (x a):vs=[.ref x]->Ob c H x a->a.size<=60->a.nf<=8->((∀p vt T L H',aK H H'->H' p=some (.tup [.str "always",vt])->Dat K H' (LR T) vt->T.Sm 8->T.deep<=8->T.iV+1<=2^8->T.told Hu.sqH=some L->(∀g∈L,∃rs,Hu.run g (bA a) []=.rules rs)->(∀m x y:Int,1<=m->0<=x->x<=m->0<=y->y<=m->a.worth m x y=m)->Q (.ref p) H'))->(∀p vp pt H',aK H H'->H' p=some (.tup [.str "less",vp])->Dat K H' (LC pt) vp->0<pt.u->(0<=pt.v/\pt.v<=pt.u)->(0<=pt.w/\pt.w<=pt.u)->a.worth pt.u pt.v pt.w<pt.u->Q (.ref p) H')->we c K vs H Q E
theorem pM(h:OF K H v f):Dat K H (NH f.1 f.2) v:=by
 obtain⟨a,rfl,s⟩:=h;exact⟨a,_,rfl,s,_,_,rfl,rfl,_,_,rfl,rfl,rfl⟩
theorem HB(T:aC K mg "always" sH)(xB:fA K mg "WHOLE" [1,1])(dW:Def P w K mg base 16 "least_worth" ["saying"] (FV c K)):Def P w K mg base 17 "always" ["saying"] (we c K):=by
 refine aQ T vg ?_ ?_
 .walk_at "i1"
 walk_at "i2";obtain⟨x,a,rfl,oa,sz,n8,q1,q2⟩:=h;have nd:=vg.nd;have hu:=hr.units;obtain⟨aWH,Qe,sWH⟩:=xB.ex
 refine⟨_,(ah (aJ (i:=1) (aH dW (aa (pv 0) af)))
  (ah (aT (aE (Aw hu) (aB az (pv 1) ao) (cS (v:=V.ref aWH) rfl Qe rfl) (aI _)) (aq (av (bc (aa aR (aa (aB az (pv 1) ao) af))))) aL)
  (aq (av (bc (aa aR (aa (aB az (pv 1) ao) af))))))),?_⟩
 refine⟨_,rfl,x,a,rfl,oa,sz,n8,λp vl vp vt pt T L H1 s1 ep Oz Nl dT OS dp cu eL kL ND NC=>?_⟩;obtain⟨g,hg,PB⟩:=ND;obtain⟨u0,bx,ub,wb,b1,b2,f0,g1,eq1⟩:=BO (a:=a) (OS.mono (by decide)) eL hg PB;have wbd:=di (n:=pt.u) (x:=pt.v) (y:=pt.w) (by omega) ⟨bx.1,bx.2.1⟩ ⟨bx.2.2.1,bx.2.2.2⟩ a;refine⟨_,rfl,_,_,_,_,rfl,rfl,Lz.of ep,rfl,_,_,.inl (pM Oz),.inl (pM (f:=(1,1)) ⟨aWH,rfl,sWH _⟩),dE _ _,dE _ _,_,rfl,?_⟩;rw[Ta];refine cU (λcc=>?_) (λcc=>?_)
 .have cc:=i9 cc;refine⟨_,rfl,_,_,_,_,rfl,rfl,Lz.of ep,rfl,(by show 2<=sizeLine;decide),λp2 h2=>?_⟩;have u2:=ak h2 (.tup [.str "always",vt]);refine q1 p2 vt T L _ (s1.trans u2) ae (dT.ts u2.ts) OS dp cu eL kL ((Cv OS eL kL).mp ?_);rcases Classical.em (Mh (bA a) L=[]) with z | z
  .exact z
  .exfalso;obtain⟨r,hr⟩:=KZ _ z;obtain⟨g',ZR,rfl⟩:=y9.mp hr;obtain⟨gm,bl⟩:=JN.mp ZR;obtain⟨c',MA,lt⟩:=List.any_eq_true.mp bl;have lt:=i9 lt;obtain⟨rs,ru⟩:=kL g' gm;rw[<- sL ru (Hu.dS MA)]at lt;have k:=NC g' gm c' MA;rw[cc.1,cc.2]at k;omega
 .have cc:¬((WF a pt).1=1/\(WF a pt).2=1):=λz=>cc (i6 z);refine⟨_,rfl,_,_,_,_,rfl,rfl,Lz.of ep,rfl,(by show 2<=sizeLine;decide),λp2 h2=>?_⟩;have u2:=ak h2 (.tup [.str "less",vp]);refine q2 p2 vp pt _ (s1.trans u2) ae (Nl.ts u2.ts) u0 ⟨bx.1,bx.2.1⟩ ⟨bx.2.2.1,bx.2.2.2⟩ ?_;rcases A8 (a.worth pt.u pt.v pt.w) pt.u with z | z
  .exact z
  .exfalso;have ew:a.worth pt.u pt.v pt.w=pt.u:=by omega
   rw[ew,JA pt.u]at eq1;have e12:(WF a pt).1=(WF a pt).2:=KP (by omega) eq1;rw[e12]at g1
   have:Lo.gc (WF a pt).2 (WF a pt).2=(WF a pt).2:=by
    have h1:=Lo.eT (WF a pt).2 (WF a pt).2;have h2:(WF a pt).2∣Lo.gc (WF a pt).2 (WF a pt).2:=Int.dvd_coe_gcd (Int.dvd_refl _) (Int.dvd_refl _);exact Int.dvd_antisymm (Lo.pL _ _) (by omega) h1 h2
   exact cc ⟨by omega,by omega⟩
theorem rO:aD ["_law_tree","_law_n","_law_x","_law_y"] ["_law_tree","_law_n","_law_x","_law_y"] (au Gk):=L2.fsc rfl (by decide+kernel)
theorem Hg(T:aC K mg "_law_worth" Gk)(fK:mg "int"=none)(BH:Def P w K mg base 1 "_law_fold" ["_law_word","_law_n","_law_one","_law_other"] Cb):∀k:Nat,Def P w K mg base (k+2) "_law_worth" ["_law_tree","_law_n","_law_x","_law_y"] (BV k):=by
 intro k
 induction k with
 | zero =>
  refine aQ T rO ?_ ?_
  .walk_at "i1"
  .walk_at "i2";obtain⟨a,t,n,x,y,rfl,_,z,_⟩:=h;have:=t.size_pos;omega
 | succ k hZ =>
  refine aQ T rO ?_ ?_
  .walk_at "i1"
  walk_at "i2";obtain⟨a,t,n,x,y,rfl,tu,hz,q⟩:=h;have nd:=rO.nd;refine⟨_,(ah (aT (aE lQ (aB az (pv 0) ao) (bc (aa aR (aa aR af))) rfl) (aq (av (aM bu (pv 1) (cJ jJ fK (aa (dM cy (aB az (pv 0) ao) aR (aI _)) af))))) aL)
  (ah (aT (aE lQ (aB az (pv 0) ao) (bc (aa aR (aa aR af))) rfl) (aq (av (aB bC (bW (aa (pv 2) (aa (pv 3) af))) (cJ jJ fK (aa (dM cy (aB az (pv 0) ao) aR (aI _)) af))))) aL)
  (ah (aT (aE cy (aB az (pv 0) ao) aR (aI _)) (aq (av (aM dB (pv 1) (aH hZ (aa (aB az (pv 0) ao) (aa (pv 1) (aa (pv 2) (aa (pv 3) af)))))))) aL)
  (aq (av (aH BH (aa (aB az (pv 0) ao) (aa (pv 1) (aa (aH hZ (aa (aB az (pv 0) ao) (aa (pv 1) (aa (pv 2) (aa (pv 3) af))))) (aa (aH hZ (aa (aB az (pv 0) ao) (aa (pv 1) (aa (pv 2) (aa (pv 3) af))))) af)))))))))),?_⟩
  cases tu with
  | never e =>
   refine⟨_,rfl,_,_,_,_,rfl,rfl,Lz.of e,rfl,(by show 2<=sizeLine;decide),λp hp=>⟨p,_,rfl,.inr (Lz.of ae),rfl,rfl,_,rfl,lA Vv ?_⟩⟩;have s0:=ak hp (.tup [V.str "never",.str "always"]);have dz:decide (V.str "never"=V.str "always")=false:=D7 (λz:V.str "never"=V.str "always"=>absurd (V.str.inj z) (by decide+kernel));refine⟨_,rfl,_,rfl,_,_,_,_,rfl,rfl,Lz.of (s0 _ _ e),rfl,rfl,.inr ⟨_,rfl,_,_,rfl,rfl,(by rw[dz];exact fY (by decide+kernel)),?_⟩⟩;rw[dz];have z:n*(if false=true then 1 else 0)=Tr.worth n x y .never:=by show n*0=0;omega
   exact(show Q (V.int (n*(if false=true then 1 else 0))) _ from by rw[z];exact q _ s0)
  | always e =>
   refine⟨_,rfl,_,_,_,_,rfl,rfl,Lz.of e,rfl,(by show 2<=sizeLine;decide),λp hp=>⟨p,_,rfl,.inr (Lz.of ae),rfl,rfl,_,rfl,lA Vw ?_⟩⟩;have s0:=ak hp (.tup [V.str "never",.str "always"]);have dz:decide (V.str "always"=V.str "always")=true:=i6 (rfl:V.str "always"=V.str "always");refine⟨_,rfl,_,rfl,_,_,_,_,rfl,rfl,Lz.of (s0 _ _ e),rfl,rfl,.inr ⟨_,rfl,_,_,rfl,rfl,(by rw[dz];exact fY (by decide+kernel)),?_⟩⟩;rw[dz];have z:n*(if true=true then 1 else 0)=Tr.worth n x y .always:=by show n*1=n;omega
   exact(show Q (V.int (n*(if true=true then 1 else 0))) _ from by rw[z];exact q _ s0)
  | lp e =>
   refine⟨_,rfl,_,_,_,_,rfl,rfl,Lz.of e,rfl,(by show 2<=sizeLine;decide),λp hp=>⟨p,_,rfl,.inr (Lz.of ae),rfl,rfl,_,rfl,lB Zf ?_⟩⟩;have s0:=ak hp (.tup [V.str "never",.str "always"]);refine⟨_,rfl,_,_,_,_,rfl,rfl,Lz.of (s0 _ _ e),rfl,(by show 2<=sizeLine;decide),λp1 Mi=>⟨p1,_,rfl,.inr (Lz.of ae),rfl,rfl,_,rfl,lA Vi ?_⟩⟩;have s1:=s0.trans (ak Mi (.tup [V.str "p",.str "q"]));refine⟨_,rfl,_,rfl,(by show 2<=sizeLine;decide),λl hl=>?_⟩;have s2:=s1.trans (ak hl (.lst [V.int x,.int y]));refine⟨_,rfl,_,_,_,_,rfl,rfl,Lz.of (s2 _ _ e),rfl,rfl,.inr ⟨_,rfl,l,_,_,_,rfl,rfl,LA.of ae,?_,q _ s2⟩⟩;rw[D7 (λz:V.str "p"=V.str "q"=>absurd (V.str.inj z) (by decide+kernel))];rfl
  | lq e =>
   refine⟨_,rfl,_,_,_,_,rfl,rfl,Lz.of e,rfl,(by show 2<=sizeLine;decide),λp hp=>⟨p,_,rfl,.inr (Lz.of ae),rfl,rfl,_,rfl,lB Ze ?_⟩⟩;have s0:=ak hp (.tup [V.str "never",.str "always"]);refine⟨_,rfl,_,_,_,_,rfl,rfl,Lz.of (s0 _ _ e),rfl,(by show 2<=sizeLine;decide),λp1 Mi=>⟨p1,_,rfl,.inr (Lz.of ae),rfl,rfl,_,rfl,lA Vh ?_⟩⟩;have s1:=s0.trans (ak Mi (.tup [V.str "p",.str "q"]));refine⟨_,rfl,_,rfl,(by show 2<=sizeLine;decide),λl hl=>?_⟩;have s2:=s1.trans (ak hl (.lst [V.int x,.int y]));refine⟨_,rfl,_,_,_,_,rfl,rfl,Lz.of (s2 _ _ e),rfl,rfl,.inr ⟨_,rfl,l,_,_,_,rfl,rfl,LA.of ae,?_,q _ s2⟩⟩;rw[i6 (rfl:V.str "q"=V.str "q")];rfl
  | @no _ b t e tb =>
   have SD:t.size+1<=k+1:=hz;refine⟨_,rfl,_,_,_,_,rfl,rfl,Lz.of e,rfl,(by show 2<=sizeLine;decide),λp hp=>⟨p,_,rfl,.inr (Lz.of ae),rfl,rfl,_,rfl,lB Sh ?_⟩⟩;have s0:=ak hp (.tup [V.str "never",.str "always"]);refine⟨_,rfl,_,_,_,_,rfl,rfl,Lz.of (s0 _ _ e),rfl,(by show 2<=sizeLine;decide),λp1 Mi=>⟨p1,_,rfl,.inr (Lz.of ae),rfl,rfl,_,rfl,lB GR ?_⟩⟩;have s1:=s0.trans (ak Mi (.tup [V.str "p",.str "q"]));refine⟨_,rfl,_,_,_,_,rfl,rfl,Lz.of (s1 _ _ e),rfl,rfl,_,rfl,ite_yes rfl ?_⟩;refine⟨_,rfl,_,rfl,_,_,_,_,rfl,rfl,Lz.of (s1 _ _ e),rfl,_,rfl,_,rfl,_,rfl,b,t,n,x,y,rfl,tb.to (Kp.of s1),by omega,λH2 s2=>⟨_,_,rfl,rfl,q _ (s1.trans s2)⟩⟩
  | @fold _ b d u t t' e tb td =>
   have SD:t.size+t'.size+1<=k+1:=hz;refine⟨_,rfl,_,_,_,_,rfl,rfl,Lz.of e,rfl,(by show 2<=sizeLine;decide),λp hp=>⟨p,_,rfl,.inr (Lz.of ae),rfl,rfl,_,rfl,lB (Zd u) ?_⟩⟩;have s0:=ak hp (.tup [V.str "never",.str "always"]);refine⟨_,rfl,_,_,_,_,rfl,rfl,Lz.of (s0 _ _ e),rfl,(by show 2<=sizeLine;decide),λp1 Mi=>⟨p1,_,rfl,.inr (Lz.of ae),rfl,rfl,_,rfl,lB (Vg u) ?_⟩⟩;have s1:=s0.trans (ak Mi (.tup [V.str "p",.str "q"]));refine⟨_,rfl,_,_,_,_,rfl,rfl,Lz.of (s1 _ _ e),rfl,rfl,_,rfl,ite_no (w_not u) ?_⟩;refine⟨_,rfl,_,_,_,_,rfl,rfl,Lz.of (s1 _ _ e),rfl,_,rfl,_,rfl,_,_,_,_,rfl,rfl,Lz.of (s1 _ _ e),rfl,_,rfl,_,rfl,_,rfl,b,t,n,x,y,rfl,tb.to (Kp.of s1),by omega,λH2 s2=>?_⟩;have L6:=s1.trans s2;refine⟨_,rfl,_,_,_,_,rfl,rfl,Lz.of (L6 _ _ e),rfl,_,rfl,_,rfl,_,rfl,d,t',n,x,y,rfl,td.to (Kp.of L6),by omega,λH3 s3=>?_⟩;exact⟨u,n,_,_,rfl,q _ (L6.trans s3)⟩
theorem Sk{T:Hu.Tc}(sm:T.Sm 64)(eL:T.told Hu.sqH=some L)(kL:∀g∈L,∃rs,Hu.run g (bA S) []=.rules rs)(NC:∀g∈L,∀c∈g,f.1*c.u<=S.worth c.u c.v c.w*f.2)(v0:0<=p.v)(v1:p.v<=p.u)(w0:0<=p.w)(w1:p.w<=p.u):f.1*p.u<=S.worth p.u p.v p.w*f.2:=by
 obtain⟨g,hg,C⟩:=Hu.IQ sm eL v0 v1 w0 w1;obtain⟨rs,ru⟩:=kL g hg;rcases(qi S).run g with⟨out,r,e,e1,e2⟩ | ⟨⟨k,x,e⟩,_⟩
 .rw[hU C e2];refine Hu.nv (λc hc=>?_) C;rw[<- hU (Hu.dS hc) e2];exact NC g hg c hc
 .rw[ru]at e;cases e
theorem Rn{pt:T3}(u0:0<pt.u)(eq1:(WF S pt).1*pt.u=S.worth pt.u pt.v pt.w*(WF S pt).2)(f0:0<(WF S pt).2)(g1:Lo.gc (WF S pt).1 (WF S pt).2=1)(h:S.worth pt.u pt.v pt.w=pt.u):(WF S pt).1=1/\(WF S pt).2=1:=by
 rw[h,JA pt.u]at eq1;have e:=KP (by omega) eq1;rw[e]at g1 ⊢
 have:Lo.gc (WF S pt).2 (WF S pt).2=(WF S pt).2:=by
  unfold Lo.gc;rw[Int.gcd_self];omega
 omega
theorem Gq(ru:Hu.run g (bA t) []=.rules rs):∀r,rs.getLast?=some r->∀c∈g,t.worth c.u c.v c.w=Hu.tl r c:=λr hr c hc=>by
 rcases(qi t).run g with⟨out,r',e,e1,e2⟩ | ⟨⟨k,x,e⟩,_⟩
 .rw[ru]at e;cases e
  rw[hr]at e1;cases e1
  exact hU (Hu.dS hc) e2
 .rw[ru]at e;cases e
theorem OI{pt:T3}(u0:0<pt.u)(eq1:(WF S pt).1*pt.u=S.worth pt.u pt.v pt.w*(WF S pt).2)(f0:0<(WF S pt).2)(g1:Lo.gc (WF S pt).1 (WF S pt).2=1)(h:S.worth pt.u pt.v pt.w=0):(WF S pt).1=0/\(WF S pt).2=1:=by
 rw[h,Kd]at eq1
 have e:(WF S pt).1=0:=by
  rcases D9.mp eq1 with z | z
  .exact z
  .omega
 rw[e]at g1 ⊢
 have:Lo.gc 0 (WF S pt).2=(WF S pt).2:=by
  unfold Lo.gc;rw[Int.gcd_zero_left];omega
 omega
inductive vY(K:W.Frag)(vs:List V)(H:Hp)(Q:VK)(E:XK):Prop
 | mk (p a:Addr) (vp:V) (pt:T3) (t:Tr):vs=[.ref p,.ref a]->H p=some (.tup [.str "less",vp])->Dat K H (LC pt) vp->0<pt.u->(0<=pt.v/\pt.v<=pt.u)->(0<=pt.w/\pt.w<=pt.u)->Tu H a t->t.size<=60->t.worth pt.u pt.v pt.w<pt.u->(∀H',aK H H'->Q (.bl true) H')->vY K vs H Q E
inductive rM(vs:List V)(H:Hp)(Q:VK)(E:XK):Prop
 | mk (a b:Addr) (x y:Tr):vs=[.ref a,.ref b]->Tu H a x->Tu H b y->x.size<=50->y.size<=9->One x->(∀H',Q (.bl true) H')->rM vs H Q E
theorem Hr(T:aC K mg "_law_less" sG)(aO:mg "isinstance"=none)(aW:mg "tuple"=none)(bE:mg "len"=none)(qF:Def P w K mg base 2 "_law_is_point" ["_law_found"] (FW K))(hZ:Def P w K mg base 62 "_law_worth" ["_law_tree","_law_n","_law_x","_law_y"] (BV 60)):Def P w K mg base 63 "_law_less" ["_law_found","_law_tree"] (vY K):=by
 refine aQ T uZ ?_ ?_
 .walk_at "i1"
 walk_at "i2";obtain⟨p,a,vp,pt,t,rfl,ep,Nl,u0,bv,bw,tu,sz,lt,q⟩:=h;have nd:=uZ.nd
 refine⟨_,(ah (aT (PW.pt (eM (eP (dA (aG fJ aO (aa (pv 0) (aa (fq (v:=V.ty "tuple") rfl aW (by decide+kernel) rfl) af))))) (eM (aE ky (aG bL bE (aa (pv 0) af)) ao (aI _)) (eM (aE ky (aB az (pv 0) ao) aR (aI _)) (fV (eP (dA (aH qF (aa (aB az (pv 0) ao) af))))))))) (aq (av iw)) aL)
  (ah (sO (aB az (pv 0) ao) (iR rfl (aY (aS (i:=2)) (aY (aS (i:=3)) (aY (aS (i:=4)) cZ)))))
  (aq (av (dM jb (aH hZ (aa (pv 1) (aa (pv 2) (aa (pv 3) (aa (pv 4) af))))) (pv 2) (aI _)))))),?_⟩
 refine⟨_,rfl,p,_,_,_,true,rfl,(λ_ h=>h),Lz.of ep,ff,_,rfl,bJ ?_⟩;refine⟨_,rfl,_,_,rfl,.inr ⟨_,Lz.of ep,rfl⟩,rfl,_,rfl,bJ ?_⟩;refine⟨_,rfl,_,_,_,_,rfl,rfl,Lz.of ep,rfl,rfl,_,rfl,bJ ?_⟩;refine⟨_,rfl,_,_,_,_,rfl,rfl,Lz.of ep,rfl,vp,pt,rfl,Nl,u0,bv.1,bv.2,bw.1,bw.2,λH2 s2=>⟨_,rfl,bJ ?_⟩⟩;obtain⟨pa,rfl,sp⟩:=cW Nl;refine⟨_,rfl,_,_,_,_,rfl,rfl,Lz.of (s2 _ _ ep),rfl,pa,_,rfl,sp.ts s2.ts,rfl,_,_,rfl,_,_,rfl,_,_,rfl,rfl,?_⟩;refine⟨_,rfl,_,rfl,_,rfl,_,rfl,a,t,pt.u,pt.v,pt.w,rfl,tu.to (Kp.of s2),sz,λH3 s3=>?_⟩;refine⟨_,rfl,_,_,rfl,rfl,?_⟩;show Q (.bl (decide (t.worth pt.u pt.v pt.w<pt.u))) _;rw[show decide (t.worth pt.u pt.v pt.w<pt.u)=true from i6 lt];exact q _ (s2.trans s3)
theorem Ek(T:aC K mg "_law_beside" mP)(cG:Def P w K mg base 61 "_law_folds" ["_law_tree"] (rB 60))(eV:Def P w K mg base 61 "_law_rows_to" ["_law_tree","_law_rows"] (vS K 60))(lI:Def P w K mg base 13 "_law_least" ["_law_rows","_law_hull"] (rD K 9))(dO:Def P w K mg base 63 "_law_object" ["_law_tree"] (vT c 60))(dW:Def P w K mg base 16 "least_worth" ["saying"] (FV c K))(nI:Def P w K mg base 2 "_law_is_fraction" ["_law_found"] (FX K)):Def P w K mg base 64 "_law_beside" ["_law_tree","_law_other"] rM:=by
 refine aQ T qe ?_ ?_
 .walk_at "i1"
 walk_at "i2";obtain⟨a,b,x,y,rfl,ta,tb,sx,sy,on,q⟩:=h;have nd:=qe.nd;have d3:(3:Nat)<=sizeLine:=by decide
 refine qY (aP ⟨(aT (aE ix (aM cA (aH cG (aa (pv 0) af)) (aH cG (aa (pv 1) af))) ao (aI _)) (aq (av iw)) aL)⟩ (aP ⟨(aJ (i:=2) (bW af))⟩ (aP ⟨(bB (aH eV (aa (pv 1) (aa (pv 2) af))))⟩ (aP (gP (i:=3) (gQ lI (aV (hv 2) (aV (Il (fg (bO (bG (bG (bG bf)))) (fg (bO (bG (bG (bG bf)))) (fg (bO (bG (bG (bG bf)))) (fg (bO (bG (bG (bG bf)))) bf))))) bf)))) (aP ⟨(aJ (i:=4) (aB az (aH dW (aa (aH dO (yE (bc (aa aR (aa (pv 0) (aa (pv 1) af)))) af)) af)) ao))⟩ (gZ ⟨(av (ke (aH nI (aa (pv 4) af)) (mX (dM cy (aM bu (aB az (pv 4) ao) (aB az (pv 3) ao)) (aM bu (aB az (pv 3) ao) (aB az (pv 4) ao)) (aI _)))))⟩)))))) ?_;refine⟨_,rfl,a,x,rfl,ta,by omega,λH1 s1=>⟨_,rfl,b,y,rfl,tb.to (Kp.of s1),by omega,λH2 s2=>?_⟩⟩;refine⟨_,_,rfl,rfl,_,_,rfl,rfl,_,rfl,cU (λ_=>q _) (λcc=>?_)⟩;have cc:¬(7:Int)<(x.nf:Int)+(y.nf:Int):=λz=>cc (i6 z);have Oo:=s1.trans s2;have ta2:=ta.to (Kp.of Oo);have tb2:=tb.to (Kp.of Oo);refine⟨(by show 0<=sizeLine;decide),λlr MG=>?_⟩;have u5:=ak MG (.lst []);refine⟨_,rfl,_,rfl,b,lr,y,[],[],rfl,tb2.to (Kp.of u5),by omega,ae,.nil,by simp;omega,(λ_ z=>nomatch z),λH6 us sb el rv=>?_⟩;have Me:aK H2 H6:=λd o z=>sb _ _ (u5 _ _ z) λy=>by cases y;rw[MG]at z;cases z
 refine⟨_,rfl,d3,λp1 h1=>⟨d3,λp2 h2=>⟨d3,λp3 h3=>⟨d3,λp4 h4=>⟨(by show 4<=sizeLine;decide),λl5 h5=>?_⟩⟩⟩⟩⟩;have u1:=ak h1 (.tup [.int 1,.int 0,.int 0]);have u2:=ak h2 (.tup [.int 1,.int 1,.int 0]);have u3:=ak h3 (.tup [.int 1,.int 1,.int 1]);have u4:=ak h4 (.tup [.int 1,.int 0,.int 1]);have u5:=ak h5 (.lst [V.ref p1,.ref p2,.ref p3,.ref p4]);have e1:=(u2.trans (u3.trans (u4.trans u5))) _ _ ae;have e2:=(u3.trans (u4.trans u5)) _ _ ae;have e3:=(u4.trans u5) _ _ ae;have e4:=u5 _ _ ae;have e5:upd (upd (upd (upd (upd H6 p1 (.tup [.int 1,.int 0,.int 0])) p2 (.tup [.int 1,.int 1,.int 0])) p3 (.tup [.int 1,.int 1,.int 1])) p4 (.tup [.int 1,.int 0,.int 1])) l5 (.lst [V.ref p1,.ref p2,.ref p3,.ref p4]) l5=some (.lst [V.ref p1,.ref p2,.ref p3,.ref p4]):=ae;have s5:=u1.trans (u2.trans (u3.trans (u4.trans u5)));generalize upd (upd (upd (upd (upd H6 p1 (.tup [.int 1,.int 0,.int 0])) p2 (.tup [.int 1,.int 1,.int 0])) p3 (.tup [.int 1,.int 1,.int 1])) p4 (.tup [.int 1,.int 0,.int 1])) l5 (.lst [V.ref p1,.ref p2,.ref p3,.ref p4])=H7 at *;have dsq:DatAll K H7 (Hu.sqH.map LC) [V.ref p1,.ref p2,.ref p3,.ref p4]:=⟨_,_,rfl,cg (p:=⟨1,0,0⟩) (Lz.of e1),_,_,rfl,cg (p:=⟨1,1,0⟩) (Lz.of e2),_,_,rfl,cg (p:=⟨1,1,1⟩) (Lz.of e3),_,_,rfl,cg (p:=⟨1,0,1⟩) (Lz.of e4),rfl⟩;have R:=qi y;have fd:=R.fd;have da7:=R.dat (K:=K) (rv.imp (LU.to (Kp.of s5)));refine⟨lr,l5,us,_,y,Hu.sqH,8,rfl,s5 _ _ el,da7,by omega,e5,dsq,FL (by simp;omega),(λc hc=>Hu.dS hc),by decide,λp tp bt H8 s8 ep8 ls=>?_⟩;obtain⟨X8,bbt,bbb,⟨e0,C,c0,wc⟩,Zl⟩:=ls;have s28:=(Me.trans s5).trans s8;refine⟨_,rfl,_,rfl,d3,λp9 h9=>?_⟩;have u9:=ak h9 (.tup [V.str "less",.ref a,.ref b]);have ta9:=ta2.to (Kp.of (s28.trans u9));have tb9:=tb2.to (Kp.of (s28.trans u9));have ns:=qS .less x y;refine⟨p9,.fold .less x y,rfl,.fold ae ta9 tb9,by show x.size+y.size+1<=60;omega,λo Rj Om ob=>?_⟩;refine⟨o,.fold .less x y,rfl,ob,by show x.size+y.size+1<=60;omega,by omega,λpr vl vp vt pt T L H11 s11 ep Oz Nl dT OS dp cu eL kL ND NC=>?_⟩;have MO:T.Sm 64:=OS.mono (by decide);obtain⟨g,hg,PB⟩:=ND;obtain⟨u0,bx,ub,wb,b1,b2,f0,g1,eq1⟩:=BO (a:=.fold .less x y) MO eL hg PB;have all:=λ{p:T3}=>Sk (S:=.fold .less x y) (f:=WF (.fold .less x y) pt) (p:=p) MO eL kL NC
 have ew:∀{p:T3},0<=p.u->0<=p.v/\p.v<=p.u->0<=p.w/\p.w<=p.u->Tr.worth p.u p.v p.w (.fold .less x y)=y.worth p.u p.v p.w:=λ{p} hu hv hw=>by
  have bd:=di hu hv hw y;have e:=on p.u p.v p.w hu hv hw;show max (x.worth p.u p.v p.w+y.worth p.u p.v p.w-p.u) 0=_;omega
 refine⟨_,_,_,_,rfl,rfl,Lz.of ep,rfl,?_⟩;have c1:=Hu.iB C;have a1:=all (p:=e0) c1.1 c1.2.1 c1.2.2.1 c1.2.2.2;rw[ew (by omega) ⟨c1.1,c1.2.1⟩ ⟨c1.2.2.1,c1.2.2.2⟩]at a1;rw[ew (by omega) ⟨bx.1,bx.2.1⟩ ⟨bx.2.2.1,bx.2.2.2⟩]at eq1;have a2:=Zl pt (Hu.Bb bx.1 bx.2.1 bx.2.2.1 bx.2.2.2) u0;generalize WF (.fold .less x y) pt=G at *
 have key:G.1*bt=tp*G.2:=by
  have l1:G.1*bt<=tp*G.2:=by
   have h1:G.1*e0.u*bt<=y.worth e0.u e0.v e0.w*G.2*bt:=C6 a1 (z5 X8);refine JW (a:=e0.u) ?_ c0;have e1:G.1*bt*e0.u=G.1*e0.u*bt:=by grind
   have e2:tp*G.2*e0.u=(tp*e0.u)*G.2:=by grind
   have e3:y.worth e0.u e0.v e0.w*G.2*bt=y.worth e0.u e0.v e0.w*bt*G.2:=by grind
   rw[e1,e2,wc,<- e3];exact h1
  have l2:tp*G.2<=G.1*bt:=by
   have h1:tp*pt.u*G.2<=y.worth pt.u pt.v pt.w*bt*G.2:=C6 a2 (z5 f0);refine JW (a:=pt.u) ?_ u0;have e1:tp*G.2*pt.u=tp*pt.u*G.2:=by grind
   have e2:G.1*bt*pt.u=(G.1*pt.u)*bt:=by grind
   have e3:y.worth pt.u pt.v pt.w*bt*G.2=y.worth pt.u pt.v pt.w*G.2*bt:=by grind
   rw[e1,e2,eq1,<- e3];exact h1
  omega
 refine⟨_,rfl,vl,G,rfl,Oz,f0,g1,λH12 L6=>⟨_,rfl,dR ?_⟩⟩;obtain⟨fa,rfl,sf⟩:=Oz;have sf4:=sf.ts L6.ts;have Wr:=((u9.trans Om).trans (s11.trans L6)) _ _ ep8;refine⟨_,rfl,_,_,_,_,rfl,rfl,sf4,rfl,_,rfl,_,_,_,_,rfl,rfl,Lz.of Wr,rfl,_,_,rfl,rfl,dX b1 bbb,_,rfl,_,_,_,_,rfl,rfl,Lz.of Wr,rfl,_,rfl,_,_,_,_,rfl,rfl,sf4,rfl,_,_,rfl,rfl,dX bbt b2,rfl,?_⟩;rw[show decide (V.int (G.1*bt)=V.int (tp*G.2))=true from i6 (z6 V.int key)];exact q _
theorem oV:aD sA ["_law_cells","_law_room","_law_two"] (au lL):=L2.fsc rfl (by decide+kernel)
theorem DY(T:aC K mg "_law_saying" lL)(fK:mg "int"=none)(gR:Def P w K mg base 1 "_law_next" ["_law_cells"] vU):∀n:Nat,Def P w K mg base (n+2) "_law_saying" ["_law_cells","_law_room","_law_two"] (xV n):=by
 intro n
 induction n with
 | zero =>
  refine aQ T oV ?_ ?_
  .walk_at "i1"
  .walk_at "i2";obtain⟨l,ms,r,b,rfl,_,_,z1,z2,_⟩:=h;have:(r:Int)<=((0:Nat):Int):=z2;omega
 | succ n gx =>
  refine aQ T oV ?_ ?_
  .walk_at "i1"
  walk_at "i2";obtain⟨l,ms,r,b,rfl,e,hc,r1,r2,q⟩:=h;have nd:=oV.nd;have r2':r<=(n:Int)+1:=by exact_mod_cast r2
  have UN:∃t,LV (cN CX0 P w K mg base sA "_law_saying" (au lL) f cdv A outer s H E).nox ((bI lL).drop 4) t/\∀(i:Int)(MP:List Int)(H1:Hp),(∀m∈MP,Mr m)->SB (.ref l) H H1->H1 l=some (.lst (MP.map V.int))->
    t {nx:=λ_ H'=>Q .non H',rt:=Q} [some (.ref l),some (.int r),some (.bl b),some (.int i),some (.int (i/16)),none,none,none] H1:=by
   refine⟨_,(ah (aT (aE ix (aM iT (pv 4) ao) ao (aI _)) (aq (av (bc (aa (aB az (bc (aa aR (aa aR af))) (aM dB (aM iT (pv 4) ao) ao)) af)))) aL)
  (aq (av (bc (aa (aB az (bc (aa aR (aa aR af))) (aM bu (aM iT (pv 4) ao) (cJ jJ fK (aa (pv 2) af)))) af))))),?_⟩
   intro i MP H1 PF NO e1
   have fin:∀(p p2:Addr)(xs:List V)(x:Str)(t:Tr),t.size=1->H1 p=none->upd H1 p (.tup xs) p2=none->Tu (upd (upd H1 p (.tup xs)) p2 (.tup [V.str x])) p2 t->Q (.ref p2) (upd (upd H1 p (.tup xs)) p2 (.tup [V.str x])):=λp p2 xs x t ht hp LO tu=>by
    have s1:=ak hp (.tup xs);have s2:=ak LO (.tup [V.str x]);exact q p2 t MP _ (by rw[ht];exact r1) PF (NO.trans (SB.of (s1.trans s2))) (s2 _ _ (s1 _ _ e1)) tu
   refine⟨_,rfl,_,_,rfl,rfl,(show(0:Int)<9 by decide),_,_,rfl,rfl,_,rfl,?_⟩;refine cU (λg=>?_) (λg=>?_)
   .have g1:6<i/16%9:=i9 g;have g2:i/16%9<9:=Jn _ (by decide);refine⟨(by show 2<=sizeLine;decide),λp hp=>?_⟩;obtain⟨z,hz,Zq⟩:=two_at (x:=V.str "never") (y:=V.str "always") (i/16%9-7) (by omega);refine⟨_,rfl,_,_,rfl,rfl,(show(0:Int)<9 by decide),_,_,rfl,rfl,_,_,_,_,rfl,rfl,Lz.of ae,hz,(by show 1<=sizeLine;decide),λp2 LO=>?_⟩;rcases Zq with rfl | rfl
    .exact fin p p2 _ _ .never rfl hp LO (.never ae)
    .exact fin p p2 _ _ .always rfl hp LO (.always ae)
   .have g2:i/16%2<2:=Jn _ (by decide);have g3:0<=i/16%2:=JR _ (by decide);refine⟨(by show 2<=sizeLine;decide),λp hp=>?_⟩;have hi:i/16%2*(if b then 1 else 0)=0\/i/16%2*(if b then 1 else 0)=1:=by cases b<;>simp<;>omega
    obtain⟨z,hz,Zq⟩:=two_at (x:=V.str "p") (y:=V.str "q") (i/16%2*(if b then 1 else 0)) hi;refine⟨_,rfl,_,_,rfl,rfl,(show(0:Int)<2 by decide),_,rfl,.inr ⟨b,rfl,_,_,rfl,rfl,fY (by cases b<;>decide+kernel),_,_,_,_,rfl,rfl,Lz.of ae,hz,(by show 1<=sizeLine;decide),λp2 LO=>?_⟩⟩;rcases Zq with rfl | rfl
    .exact fin p p2 _ _ .lp rfl hp LO (.lp ae)
    .exact fin p p2 _ _ .lq rfl hp LO (.lq ae)
  obtain⟨t4,SE,Uq⟩:=UN
  have tail3:∃t,LV (cN CX0 P w K mg base sA "_law_saying" (au lL) f cdv A outer s H E).nox ((bI lL).drop 3) t/\∀(i:Int)(MP:List Int)(H1:Hp),(∀m∈MP,Mr m)->SB (.ref l) H H1->H1 l=some (.lst (MP.map V.int))->
    t {nx:=λ_ H'=>Q .non H',rt:=Q} [some (.ref l),some (.int r),some (.bl b),some (.int i),some (.int (i/16)),none,none,none] H1:=by
   refine⟨_,ah (aT (PW.pt (As (aE ix (pv 1) ao (aI _)) (wH (aE jb (aM iT (pv 3) ao) ao (aI _))))) (aq (av (bc (aa aR (aa (aH gx (aa (pv 0) (aa (aM dB (pv 1) ao) (aa (pv 2) af)))) af))))) aL) SE,?_⟩;intro i MP H1 PF NO e1;refine⟨_,rfl,_,_,rfl,rfl,_,rfl,?_⟩;refine cU (λg=>?_) (λg=>?_)
   .have g1:1<r:=i9 g;refine⟨_,rfl,_,_,rfl,rfl,(show(0:Int)<16 by decide),_,_,rfl,rfl,_,rfl,?_⟩;refine cU (λg'=>?_) (λg'=>Uq i MP H1 PF NO e1);refine⟨_,rfl,_,rfl,_,_,rfl,rfl,_,rfl,l,MP,r-1,b,rfl,e1,PF,by omega,by omega,λa1 t1 Nv H2 z1 QR MJ e2 tu=>?_⟩;refine⟨(by show 2<=sizeLine;decide),λp hp=>?_⟩;have s3:=ak hp (.tup [V.str "not",.ref a1]);exact q p (.no t1) Nv _ (by show((t1.size+1:Nat):Int)<=r;omega) QR ((NO.trans MJ).trans (SB.of s3)) (s3 _ _ e2) (.no ae (tu.to (Kp.of s3)))
   .exact bJ (Uq i MP H1 PF NO e1)
  obtain⟨t3,VM,QN⟩:=tail3;refine⟨_,ah (aJ (i:=3) (aH gR (aa (pv 0) af))) (ah (aJ (i:=4) (aM CD (pv 3) ao)) (ah (aT (PW.pt (As (aE ix (pv 1) ao (aI _)) (wH (aE ix (aM iT (pv 3) ao) ao (aI _))))) (ah (aJ (i:=5) (aM cA ao (aM iT (aM CD (pv 4) ao) (aM dB (pv 1) ao))))
  (ah (aJ (i:=6) (aH gx (aa (pv 0) (aa (pv 5) (aa (pv 2) af)))))
  (ah (aJ (i:=7) (aB az (bc (aa aR (aa aR (aa aR (aa aR (aa aR af)))))) (aM iT (pv 4) ao)))
  (aq (av (bc (aa (pv 7) (aa (pv 6) (aa (aH gx (aa (pv 0) (aa (aM dB (aM dB (pv 1) ao) (pv 5)) (aa (pv 2) af)))) af))))))))) aL) VM)),?_⟩
  refine⟨_,rfl,l,ms,rfl,e,hc,λi MP H1 ci PF NO e1=>?_⟩;refine⟨_,rfl,_,_,rfl,rfl,⟨by decide,by decide⟩,?_⟩;refine⟨_,rfl,_,_,rfl,rfl,_,rfl,?_⟩;refine cU (λg=>?_) (λg=>bJ (QN i MP H1 PF NO e1));have g1:2<r:=i9 g;refine⟨_,rfl,_,_,rfl,rfl,(show(0:Int)<16 by decide),_,_,rfl,rfl,_,rfl,?_⟩;refine cU (λg'=>?_) (λg'=>QN i MP H1 PF NO e1);have b1:0<=i/16/5%(r-2):=JR _ (by omega);have b2:i/16/5%(r-2)<r-2:=Jn _ (by omega);refine⟨_,rfl,_,_,rfl,rfl,⟨by decide,by decide⟩,_,rfl,_,_,rfl,rfl,_,_,rfl,rfl,(show(0:Int)<r-2 by omega),_,_,rfl,rfl,?_⟩;refine⟨_,rfl,_,rfl,_,rfl,l,MP,_,b,rfl,e1,PF,by omega,by omega,λa1 x1 Nv H2 z1 QR MJ e2 tu1=>?_⟩;refine⟨(by show 5<=sizeLine;decide),λp hp=>?_⟩;obtain⟨u,hu⟩:=OH (i/16%5) (JR _ (by decide)) (Jn _ (by decide));refine⟨_,rfl,_,_,rfl,rfl,(show(0:Int)<5 by decide),_,_,_,_,rfl,rfl,Lz.of ae,hu,?_⟩;have s2:=ak hp (.tup [V.str "more",.str "less",.str "greater",.str "lesser",.str "leads"]);refine⟨_,rfl,_,rfl,_,rfl,_,rfl,_,_,rfl,rfl,_,rfl,_,_,rfl,rfl,_,rfl,l,Nv,_,b,rfl,s2 _ _ e2,QR,by omega,by omega,λa2 x2 ms3 H3 z2 hc3 Xn e3 Yq=>?_⟩;refine⟨(by show 3<=sizeLine;decide),λp2 LO=>?_⟩;have s4:=ak LO (.tup [V.str u.str,.ref a1,.ref a2]);have k3:Kp (upd H2 p (.tup [V.str "more",.str "less",.str "greater",.str "lesser",.str "leads"])) H3:=Xn.kp (Sl (s2 _ _ e2));exact q p2 (.fold u x1 x2) ms3 _ (by show((x1.size+x2.size+1:Nat):Int)<=r;omega) hc3 ((((NO.trans MJ).trans (SB.of s2)).trans Xn).trans (SB.of s4)) (s4 _ _ e3) (.fold ae (tu1.to (((Kp.of s2).trans k3).trans (Kp.of s4))) (Yq.to (Kp.of s4)))
noncomputable abbrev Ib:List Str:=["_law_script","_law_cells","_law_tree","_law_rows","_law_saying_here","_law_found","_law_steps"]
theorem HH(t:Tr)(n x y:Int):Tr.worth n x y (.no t)=n-t.worth n x y:=rfl
theorem yg:aD Ib ["_law_script"] (au yp):=L2.fsc rfl (by decide+kernel)
theorem ok_law{f:Addr}{fd:FuncData}(F:OE K "law" "law" yp f fd)(aO:mg "isinstance"=none)(aW:mg "tuple"=none)(bE:mg "len"=none)(zK:qC P w K mg base "Not" c.no 1 ["self","part"] (jN c.no lC))(zM:Def P w K mg base 1 "_law_mixed" ["_law_script","_law_least_here"] (Ca K))(xH:Def P w K mg base 64 "_law_known" ["_law_cells"] wa)(nJ:Def P w K mg base 63 "_law_few" ["_law_cells","_law_room","_law_most"] qK)
  (eV:Def P w K mg base 61 "_law_rows_to" ["_law_tree","_law_rows"] (vS K 60))(dO:Def P w K mg base 63 "_law_object" ["_law_tree"] (vT c 60))(zQ:Def P w K mg base 17 "always" ["saying"] (we c K))(lJ:Def P w K mg base 17 "fewest_steps" ["saying"] (FY c K))(dW:Def P w K mg base 16 "least_worth" ["saying"] (FV c K))
  (D__law_holds : Def P w K mg base 14 "_law_holds" ["_law_tree", "_law_rows", "_law_top", "_law_bottom"] (rG K))(zS : Def P w K mg base 63 "_law_less" ["_law_found", "_law_tree"] (vY K))(uK : Def P w K mg base 64 "_law_beside" ["_law_tree", "_law_other"] rM) : oM P w K mg base CX0 80 f fd ["_law_script"] (spLaw K) := by
 refine F.ok yg ?_ ?_
 .walk_at "i1"
 walk_at "i3";obtain⟨a,ns,rfl,S,q⟩:=h;have nd:=yg.nd;have hu:=hr.units;have d2:(2:Nat)<=sizeLine:=by decide
 have t8:∃t,ud (cN CX0 P w K mg base Ib "law" (au yp) f cdv A outer s H E).nox ((bI yp).drop 8) t/\∀(o3 o5 o6:Option V)(lc ta o:Addr)(ms:List Int)(x:Tr)(H1:Hp),H1 lc=some (.lst (ms.map V.int))->(∀m∈ms,Mr m)->Tu H1 ta x->x.size<=50->x.nf<=8->One x->Ob c H1 o x->
   t {nx:=λ_ H'=>Q .non H',rt:=Q} [some (.ref a),some (.ref lc),some (.ref ta),o3,some (.ref o),o5,o6] H1:=by
  refine⟨_,aP ⟨(aT (PW.pt (eM (aE (He hu) (aB az (aH dW (aa (pv 4) af)) ao) (bc (eB (eB af))) (aI _)) (fV (aE (He hu) (aB az (aH dW (aa (mr zK (aa (pv 4) af)) af)) ao) (bc (eB (eB af))) (aI _))))) (aq (av iw)) aL)⟩ (aP ⟨(aJ (i:=6) (aH lJ (aa (mr zK (aa (pv 4) af)) af)))⟩ (aP ⟨(aT (PW.pt (eM (eP (dA (aG fJ aO (aa (pv 6) (aa (fq (v:=V.ty "tuple") rfl aW (by decide+kernel) rfl) af))))) (eM (aE ky (aB az (pv 6) ao) ao (aI _)) (fV (eP (dA (aH zS (aa (aH zQ (aa (mr zK (aa (pv 4) af)) af)) (yE (bc (aa aR (aa (pv 2) af))) af))))))))) (aq (av iw)) aL)⟩ (gZ ⟨(av (aH uK (aa (pv 2) (aa (aH nJ (aa (pv 1) (eB (eB af)))) af))))⟩))),?_⟩;intro o3 o5 o6 lc ta o ms x H1 el cm tu sz n8 on ob;have nn:=CK x;have zn:(Tr.no x).size=x.size+1:=rfl
  have low:∀{n p q':Int},0<=n->0<=p/\p<=n->0<=q'/\q'<=n->Tr.worth n p q' (.no x)=0:=λ{n p q'} h1 h2 h3=>by
   rw[HH,on n p q' h1 h2 h3];omega
  refine⟨_,rfl,o,x,rfl,ob,by omega,n8,λp vl vp vt pt T L H2 s2 ep Oz Nl dT OS dp cu eL kL ND NC=>?_⟩;obtain⟨g,hg,PB⟩:=ND;obtain⟨u0,bx,ub,wb,b1,b2,f0,g1,eq1⟩:=BO (a:=x) (OS.mono (by decide)) eL hg PB;obtain⟨w1,w2⟩:=Rn u0 eq1 f0 g1 (on pt.u pt.v pt.w (by omega) ⟨bx.1,bx.2.1⟩ ⟨bx.2.2.1,bx.2.2.2⟩);rw[show WF x pt=(1,1) from Prod.ext w1 w2]at Oz;refine⟨_,_,_,_,rfl,rfl,Lz.of ep,rfl,d2,λp4 h4=>?_⟩;have u4:=ak h4 (.tup [.int 1,.int 1]);have dd:Dat K (upd H2 p4 (.tup [.int 1,.int 1])) (NH 1 1) (.ref p4):=pM (f:=(1,1)) ⟨p4,rfl,Lz.of ae⟩;refine⟨_,_,.inl (pM (f:=(1,1)) (Oz.to u4)),.inl dd,dE _ _,dE _ _,?_⟩;rw[nu (dE 1 1)];refine⟨_,rfl,bJ ?_⟩;have RS:=s2.trans u4;generalize upd H2 p4 (.tup [.int 1,.int 1])=H4 at RS ⊢;refine⟨_,rfl,λz dz h1 h2 ne=>⟨z,dz,_,rfl,ae,rfl,?_⟩⟩;have sm5:=gH (C:=c.no) (fs:=lC (.ref o)) h1 h2 ne;refine⟨z,.no x,rfl,.no ae (ob.to (Kp.of (RS.trans sm5))),by omega,by omega,λp vl vp vt pt T L H5 s5 ep Oz Nl dT OS dp cu eL kL ND NC=>?_⟩;obtain⟨g,hg,PB⟩:=ND;obtain⟨u0,bx,ub,wb,b1,b2,f0,g1,eq1⟩:=BO (a:=.no x) (OS.mono (by decide)) eL hg PB;obtain⟨w1,w2⟩:=OI u0 eq1 f0 g1 (low (by omega) ⟨bx.1,bx.2.1⟩ ⟨bx.2.2.1,bx.2.2.2⟩);rw[show WF (.no x) pt=(0,1) from Prod.ext w1 w2]at Oz;refine⟨_,_,_,_,rfl,rfl,Lz.of ep,rfl,d2,λp6 h6=>?_⟩;have u6:=ak h6 (.tup [.int 0,.int 1]);have dd:Dat K (upd H5 p6 (.tup [.int 0,.int 1])) (NH 0 1) (.ref p6):=pM (f:=(0,1)) ⟨p6,rfl,Lz.of ae⟩;refine⟨_,_,.inl (pM (f:=(0,1)) (Oz.to u6)),.inl dd,dE _ _,dE _ _,?_⟩;rw[nu (dE 0 1)];refine⟨_,rfl,bJ ?_⟩;have s16:=((RS.trans sm5).trans s5).trans u6;generalize upd H5 p6 (.tup [.int 0,.int 1])=H6 at s16 ⊢;refine⟨_,rfl,λz dz h1 h2 ne=>⟨z,dz,_,rfl,ae,rfl,?_⟩⟩;have sm7:=gH (C:=c.no) (fs:=lC (.ref o)) h1 h2 ne;have s17:=s16.trans sm7;refine⟨z,.no x,rfl,.no ae (ob.to (Kp.of s17)),by omega,by omega,λT' L' Xm OB XC=>⟨λe H8 s8=>?_,λn x' y t q' H8 F8 s8 et dq=>?_⟩⟩
  .exfalso;have e1:=(Cv Xm OB XC).mp e 1 0 0 (by decide) (by decide) (by decide) (by decide) (by decide);rw[low (by decide) (by decide) (by decide)]at e1;omega
  have s18:=s17.trans s8
  have n1:n=1:=by
   obtain⟨h1,h2,h3,h4⟩:=vE Xm OB XC F8;have:=F8.n1;rcases A8 1 n with y | y
   .have e1:=h4 1 0 0 (by decide) y (by decide) (by decide) (by decide) (by decide);rw[low (by decide) (by decide) (by decide)]at e1;omega
   .omega
  refine⟨_,rfl,t,_,_,_,true,rfl,(λ_ h=>h),Lz.of et,ff,_,rfl,bJ ?_⟩;refine⟨_,rfl,_,_,_,_,rfl,rfl,Lz.of et,rfl,rfl,_,rfl,QL (z6 V.int n1) ?_⟩;refine⟨_,rfl,λz dz h1 h2 ne=>⟨z,dz,_,rfl,ae,rfl,?_⟩⟩;have sm9:=gH (C:=c.no) (fs:=lC (.ref o)) h1 h2 ne;have s19:=s18.trans sm9;refine⟨z,.no x,rfl,.no ae (ob.to (Kp.of s19)),by omega,by omega,λp vt T L Rj Om ep dT sm dp cu eL kL full=>?_,λp vp pt Rj Om ep Nl u0 bv bw lt=>?_⟩
  .exfalso;have e1:=full 1 0 0 (by decide) (by decide) (by decide) (by decide) (by decide);rw[low (by decide) (by decide) (by decide)]at e1;omega
  refine⟨_,rfl,d2,λp11 h11=>?_⟩;have Yo:=ak h11 (.tup [.str "not",.ref ta]);have U9:=(s19.trans Om).trans Yo;refine⟨p,p11,vp,pt,.no x,rfl,Yo _ _ ep,Nl.ts Yo.ts,u0,bv,bw,.no ae (tu.to (Kp.of U9)),by omega,lt,λH12 L6=>⟨_,rfl,bJ ?_⟩⟩;have RT:=U9.trans L6;refine⟨_,rfl,_,rfl,lc,ms,9,3,rfl,RT _ _ el,cm,by decide,by decide,by decide,λa2 t2 Nv H13 sz2 nf2 c2 MJ e2 Yq=>?_⟩;have NS:Kp H12 H13:=MJ.kp λa' o' z1 z2=>by cases z1;rw[RT _ _ el]at z2;cases z2;rfl
  exact⟨ta,a2,x,t2,rfl,(tu.to (Kp.of RT)).to NS,Yq,sz,by omega,on,λ_=>q _⟩
 obtain ⟨t8,ht8,k8⟩:=t8;refine qY (aP ⟨(aJ (i := 1) (aH zM (aa (pv 0) (eB af))))⟩ (aP ⟨(aJ (i := 2) (aH xH (aa (pv 1) af)))⟩ (aP ⟨(aJ (i := 3) (bW af))⟩ (aP ⟨(bB (aH eV (aa (pv 2) (aa (pv 3) af))))⟩ (aP ⟨(aJ (i := 4) (aH dO (aa (pv 2) af)))⟩ (aP ⟨(aJ (i := 5) (aH zQ (aa (pv 4) af)))⟩ (aP ⟨(aT (PW.pt (eM (eP (dA (aG fJ aO (aa (pv 5) (aa (fq (v := V.ty "tuple") rfl aW (by decide+kernel) rfl) af))))) (eM (aE ky (aG bL bE (aa (pv 5) af)) ao (aI _)) (fV (aE ky (aB az (pv 5) ao) aR (aI _)))))) (aq (av iw)) aL)⟩ (aP ⟨(aT (PW.pt (eM (eP (dA (aH D__law_holds (aa (aB az (pv 5) ao) (aa (pv 3) (eB (eB af))))))) (fV (aE qR (aH lJ (aa (pv 4) af)) bN (aI _))))) (aq (av iw)) aL)⟩ ht8)))))))) ?_
 refine⟨_,rfl,a,ns,60,rfl,S,by decide,by decide,λC ms H1 s1 fC eC WK=>?_⟩;refine⟨_,rfl,C,ms,rfl,eC,WK,λta x Nv H2 sz n8 on c2 e2 tu=>?_⟩;refine⟨(by show 0<=sizeLine;decide),λlr MG=>?_⟩;have u5:=ak MG (.lst []);refine⟨_,rfl,_,rfl,ta,lr,x,[],[],rfl,tu.to (Kp.of u5),by omega,ae,.nil,by simp;omega,(λ_ z=>nomatch z),λH6 us sb el rv=>?_⟩;have s26:aK H2 H6:=λd o z=>sb _ _ (u5 _ _ z) λy=>by cases y;rw[MG]at z;cases z
 have tu6:=tu.to (Kp.of s26);have R:=qi x;have rl0:=R.len;refine⟨_,rfl,ta,x,rfl,tu6,by omega,λo H7 s7 ob=>?_⟩;refine⟨_,rfl,o,x,rfl,ob,by omega,n8,λp vt T L H8 s8 ep dT sm dp cu eL kL full=>?_,λp vp pt H8 s8 ep Nl u0 bv bw lt=>?_⟩
 .have OU:=s7.trans s8;refine⟨_,rfl,p,_,_,_,true,rfl,(λ_ h=>h),Lz.of ep,ff,_,rfl,bJ ?_⟩;refine⟨_,rfl,_,_,rfl,.inr ⟨_,Lz.of ep,rfl⟩,rfl,_,rfl,bJ ?_⟩;refine⟨_,rfl,_,_,_,_,rfl,rfl,Lz.of ep,rfl,rfl,_,rfl,bJ ?_⟩;have b1:Bg 1:=dG (n:=1) (by decide) (by decide);refine⟨_,rfl,_,_,_,_,rfl,rfl,Lz.of ep,rfl,_,rfl,vt,lr,us,bA x,1,1,T,L,rfl,OU _ _ el,R.dat (K:=K) (rv.imp (LU.to (Kp.of OU))),R.ok,R.pos,by omega,b1,b1,sm.mono (by decide),dp,by omega,dT,eL,λg hg=>?_,λH9 s9=>⟨_,rfl,bJ ?_⟩⟩
  .obtain⟨rs,ru⟩:=kL g hg;refine⟨rs,ru,λr hr c hc=>?_⟩;rw[<- Gq ru r hr c hc];have cn:=Hu.iB (Hu.Tc.told_cone Hu.iu (sm.mono (by decide)) eL g hg c hc);have cu0:=((Hu.Tc.fN Hu.iu (sm.mono (by decide)) eL g hg).1.ok c hc).n0;rw[full c.u c.v c.w (by omega) cn.1 cn.2.1 cn.2.2.1 cn.2.2.2];omega
  .have s69:=OU.trans s9;refine⟨_,rfl,o,x,rfl,ob.to (Kp.of (s8.trans s9)),by omega,n8,λT' L' Xm OB XC=>⟨λ_ Rj Om=>?_,λn x' y t q' Rj F10 Om et dq=>?_⟩⟩
   .refine⟨rfl,_,rfl,bJ ?_⟩;have U7:=s69.trans Om;have YG:=s26.trans U7;exact k8 _ _ _ C ta o Nv x Rj (YG _ _ e2) c2 (tu6.to (Kp.of U7)) sz n8 on (ob.to (Kp.of ((s8.trans s9).trans Om)))
   .exfalso;obtain⟨h1,h2,h3,_⟩:=vE Xm OB XC F10;have:=full n x' y F10.n1 h1.1 h1.2 h2.1 h2.2;omega
 .exfalso;have:=on pt.u pt.v pt.w (by omega) bv bw;omega
end Mine
namespace L2
open PySem PySem.Spec PyProof.Rows
variable{st:Stmt}{f:Addr}{od an:Option Addr}{osl:Array (Option Value)}
structure FunM(K:W.Frag)(x qual:Str)(st:Stmt)(f:Addr):Prop where
 ex:∃fd:FuncData,OE K x qual st f fd
 fn:PySem.W.isFn K (.ref f)=true
theorem funM_mk{K:W.Frag}{x qual:Str}{oc kV doc pm cdv ct:Value}(l:K.lookup f=some ⟨oc,od,.func (PySem.W.fnOf x qual (gi st) (bI st) (au st) .none kV doc pm an cdv ct),osl⟩)
  (c:PySem.W.codeIn K cdv qual=true)(k:PySem.W.keepIn K (.ref f)=true)(fn:PySem.W.isFn K (.ref f)=true):FunM K x qual st f:=⟨⟨_,Iy l c k⟩,fn⟩
end L2
open PySem PySem.W PyProof.Rows
namespace Mine
variable{K:Frag}{o:Option Value}{C f:Addr}{q:Str}{st:Stmt}{mg:Str->Option Value}{h:Heap}
structure CB(K:Frag)(C:Addr)(x:Str):Prop where
 n:nsIn K mainGlobals x=some (some (.ref C))
 c:L2.Cls K C
 h:findIn K (.ref C) "__class__"=some (some (.builtin "object.__class__"))
 m:mroIn K C (.type "object")=some true
 s:kitOne K (.ref C) (.type "str")=some false
 y:makesIn K C=true
 z:keepIn K (.ref C)=true
inductive GS(K:Frag)(m:Str)(o:Option Value):List Addr->Prop
 | nil:GS K m o []
 | cons {C:Addr} {r:List Addr}:findIn K (.ref C) m=some o->GS K m o r->GS K m o (C::r)
theorem GS.at{m:Str}{l:List Addr}(h:GS K m o l)(hC:C∈l):findIn K (.ref C) m=some o:=by
 induction h with
 | nil=>cases hC
 | cons e _ ih =>
  rcases j6.mp hC with rfl | z
  .exact e
  .exact ih z
def GE(K:Frag)(m q:Str)(st:Stmt)(l:List Addr):Prop:=∃f,GS K m (some (.ref f)) l/\L2.FunM K m q st f
theorem GE.mk{m:Str}{l:List Addr}(g:GS K m (some (.ref f)) l)(e:L2.FunM K m q st f):GE K m q st l:=⟨f,g,e⟩
theorem GE.meth{m:Str}{l:List Addr}(h:GE K m q st l)(cl:L2.Cls K C)(hC:C∈l):L2.bH K C m q st:=by
 obtain⟨f,g,e⟩:=h;obtain⟨fd,F⟩:=e.ex;exact⟨cl,f,fd,⟨g.at hC,e.fn,F.kp⟩,F⟩
theorem GE.made{x:Str}{l:List Addr}(X:K.In h)(G:h.Ns mainGlobals mg)(g:GE K "__init__" q st l)(b:CB K C x)(hC:C∈l):L2.MkF K mg x C q st:=by
 obtain⟨f,g,e⟩:=g;obtain⟨fd,F⟩:=e.ex;exact⟨b.c,K7 X G b.n,f,fd,⟨b.y,g.at hC,e.fn,b.z⟩,F⟩
theorem CCs.fm(c:CCs)(u:W5):c.fold u∈[c.mo,c.ls,c.gr,c.lr,c.ld]:=by cases u<;>simp[CCs.fold]
theorem CCs.om(c:CCs)(t:Tr):c.of t∈[c.ne,c.al,c.le,c.no,c.mo,c.ls,c.gr,c.lr,c.ld]:=by
 cases t with
 | fold u _ _=>cases u<;>simp[CCs.of,CCs.fold]
 | _=>simp[CCs.of]
end Mine
structure Mine.AllF(K:Frag)(mg:Str->Option Value)(c:Mine.CCs):Prop where
 fx:Mine.Fx K c
 madeS_ne:L2.bH K c.ne "made_of" "Saying.made_of" Mine.cI
 madeS_al:L2.bH K c.al "made_of" "Saying.made_of" Mine.cI
 madeS_le:L2.bH K c.le "made_of" "Saying.made_of" Mine.cI
 laid:∀t,L2.bH K (c.of t) "laid_out" "Saying.laid_out" Mine.fQ
 out:∀t,L2.bH K (c.of t) "out_of" "Saying.out_of" Mine.ip
 foldsS:∀t,L2.bH K (c.of t) "folds" "Saying.folds" Mine.fR
 Kne_ne:L2.bH K c.ne "making_word" "Never.making_word" Mine.cX
 Wne_ne:L2.bH K c.ne "weigh" "Never.weigh" Mine.gU
 Kal_al:L2.bH K c.al "making_word" "Always.making_word" Mine.cR
 Wal_al:L2.bH K c.al "weigh" "Always.weigh" Mine.fU
 Kle_le:L2.bH K c.le "making_word" "Letter.making_word" Mine.bU
 Wle_le:L2.bH K c.le "weigh" "Letter.weigh" Mine.dk
 Kno_no:L2.bH K c.no "making_word" "Not.making_word" Mine.eA
 Wno_no:L2.bH K c.no "weigh" "Not.weigh" Mine.iZ
 Mno_no:L2.bH K c.no "made_of" "Not.made_of" Mine.gS
 Mfo:∀u,L2.bH K (c.fold u) "made_of" "Fold.made_of" Mine.fT
 Wfo:∀u,L2.bH K (c.fold u) "weigh" "Fold.weigh" Mine.iz
 F0mo_mo:L2.bH K c.mo "making_word" "More.making_word" Mine.dI
 F1mo_mo:L2.bH K c.mo "folded" "More.folded" Mine.gW
 F0ls_ls:L2.bH K c.ls "making_word" "Less.making_word" Mine.dJ
 F1ls_ls:L2.bH K c.ls "folded" "Less.folded" Mine.gY
 F0gr_gr:L2.bH K c.gr "making_word" "Greater.making_word" Mine.cL
 F1gr_gr:L2.bH K c.gr "folded" "Greater.folded" Mine.eX
 F0lr_lr:L2.bH K c.lr "making_word" "Lesser.making_word" Mine.cQ
 F1lr_lr:L2.bH K c.lr "folded" "Lesser.folded" Mine.fo
 F0ld_ld:L2.bH K c.ld "making_word" "Leads.making_word" Mine.cY
 F1ld_ld:L2.bH K c.ld "folded" "Leads.folded" Mine.fS
 ile:L2.MkF K mg "Letter" c.le "Letter.__init__" Mine.gX
 ino:L2.MkF K mg "Not" c.no "Not.__init__" Mine.jT
 ifo:∀u,L2.MkF K mg (Mine.W5.cls u) (c.fold u) "Fold.__init__" Mine.ja
 o_ne:L2.Mk0 K c.ne
 r_ne:mg "Never"=some (.ref c.ne)
 o_al:L2.Mk0 K c.al
 r_al:mg "Always"=some (.ref c.al)
theorem Mine.all_mk{K:Frag}{h:Heap}{mg:Str->Option Value}{ne al le no mo ls gr lr ld:Addr}(X:K.In h)(G:h.Ns mainGlobals mg)
  (Ng:Mine.CB K ne "Never")
  (Nh:Mine.CB K al "Always")
  (Oe:Mine.CB K le "Letter")
  (Od:Mine.CB K no "Not")
  (TJ:Mine.CB K mo "More")
  (TK:Mine.CB K ls "Less")
  (TQ:Mine.CB K gr "Greater")
  (TM:Mine.CB K lr "Lesser")
  (TN:Mine.CB K ld "Leads")
  (hn:specialIn K (.builtin "object.__class__") "__get__"=some (some (.builtin "getset_descriptor.__get__")))
  (tk:takesIn K (.builtin "object.__class__")=some true)
  (TY:Mine.GS K "name" none [le])
  (TX:Mine.GS K "part" none [no])
  (WS:Mine.GS K "one" none [mo,ls,gr,lr,ld])
  (P7:Mine.GS K "other" none [mo,ls,gr,lr,ld])
  (MH:Mine.GE K "made_of" "Saying.made_of" Mine.cI [ne,al,le])
  (SV:Mine.GE K "laid_out" "Saying.laid_out" Mine.fQ [ne,al,le,no,mo,ls,gr,lr,ld])
  (V3:Mine.GE K "out_of" "Saying.out_of" Mine.ip [ne,al,le,no,mo,ls,gr,lr,ld])
  (N5:Mine.GE K "folds" "Saying.folds" Mine.fR [ne,al,le,no,mo,ls,gr,lr,ld])
  (Wf:Mine.GE K "making_word" "Never.making_word" Mine.cX [ne])
  (V8:Mine.GE K "weigh" "Never.weigh" Mine.gU [ne])
  (Wh:Mine.GE K "making_word" "Always.making_word" Mine.cR [al])
  (Wb:Mine.GE K "weigh" "Always.weigh" Mine.fU [al])
  (Wg:Mine.GE K "making_word" "Letter.making_word" Mine.bU [le])
  (V9:Mine.GE K "weigh" "Letter.weigh" Mine.dk [le])
  (We:Mine.GE K "making_word" "Not.making_word" Mine.eA [no])
  (V7:Mine.GE K "weigh" "Not.weigh" Mine.iZ [no])
  (Wc:Mine.GE K "made_of" "Not.made_of" Mine.gS [no])
  (Wd:Mine.GE K "made_of" "Fold.made_of" Mine.fT [mo,ls,gr,lr,ld])
  (Wa:Mine.GE K "weigh" "Fold.weigh" Mine.iz [mo,ls,gr,lr,ld])
  (S3:Mine.GE K "making_word" "More.making_word" Mine.dI [mo])
  (SW:Mine.GE K "folded" "More.folded" Mine.gW [mo])
  (S4:Mine.GE K "making_word" "Less.making_word" Mine.dJ [ls])
  (SX:Mine.GE K "folded" "Less.folded" Mine.gY [ls])
  (S7:Mine.GE K "making_word" "Greater.making_word" Mine.cL [gr])
  (S1:Mine.GE K "folded" "Greater.folded" Mine.eX [gr])
  (S5:Mine.GE K "making_word" "Lesser.making_word" Mine.cQ [lr])
  (SY:Mine.GE K "folded" "Lesser.folded" Mine.fo [lr])
  (S6:Mine.GE K "making_word" "Leads.making_word" Mine.cY [ld])
  (S0:Mine.GE K "folded" "Leads.folded" Mine.fS [ld])
  (V5:Mine.GE K "__init__" "Letter.__init__" Mine.gX [le])
  (V4:Mine.GE K "__init__" "Not.__init__" Mine.jT [no])
  (V6:Mine.GE K "__init__" "Fold.__init__" Mine.ja [mo,ls,gr,lr,ld])
  (i_0:Mine.GS K "__init__" (some (.builtin "object.__init__")) [ne,al]) :
  ∃c,Mine.AllF K mg c:=by
 have D:∀u,Mine.CB K (Mine.CCs.fold ⟨ne,al,le,no,mo,ls,gr,lr,ld⟩ u) (Mine.W5.cls u):=λu=>by
  cases u with
  | more=>exact TJ
  | less=>exact TK
  | greater=>exact TQ
  | lesser=>exact TM
  | leads=>exact TN
 have B:∀t,∃x,Mine.CB K (Mine.CCs.of ⟨ne,al,le,no,mo,ls,gr,lr,ld⟩ t) x:=λt=>by
  cases t with
  | fold u=>exact⟨_,D u⟩
  | never=>exact⟨_,Ng⟩
  | always=>exact⟨_,Nh⟩
  | no=>exact⟨_,Od⟩
  | _=>exact⟨_,Oe⟩
 refine⟨⟨ne,al,le,no,mo,ls,gr,lr,ld⟩,?_⟩
 refine⟨?_,?_,?_,?_,?_,?_,?_,?_,?_,?_,?_,?_,?_,?_,?_,?_,?_,?_,?_,?_,?_,?_,?_,?_,?_,?_,?_,?_,?_,?_,?_,?_,?_,?_,?_⟩
 .exact⟨λt=>(B t).elim λ_ b=>b.c,λt=>(B t).elim λ_ b=>b.h,λt=>(B t).elim λ_ b=>b.m,λt=>(B t).elim λ_ b=>b.s,hn,tk,TY.at (.head _),TX.at (.head _),λu=>WS.at (Mine.CCs.fm _ u),λu=>P7.at (Mine.CCs.fm _ u)⟩
 .exact MH.meth Ng.c (.head _)
 .exact MH.meth Nh.c (.tail _ (.head _))
 .exact MH.meth Oe.c (.tail _ (.tail _ (.head _)))
 .exact λt=>SV.meth ((B t).elim λ_ b=>b.c) (Mine.CCs.om _ t)
 .exact λt=>V3.meth ((B t).elim λ_ b=>b.c) (Mine.CCs.om _ t)
 .exact λt=>N5.meth ((B t).elim λ_ b=>b.c) (Mine.CCs.om _ t)
 .exact Wf.meth Ng.c (.head _)
 .exact V8.meth Ng.c (.head _)
 .exact Wh.meth Nh.c (.head _)
 .exact Wb.meth Nh.c (.head _)
 .exact Wg.meth Oe.c (.head _)
 .exact V9.meth Oe.c (.head _)
 .exact We.meth Od.c (.head _)
 .exact V7.meth Od.c (.head _)
 .exact Wc.meth Od.c (.head _)
 .exact λu=>Wd.meth (D u).c (Mine.CCs.fm _ u)
 .exact λu=>Wa.meth (D u).c (Mine.CCs.fm _ u)
 .exact S3.meth TJ.c (.head _)
 .exact SW.meth TJ.c (.head _)
 .exact S4.meth TK.c (.head _)
 .exact SX.meth TK.c (.head _)
 .exact S7.meth TQ.c (.head _)
 .exact S1.meth TQ.c (.head _)
 .exact S5.meth TM.c (.head _)
 .exact SY.meth TM.c (.head _)
 .exact S6.meth TN.c (.head _)
 .exact S0.meth TN.c (.head _)
 .exact V5.made X G Oe (.head _)
 .exact V4.made X G Od (.head _)
 .exact λu=>V6.made X G (D u) (Mine.CCs.fm _ u)
 .exact⟨Ng.y,i_0.at (.head _),Ng.z⟩
 .exact K7 X G Ng.n
 .exact⟨Nh.y,i_0.at (.tail _ (.head _)),Nh.z⟩
 .exact K7 X G Nh.n
section
variable{P:Program}{w:World}{K:Frag}{mg:Str->Option Value}{base:Heap}{c:Mine.CCs}
open Mine L2
theorem Mine.mks(A:AllF K mg c):qC P w K mg base "Letter" c.le 1 ["self","name"] (jN c.le oE)/\qC P w K mg base "Not" c.no 1 ["self","part"] (jN c.no lC)/\∀u:W5,qC P w K mg base u.cls (c.fold u) 1 ["self","one","other"] (wd (c.fold u)):=
 ⟨AI A.ile A.fx.nName,Pj A.ino A.fx.nPart,λu=>Ht (A.ifo u) (A.fx.nOne u) (A.fx.nOther u)⟩
theorem Mine.ms(A:AllF K mg c)(bS:mg "min"=none)(ck:mg "max"=none):Ms P w K mg base c:=by
 obtain⟨kl,kn,kf⟩:=mks (P:=P) (w:=w) (base:=base) A
 have word:∀t,bF P w K mg base (c.of t) "making_word" 1 ["self"] (ia c t):=by
  intro t;cases t with
  | never=>exact DV A.Kne_ne
  | always=>exact AE A.Kal_al
  | lp=>exact Sd A.Kle_le A.fx
  | lq=>exact Sb A.Kle_le A.fx
  | no t=>exact Pf A.Kno_no
  | fold u a b =>
   cases u
   .exact Hj A.F0mo_mo
   .exact Hk A.F0ls_ls
   .exact yG A.F0gr_gr
   .exact AD A.F0lr_lr
   .exact DW A.F0ld_ld
 have Td:∀u,bF P w K mg base (c.fold u) "folded" 1 ["self","n","first","second"] (iM u):=by
  intro u;cases u
  .exact Hx A.F1mo_mo bS
  .exact Hy A.F1ls_ls ck
  .exact yJ A.F1gr_gr ck
  .exact AJ A.F1lr_lr bS
  .exact Eh A.F1ld_ld bS
 refine⟨λt=>?_,λt=>?_,λt=>?_⟩
 .cases t with
  | never=>exact CI A.madeS_ne rfl
  | always=>exact CI A.madeS_al rfl
  | lp=>exact CI A.madeS_le rfl
  | lq=>exact CI A.madeS_le rfl
  | no t=>exact Ph A.Mno_no A.fx
  | fold u a b=>exact Ho (A.Mfo u) A.fx
 .exact word t
 .cases t with
  | never=>exact AB A.Wne_ne
  | always=>exact yF A.Wal_al
  | lp=>exact Pe A.Wle_le A.fx
  | lq=>exact Pd A.Wle_le A.fx
  | no t=>exact Hi A.Wno_no
  | fold u a b=>exact DU (A.Wfo u) (Td u)
end
open PySem PySem.W PyProof.Rows
structure Mine.X47(K:Frag)(mg:Str->Option Value)(CT CN CF:Addr):Prop where
 mT:mg "TooMany"=some (.ref CT)
 mN:mg "NoCut"=some (.ref CN)
 mF:mg "Fold"=some (.ref CF)
 xT:excIn K CT L2.bmV "ValueError.__new__"=true
 xN:excIn K CN L2.bmV "ValueError.__new__"=true
 ct:L2.zT K CT
 cn:L2.zT K CN
 st:mroIn K CT (.ref CT)=some true
 sn:mroIn K CN (.ref CN)=some true
 ne:∃a,mg "Never"=some (.ref a)/\kitOne K (.ref a) (.ref CF)=some false
 al:∃a,mg "Always"=some (.ref a)/\kitOne K (.ref a) (.ref CF)=some false
 le:∃a,mg "Letter"=some (.ref a)/\kitOne K (.ref a) (.ref CF)=some false
 no:∃a,mg "Not"=some (.ref a)/\kitOne K (.ref a) (.ref CF)=some false
 mo:∃a,mg "More"=some (.ref a)/\kitOne K (.ref a) (.ref CF)=some true
 ls:∃a,mg "Less"=some (.ref a)/\kitOne K (.ref a) (.ref CF)=some true
 gr:∃a,mg "Greater"=some (.ref a)/\kitOne K (.ref a) (.ref CF)=some true
 lr:∃a,mg "Lesser"=some (.ref a)/\kitOne K (.ref a) (.ref CF)=some true
 ld:∃a,mg "Leads"=some (.ref a)/\kitOne K (.ref a) (.ref CF)=some true
theorem Mine.X47.kf{K:Frag}{mg:Str->Option Value}{CT CN CF:Addr}{c:Mine.CCs}(X:Mine.X47 K mg CT CN CF)(A:Mine.AllF K mg c):∀t,kitOne K (.ref (c.of t)) (.ref CF)=some (Mine.isF t):=by
 have g:∀{x:Str}{a:Addr}{b:Bool},mg x=some (.ref a)->(∃a,mg x=some (.ref a)/\kitOne K (.ref a) (.ref CF)=some b)->kitOne K (.ref a) (.ref CF)=some b:=λe z=>by
  obtain⟨a',e',k⟩:=z;cases e.symm.trans e'
  exact k
 intro t;cases t with
 | never=>exact g A.r_ne X.ne
 | always=>exact g A.r_al X.al
 | lp=>exact g A.ile.mg_ X.le
 | lq=>exact g A.ile.mg_ X.le
 | no=>exact g A.ino.mg_ X.no
 | fold u=>cases u with
  | more=>exact g (A.ifo .more).mg_ X.mo
  | less=>exact g (A.ifo .less).mg_ X.ls
  | greater=>exact g (A.ifo .greater).mg_ X.gr
  | lesser=>exact g (A.ifo .lesser).mg_ X.lr
  | leads=>exact g (A.ifo .leads).mg_ X.ld
theorem Mine.cls47{K:Frag}{h:Heap}{mg:Str->Option Value}{CT CN CF ne al le no mo ls gr lr ld:Addr}{c1 c2:ClassData}(X:K.In h)(G:h.Ns mainGlobals mg)
  (mCT:nsIn K mainGlobals "TooMany"=some (some (.ref CT)))
  (mCN:nsIn K mainGlobals "NoCut"=some (some (.ref CN)))
  (mCF:nsIn K mainGlobals "Fold"=some (some (.ref CF)))
  (xt:excIn K CT L2.bmV "ValueError.__new__"=true)
  (xn:excIn K CN L2.bmV "ValueError.__new__"=true)
  (t6:clsIn K CT=some c1)
  (t7:typeIn K (.ref CT)=some (.type "type"))
  (t8:mroIn K CT (.type "BaseException")=some true)
  (st:mroIn K CT (.ref CT)=some true)
  (n6:clsIn K CN=some c2)
  (n7:typeIn K (.ref CN)=some (.type "type"))
  (n8:mroIn K CN (.type "BaseException")=some true)
  (sn:mroIn K CN (.ref CN)=some true)
  (mne:nsIn K mainGlobals "Never"=some (some (.ref ne)))
  (kne:kitOne K (.ref ne) (.ref CF)=some false)
  (mal:nsIn K mainGlobals "Always"=some (some (.ref al)))
  (kal:kitOne K (.ref al) (.ref CF)=some false)
  (mle:nsIn K mainGlobals "Letter"=some (some (.ref le)))
  (kle:kitOne K (.ref le) (.ref CF)=some false)
  (mno:nsIn K mainGlobals "Not"=some (some (.ref no)))
  (kno:kitOne K (.ref no) (.ref CF)=some false)
  (mmo:nsIn K mainGlobals "More"=some (some (.ref mo)))
  (kmo:kitOne K (.ref mo) (.ref CF)=some true)
  (mls:nsIn K mainGlobals "Less"=some (some (.ref ls)))
  (kls:kitOne K (.ref ls) (.ref CF)=some true)
  (mgr:nsIn K mainGlobals "Greater"=some (some (.ref gr)))
  (kgr:kitOne K (.ref gr) (.ref CF)=some true)
  (mlr:nsIn K mainGlobals "Lesser"=some (some (.ref lr)))
  (klr:kitOne K (.ref lr) (.ref CF)=some true)
  (mld:nsIn K mainGlobals "Leads"=some (some (.ref ld)))
  (kld:kitOne K (.ref ld) (.ref CF)=some true) :
  ∃CT CN CF,Mine.X47 K mg CT CN CF:=
 ⟨CT,CN,CF,K7 X G mCT,K7 X G mCN,K7 X G mCF,xt,xn,⟨⟨_,t6⟩,t7,t8⟩,⟨⟨_,n6⟩,n7,n8⟩,st,sn,⟨_,K7 X G mne,kne⟩,⟨_,K7 X G mal,kal⟩,⟨_,K7 X G mle,kle⟩,⟨_,K7 X G mno,kno⟩,⟨_,K7 X G mmo,kmo⟩,⟨_,K7 X G mls,kls⟩,⟨_,K7 X G mgr,kgr⟩,⟨_,K7 X G mlr,klr⟩,⟨_,K7 X G mld,kld⟩⟩
abbrev Mine.Pg:=PySem.Challenge.rw_leansay_k51_always_known.prog
namespace PySem.W.Fast
abbrev Z:=True
def tw10010716120211724770:=Z
def tw10047528212190910610:=Z
def tw10060553042969881059:=Z
def tw10237544412695679994:=Z
def tw1025080888601466050:=Z
def tw10271366474877933500:=Z
def tw10334562115172528790:=Z
def tw10340425871877365858:=Z
def tw10341440935698184322:=Z
def tw10386680200500074403:=Z
def tw10449995987230604061:=Z
def tw10471053199452034613:=Z
def tw10486179567513849110:=Z
def tw10514028705592451573:=Z
def tw10548322299167815536:=Z
def tw10574969780255518980:=Z
def tw10577621551045864444:=Z
def tw10586831000161760346:=Z
def tw1061479039481998622:=Z
def tw10618929851614980680:=Z
def tw10687071002337320095:=Z
def tw1069791390739218227:=Z
def tw10740314804893592258:=Z
def tw10767212641179323919:=Z
def tw10782517645081732939:=Z
def tw10807949489094437658:=Z
def tw10817399816533579434:=Z
def tw10865236127038949359:=Z
def tw10999741954795040879:=Z
def tw11060551790293382663:=Z
def tw11067659635484063403:=Z
def tw11086934944518457986:=Z
def tw1108917549565154548:=Z
def tw11090717745193624955:=Z
def tw11104497281555697089:=Z
def tw11115175936642597449:=Z
def tw1115756863087232525:=Z
def tw11226598831804208021:=Z
def tw11256769011084544744:=Z
def tw11259330509961388333:=Z
def tw11262297473049047338:=Z
def tw11311501100863892795:=Z
def tw11316599566232979825:=Z
def tw11328314164774775885:=Z
def tw11336324095568418074:=Z
def tw11344666941710116313:=Z
def tw11391398631661488976:=Z
def tw11425488150908460532:=Z
def tw11479986759453773590:=Z
def tw11494576841029394098:=Z
def tw11496154631612745354:=Z
def tw11505183641765408833:=Z
def tw11594875112370321835:=Z
def tw11612467349369572562:=Z
def tw11628536353433069547:=Z
def tw11675849070473691286:=Z
def tw11690099562251083163:=Z
def tw11720566462148547659:=Z
def tw11750781592560281308:=Z
def tw11751889358839690443:=Z
def tw11791300383542596382:=Z
def tw11802494425280241371:=Z
def tw1181508615073649671:=Z
def tw11828128761376563976:=Z
def tw11829026310627119113:=Z
def tw11865769114570712572:=Z
def tw118728686533651061:=Z
def tw11914902467211540390:=Z
def tw11924231774907424917:=Z
def tw11925330810147917340:=Z
def tw11950864706488400356:=Z
def tw11975345212393516403:=Z
def tw11976279318254070046:=Z
def tw12040549398551118839:=Z
def tw12061674997061911520:=Z
def tw12096897372679821913:=Z
def tw12128516836932013828:=Z
def tw12151423426385466357:=Z
def tw12159735161044331184:=Z
def tw12164323815962000919:=Z
def tw12178970381154377335:=Z
def tw12214192866395308716:=Z
def tw12217685545359834376:=Z
def tw12228313717667751742:=Z
def tw12233309475623530275:=Z
def tw12256927569349264007:=Z
def tw12293350532257978405:=Z
def tw1229371763638369271:=Z
def tw12301257308692861615:=Z
def tw12317404583914199352:=Z
def tw12335017361805515564:=Z
def tw12366179012984621346:=Z
def tw1237047691340984879:=Z
def tw12401386347952226057:=Z
def tw12414812385976871435:=Z
def tw12429507176401146195:=Z
def tw12444011072938150579:=Z
def tw12471231273997305186:=Z
def tw12476168470591633776:=Z
def tw12505228649969933641:=Z
def tw12547514023018928816:=Z
def tw12549420025246652715:=Z
def tw12566963463076321234:=Z
def tw12579441554273217508:=Z
def tw12595006955257509531:=Z
def tw12602199889293183014:=Z
def tw12629224901436132934:=Z
def tw12648683784337477721:=Z
def tw12648861562736505707:=Z
def tw1268885898440239539:=Z
def tw12701800673642708510:=Z
def tw12702814603481004559:=Z
def tw12736359243439955994:=Z
def tw12742580110931495024:=Z
def tw12751970969426951109:=Z
def tw12761831742051269834:=Z
def tw12778408124591461727:=Z
def tw1280232512982333453:=Z
def tw12816105672340396948:=Z
def tw12862590383498588962:=Z
def tw12921530269239659071:=Z
def tw12945248723165633451:=Z
def tw13056659611560758019:=Z
def tw13077232073098421581:=Z
def tw13085485764406987873:=Z
def tw13095998602997126850:=Z
def tw13113688478484603397:=Z
def tw13128919887220112955:=Z
def tw13130588114760849150:=Z
def tw13141610141841969967:=Z
def tw13172974512713436784:=Z
def tw132166001926161906:=Z
def tw13237980117167634996:=Z
def tw13242807208434521807:=Z
def tw13249504891395883787:=Z
def tw13264232196333735892:=Z
def tw13272233769527572346:=Z
def tw13281704506812086464:=Z
def tw13301587254680913246:=Z
def tw13302652697148726415:=Z
def tw13315463277243092703:=Z
def tw13318261181215349739:=Z
def tw13323788834937444006:=Z
def tw13329094730844680224:=Z
def tw13330695325595382653:=Z
def tw13338875162457273894:=Z
def tw13354010436279431493:=Z
def tw13361302623704117293:=Z
def tw13391350005220614526:=Z
def tw13414848591118780490:=Z
def tw13419380435344073955:=Z
def tw13423844007939371322:=Z
def tw13436150557339989442:=Z
def tw13458388819609524921:=Z
def tw13494234770201088467:=Z
def tw13507859105675044653:=Z
def tw13569378318374615259:=Z
def tw13578966221690675970:=Z
def tw13579787385479678078:=Z
def tw13587340007107993649:=Z
def tw13588019898718791518:=Z
def tw13589458184895550125:=Z
def tw13590259280890219876:=Z
def tw136290865487811508:=Z
def tw136385977727558211:=Z
def tw136441136486885716:=Z
def tw13716511761069338333:=Z
def tw13717592471773511759:=Z
def tw13744776139311294321:=Z
def tw13788285013579154391:=Z
def tw13789594885535213960:=Z
def tw13796777534877812171:=Z
def tw1380673779252395041:=Z
def tw13823196149174170349:=Z
def tw13823419403216285024:=Z
def tw13855390148832811064:=Z
def tw13866809196809403245:=Z
def tw13928727903255243248:=Z
def tw13944179714284694604:=Z
def tw13946015074311364803:=Z
def tw13964554149773692854:=Z
def tw13964919475049872587:=Z
def tw13968780989796675415:=Z
def tw13971497535507763749:=Z
def tw13991068867251714921:=Z
def tw14004474675861667438:=Z
def tw14027878412287883766:=Z
def tw14033854635691128988:=Z
def tw1405173331635115008:=Z
def tw14121506548098578492:=Z
def tw14140546204804097266:=Z
def tw14157107155790689210:=Z
def tw14159914819676725919:=Z
def tw1416486352658630956:=Z
def tw14165459459023756115:=Z
def tw14170210483324452223:=Z
def tw14189970253890185142:=Z
def tw14273201739326982301:=Z
def tw14337952073261706832:=Z
def tw14397295186758099150:=Z
def tw14512219549906791949:=Z
def tw14515329817162920717:=Z
def tw14563945492278536502:=Z
def tw14565711454378657102:=Z
def tw14575356695699239575:=Z
def tw14601778281817819925:=Z
def tw14739200681696109995:=Z
def tw14742372762284936913:=Z
def tw14745997146290813208:=Z
def tw147485875822528619:=Z
def tw14755601766865129644:=Z
def tw14762095284636639227:=Z
def tw14764597967019871734:=Z
def tw14767921315246806171:=Z
def tw14814064318627896982:=Z
def tw14814470534083249692:=Z
def tw14819688050942302834:=Z
def tw14866916428721152605:=Z
def tw14875806360417114485:=Z
def tw14891818237047801835:=Z
def tw14898544435896129090:=Z
def tw14898921413877496841:=Z
def tw14928292121861004528:=Z
def tw14931201535746123590:=Z
def tw14978988795741034691:=Z
def tw15029138927305750108:=Z
def tw150632058492842432:=Z
def tw15073674092677195612:=Z
def tw15090629903010041417:=Z
def tw1510199777755247890:=Z
def tw15106055769836765649:=Z
def tw15106757184580564205:=Z
def tw15182028501235772509:=Z
def tw15215993396646728916:=Z
def tw15216707791737892577:=Z
def tw1522822908085927401:=Z
def tw15245966247174401232:=Z
def tw15257335614572405615:=Z
def tw15258065727528726982:=Z
def tw15263497766421541124:=Z
def tw15284309031825422240:=Z
def tw15298501465827437194:=Z
def tw15322313954703355445:=Z
def tw15330034880701221211:=Z
def tw15340967600867087401:=Z
def tw15345045986096817656:=Z
def tw15353153485924870035:=Z
def tw1537964598752312228:=Z
def tw15387636106711593956:=Z
def tw15426969216074627674:=Z
def tw15436884322560692648:=Z
def tw15437417618742619019:=Z
def tw15438562708964665740:=Z
def tw15443024065749242656:=Z
def tw15455542915759576322:=Z
def tw15492263461698165439:=Z
def tw15581268333784539851:=Z
def tw15592529695566051859:=Z
def tw15602335953961993825:=Z
def tw15648530058612460749:=Z
def tw15659026979843411213:=Z
def tw15677780047702910756:=Z
def tw15692486602672384485:=Z
def tw15721538071205489244:=Z
def tw15722200281912797175:=Z
def tw15725937915294095787:=Z
def tw15749276152076542955:=Z
def tw15762186293567114427:=Z
def tw15764838764058044765:=Z
def tw15779780167508077718:=Z
def tw15802200454401972043:=Z
def tw15823472604700201055:=Z
def tw1583194789353957161:=Z
def tw15845810224006830890:=Z
def tw15868631476521731542:=Z
def tw15881437856890909138:=Z
def tw15898169001913140461:=Z
def tw15949872767310117529:=Z
def tw15978194060966822182:=Z
def tw16007229453791415777:=Z
def tw16035642352652047165:=Z
def tw16094514152620500625:=Z
def tw16096987333661930093:=Z
def tw1622167680202063728:=Z
def tw16237101005818485407:=Z
def tw1624482413053764068:=Z
def tw16249669926673668806:=Z
def tw16261402383190032846:=Z
def tw16261514591428313802:=Z
def tw16296768138315905471:=Z
def tw16298851084284725263:=Z
def tw16304284838674086466:=Z
def tw16314335038228091478:=Z
def tw16316583989093093871:=Z
def tw16339703563291719962:=Z
def tw16343554159405808469:=Z
def tw16382068666603329878:=Z
def tw16407761497439435851:=Z
def tw1640807157511130410:=Z
def tw16422154276976728605:=Z
def tw1645291289243768993:=Z
def tw16456036636902611490:=Z
def tw1648340835428097283:=Z
def tw16499538301993792159:=Z
def tw16509913828917008916:=Z
def tw16540296642618404857:=Z
def tw1654416370137888217:=Z
def tw16549312820651828591:=Z
def tw16555921136108104283:=Z
def tw16588835223589491893:=Z
def tw16613257965842086934:=Z
def tw16617603219690334230:=Z
def tw16638049289359980439:=Z
def tw16650759565684751685:=Z
def tw16720849346282506643:=Z
def tw16731329372387046304:=Z
def tw16735437491541276183:=Z
def tw16758107180333444184:=Z
def tw16760194185866641147:=Z
def tw16770426127335085686:=Z
def tw16791165381905369660:=Z
def tw16791969531670444167:=Z
def tw16827883708982611588:=Z
def tw16841800323807000537:=Z
def tw16867235153038012931:=Z
def tw16883716361186890502:=Z
def tw16911509669304692233:=Z
def tw16919584065522906667:=Z
def tw16940733585648061059:=Z
def tw16951723455386993491:=Z
def tw16970795161173782140:=Z
def tw16983211844437909852:=Z
def tw17019865077952835574:=Z
def tw17025347146490401365:=Z
def tw17059708860866192482:=Z
def tw17065682463127303487:=Z
def tw17079529872733695317:=Z
def tw17090356829311452886:=Z
def tw17106787620315811060:=Z
def tw17114669304896126071:=Z
def tw17118365164938581597:=Z
def tw17134380762912680877:=Z
def tw17144520537877077224:=Z
def tw17148154582019215557:=Z
def tw17163068684732250700:=Z
def tw17163536056952270329:=Z
def tw17164099956931567756:=Z
def tw17186895783540618548:=Z
def tw17189348036882627412:=Z
def tw17193883558018802696:=Z
def tw17196938013319661553:=Z
def tw17203152097878062749:=Z
def tw17216578451652402433:=Z
def tw17236519222456969027:=Z
def tw17239150353520342446:=Z
def tw1724367438304907864:=Z
def tw17243880125337773494:=Z
def tw17258358171069111771:=Z
def tw17278248977089235690:=Z
def tw17284290197619658226:=Z
def tw17305902495788471700:=Z
def tw17307235545277047019:=Z
def tw17308719447433128051:=Z
def tw17315042887241355355:=Z
def tw17345372114635090907:=Z
def tw17381746491172484351:=Z
def tw17390595035887034369:=Z
def tw17404591420847262520:=Z
def tw174339126585490423:=Z
def tw17537681641718912945:=Z
def tw17546353331280726813:=Z
def tw17608385549816971381:=Z
def tw17615320278690695859:=Z
def tw17637819866069774787:=Z
def tw17645072905283305292:=Z
def tw17648394479965121608:=Z
def tw17665577130020803780:=Z
def tw17685752467099478884:=Z
def tw17687719262394977906:=Z
def tw1769967852365299298:=Z
def tw17715645125641103755:=Z
def tw17715812396231157584:=Z
def tw17715819633243764225:=Z
def tw177227998503867854:=Z
def tw17736244486679283899:=Z
def tw17778984637656535684:=Z
def tw17787627138262857047:=Z
def tw17806408833054600230:=Z
def tw17812938269150262578:=Z
def tw1786987981601357462:=Z
def tw1787760200006315384:=Z
def tw17896534842572834783:=Z
def tw17901728493875615901:=Z
def tw17919241818580122891:=Z
def tw17943039911310455897:=Z
def tw17951294368162907518:=Z
def tw17952810282837586715:=Z
def tw1796106894028592114:=Z
def tw17967245376160800:=Z
def tw18005767667843726255:=Z
def tw1802741242137166201:=Z
def tw18052534656505959497:=Z
def tw18077489222748134881:=Z
def tw18102569218367712809:=Z
def tw18116436662195204184:=Z
def tw18122178809991218731:=Z
def tw18122725452226817810:=Z
def tw18151286368120774512:=Z
def tw18184827856829452909:=Z
def tw18201775307181663581:=Z
def tw18220963422851193425:=Z
def tw18226005389779741987:=Z
def tw18294357159960137581:=Z
def tw18322662185481107484:=Z
def tw18339243154214922593:=Z
def tw1837222186677004122:=Z
def tw18399956827204763572:=Z
def tw18419432519706264137:=Z
def tw1883630257636440409:=Z
def tw1906711490251600252:=Z
def tw1966154007905663523:=Z
def tw2010492959131482101:=Z
def tw2097710234718985571:=Z
def tw2128953373051948355:=Z
def tw2146442011584742586:=Z
def tw2186998151248901059:=Z
def tw2217444042977666396:=Z
def tw2239281829477639332:=Z
def tw2306185495110301046:=Z
def tw2324986965149328811:=Z
def tw2339138145880391666:=Z
def tw237887383923337300:=Z
def tw2388974342527599103:=Z
def tw2391490012503860558:=Z
def tw2406266498116384945:=Z
def tw240870126291505202:=Z
def tw2413862190547888001:=Z
def tw2416053056983352085:=Z
def tw2420924412338955464:=Z
def tw2438410351909090819:=Z
def tw2439239048832606798:=Z
def tw2444670205502954323:=Z
def tw2568015508024286666:=Z
def tw2569007916257145390:=Z
def tw2576304497992483929:=Z
def tw2581425677816042078:=Z
def tw2589120467527447143:=Z
def tw2625058790217780968:=Z
def tw2648150103094488381:=Z
def tw2655474205585244285:=Z
def tw2663873829573660650:=Z
def tw2696894968430387855:=Z
def tw2765583209334300356:=Z
def tw2794227771112348503:=Z
def tw2806969464589887430:=Z
def tw2809129289660382456:=Z
def tw2836412303224475416:=Z
def tw2844357785371503120:=Z
def tw285917146358311595:=Z
def tw2888949068450248823:=Z
def tw2898064645703209778:=Z
def tw2910705427025022819:=Z
def tw2931502752413068876:=Z
def tw2935292636054371679:=Z
def tw2945246725860701387:=Z
def tw2984653899132058065:=Z
def tw3005631662700116370:=Z
def tw3006220420691709170:=Z
def tw3014538573860409146:=Z
def tw3020589338663358665:=Z
def tw3052281654023963694:=Z
def tw3066084985692879190:=Z
def tw3075535655087402313:=Z
def tw3087906642815680053:=Z
def tw3091663298352976636:=Z
def tw3197377799517018008:=Z
def tw3207129450992093681:=Z
def tw3212851776424197158:=Z
def tw321747349013035949:=Z
def tw3244883559949477148:=Z
def tw3247689345600085586:=Z
def tw3310100821243978368:=Z
def tw3336984752898111340:=Z
def tw338197546807023505:=Z
def tw3409000936807610439:=Z
def tw3409289917056462754:=Z
def tw3409463867306217891:=Z
def tw3424947855399989064:=Z
def tw3428506163314287059:=Z
def tw3444006460534682879:=Z
def tw3497457770187435884:=Z
def tw3521019004543402082:=Z
def tw3532744423462495584:=Z
def tw3559802242380574406:=Z
def tw3563520167956441132:=Z
def tw3567167528061876992:=Z
def tw3691761139137352584:=Z
def tw3711046930180901209:=Z
def tw3725438005113329758:=Z
def tw3726337088826322180:=Z
def tw3732701353421045501:=Z
def tw373657307489454550:=Z
def tw376320111411265509:=Z
def tw3763871024253344937:=Z
def tw3832336032557072417:=Z
def tw3848384630031563126:=Z
def tw3851417572624183337:=Z
def tw385206448352829481:=Z
def tw3857545227248877478:=Z
def tw3859375211733106:=Z
def tw3860015224749437235:=Z
def tw38785203860306836:=Z
def tw3879569559923106997:=Z
def tw3891470839672733046:=Z
def tw391769831610094018:=Z
def tw3953118382953349013:=Z
def tw3973858672282940317:=Z
def tw3974181948863723587:=Z
def tw400475868149897475:=Z
def tw4026315597409778276:=Z
def tw4056507775769843873:=Z
def tw41168346747707563:=Z
def tw4132493363354291562:=Z
def tw4143011488610430237:=Z
def tw4185077607591183974:=Z
def tw4188501556068375697:=Z
def tw4199894836166522036:=Z
def tw4202059084289170872:=Z
def tw4249270193614467642:=Z
def tw4252573475341160929:=Z
def tw4275419041465480174:=Z
def tw4298121598472027202:=Z
def tw4314461676160674935:=Z
def tw435430947741085085:=Z
def tw4386497266677338311:=Z
def tw4431918872574241601:=Z
def tw4464189785552655255:=Z
def tw4464265509443598311:=Z
def tw4466705238985296136:=Z
def tw4488549425722062706:=Z
def tw4538286623599767053:=Z
def tw4538419328269555880:=Z
def tw4577126610254902784:=Z
def tw4585735054057761815:=Z
def tw4630495582267783135:=Z
def tw4650723984004298381:=Z
def tw4651048094930196996:=Z
def tw465259312010555869:=Z
def tw4652831201730082985:=Z
def tw4677641206579752957:=Z
def tw4707219667232047354:=Z
def tw4707245000889990679:=Z
def tw4732758862717309417:=Z
def tw473366391169257845:=Z
def tw4740906190620168649:=Z
def tw4763219255523437357:=Z
def tw477506334753775390:=Z
def tw4782682219770726432:=Z
def tw4806786605876544892:=Z
def tw4823956791661200380:=Z
def tw4862082288032988231:=Z
def tw4865305508629682831:=Z
def tw487847517346817284:=Z
def tw488165016835150625:=Z
def tw4893940957287155668:=Z
def tw4896433094290423750:=Z
def tw4914240424864378282:=Z
def tw494723387825969031:=Z
def tw4994544461296628329:=Z
def tw4998184698243691821:=Z
def tw5023829777686649133:=Z
def tw5027569526570550397:=Z
def tw5034620110764828439:=Z
def tw5036143101280441061:=Z
def tw5055795647525801632:=Z
def tw5109255352729630701:=Z
def tw5110908768187936203:=Z
def tw5122148492861736618:=Z
def tw5164357088034780102:=Z
def tw5193751604030574365:=Z
def tw5210356821939112070:=Z
def tw5231058297495899167:=Z
def tw5243486684158578404:=Z
def tw5245988871669652833:=Z
def tw5307474371500531108:=Z
def tw5310964867255933755:=Z
def tw5338309408193489203:=Z
def tw5345590063001012352:=Z
def tw5349381017208667368:=Z
def tw5368902636424627193:=Z
def tw537733882835085867:=Z
def tw5431952662081778684:=Z
def tw5453605976726537640:=Z
def tw5454977127133979196:=Z
def tw5499228755245588219:=Z
def tw5517197258031989125:=Z
def tw5539996347570265249:=Z
def tw5543909873062627288:=Z
def tw5570142783201010057:=Z
def tw5621073583927327982:=Z
def tw5649850056220003211:=Z
def tw5655087555136841651:=Z
def tw5672565468388112814:=Z
def tw5683173575831352054:=Z
def tw5683785398370796758:=Z
def tw5745706456671976366:=Z
def tw5759433572329608861:=Z
def tw5770441224688613864:=Z
def tw5784210974329730977:=Z
def tw5797018178216366866:=Z
def tw5814150254957461223:=Z
def tw5830043199336411302:=Z
def tw5874350320687023863:=Z
def tw5882904761927085212:=Z
def tw5885561750660330271:=Z
def tw5886897213950463825:=Z
def tw5904673274231103464:=Z
def tw5935342466384649848:=Z
def tw5942474608697421257:=Z
def tw594396444356152090:=Z
def tw5972906256123315120:=Z
def tw6027884057990986648:=Z
def tw6067477481619982875:=Z
def tw6078285411004614319:=Z
def tw6078669507385323272:=Z
def tw6082429855477146074:=Z
def tw6134012438870087001:=Z
def tw6150922125381658111:=Z
def tw6156992164227346426:=Z
def tw6246198250865451106:=Z
def tw625092497355750176:=Z
def tw6271286360105639528:=Z
def tw6300531427971274021:=Z
def tw6309841321912750883:=Z
def tw6335073531899695243:=Z
def tw6348176858646205369:=Z
def tw6359866668852045719:=Z
def tw6421840120572903620:=Z
def tw6442011570841115208:=Z
def tw6446190464905361655:=Z
def tw6455573079675057785:=Z
def tw6471240572318420453:=Z
def tw6542255877908375097:=Z
def tw6560265104761996531:=Z
def tw6572927479549369366:=Z
def tw6616585639209784745:=Z
def tw6641525869494452267:=Z
def tw6650798439043305038:=Z
def tw6715696796162617812:=Z
def tw674216038633634010:=Z
def tw6742320409698434698:=Z
def tw6744257589687093748:=Z
def tw6745906750037308289:=Z
def tw6760790969298084265:=Z
def tw6783828660793565062:=Z
def tw6789193389940583937:=Z
def tw6805185465133273377:=Z
def tw6818171156978906209:=Z
def tw6827770909547795040:=Z
def tw6858152078415373134:=Z
def tw685934247494153717:=Z
def tw6889586814049777467:=Z
def tw6895512915082750679:=Z
def tw6896679186065708342:=Z
def tw6902059108516262360:=Z
def tw6902266475830824511:=Z
def tw6909496863103289028:=Z
def tw6910870337664768811:=Z
def tw6926411955708704597:=Z
def tw6933741610855121862:=Z
def tw6964846629997153685:=Z
def tw696713709216220189:=Z
def tw7028309780050243622:=Z
def tw703030236559445563:=Z
def tw703548341892574636:=Z
def tw7040857216707129571:=Z
def tw7040957308187650956:=Z
def tw7072659514703010554:=Z
def tw710436964019063960:=Z
def tw7112318914753576680:=Z
def tw7125670198635949865:=Z
def tw7134475952842496856:=Z
def tw7141412431100364852:=Z
def tw7174020233644716587:=Z
def tw7205557974885688428:=Z
def tw7257733019587578503:=Z
def tw7271121454500812554:=Z
def tw7272612355923148755:=Z
def tw7272658570919664992:=Z
def tw7290837293790031246:=Z
def tw7327414557443357144:=Z
def tw7364868420836479889:=Z
def tw7392892756536799578:=Z
def tw7395918315326906315:=Z
def tw7416914268194265227:=Z
def tw7431313199936126917:=Z
def tw7495292929692281702:=Z
def tw7530774474700193028:=Z
def tw7532547086369645680:=Z
def tw7559504012030731302:=Z
def tw7569032113261627179:=Z
def tw7589980277573245537:=Z
def tw7590483733188308477:=Z
def tw7591101557078335528:=Z
def tw7597406704630579040:=Z
def tw7612598029285554693:=Z
def tw7615509597092271761:=Z
def tw7638284208741107231:=Z
def tw7661796769929911947:=Z
def tw7690734307560052032:=Z
def tw7696779214764663963:=Z
def tw770540417231657856:=Z
def tw7708406118162264363:=Z
def tw7736696803799006559:=Z
def tw7746676353811995058:=Z
def tw7762389541797899286:=Z
def tw7775136474657706772:=Z
def tw7807281611344514146:=Z
def tw7808647409290081857:=Z
def tw7823276385191853009:=Z
def tw7855617993625540629:=Z
def tw7861969835933762229:=Z
def tw7865556207436576297:=Z
def tw7869157455286298654:=Z
def tw7876497077793896239:=Z
def tw7890989269269874572:=Z
def tw7921311621106516709:=Z
def tw7941061234113027754:=Z
def tw7951255323554293204:=Z
def tw7986756214633194708:=Z
def tw7998975957541494111:=Z
def tw8017465393102479672:=Z
def tw8042399810516118581:=Z
def tw8043500143344482615:=Z
def tw8056601784592476193:=Z
def tw8082159474756936584:=Z
def tw80845154262635221:=Z
def tw812028076947498769:=Z
def tw8140774772523550321:=Z
def tw8141101095216363201:=Z
def tw8169185106101969330:=Z
def tw8266024402843169272:=Z
def tw8279080233616725679:=Z
def tw8367014894231888820:=Z
def tw8385244565135920312:=Z
def tw842238762540556130:=Z
def tw8449460448571132728:=Z
def tw8453183240389379461:=Z
def tw8465492537445542262:=Z
def tw8501856975520432020:=Z
def tw8511044891393662889:=Z
def tw854424412840115474:=Z
def tw8547146399047005751:=Z
def tw8548325626468376548:=Z
def tw8559546957138741294:=Z
def tw8567587894647016845:=Z
def tw8599639523616258159:=Z
def tw8617053736417257849:=Z
def tw8635439699932629961:=Z
def tw8636575278517929744:=Z
def tw8676258893816728241:=Z
def tw8726940000552851452:=Z
def tw8729933508708154641:=Z
def tw8731588857293957942:=Z
def tw8742975342575387878:=Z
def tw8749954544623774356:=Z
def tw8761308828305024800:=Z
def tw8784720718719878300:=Z
def tw8842067673870154567:=Z
def tw8853223254608832389:=Z
def tw8890469284466470669:=Z
def tw8897138667380783912:=Z
def tw8914551697941314859:=Z
def tw8926777195509431149:=Z
def tw8956687587419784346:=Z
def tw8959605456532481806:=Z
def tw8986788221149244444:=Z
def tw9018586310421392795:=Z
def tw902474187735205812:=Z
def tw9030925307009213016:=Z
def tw9106182034824496552:=Z
def tw911176002518585470:=Z
def tw9130112091513424484:=Z
def tw9183956420188758237:=Z
def tw9201563977512408119:=Z
def tw9212679363566952826:=Z
def tw921360810985715354:=Z
def tw9252205262557457778:=Z
def tw9283494005376210341:=Z
def tw9285585952426415716:=Z
def tw9294196321261283858:=Z
def tw9312360642805213299:=Z
def tw9315679889262605572:=Z
def tw9323328553645733152:=Z
def tw9350804975525894249:=Z
def tw9355868042672548043:=Z
def tw9363756379137444392:=Z
def tw944298474085816888:=Z
def tw9479805968751754277:=Z
def tw9490342271926018484:=Z
def tw9499765173789830837:=Z
def tw9502865094860716483:=Z
def tw9504403081710467916:=Z
def tw9512428617177697513:=Z
def tw9522963844845745506:=Z
def tw9530710474973072334:=Z
def tw9553094553363462943:=Z
def tw955817652995990021:=Z
def tw9573164692856290867:=Z
def tw9614072087084270822:=Z
def tw964102506669336426:=Z
def tw9654294834003533439:=Z
def tw9673349463405855364:=Z
def tw9673789467828703131:=Z
def tw9678389657196023623:=Z
def tw9686134095955306136:=Z
def tw9706440543619609260:=Z
def tw9752667372355730494:=Z
def tw9755857640407565662:=Z
def tw9776531669605236886:=Z
def tw9777322110007035480:=Z
def tw9789943572767900418:=Z
def tw9869754273239016110:=Z
def tw9998258942077277119:=Z
def tw9998619867431461126:=Z
end PySem.W.Fast
open PySem PySem.W PyProof.Rows
set_option hygiene false
local macro_rules | `(tactic| walk_at "cb") => `(tactic| (refine' ⟨?n, ?c, ?h, ?m, ?s, ?y, ?z⟩; (case n => k_is); (case c => refine' ⟨?q1, ?q2, ?q3, ?q4⟩; (case q1 => k_is); (case q2 => k_is); (case q3 => k_is); (case q4 => k_is)); (case h => k_is); (case m => k_is); (case s => first | k_is | kit_is); (case y => k_is); (case z => k_is)))
local macro_rules | `(tactic| walk_at "gs") => `(tactic| ((repeat (refine' .cons ?h ?_; (case h => k_is))); exact .nil))
local macro_rules | `(tactic| walk_at "ge") => `(tactic| (refine' Mine.GE.mk ?g ?e; (case g => walk_at "gs"); (case e => refine' L2.funM_mk ?l ?c ?k ?fn; (case l => k_is); (case c => k_is); (case k => k_is); (case fn => k_is))))
set_option hygiene true
open PySem PySem.W PyProof.Rows
set_option hygiene false
local macro_rules | `(tactic| walk_at "td") => `(tactic| (dsimp only [L2.KOf];refine' L2.aU KX G ?a ?l ?c ?k;(case a=>k_is);(case l=>k_is);(case c=>k_is);(case k=>k_is)))
set_option hygiene true
set_option maxRecDepth 100000 in
set_option maxHeartbeats 0 in
theorem PySem.Challenge.cw_leansay_k51_always_known_holds : PySem.Challenge.rw_leansay_k51_always_known.Holds := by
 w_on;o_law;k_head;(case hw=>w_witness2)
 k_fill
 refine L2.Du (l:=PySem.Challenge.rw_leansay_k51_always_known) (n:=63) (k:=80) (x:="_law_script") (CX:=L2.CX0) (sp:=Mine.spLaw) rfl (by decide) rfl ⟨rfl,by decide,by decide⟩ (λw h Y=>PySem.W.kIn_of Y) ?F ?S ?C
 case F =>
  intro w mg fa h KX G ZJ
  have qB:L2.aC (L2.KOf KX) mg "common_factor" Mine.il:=by walk_at "td"
  have BB:L2.aC (L2.KOf KX) mg "fraction" Mine.mS:=by walk_at "td"
  have T_less:L2.aC (L2.KOf KX) mg "less" Mine.Am:=by walk_at "td"
  have zE:L2.aC (L2.KOf KX) mg "square" Mine.oh:=by walk_at "td"
  have Fb:L2.aC (L2.KOf KX) mg "told_by" Mine.oZ:=by walk_at "td"
  have oJ:L2.aC (L2.KOf KX) mg "told_in_corners" Mine.fO:=by walk_at "td"
  have pQ:L2.aC (L2.KOf KX) mg "corner_between" Mine.gJ:=by walk_at "td"
  have T_cut:L2.aC (L2.KOf KX) mg "cut" Mine.kS:=by walk_at "td"
  have By:L2.aC (L2.KOf KX) mg "is_whole" Mine.mQ:=by walk_at "td"
  have Bz:L2.aC (L2.KOf KX) mg "is_point" Mine.iO:=by walk_at "td"
  have qz:L2.aC (L2.KOf KX) mg "must_be_point" Mine.ig:=by walk_at "td"
  have T_worth:L2.aC (L2.KOf KX) mg "worth" Mine.wm:=by walk_at "td"
  have Fc:L2.aC (L2.KOf KX) mg "rows_of" Mine.jB:=by walk_at "td"
  have T_both:L2.aC (L2.KOf KX) mg "both" Mine.Ap:=by walk_at "td"
  have EY:L2.aC (L2.KOf KX) mg "without" Mine.oX:=by walk_at "td"
  have zF:L2.aC (L2.KOf KX) mg "leaf_rule" Mine.kP:=by walk_at "td"
  have uC:L2.aC (L2.KOf KX) mg "fold_choice" Mine.jj:=by walk_at "td"
  have zI:L2.aC (L2.KOf KX) mg "choice_of" Mine.kU:=by walk_at "td"
  have zH:L2.aC (L2.KOf KX) mg "chosen_on" Mine.kT:=by walk_at "td"
  have qw:L2.aC (L2.KOf KX) mg "rules_of_rows" Mine.ib:=by walk_at "td"
  have BA:L2.aC (L2.KOf KX) mg "hulls_of" Mine.mR:=by walk_at "td"
  have uz:L2.aC (L2.KOf KX) mg "must_be_few" Mine.jh:=by walk_at "td"
  have EZ:L2.aC (L2.KOf KX) mg "tree_on" Mine.oY:=by walk_at "td"
  have Fm:L2.aC (L2.KOf KX) mg "cutting" Mine.pz:=by walk_at "td"
  have uA:L2.aC (L2.KOf KX) mg "least_worth" Mine.ji:=by walk_at "td"
  have Jg:L2.aC (L2.KOf KX) mg "always" Mine.sH:=by walk_at "td"
  have xy:L2.aC (L2.KOf KX) mg "side_bound" Mine.jQ:=by walk_at "td"
  have zJ:L2.aC (L2.KOf KX) mg "bounds_of" Mine.kW:=by walk_at "td"
  have qy:L2.aC (L2.KOf KX) mg "regions_below" Mine.ic:=by walk_at "td"
  have Bt:L2.aC (L2.KOf KX) mg "round_up" Mine.mO:=by walk_at "td"
  have Bs:L2.aC (L2.KOf KX) mg "y_within" Mine.mM:=by walk_at "td"
  have uw:L2.aC (L2.KOf KX) mg "step_within" Mine.jg:=by walk_at "td"
  have xx:L2.aC (L2.KOf KX) mg "step_below" Mine.jP:=by walk_at "td"
  have tZ:L2.aC (L2.KOf KX) mg "fewest_steps" Mine.iP:=by walk_at "td"
  have Fh:L2.aC (L2.KOf KX) mg "_law_mixed" Mine.DN:=by walk_at "td"
  have Jd:L2.aC (L2.KOf KX) mg "_law_next" Mine.Gi:=by walk_at "td"
  have Bv:L2.aC (L2.KOf KX) mg "_law_saying" Mine.An:=by walk_at "td"
  have Bw:L2.aC (L2.KOf KX) mg "_law_object" Mine.Ao:=by walk_at "td"
  have vO:L2.aC (L2.KOf KX) mg "_law_folds" Mine.pw:=by walk_at "td"
  have Jf:L2.aC (L2.KOf KX) mg "_law_fold" Mine.Gj:=by walk_at "td"
  have Fd:L2.aC (L2.KOf KX) mg "_law_worth" Mine.DM:=by walk_at "td"
  have Fe:L2.aC (L2.KOf KX) mg "_law_whole" Mine.pd:=by walk_at "td"
  have zG:L2.aC (L2.KOf KX) mg "_law_rows_to" Mine.kR:=by walk_at "td"
  have Ff:L2.aC (L2.KOf KX) mg "_law_tells" Mine.pe:=by walk_at "td"
  have tY:L2.aC (L2.KOf KX) mg "_law_lowest" Mine.jR:=by walk_at "td"
  have T_l_cut:L2.aC (L2.KOf KX) mg "_law_cut" Mine.fP:=by walk_at "td"
  have T_l_sum:L2.aC (L2.KOf KX) mg "_law_sum" Mine.wo:=by walk_at "td"
  have Jc:L2.aC (L2.KOf KX) mg "_law_rule" Mine.kQ:=by walk_at "td"
  have Fg:L2.aC (L2.KOf KX) mg "_law_rules" Mine.pf:=by walk_at "td"
  have Fl:L2.aC (L2.KOf KX) mg "_law_hulls" Mine.pq:=by walk_at "td"
  have T_l_holds : L2.aC (L2.KOf KX) mg "_law_holds" Mine.s_l_holds :=by walk_at "td"
  have qA:L2.aC (L2.KOf KX) mg "_law_is_fraction" Mine.ik:=by walk_at "td"
  have xA:L2.aC (L2.KOf KX) mg "_law_is_point" Mine.jS:=by walk_at "td"
  have Qa:L2.aC (L2.KOf KX) mg "_law_few" Mine.wq:=by walk_at "td"
  have Fi:L2.aC (L2.KOf KX) mg "_law_least" Mine.pj:=by walk_at "td"
  have Bu:L2.aC (L2.KOf KX) mg "_law_scheme" Mine.aN:=by walk_at "td"
  have Fj:L2.aC (L2.KOf KX) mg "_law_known" Mine.jC:=by walk_at "td"
  have Je:L2.aC (L2.KOf KX) mg "_law_less" Mine.sG:=by walk_at "td"
  have Bx:L2.aC (L2.KOf KX) mg "_law_beside" Mine.mP:=by walk_at "td"
  have WX:L2.aC (L2.KOf KX) mg "law" Mine.yp:=by walk_at "td"
  have bE:mg "len"=none:=by
   refine' A9 KX G ?z;(case z=>k_is)
  have gp:mg "abs"=none:=by
   refine' A9 KX G ?z;(case z=>k_is)
  have aO:mg "isinstance"=none:=by
   refine' A9 KX G ?z;(case z=>k_is)
  have pP:mg "bool"=none:=by
   refine' A9 KX G ?z;(case z=>k_is)
  have fK:mg "int"=none:=by
   refine' A9 KX G ?z;(case z=>k_is)
  have aW:mg "tuple"=none:=by
   refine' A9 KX G ?z;(case z=>k_is)
  have iC:mg "range"=none:=by
   refine' A9 KX G ?z;(case z=>k_is)
  have Z_list:mg "list"=none:=by
   refine' A9 KX G ?z;(case z=>k_is)
  have bS:mg "min"=none:=by
   refine' A9 KX G ?z;(case z=>k_is)
  have ck:mg "max"=none:=by
   refine' A9 KX G ?z;(case z=>k_is)
  have oH:mg "all"=none:=by
   refine' A9 KX G ?z;(case z=>k_is)
  have Jb:mg "any"=none:=by
   refine' A9 KX G ?z;(case z=>k_is)
  have Dr:mg "sum"=none:=by
   refine' A9 KX G ?z;(case z=>k_is)
  have cV:mg "enumerate"=none:=by
   refine' A9 KX G ?z;(case z=>k_is)
  have gD:mg "zip"=none:=by
   refine' A9 KX G ?z;(case z=>k_is)
  have kb:kitOne (L2.KOf KX) (.type "int") (.type "bool")=some false:=by
   dsimp only[L2.KOf]
   first | k_is | kit_is
  have AA:∃c,Mine.AllF (L2.KOf KX) mg c:=by
   dsimp only[L2.KOf];refine' Mine.all_mk KX G ?zaa ?zab ?zac ?zad ?zae ?zaf ?zag ?zah ?zai ?hn ?tk ?zaj ?zak ?zal ?zam ?zan ?zao ?zap ?zaq ?zar ?zas ?zat ?zau ?zav ?zaw ?zax ?zay ?zaz ?zba ?zbb ?zbc ?zbd ?zbe ?zbf ?zbg ?zbh ?zbi ?zbj ?zbk ?zbl ?zbm ?zbn ?zbo ?zbp
   (case zaa|zab|zac|zad|zae|zaf|zag|zah|zai=>walk_at "cb")
   (case hn|tk=>k_is)
   (case zaj|zak|zal|zam=>walk_at "gs")
   (case zan|zao|zap|zaq|zar|zas|zat|zau|zav|zaw|zax|zay|zaz|zba|zbb|zbc|zbd|zbe|zbf|zbg|zbh|zbi|zbj|zbk|zbl|zbm|zbn|zbo=>walk_at "ge")
   (case zbp=>walk_at "gs")
  obtain⟨c,AF⟩:=AA
  have CC:∃CT CN CF,Mine.X47 (L2.KOf KX) mg CT CN CF:=by
   dsimp only[L2.KOf];refine' Mine.cls47 KX G ?zbq ?zbr ?zbs ?xt ?xn ?t6 ?t7 ?t8 ?st ?n6 ?n7 ?n8 ?sn ?zbt ?zbu ?zbv ?zbw ?zbx ?zby ?zbz ?zca ?zcb ?zcc ?zcd ?zce ?zcf ?zcg ?zch ?zci ?zcj ?zck
   (case zbq|zbr|zbs=>k_is)
   (case xt|xn=>k_exc)
   (case t6|t7|t8|st|n6|n7|n8|sn|zbt=>k_is)
   (case zbu=>first | k_is | kit_is)
   (case zbv=>k_is)
   (case zbw=>first | k_is | kit_is)
   (case zbx=>k_is)
   (case zby=>first | k_is | kit_is)
   (case zbz=>k_is)
   (case zca=>first | k_is | kit_is)
   (case zcb=>k_is)
   (case zcc=>first | k_is | kit_is)
   (case zcd=>k_is)
   (case zce=>first | k_is | kit_is)
   (case zcf=>k_is)
   (case zcg=>first | k_is | kit_is)
   (case zch=>k_is)
   (case zci=>first | k_is | kit_is)
   (case zcj=>k_is)
   (case zck=>first | k_is | kit_is)
  obtain⟨CT,CN,CF,XF⟩:=CC
  have iD:L2.fA (L2.KOf KX) mg "NEVER" [0,0,0]:=by
   dsimp only[L2.KOf];refine' L2.jr (ns:=[0,0,0]) KX G ?e ?l ?z ?v;(case e=>k_is);(case l=>k_is);(case z=>decide);(case v=>exact(.cons ⟨_,rfl⟩ (.cons ⟨_,rfl⟩ (.cons ⟨_,rfl⟩ .nil))))
  have gq:L2.fA (L2.KOf KX) mg "ALWAYS" [0,0,1]:=by
   dsimp only[L2.KOf];refine' L2.jr (ns:=[0,0,1]) KX G ?e ?l ?z ?v;(case e=>k_is);(case l=>k_is);(case z=>decide);(case v=>exact(.cons ⟨_,rfl⟩ (.cons ⟨_,rfl⟩ (.cons ⟨_,rfl⟩ .nil))))
  have nE:L2.fA (L2.KOf KX) mg "LETTER_P" [1,0,0]:=by
   dsimp only[L2.KOf];refine' L2.jr (ns:=[1,0,0]) KX G ?e ?l ?z ?v;(case e=>k_is);(case l=>k_is);(case z=>decide);(case v=>exact(.cons ⟨_,rfl⟩ (.cons ⟨_,rfl⟩ (.cons ⟨_,rfl⟩ .nil))))
  have nC:L2.fA (L2.KOf KX) mg "LETTER_Q" [0,1,0]:=by
   dsimp only[L2.KOf];refine' L2.jr (ns:=[0,1,0]) KX G ?e ?l ?z ?v;(case e=>k_is);(case l=>k_is);(case z=>decide);(case v=>exact(.cons ⟨_,rfl⟩ (.cons ⟨_,rfl⟩ (.cons ⟨_,rfl⟩ .nil))))
  have P_LEAF:Mine.Br (L2.KOf KX) mg "LEAF" "leaf":=by
   dsimp only[L2.KOf];refine' Mine.DA KX G ?e ?l ?z ?v;(case e=>k_is);(case l=>k_is);(case z=>decide);(case v=>exact(.cons ⟨_,rfl⟩ .nil))
  have T9:∃t,mg "MOST_FOLDS"=some (.int 8 t):=by
   refine' L2.DB KX G ?ie ?iq;(case ie=>k_is);(case iq=>exact⟨_,rfl⟩)
  obtain⟨tm,M_MOST⟩:=T9
  have xB:L2.fA (L2.KOf KX) mg "WHOLE" [1,1]:=by
   dsimp only[L2.KOf];refine' L2.jr (ns:=[1,1]) KX G ?e ?l ?z ?v;(case e=>k_is);(case l=>k_is);(case z=>decide);(case v=>exact(.cons ⟨_,rfl⟩ (.cons ⟨_,rfl⟩ .nil)))
  obtain⟨f,fd,F,m⟩:=WX.ex;have e:=ZJ.symm.trans m;cases e
  obtain ⟨oc,od,kV,doc,pm,an,cdv,ct,osl,hfd,lk,hcd⟩:=id F.ex;subst hfd;refine ⟨PySem.W.fnOf "law" "law" (L2.gi Mine.sLaw) (L2.bI Mine.sLaw) (L2.au Mine.sLaw) .none kV doc pm an cdv ct,λs u=>.of_eq rfl,λbase kb' nb=>?_⟩;have M:=Mine.ms (P:=Mine.Pg) (w:=w) (base:=base) AF bS ck;obtain ⟨kl,kn,kf⟩:=Mine.mks (P:=Mine.Pg) (w:=w) (base:=base) AF;have GL:∀ t,L2.bF Mine.Pg w (L2.KOf KX) mg base (c.of t) "laid_out" 2 ["self"] (Mine.rE c t):=λt=>Mine.ok_laid (AF.laid t) M;have GF:∀ t,L2.bF Mine.Pg w (L2.KOf KX) mg base (c.of t) "folds" 3 ["self"] (Mine.rJ c t):=λt=>Mine.Ef (AF.foldsS t) bE aO XF.mF AF.fx (XF.kf AF) GL;have GO:∀ t,L2.bF Mine.Pg w (L2.KOf KX) mg base (c.of t) "out_of" 3 ["self","n","x","y"] (Mine.FQ c t):=λt=>Mine.ok_out (AF.out t) M GL;have dRowsOf:=Mine.DZ Fc bE aW M GL;have dFactor:=Mine.Eg (P:=Mine.Pg) (w:=w) (base:=base) qB gp;have dTold:=Mine.ok_told (P:=Mine.Pg) (w:=w) (base:=base) Fb;have dTells:=Mine.AG (P:=Mine.Pg) (w:=w) (base:=base) Ff;have dTic:=Mine.ok_tic oJ dTold;have dCut:=Mine.ok_cut T_cut XF.mN XF.xN bS ck cV bE dTic (Mine.ok_cb pQ gD gp aW dFactor);have dLcut:=Mine.Ee T_l_cut bS ck cV bE gD gp dTells (Mine.ok_lwL tY aW);have dWithout:=Mine.Az (P:=Mine.Pg) (w:=w) (base:=base) EY gD aW;have dChoice:=Mine.Ej zI bE iD gq dWithout (Mine.ok_leaf zF iD gq nE nC) (Mine.ok_fold uC iD gq (Mine.ok_both (P:=Mine.Pg) (w:=w) (base:=base) T_both gD aW) dWithout);have dRules:=Mine.Hl qw cV dChoice (Mine.Ei zH ck bS dTic);have dHulls:=Mine.Hv BA (Mine.ok_sq (P:=Mine.Pg) (w:=w) (base:=base) zE) dCut;have dCutting:=Mine.Hz Fm GF (Mine.ok_few (P:=Mine.Pg) (w:=w) (base:=base) uz M_MOST) (Mine.ok_sq (P:=Mine.Pg) (w:=w) (base:=base) zE) dRowsOf (Mine.DX EZ P_LEAF dRules dCut 9);have dWorth:=Mine.Ay T_worth (Mine.yH qz (Mine.wQ Bz aO aW bE oH (Mine.AH (P:=Mine.Pg) (w:=w) (base:=base) By aO fK pP kb))) GO;have dLw:=Mine.ok_lw uA dCutting dHulls dWorth (Mine.ui BB dFactor) (Mine.Ec (P:=Mine.Pg) (w:=w) (base:=base) T_less);have dAlw:=Mine.HB Jg xB dLw;have dRup:=Mine.ok_rup (P:=Mine.Pg) (w:=w) (base:=base) Bt;have dSw:=Mine.ok_sw uw bS ck iC dRup (Mine.ok_yw Bs ck bS dRup);have dRbl:=Mine.ok_rbl qy Jb dRowsOf dCutting dHulls dRules dTold (Mine.ok_bnds zJ gD (Mine.ok_sb (P:=Mine.Pg) (w:=w) (base:=base) xy));have dFst:=Mine.ok_fst tZ dRbl (Mine.ok_sbl xx dSw);have dWhole:=Mine.Hh (P:=Mine.Pg) (w:=w) (base:=base) Fe aO fK pP kb;have dLrules:=Mine.yI Fg (Mine.Hq Jc bE bS ck (Mine.ok_lsum (P:=Mine.Pg) (w:=w) (base:=base) T_l_sum gD aW) dTells);have dLhulls:=Mine.Ea Fl aO aW bE oH dWhole dLcut 9;have dHolds := Mine.Eb T_l_holds bS dLhulls dLrules dTells
  have Oa:=Mine.ok_next (P:=Mine.Pg) (w:=w) (base:=base) Jd bE;have WE:=Mine.ok_lfew Qa bE Oa (Mine.DY Bv fK Oa 60) (Mine.CH vO Dr fK bE 60);have dRt:=Mine.ok_rt50 (P:=Mine.Pg) (w:=w) (base:=base) zG aW 60;have dLpt:=Mine.ok_ispt xA aO aW bE oH bS ck dWhole;have dFr:=Mine.ok_isfr qA aO aW bE gp dWhole (Mine.ok_lwT (P:=Mine.Pg) (w:=w) (base:=base) tY aW);have PV:=Mine.Hg (P:=Mine.Pg) (w:=w) (base:=base) Fd fK (Mine.Hw Jf bS ck) 60;have dNf:=Mine.CH (P:=Mine.Pg) (w:=w) (base:=base) vO Dr fK bE 60;have WD:=Mine.Hm Bw AF.o_ne AF.r_ne AF.o_al AF.r_al kl kn kf 60;have Tp:=Mine.Hs Fj iC WE Oa (Mine.ok_sch (P:=Mine.Pg) (w:=w) (base:=base) Bu bE) dNf;have PX:=Mine.Ek Bx dNf dRt (Mine.Ed Fi dLrules dTells dLcut 9) WD dLw dFr;exact Mine.ok_law F aO aW bE kn (Mine.Hn Fh bE ck bS iC gp fK) Tp WE dRt WD dAlw dFst dLw dHolds (Mine.Hr Je aO aW bE dLpt PV) PX
 case S=>exact λK H a ns hl hb hO hS=>⟨a,ns,rfl,Mine.scr_of hO hS hl hb,λ_=>rfl⟩
 case C=>exact λ_ _ _ _ z=>z
