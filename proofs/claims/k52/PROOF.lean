import PyProof.Rows.All
import Wide.All
import OpenK.AllK
import Wide.FinOn
import Lean
import PyProof.EqAt
import PyProof.EqKinds
import PyProof.TupleCall
import KE.KRevIter
import PyProof.ListNew
import PyProof.NeKinds
import PyProof.StrBlockL
import KE.LcSums
import PyProof.Rows.EqDataRows
import PyProof.Draws
import PyProof.EnumMake
import PyProof.ZipIter
import PyProof.WalksMore
import PyProof.P3In
import PyProof.IsRules
import KE.KLcPair
import PyProof.Rows.Range3
import PyProof.Rows.MinMaxN
import KE.KTab
import PyProof.Rows.SumAny
import PyProof.ExcClass2
import PyProof.ExcInit
import PyProof.StationsW
import PyProof.InstStoreFacts
import PySem.Challenge.RW_leansay_k52_fewest_steps
set_option Elab.async false
set_option linter.all false
noncomputable section
set_option hygiene false
local macro_rules | `(tactic| walk_at "i1") => `(tactic| (intro vs H Q E h;first | (cases h;subst_vars;rfl) | ((repeat obtain ⟨_,h⟩:=h);subst_vars;rfl)))
local macro_rules | `(tactic| walk_at "i4") => `(tactic| intro vs H Q E h)
local macro_rules | `(tactic| walk_at "i2") => `(tactic| intro f cdv A outer s H vs Q E hr h)
local macro_rules | `(tactic| walk_at "i3") => `(tactic| intro cdv A outer s H vs Q E hr h)
set_option hygiene true
set_option autoImplicit true
set_option relaxedAutoImplicit true
set_option maxRecDepth 100000
abbrev b6:=@PySem.wpAny_bind
abbrev b9:=@PySem.F.plainAttrs_list
abbrev c5:=@Nat.le_refl
abbrev c6:=@List.getElem?_eq_getElem
abbrev c7:=@List.length_append
abbrev c8:=@of_decide_eq_true
abbrev c9:=@List.mem_singleton
abbrev d6:=@List.getElem?_eq_some_iff
abbrev d7:=@if_pos
abbrev d8:=@Nat.lt_of_le_of_lt
abbrev d9:=@if_neg
abbrev e9:=@decide_eq_true
abbrev i5:=@Nat.lt_of_lt_of_le
abbrev i6:=@PySem.Heap.get?_push_of_some
abbrev i7:=@List.length_map
abbrev i8:=@PySem.F.slot_list_append
abbrev i9:=@PySem.F.type_list_append
abbrev j4:=@List.mem_cons
abbrev j6:=@List.mem_append
abbrev j7:=@List.size_toArray
abbrev j8:=@Option.some.inj
abbrev j9:=@List.length_cons
abbrev k8:=@Bool.false_ne_true
abbrev l6:=@PySem.Heap.lt_size
abbrev l7:=@Nat.le_trans
abbrev l8:=@List.map_append
abbrev l9:=@List.mem_append_right
abbrev m6:=@List.append_assoc
abbrev n9:=@PySem.wpAny_pure
abbrev p8:=@List.mem_of_getElem?
abbrev r8:=@PySem.Heap.get?_push_size
abbrev v8:=@List.mem_cons_self
abbrev w6:=@List.getElem?_map
abbrev w8:=@List.nil_append
abbrev x4:=@Nat.zero_le
abbrev x5:=@PySem.PassesOwn.never
abbrev x6:=@List.mem_cons_of_mem
abbrev x8:=@List.mem_map
abbrev x9:=@congrArg
abbrev y7:=@List.cons_append
abbrev y8:=@Int.mul_nonneg
abbrev y9:=@Int.le_of_lt
abbrev z5:=@List.getD_eq_getElem?_getD
abbrev z6:=@Nat.ne_of_lt
abbrev z7:=@List.map_cons
abbrev z8:=@PySem.W.mg_none_of
abbrev z9:=@List.take_length
abbrev A0:=@Int.lt_or_le
abbrev A2:=@List.take_add_one
abbrev A3:=@List.not_mem_nil
abbrev A4:=@List.append_nil
abbrev A5:=@List.mem_append_left
abbrev A6:=@Classical.byContradiction
abbrev A7:=@Nat.lt_or_ge
abbrev A8:=@Bool.and_eq_true
abbrev A9:=@Array.length_toList
abbrev B0:=@List.getElem?_append_left
abbrev B2:=@Nat.lt_irrefl
abbrev B3:=@PyProof.Rows.slot_tuple_getitem
abbrev B5:=@PySem.F.slot_list_pop
abbrev B6:=@PySem.F.type_list_pop
abbrev B7:=@decide_eq_false
abbrev B8:=@PySem.wpAny_truthy_bool
abbrev B9:=@List.reverse_cons
abbrev C2:=@List.drop_eq_getElem_cons
abbrev C3:=@Int.mul_neg_of_pos_of_neg
abbrev C4:=@Int.mul_nonneg_of_nonpos_of_nonpos
abbrev C5:=@PySem.W.kia_one
abbrev C6:=@List.lookup_cons
abbrev C7:=@List.length_reverse
abbrev C8:=@PyProof.Rows.callWith_type1
abbrev C9:=@PySem.wpAny_callSpecial?_slot
abbrev D0:=@PySem.wpAny_Call_Name_kw
abbrev D5:=@Int.le_refl
abbrev D7:=@List.mem_iff_getElem
abbrev D8:=@Int.mul_eq_zero
abbrev D9:=@Nat.le_add_right
abbrev E1:=@List.eq_nil_of_length_eq_zero
abbrev E2:=@PySem.wpAny_field
abbrev E3:=@Int.lt_trichotomy
abbrev E4:=@PySem.Heap.size_push
abbrev E7:=@PySem.wpAny_mono
abbrev E8:=@Int.mul_nonpos_of_nonneg_of_nonpos
abbrev E9:=@Int.emod_lt_of_pos
abbrev F0:=@beq_self_eq_true
abbrev F1:=@Nat.pow_le_pow_right
abbrev F2:=@List.dropLast_concat
abbrev F3:=@Int.fdiv_eq_ediv_of_nonneg
abbrev F4:=@List.getElem?_append_right
abbrev F5:=@PySem.wpAny_newObj_type
abbrev F6:=@beq_eq_false_iff_ne
abbrev F7:=@Int.mul_pos
abbrev F8:=@Int.mul_neg_of_neg_of_pos
abbrev F9:=@List.length_singleton
abbrev G0:=@List.length_take
abbrev G1:=@Nat.eq_zero_or_pos
abbrev G2:=@Int.mul_le_mul_of_nonneg_right
abbrev G3:=@Nat.pow_succ
abbrev G4:=@or_false
abbrev G5:=@Ne.symm
abbrev G6:=@List.getElem?_concat_length
abbrev G7:=@List.singleton_sublist
abbrev G8:=@Int.mul_comm
abbrev G9:=@Int.fmod_nonneg_of_pos
abbrev IV:=@Nat.lt_succ_self
abbrev IW:=@PySem.wpAny_call_entry
abbrev IX:=@List.getElem_mem
abbrev IY:=@PySem.Calls.spliced_cons
abbrev IZ:=@PySem.F.slot_tuple_iterator_next
abbrev I0:=@Nat.le_of_ble_eq_true
abbrev Ja:=@Int.eq_of_mul_eq_mul_left
abbrev Jb:=@PySem.wpAny_passesOwn
abbrev Jc:=@Int.emod_nonneg
abbrev Jd:=@beq_iff_eq
abbrev Je:=@PySem.wpAny_comprehension_free
abbrev Jf:=@PySem.mem_of_lookup
abbrev Jg:=@List.length_drop
abbrev Jh:=@PySem.wpAny_seqItems
abbrev Ji:=@PySem.wpAny_pyIter_tuple
abbrev Jj:=@PySem.wpAny_setField_rec
abbrev Jk:=@Nat.one_le_two_pow
abbrev Jl:=@Int.fmod_lt_of_pos
abbrev Jm:=@Int.le_trans
abbrev Jn:=@List.countP_append
abbrev Jo:=@List.mem_filter
abbrev Jp:=@List.find?_cons
abbrev Jq:=@PySem.F.slot_zip_next
abbrev Jr:=@List.cons.injEq
abbrev Js:=@List.cons.inj
abbrev Jt:=@List.length_replicate
abbrev Ju:=@PySem.SeqAt.EqAt.same
abbrev Jv:=@List.mem_of_mem_take
abbrev Jw:=@Nat.add_le_add
abbrev Jx:=@Nat.le_of_lt
abbrev Jy:=@PySem.wpAny_pyIter_zip
abbrev Jz:=@Int.le_of_eq
abbrev JA:=@List.getLast?_eq_getElem?
abbrev JB:=@List.any_cons
abbrev JC:=@PySem.F.slot_list_extend
abbrev JD:=@PySem.F.type_list_extend
abbrev JE:=@Bool.eq_iff_iff
abbrev JF:=@Option.map_some
abbrev JG:=@List.length_nil
abbrev JH:=@Int.fdiv_eq_ediv_of_dvd
abbrev JI:=@Nat.ne_of_gt
abbrev JJ:=@PySem.Calls.spliced_nil
abbrev JK:=@Nat.lt_succ_of_lt
abbrev JL:=@Option.map_eq_some_iff
abbrev JM:=@List.map_map
abbrev JN:=@Decidable.em
abbrev JO:=@Int.le_ediv_iff_mul_le
abbrev JP:=@List.eraseIdxIfInBounds_toArray
abbrev JQ:=@List.eq_nil_or_concat
abbrev JR:=@List.concat_eq_append
abbrev JS:=@Classical.choose_spec
abbrev JT:=@PySem.nums_intItems
abbrev JU:=@Int.mul_ediv_cancel'
abbrev JV:=@List.reverse_reverse
abbrev JW:=@PySem.intItems_at
abbrev JX:=@PySem.wpAny_execs_nil
abbrev JY:=@List.nodup_cons
abbrev JZ:=@List.forIn_cons
abbrev J0:=@List.dropLast_concat_getLast
abbrev J1:=@List.foldl_cons
abbrev J2:=@PySem.W.hideAll_get
abbrev J3:=@List.filterMap_cons
abbrev J4:=@PySem.W.plainGet_of
abbrev J5:=@PySem.W.callWith_K0
abbrev J6:=@List.reverse_append
abbrev J7:=@List.map_nil
abbrev J8:=@Int.zero_mul
abbrev J9:=@List.mem_range
abbrev Ka:=@List.mem_filterMap
abbrev Kb:=@Int.fmod_eq_emod_of_nonneg
abbrev Kc:=@PySem.W.callWith_K
abbrev Kd:=@PySem.call_meets
abbrev Ke:=@PySem.tupleKind_room_in1
abbrev Kf:=@PySem.numAt_eq
abbrev Kg:=@PySem.getD_mem
abbrev Kh:=@Int.lt_of_lt_of_le
abbrev Ki:=@List.foldl_nil
abbrev Kj:=@Int.le_of_mul_le_mul_right
abbrev Kk:=@Nat.mul_le_mul
abbrev Kl:=@Int.eq_of_mul_eq_mul_right
abbrev Km:=@Array.getElem?_eq_getElem
abbrev Kn:=@Int.mul_pos_of_neg_of_neg
abbrev Ko:=@Decidable.byContradiction
abbrev Kq:=@PySem.F.slot_list_reverse
abbrev Kr:=@PySem.F.type_list_reverse
abbrev Ks:=@List.getLastD_eq_getLast?
abbrev Kt:=@List.exists_mem_of_ne_nil
abbrev Ku:=@Int.mul_one
abbrev Kv:=@PySem.wpAny_pyIter_list
abbrev Kw:=@PySem.sizeLine_eq
abbrev Kx:=@Int.toNat_natCast
abbrev Ky:=@PySem.F.args_zip_next_1
abbrev Kz:=@List.drop_sublist
abbrev KA:=@Int.natAbs_add_le
abbrev KC:=@PySem.W.mg_of
abbrev KD:=@PySem.Paired.length
abbrev KG:=@Option.isSome_iff_exists
abbrev KH:=@PySem.F.args_tuple_add_2
abbrev KI:=@PySem.W.mg_of
abbrev KJ:=@Int.mul_assoc
abbrev KL:=@Int.mul_fdiv_cancel_left
abbrev KN:=@PySem.W.makes_of
abbrev KO:=@PySem.F.entry_zip_next
abbrev KP:=@Nat.mod_eq_of_lt
abbrev KQ:=@List.mem_flatten
abbrev KR:=@PySem.codeAny_mono
abbrev KS:=@if_true
abbrev KU:=@Nat.mod_lt
abbrev KW:=@Int.lt_trans
abbrev KY:=@List.of_mem_zip
abbrev KZ:=@Nat.le_add_left
abbrev K0:=@Nat.min_le_left
abbrev K1:=@Nat.le_succ
abbrev K2:=@Int.natAbs_mul
abbrev K3:=@Int.one_mul
abbrev K4:=@List.all_cons
namespace L2
open PySem PySem.Spec PyProof.Rows
variable{us its:List Value}{u cd:Value}{a b it C dx:Addr}{o:HO}{h base:Heap}{ob:Obj}{g':Array GenState}{t' n tk:Nat}{d':Drawn}{ch fp:List Addr}{x qual:Str}{e c tg Ld:Expr}{P4 K5:List (Addr×Obj)}{N ns ps:List Str}{M:Model}{A:Around}{s':Shared}{X:Cx}{ta:TA}{tb:TS}{σ:St}{pos pos':Pos}{op Th:CmpOp}{D:Ends}{f:Value->Value->Sem Value}{st body:List Stmt}{tc:TT}{es:List Expr}{te:TE}{ti:Xm}{vs:Array Value}{lo:Int}{p:List Value->Prop}{wi:TI}{r':R2}{mA mg:Str->Option Value}{expr:Bool}{kw:List (Str×Value)}{prog:Program}{env:Env}{sc scope:Scope}{kindOf:Str->Option NameKind}{params:Arguments}{an od:Option Addr}{osl:Array (Option Value)}{sp:Sp}
noncomputable abbrev Key:=Sum Int Str
noncomputable def vg:Key->Value->Bool
 | .inl k,v=>Value.isInt k v
 | .inr x,v=>Value.isStrOf x v
noncomputable def Yq(w:World):Key->Int
 | .inl k=>hashInt k
 | .inr x=>hashStr w x
theorem cW:∀{k:Key}{v:Value},vg k v=true->(∃i t,k=Sum.inl i/\v=Value.int i t)\/(∃x t,k=Sum.inr x/\v=Value.str x t)
 | .inl i,v,h=>by
  obtain⟨t,e⟩:=Value.isInt_shape (k:=i) (v:=v) h;exact .inl ⟨i,t,rfl,e⟩
 | .inr x,v,h=>by
  obtain⟨t,e⟩:=Value.isStrOf_shape (x:=x) (v:=v) h;exact .inr ⟨x,t,rfl,e⟩
theorem Ef(i:Int)(t:Tok):vg (.inl i) (.int i t)=true:=by simp[vg,Value.isInt]
theorem Ee(x:Str)(t:Tok):vg (.inr x) (.str x t)=true:=by simp[vg,Value.isStrOf]
theorem RF(a b:Int):decide ((Sum.inl a:Key)=Sum.inl b)=(a==b):=by
 by_cases e:a=b
 .subst e;simp
 .have h:¬(Sum.inl a:Key)=Sum.inl b:=λq=>e (Sum.inl.inj q);rw[B7 h];exact(F6.mpr e).symm
theorem RC(a b:Str):decide ((Sum.inr a:Key)=Sum.inr b)=decide (a=b):=by
 by_cases e:a=b
 .subst e;simp
 .have h:¬(Sum.inr a:Key)=Sum.inr b:=λq=>e (Sum.inr.inj q);rw[B7 h,B7 e]
theorem RE(a:Int)(b:Str):decide ((Sum.inl a:Key)=Sum.inr b)=false:=B7 (λq=>nomatch q)
theorem RD(a:Str)(b:Int):decide ((Sum.inr a:Key)=Sum.inl b)=false:=B7 (λq=>nomatch q)
noncomputable def dj(prog:Program)(w:World):PySem.KeyKind prog w Key where
 is:=vg
 hash:=Yq w
 inj:=λv a b ha hb=>by
  rcases cW ha with⟨i,t,rfl,rfl⟩ | ⟨x,t,rfl,rfl⟩
  .rcases cW hb with⟨j,u,rfl,e⟩ | ⟨y,u,rfl,e⟩
   .injection e with e1 _;rw[e1]
   .exact nomatch e
  .rcases cW hb with⟨j,u,rfl,e⟩ | ⟨y,u,rfl,e⟩
   .exact nomatch e
   .injection e with e1 _;rw[e1]
 byValue:=λk v h=>by
  rcases cW h with⟨i,t,rfl,rfl⟩ | ⟨x,t,rfl,rfl⟩<;>rfl
 pyHash:=λhv h=>by
  rcases cW hv with⟨i,t,rfl,rfl⟩ | ⟨x,t,rfl,rfl⟩
  .exact wpAny_pyHash_int h
  .exact wpAny_pyHash_str h
 eqBool:=λhu hv h=>by
  rcases cW hu with⟨i,t,rfl,rfl⟩ | ⟨x,t,rfl,rfl⟩
  .rcases cW hv with⟨j,u,rfl,rfl⟩ | ⟨y,u,rfl,rfl⟩
   .rw[RF]at h;exact wpAny_eqBool_int h
   .rw[RE]at h;exact SeqAt.EqAt.int_str i t y u _ _ _ _ h
  .rcases cW hv with⟨j,u,rfl,rfl⟩ | ⟨y,u,rfl,rfl⟩
   .rw[RD]at h;exact SeqAt.EqAt.str_int x t j u _ _ _ _ h
   .rw[RC]at h;exact wpAny_eqBool_str h
 «strs»:=λk x t v h=>by
  rcases cW h with⟨i,u,rfl,e⟩ | ⟨y,u,rfl,e⟩
  .exact nomatch e
  .injection e with e1 _
   subst e1;cases v<;>rfl
theorem yI(prog:Program)(w:World)(i:Int)(t:Tok):(dj prog w).is (.inl i) (.int i t)=true:=Ef i t
theorem yH(prog:Program)(w:World)(x:Str)(t:Tok):(dj prog w).is (.inr x) (.str x t)=true:=Ee x t
inductive V where
 | non | bl (b:Bool) | int (i:Int) | str (x:Str) | byt (b:Array UInt8) | flt (b:UInt64) | ref (a:Addr) | ty (n:String)
 deriving DecidableEq
def RelV:V->Value->Prop
 | .non,u=>u=Value.none
 | .bl b,u=>u=Value.bool b
 | .int i,u=>∃t,u=Value.int i t
 | .str x,u=>∃t,u=Value.str x t
 | .byt b,u=>∃t,u=Value.bytes b t
 | .flt b,u=>∃t,u=Value.float b t
 | .ref a,u=>u=Value.ref a
 | .ty n,u=>u=Value.type n
abbrev Vals:List V->List Value->Prop:=Paired RelV
theorem Vals.length{xs:List V}(r:Vals xs us):xs.length=us.length:=KD r
theorem Vals.get:∀{xs:List V}{us:List Value}{i:Nat}{x:V},Vals xs us->xs[i]?=some x->∃u,us[i]?=some u/\RelV x u
 | _,_,_,_,.nil,e=>by simp at e
 | _,_,0,_,.cons r _,e=>by simp at e;subst e;exact⟨_,rfl,r⟩
 | _,_,i+1,x,.cons _ t,e=>by
  obtain⟨u,h1,h2⟩:=Vals.get (i:=i) (x:=x) t (by simpa using e);exact⟨u,by simpa using h1,h2⟩
theorem Vals.set{x:V}(r:RelV x u):∀{xs:List V}{us:List Value}(i:Nat),Vals xs us->Vals (xs.set i x) (us.set i u)
 | _,_,_,.nil=>.nil
 | _,_,0,.cons _ t=>.cons r t
 | _,_,i+1,.cons q t=>.cons q (Vals.set r i t)
theorem Vals.append:∀{xs ys:List V}{us ws:List Value},Vals xs us->Vals ys ws->Vals (xs++ys) (us++ws)
 | _,_,_,_,.nil,s=>s
 | _,_,_,_,.cons r t,s=>.cons r (Vals.append t s)
theorem Vals.take:∀{xs:List V}{us:List Value}(n:Nat),Vals xs us->Vals (xs.take n) (us.take n)
 | _,_,0,_=>.nil
 | _,_,_+1,.nil=>.nil
 | _,_,n+1,.cons r t=>.cons r (Vals.take n t)
theorem Vals.drop:∀{xs:List V}{us:List Value}(n:Nat),Vals xs us->Vals (xs.drop n) (us.drop n)
 | _,_,0,r=>r
 | _,_,_+1,.nil=>.nil
 | _,_,n+1,.cons _ t=>Vals.drop n t
def lS:Option V->Option Value->Prop
 | some v,some u=>RelV v u
 | none,none=>True
 | _,_=>False
def KV{κ:Type}:List (κ×V)->List (κ×Value)->Prop:=Paired λ(p:κ×V) (q:κ×Value)=>p.1=q.1/\RelV p.2 q.2
noncomputable def kV:Key->V
 | .inl i=>.int i
 | .inr x=>.str x
inductive HO where
 | lst (xs:List V)
 | tup (xs:List V)
 | dK (K8:List (Key×V)) | dT (K8:List (List Key×V))
 | set (S:Int->Bool) (n:Nat)
 | ins (C dx:Addr) (fs:List (Str×V))
 | own (x:Addr)
 | xd (fs:List (Str×V))
 | met (f x:Addr)
 | rng (lo hi:Int)
 | frz (o:Obj) (u:HO)
 | tbl (ps:Array Value)
 | ext (φ:Heap->Prop)
noncomputable abbrev Hp:=Addr->Option HO
noncomputable def upd(H:Hp)(a:Addr)(o:HO):Hp:=λb=>if b=a then some o else H b
theorem ae{H:Hp}:upd H a o a=some o:=by unfold upd;rw[d7 rfl]
theorem az{H:Hp}(h:b≠a):upd H a o b=H b:=by unfold upd;rw[d9 h]
theorem qy{H:Hp}{u:HO}:upd (upd H a o) a u=upd H a u:=by
 funext b;unfold upd;split<;>rfl
theorem sG{H:Hp}{u:HO}(h:H a=some o)(h':H b=some u)(d:o≠u):a≠b:=by
 intro e;subst e;rw[h]at h';exact d (j8 h')
theorem aE{H:Hp}(h:H a=some o)(h':H b=none):a≠b:=by
 intro e;subst e;rw[h]at h';cases h'
section
variable(P:Program)(w:World)
def cP(H:Hp)(h:Heap)(a:Addr):HO->Prop
 | .lst xs=>xs.length<=sizeLine/\∃(its:List Value)(n:Nat),Vals xs its/\h.get? a=some {cls:=.type "list",data:=.seq its.toArray n}
 | .tup xs=>xs.length<=sizeLine/\∃its:List Value,Vals xs its/\IsTup h a its.toArray
 | .dK K8=>K8.length<=sizeLine/\(a==sysModules)=false/\∃vs,KV K8 vs/\h.DictOf (dj P w) a vs
 | .dT K8=>K8.length<=sizeLine/\(a == sysModules)=false/\∃ xs:List (List Key×Addr×Value),
   Paired (λ(p:List Key×V) (q:List Key×Addr×Value)=>p.1=q.1/\H q.2.1=some (.tup (p.1.map kV))/\RelV p.2 q.2.2) K8 xs/\
   ∃o es ep,h.get? a=some o/\o.ExactDict/\o.data=.dict es ep/\es.toList=xs.map (entryOfKey (tupleKind (dj P w)))/\(xs.map (·.1)).Nodup
 | .set S n=>h.SetOf (intKind P w) a S n
 | .ins C dx fs=>H dx=some (.own a)/\fs.length<=1000/\dx≠a/\h.get? a=some (PySem.W.instObj C dx)/\
   ∃mA,h.Ns1 dx mA/\(∀f,lS (fs.lookup f) (mA f))/\PySem.Within mA (fs.map (·.1))
 | .own _=>∃o,h.get? a=some o
 | .xd fs=>∃mA,h.Ns1 a mA/\∀f,lS (fs.lookup f) (mA f)
 | .rng lo hi=>∃t u v,h.get? a=some {cls:=.type "range",data:=.fields #[.int lo t,.int hi u,.int 1 v] }
 | .frz o u=>h.get? a=some o/\cP H h a u
 | .tbl ps=>h.get? a=some {cls:=.none,data:=.fields ps}
 | .met f x=>h.get? a=some (PySem.W.methodObj (.ref f) (.ref x))
 | .ext φ=>φ h/\(∃o,h.get? a=some o)/\∀h1 h2:Heap,φ h1->(∀o,h1.get? a=some o->h2.get? a=some o)->φ h2
def Lq(H:Hp)(h:Heap):Prop:=∀a o,H a=some o->cP P w H h a o
end
section
variable{P:Program}{w:World}{H H':Hp}{h h':Heap}{a:Addr}{o:HO}
theorem cP.lt(x:cP P w H h a o):a<h.objs.size:=by
 cases o with
 | lst xs=>obtain⟨_,_,_,_,e⟩:=x;exact l6 e
 | tup xs=>obtain⟨_,_,_,p⟩:=x;exact p.lt
 | dK K8=>obtain⟨_,_,_,_,o,_,_,e,_⟩:=x;exact l6 e
 | dT K8=>obtain⟨_,_,_,_,o,_,_,e,_⟩:=x;exact l6 e
 | set S n=>obtain⟨o,_,_,_,e,_⟩:=x;exact l6 e
 | ins C dx fs=>obtain⟨_,_,_,e,_⟩:=x;exact l6 e
 | own y=>obtain⟨_,e⟩:=x;exact l6 e
 | xd fs=>obtain⟨_,⟨_,_,_,e,_⟩,_⟩:=x;exact l6 e
 | rng lo hi=>obtain⟨_,_,_,e⟩:=x;exact l6 e
 | frz ob u=>obtain⟨e,_⟩:=x;exact l6 e
 | tbl ps=>exact l6 (show h.get? a=some _ from x)
 | met f y=>exact l6 (show h.get? a=some _ from x)
 | ext φ=>obtain⟨_,⟨_,e⟩,_⟩:=x;exact l6 e
theorem Paired.mapP{α β:Type}{F G:α->β->Prop}:∀{l₁:List α}{l₂:List β},Paired F l₁ l₂->(∀a b,F a b->G a b)->Paired G l₁ l₂
 | _,_,.nil,_=>.nil
 | _,_,.cons r t,f=>.cons (f _ _ r) (Paired.mapP t f)
theorem cP.stay(x:cP P w H h a o)(k:∀b u,(b=a\/H b=some (.own a))->h.get? b=some u->h'.get? b=some u)
  (ho:∀b,H b=some (.own a)->H' b=some (.own a))(ht:∀b xs,H b=some (.tup xs)->H' b=some (.tup xs)):cP P w H' h' a o:=by
 induction o with
 | lst xs=>obtain⟨z,its,n,r,e⟩:=x;exact⟨z,its,n,r,k _ _ (.inl rfl) e⟩
 | tup xs=>obtain⟨z,its,r,ob,e,c⟩:=x;exact⟨z,its,r,ob,k _ _ (.inl rfl) e,c⟩
 | dK K8=>obtain⟨z,y,vs,r,ob,es,ep,e,c⟩:=x;exact⟨z,y,vs,r,ob,es,ep,k _ _ (.inl rfl) e,c⟩
 | dT K8 =>
  obtain⟨z,y,xs,r,ob,es,ep,e,c⟩:=x;exact⟨z,y,xs,Paired.mapP r λp q z=>⟨z.1,ht _ _ z.2.1,z.2.2⟩,ob,es,ep,k _ _ (.inl rfl) e,c⟩
 | set S n=>obtain⟨ob,es,ep,t,e,c⟩:=x;exact⟨ob,es,ep,t,k _ _ (.inl rfl) e,c⟩
 | ins C dx fs =>
  obtain⟨d,z,ne,e,mA,⟨od,es,ep,e2,c⟩,r⟩:=x;exact⟨ho _ d,z,ne,k _ _ (.inl rfl) e,mA,⟨od,es,ep,k _ _ (.inr d) e2,c⟩,r⟩
 | own y=>obtain⟨ob,e⟩:=x;exact⟨ob,k _ _ (.inl rfl) e⟩
 | xd fs=>obtain⟨mA,⟨od,es,ep,e,c⟩,r⟩:=x;exact⟨mA,⟨od,es,ep,k _ _ (.inl rfl) e,c⟩,r⟩
 | rng lo hi=>obtain⟨t,u,v,e⟩:=x;exact⟨t,u,v,k _ _ (.inl rfl) e⟩
 | frz ob u ih=>obtain⟨e,q⟩:=x;exact⟨k _ _ (.inl rfl) e,ih q⟩
 | tbl ps =>
  have e:h.get? a=some {cls:=.none,data:=.fields ps}:=x;show h'.get? a=some {cls:=.none,data:=.fields ps};exact k a _ (.inl rfl) e
 | met f y =>
  have e:h.get? a=some (PySem.W.methodObj (.ref f) (.ref y)):=x;show h'.get? a=some (PySem.W.methodObj (.ref f) (.ref y));exact k a _ (.inl rfl) e
 | ext φ=>obtain⟨p,⟨o,e⟩,st⟩:=x;exact⟨st _ _ p λo q=>k _ _ (.inl rfl) q,⟨o,k _ _ (.inl rfl) e⟩,st⟩
theorem Lq.lt(x:Lq P w H h)(e:H a=some o):a<h.objs.size:=(x a o e).lt
theorem Lq.fresh(x:Lq P w H h)(e:h.objs.size<=a):H a=none:=by
 cases q:H a with
 | none=>rfl
 | some u=>exact absurd (i5 (x.lt q) e) (B2 _)
theorem Lq.kept(x:Lq P w H h)(k:∀b u,h.get? b=some u->h'.get? b=some u):Lq P w H h':=λa o e =>
 (x a o e).stay (λb u _ q=>k b u q) (λ_ q=>q) λ_ _ q=>q
theorem Lq.laid(x:Lq P w H h)(k:∀b u,h.get? b=some u->h'.get? b=some u)(hp:h.objs.size<=a)(new:cP P w (upd H a o) h' a o):Lq P w (upd H a o) h':=λb u e=>by
 have hn:=x.fresh hp
 by_cases hb:b=a
 .subst hb;rw[ae]at e;cases e;exact new
 .rw[az hb]at e;exact(x b u e).stay (λc v _ q=>k c v q) (λc q=>by rw[az (aE q hn)];exact q) λc xs q=>by rw[az (aE q hn)];exact q
end
def Rd(H:Hp)(a:Addr)(u:HO):Prop:=H a=some u\/∃o,H a=some (.frz o u)
theorem Rd.ok{P:Program}{w:World}{H:Hp}{u:HO}(r:Rd H a u)(x:Lq P w H h):cP P w H h a u:=by
 rcases r with r | ⟨o,r⟩
 .exact x a u r
 .obtain⟨_,q⟩:=x a _ r;exact q
def Wi:Option HO->Prop
 | some (.lst _)=>True
 | some (.dK _)=>True
 | some (.dT _)=>True
 | some (.set _ _)=>True
 | some (.ins _ _ _)=>True
 | some (.ext _)=>True
 | _=>False
section
variable{P:Program}{w:World}{H:Hp}{h h':Heap}{x e:Addr}{o':HO}
theorem Lq.write(ok:Lq P w H h)(mu:Wi (H x))(he:e=x\/H e=some (.own x))(k:∀b u,b≠e->h.get? b=some u->h'.get? b=some u)(Tx:∃u,h'.get? e=some u)
  (new:cP P w (upd H x o') h' x o'):Lq P w (upd H x o') h':=λb u q=>by
 have UQ:∀c y,H c=some (.own y)->c≠x:=λc y r z=>by subst z;rw[r]at mu;exact mu
 have Yb:∀c xs,H c=some (.tup xs)->c≠x:=λc xs r z=>by subst z;rw[r]at mu;exact mu
 by_cases hb:b=x
 .subst hb;rw[ae]at q;cases q;exact new
 .rw[az hb]at q
  by_cases RZ:b=e
  .have q':H b=some (.own x):=by
    rcases he with z | z
    .exact absurd (RZ.trans z) hb
    .rw[RZ];exact z
   rw[q]at q';cases q'
   obtain⟨v,hv⟩:=Tx;exact⟨v,by rw[RZ];exact hv⟩
  .refine(ok b u q).stay (λc v hc r=>k c v ?_ r) (λc r=>by rw[az (UQ c b r)];exact r) λc xs r=>by rw[az (Yb c xs r)];exact r
   rcases hc with rfl | hc
   .exact RZ
   .rintro rfl
    rcases he with z | z
    .exact UQ c b hc z
    .rw[hc]at z;cases z;exact hb rfl
end
structure Un(fs ex:List Addr)(H H':Hp)(h h':Heap):Prop where
 keep:∀b o,h.get? b=some o->H b=none->b ∉ fs->b ∉ ex->h'.get? b=some o
 slot:∀b o,h.get? b=some o->H b=none->b∈fs->b ∉ ex->∃sl,h'.get? b=some {o with slots:=sl}
 free:∀b o,h.get? b=some o->H b=none->b ∉ ex->H' b=none
 there:∀b o,h.get? b=some o->b ∉ ex->∃o',h'.get? b=some o'
 tups:∀b xs,H b=some (.tup xs)->H' b=some (.tup xs)
 frzs:∀b o u,H b=some (.frz o u)->H' b=some (.frz o u)
 tbls:∀b ps,H b=some (.tbl ps)->∃more,H' b=some (.tbl (ps++more))
section
variable{fs Zf ex ex':List Addr}{H H1 H2:Hp}{h h1 h2 h':Heap}{a x e:Addr}{o:HO}
theorem Un.any(u:Un fs ex H H1 h h1)(q:h.get? b=some ob)(n:H b=none)(hx:b ∉ ex):∃sl,h1.get? b=some {ob with slots:=sl}:=by
 by_cases hb:b∈fs
 .exact u.slot b ob q n hb hx
 .exact⟨ob.slots,u.keep b ob q n hb hx⟩
theorem Un.kept(k:∀b u,h.get? b=some u->h'.get? b=some u):Un fs ex H H h h':=
 ⟨λb ob q _ _ _=>k b ob q,λb ob q _ _ _=>⟨ob.slots,k b ob q⟩,λ_ _ _ n _=>n,λb ob q _=>⟨ob,k b ob q⟩,λ_ _ q=>q,λ_ _ _ q=>q,λ_ ps q=>⟨#[],by rw[q];simp⟩⟩
theorem Un.refl:Un fs ex H H h h:=Un.kept λ_ _ q=>q
theorem Un.laid(k:∀b u,h.get? b=some u->h'.get? b=some u)(hp:h.objs.size<=a)(hn:H a=none):Un fs ex H (upd H a o) h h' where
 keep:=λb u q _ _ _=>k b u q
 slot:=λb u q _ _ _=>⟨u.slots,k b u q⟩
 free:=λb u q n _=>by rw[az (z6 (i5 (l6 q) hp))];exact n
 there:=λb u q _=>⟨u,k b u q⟩
 tups:=λb xs q=>by rw[az (aE q hn)];exact q
 frzs:=λb u xs q=>by rw[az (aE q hn)];exact q
 tbls:=λb ps q=>⟨#[],by rw[az (aE q hn),q];simp⟩
theorem Un.write(mu:Wi (H x))(he:e=x\/H e=some (.own x))(k:∀b u,b≠e->h.get? b=some u->h'.get? b=some u)(Tx:∃u,h'.get? e=some u):Un fs ex H (upd H x o) h h':=by
 have hx:∀b,H b=none->b≠x:=λb n z=>by subst z;rw[n]at mu;exact mu
 have hb:∀b,H b=none->b≠e:=λb n z=>by
  subst z;rcases he with r | r
  .exact hx b n r
  .rw[n]at r;cases r
 have hm:∀b u,H b=some u->¬Wi (some u)->b≠x:=λb u q nm z=>by subst z;rw[q]at mu;exact nm mu
 refine⟨λb u q n _ _=>k b u (hb b n) q,λb u q n _ _=>⟨u.slots,k b u (hb b n) q⟩,λb u q n _=>by rw[az (hx b n)];exact n,λb u q _=>?_,
  λb xs q=>by rw[az (hm b _ q λz=>z)];exact q,λb u xs q=>by rw[az (hm b _ q λz=>z)];exact q,λb ps q=>⟨#[],by rw[az (hm b _ q λz=>z),q];simp⟩⟩
 by_cases RZ:b=e
 .subst RZ;exact Tx
 .exact⟨u,k b u RZ q⟩
end
noncomputable def PD(h:Heap)(H:Hp):List Addr:=(List.range h.objs.size).filter λa=>(H a).isSome
noncomputable def wO(h:Heap)(H:Hp):Heap:=PySem.W.hideAll h (PD h H)
theorem Ei(h:Heap)(H:Hp):(wO h H).objs.size=h.objs.size:=PySem.W.hideAll_size _ _
theorem HB{H:Hp}{o:Obj}(e:h.get? b=some o)(n:H b=none):(wO h H).get? b=some o:=
 J2 _ e λhm=>by
  have q:(H b).isSome=true:=(Jo.mp hm).2;rw[n]at q;simp at q
theorem OF{H:Hp}{o:Obj}(e:(wO h H).get? b=some o):h.get? b=some o/\H b=none:=by
 have e':h.get? b=some o:=PySem.W.of_hideAll (PD h H) e;refine⟨e',?_⟩;cases q:H b with
 | none=>rfl
 | some x =>
  have hm:b∈PD h H:=Jo.mpr ⟨J9.mpr (l6 e'),by simp[q]⟩;have z:(wO h H).get? b=none:=PySem.W.hideAll_none (PD h H) hm;rw[z]at e;cases e
structure Mod(K:W.Frag)(mg:Str->Option Value)(base:Heap):Prop where
 kin:K.In base
 glob:base.Ns mainGlobals mg
 blt:∃mb,base.Ns builtinsNs mb/\∀x:Str,x≠"__name__"->mb x=bootBuiltins x
 nolimit:base.NoLimit
structure Cx where
 prog:Program
 w:World
 K:W.Frag
 mg:Str->Option Value
 base:Heap
 A:Around
 N:List Str
 s₀:Shared
 H₀:Hp
 env:Env
 outer:List Env
 stack:List Env
 ex:List Addr
 fn:Str->Bool
 calm:Bool
 pn:List (Addr×Obj)
 xe:Value->Shared->Prop
noncomputable def LF(l:List Env):List Addr:=l.filterMap (·.frame)
noncomputable abbrev Cx.fs (X:Cx):List Addr:=LF X.outer
def SW(sc:Scope)(x:Str):Prop:=sc.names.lookup x=some .local\/sc.names.lookup x=some .cell\/sc.names.lookup x=some .free
def Loc(sc:Scope)(x:Str):Prop:=sc.names.lookup x=some .local\/sc.names.lookup x=some .cell
def Look(env:Env)(h:Heap)(m:Str->Option Value)(x:Str)(u:Value):Prop:=
 (env.kindOf x=some .local/\m x=some u)\/((env.kindOf x=some .cell\/env.kindOf x=some .free)/\∃c,env.cells.lookup x=some c/\h.IsCell c (some u))
structure Cx.Ok(X:Cx):Prop where
 mod:Mod X.K X.mg X.base
 kind:X.env.scope.kind=.function
 glob:X.env.globals=mainGlobals
 blt:X.env.builtins=builtinsNs
 above:X.s₀.heap.objs.size<=X.env.locals
 inj:∀x y c,X.env.cells.lookup x=some c->X.env.cells.lookup y=some c->x=y
 has:∀x,(X.env.kindOf x=some .cell\/X.env.kindOf x=some .free)->∃c,X.env.cells.lookup x=some c
 cab:∀x c,X.fn x=true->X.env.cells.lookup x=some c->X.s₀.heap.objs.size<=c
 hd:X.calm=true->X.A.handled=none
 frames:X.A.frames=some X.stack
 stk:X.stack=X.outer\/(X.stack=X.env::X.outer/\X.env.frame=some X.env.locals)
 exf:∀b∈X.ex,b≠X.env.locals/\∀x c,X.env.cells.lookup x=some c->c≠b
 bs:∀b o,X.base.get? b=some o->X.s₀.heap.get? b=some o/\X.H₀ b=none
 bsz:X.base.objs.size<=X.s₀.heap.objs.size
 noex:∀b o,X.base.get? b=some o->b ∉ X.ex
 exfs:∀b∈X.ex,b ∉ X.fs
 funs:X.s₀.heap.FunFrames X.base X.outer
 frf:∀b∈X.fs,X.H₀ b=none
structure Inv(X:Cx)(K5:List (Addr×Obj))(σ:List (Option V))(H:Hp)(s:Shared):Prop where
 ok:X.Ok
 os:s.os=X.s₀.os
 bare:AllBare s.gens
 base:Un X.fs X.ex X.H₀ H X.s₀.heap s.heap
 loc:∃m,s.heap.Ns X.env.locals m/\∀(i:Nat)(x:Str)(v:V),X.N[i]?=some x->σ[i]?=some (some v)->SW X.env.scope x->∃u,RelV v u/\Look X.env s.heap m x u
 cell:∀x c,X.env.cells.lookup x=some c->∃v,s.heap.IsCell c v
 free:H X.env.locals=none
 freeC:∀x c,X.env.cells.lookup x=some c->H c=none
 pin:∀p∈X.pn++K5,s.heap.get? p.1=some p.2/\H p.1=none/\p.1≠X.env.locals/\p.1 ∉ X.fs/\∀v,p.2.data≠.cell v
 hok:Lq X.prog X.w H s.heap
 len:σ.length=X.N.length
section
variable{X:Cx}{K5:List (Addr×Obj)}{σ:List (Option V)}{H H':Hp}{s:Shared}{h':Heap}
theorem Cx.Ok.nofr(ok:X.Ok){o:Obj}(e:X.base.get? b=some o):b ∉ X.fs:=λhb=>by
 have:=(ok.funs.mem hb).1;rw[e]at this;cases this
theorem Inv.bs(I:Inv X K5 σ H s):∀b o,X.base.get? b=some o->s.heap.get? b=some o/\H b=none:=λb o e =>
 ⟨I.base.keep b o (I.ok.bs b o e).1 (I.ok.bs b o e).2 (I.ok.nofr e) (I.ok.noex b o e),I.base.free b o (I.ok.bs b o e).1 (I.ok.bs b o e).2 (I.ok.noex b o e)⟩
theorem Inv.bk(I:Inv X K5 σ H s):∀b o,X.base.get? b=some o->s.heap.get? b=some o:=λb o e=>(I.bs b o e).1
theorem Inv.mod(I:Inv X K5 σ H s):Mod X.K X.mg X.base:=I.ok.mod
theorem Inv.kIn(I:Inv X K5 σ H s):X.K.In s.heap:=I.ok.mod.kin.keeps I.bk
theorem Inv.lt(I:Inv X K5 σ H s):X.env.locals<s.heap.objs.size:=let ⟨_,hn,_⟩:=I.loc;hn.lt
theorem Inv.sz(I:Inv X K5 σ H s):X.s₀.heap.objs.size<=s.heap.objs.size:=l7 I.ok.above (Jx I.lt)
theorem Inv.nofs(I:Inv X K5 σ H s)(h:s.heap.objs.size<=a):a ∉ X.fs:=λhb=>by
 obtain⟨_,o,ho,_⟩:=I.ok.funs.mem hb;exact absurd (i5 (l6 ho) (l7 I.sz h)) (B2 _)
theorem Inv.cne(I:Inv X K5 σ H s):∀x c,X.env.cells.lookup x=some c->c≠X.env.locals:=λx c e z=>by
 obtain⟨v,o,ho,hd⟩:=I.cell x c e;obtain⟨m,⟨o',es,ep,Ml,Vk,_⟩,_⟩:=I.loc;rw[z,Ml]at ho;cases ho;rw[Vk]at hd;cases hd
theorem Inv.funs(I:Inv X K5 σ H s):s.heap.FunFrames X.base X.outer:=by
 have all:∀(l:List Env),(∀b∈LF l,b∈X.fs)->X.s₀.heap.FunFrames X.base l->s.heap.FunFrames X.base l:=by
  intro l
  induction l with
  | nil=>intro _ _;trivial
  | cons env r ih =>
   intro hs hl;obtain⟨hk,⟨L,o,hf,hn,ho,hd⟩,hr⟩:=hl;have hL:L∈X.fs:=hs L (by unfold LF;rw[J3,hf];exact v8);obtain⟨sl,e⟩:=I.base.slot L o ho (I.ok.frf L hL) hL λz=>I.ok.exfs L z hL;exact⟨hk,⟨L,_,hf,hn,e,hd⟩,ih (λb hb=>hs b (by unfold LF;rw[J3,hf];exact x6 _ hb)) hr⟩
 exact all X.outer (λ_ hb=>hb) I.ok.funs
theorem Inv.stack(I:Inv X K5 σ H s):s.heap.FunFrames X.base X.stack:=by
 rcases I.ok.stk with e | ⟨e,hf⟩
 .rw[e];exact I.funs
 .rw[e];obtain⟨m,hn,_⟩:=I.loc;refine .cons (by rw[I.ok.kind];decide) hf hn ?_ I.funs;exact Heap.get?_none_of_le (l7 I.ok.bsz I.ok.above)
theorem Inv.stkSub(I:Inv X K5 σ H s):∀b∈LF X.stack,b∈X.env.locals::X.fs:=λb hb=>by
 rcases I.ok.stk with e | ⟨e,hf⟩
 .rw[e]at hb;exact x6 _ hb
 .rw[e]at hb;unfold LF at hb;rw[J3,hf]at hb;exact hb
theorem Inv.stkFree(I:Inv X K5 σ H s):∀b∈LF X.stack,H b=none:=λb hb=>by
 rcases j4.mp (I.stkSub b hb) with e | hb
 .rw[e];exact I.free
 .obtain⟨_,o,ho,_⟩:=I.ok.funs.mem hb;exact I.base.free b o ho (I.ok.frf b hb) λz=>I.ok.exfs b z hb
theorem Inv.step{t':Nat}{d':Drawn}(I:Inv X K5 σ H s)
  (NQ:∀b∈ch,(b∈X.ex\/X.s₀.heap.objs.size<=b)/\b≠X.env.locals/\(∀x c,X.env.cells.lookup x=some c->c≠b)/\∀p∈X.pn++K5,p.1≠b)
  (keep:∀b o,b≠X.env.locals->b ∉ X.fs->b ∉ ch->s.heap.get? b=some o->H b=none->h'.get? b=some o)
  (slot:∀b o,b≠X.env.locals->b∈X.fs->b ∉ ch->s.heap.get? b=some o->H b=none->∃sl,h'.get? b=some {o with slots:=sl})(free:∀b o,b ∉ ch->s.heap.get? b=some o->H b=none->H' b=none)
  (there:∀b o,b ∉ ch->s.heap.get? b=some o->∃o',h'.get? b=some o')
  (tups:∀b xs,H b=some (.tup xs)->H' b=some (.tup xs))(frzs:∀b o u,H b=some (.frz o u)->H' b=some (.frz o u))(tbls:∀b ps,H b=some (.tbl ps)->∃more,H' b=some (.tbl (ps++more)))
  (ns:∀m,s.heap.Ns X.env.locals m->h'.Ns X.env.locals m)(hok:Lq X.prog X.w H' h')(hg:AllBare g') :
  Inv X K5 σ H' {s with heap:=h',gens:=g',drawn:=d',toks:=t' }:=by
 have neL:∀b o,X.s₀.heap.get? b=some o->b≠X.env.locals:=λb o e=>z6 (i5 (l6 e) I.ok.above)
 have WO:∀b o,X.s₀.heap.get? b=some o->b ∉ X.ex->b ∉ ch:=λb o e hx hb=>by
  rcases(NQ b hb).1 with z | z
  .exact hx z
  .exact absurd (i5 (l6 e) z) (B2 _)
 have cellK:∀x c,X.env.cells.lookup x=some c->∀v,s.heap.IsCell c v->h'.IsCell c v:=λx c e v ⟨o,ho,hd⟩=>by
  have UT:c ∉ ch:=λz=>(NQ c z).2.2.1 x c e rfl
  by_cases hc:c∈X.fs
  .obtain⟨sl,q⟩:=slot c o (I.cne x c e) hc UT ho (I.freeC x c e);exact⟨_,q,hd⟩
  .exact⟨o,keep c o (I.cne x c e) hc UT ho (I.freeC x c e),hd⟩
 refine⟨I.ok,I.os,hg,⟨λb o e n hb hx=>?_,λb o e n hb hx=>?_,λb o e n hx=>?_,λb o e hx=>?_,λb xs e=>tups b xs (I.base.tups b xs e),λb o xs e=>frzs b o xs (I.base.frzs b o xs e),λb ps e=>?_⟩,?_,λx c e=>?_,?_,λx c e=>?_,λp hp=>?_,hok,I.len⟩
 .exact keep b o (neL b o e) hb (WO b o e hx) (I.base.keep b o e n hb hx) (I.base.free b o e n hx)
 .obtain⟨sl,e1⟩:=I.base.slot b o e n hb hx;obtain⟨Tf,e2⟩:=slot b _ (neL b o e) hb (WO b o e hx) e1 (I.base.free b o e n hx);exact⟨Tf,e2⟩
 .obtain⟨o',e1⟩:=I.base.there b o e hx;exact free b o' (WO b o e hx) e1 (I.base.free b o e n hx)
 .obtain⟨o',e1⟩:=I.base.there b o e hx;exact there b o' (WO b o e hx) e1
 .obtain⟨m1,e1⟩:=I.base.tbls b ps e;obtain⟨m2,e2⟩:=tbls b _ e1;exact⟨m1++m2,by rw[e2,Array.append_assoc]⟩
 .obtain⟨m,hn,hl⟩:=I.loc;refine⟨m,ns m hn,λi x v e1 e2 e3=>?_⟩;obtain⟨u,r,l⟩:=hl i x v e1 e2 e3;refine⟨u,r,?_⟩;rcases l with l | ⟨k,c,e,z⟩
  .exact .inl l
  .exact .inr ⟨k,c,e,cellK x c e _ z⟩
 .obtain⟨v,z⟩:=I.cell x c e;exact⟨v,cellK x c e v z⟩
 .obtain⟨m,⟨o,_,_,ho,_⟩,_⟩:=I.loc;exact free _ o (λz=>(NQ _ z).2.1 rfl) ho I.free
 .obtain⟨v,o,ho,hd⟩:=I.cell x c e;exact free c o (λz=>(NQ c z).2.2.1 x c e rfl) ho (I.freeC x c e)
 .obtain⟨e,n,ne,nf,d⟩:=I.pin p hp;have UT:p.1 ∉ ch:=λz=>(NQ p.1 z).2.2.2 p hp rfl;exact⟨keep p.1 p.2 ne nf UT e n,free p.1 p.2 UT e n,ne,nf,d⟩
theorem Inv.un{t':Nat}(I:Inv X K5 σ H s)(u:Un X.fs [] H H' s.heap h')(hok:Lq X.prog X.w H' h'):Inv X K5 σ H' {s with heap:=h',toks:=t' }:=by
 obtain⟨m,⟨o,es,ep,ho,r⟩,_⟩:=id I.loc;obtain⟨sl,hL⟩:=u.any ho I.free (by simp)
 exact I.step (g':=s.gens) (d':=s.drawn) (ch:=[]) (λ_ z=>nomatch z) (λb o _ hb _ e n=>u.keep b o e n hb (by simp)) (λb o _ hb _ e n=>u.slot b o e n hb (by simp)) (λb o _ e n=>u.free b o e n (by simp)) (λb o _ e=>u.there b o e (by simp)) u.tups u.frzs u.tbls (λm' hm=>by
  obtain⟨o',Zj,Zk,Ml,r'⟩:=hm;rw[ho]at Ml;cases Ml
  exact⟨_,Zj,Zk,hL,r'⟩) hok I.bare
theorem Inv.call{t':Nat}{d':Drawn}{ch:List Addr}(I:Inv X K5 σ H s)(u:Un (LF X.stack) ch H H' s.heap h')(hok:Lq X.prog X.w H' h')(hg:AllBare g')
  (NQ:∀b∈ch,(b∈X.ex\/X.s₀.heap.objs.size<=b)/\b≠X.env.locals/\(∀x c,X.env.cells.lookup x=some c->c≠b)/\∀p∈X.pn++K5,p.1≠b) :
  Inv X K5 σ H' {s with heap:=h',gens:=g',drawn:=d',toks:=t' }:=by
 obtain⟨m,⟨o,es,ep,ho,r⟩,_⟩:=id I.loc;obtain⟨sl,hL⟩:=u.any ho I.free λz=>(NQ _ z).2.1 rfl
 exact I.step (ch:=ch) NQ (λb o hL hb hc e n=>u.keep b o e n (λz=>(j4.mp (I.stkSub b z)).elim hL hb) hc) (λb o _ _ hc e n=>u.any e n hc) (λb o hc e n=>u.free b o e n hc) (λb o hc e=>u.there b o e hc) u.tups u.frzs u.tbls (λm' hm=>by
  obtain⟨o',Zj,Zk,Ml,r'⟩:=hm;rw[ho]at Ml;cases Ml
  exact⟨_,Zj,Zk,hL,r'⟩) hok hg
theorem Inv.turned{t':Nat}(I:Inv X K5 σ H s)(k:∀b o,b≠it->s.heap.get? b=some o->h'.get? b=some o)(hn:H it=none)(hL:it≠X.env.locals)
  (h1:it∈X.ex\/X.s₀.heap.objs.size<=it)(h2:∀x c,X.env.cells.lookup x=some c->c≠it)(h3:∀p∈X.pn++K5,p.1≠it):Inv X K5 σ H {s with heap:=h',toks:=t' }:=by
 have nit:∀b u,H b=some u->b≠it:=λb u e z=>by rw[z,hn]at e;cases e
 refine I.step (g':=s.gens) (d':=s.drawn) (ch:=[it]) (λb hb=>?_) (λb o _ _ hc e _=>k b o (λz=>hc (by simp[z])) e) (λb o _ _ hc e _=>⟨o.slots,k b o (λz=>hc (by simp[z])) e⟩) (λ_ _ _ _ n=>n)
  (λb o hc e=>⟨o,k b o (λz=>hc (by simp[z])) e⟩) (λ_ _ e=>e) (λ_ _ _ e=>e) (λb ps e=>⟨#[],by rw[e];simp⟩) (λm hm=>?_) (λb u e=>?_) I.bare
 .have e:b=it:=by simpa using hb
  subst e;exact⟨h1,hL,h2,h3⟩
 .obtain⟨o,es,ep,ho,r⟩:=hm;exact⟨o,es,ep,k _ o (G5 hL) ho,r⟩
 .refine(I.hok b u e).stay (λc v hc q=>k c v ?_ q) (λ_ q=>q) λ_ _ q=>q;rcases hc with z | z
  .rw[z];exact nit b u e
  .exact nit c _ z
theorem Inv.tok(I:Inv X K5 σ H s)(t:Nat):Inv X K5 σ H {s with toks:=t}:=I.un (h':=s.heap) (t':=t) Un.refl I.hok
theorem Inv.kept{t':Nat}(I:Inv X K5 σ H s)(k:∀b u,s.heap.get? b=some u->h'.get? b=some u):Inv X K5 σ H {s with heap:=h',toks:=t' }:=I.un (Un.kept k) (I.hok.kept k)
theorem Inv.laid{t':Nat}(I:Inv X K5 σ H s)(k:∀b u,s.heap.get? b=some u->h'.get? b=some u)(hp:s.heap.objs.size<=a)(new:cP X.prog X.w (upd H a o) h' a o) :
  Inv X K5 σ (upd H a o) {s with heap:=h',toks:=t' }:=I.un (Un.laid k hp (I.hok.fresh hp)) (I.hok.laid k hp new)
theorem Inv.write{x e:Addr}{t':Nat}(I:Inv X K5 σ H s)(mu:Wi (H x))(he:e=x\/H e=some (.own x))(k:∀b u,b≠e->s.heap.get? b=some u->h'.get? b=some u)(Tx:∃u,h'.get? e=some u)
  (new:cP X.prog X.w (upd H x o) h' x o):Inv X K5 σ (upd H x o) {s with heap:=h',toks:=t' }:=I.un (Un.write mu he k Tx) (I.hok.write mu he k Tx new)
theorem Inv.pins_of(I:Inv X K5 σ H s)(h:∀p∈P4,s.heap.get? p.1=some p.2/\H p.1=none/\p.1≠X.env.locals/\p.1 ∉ X.fs/\∀v,p.2.data≠.cell v):Inv X P4 σ H s:=
 ⟨I.ok,I.os,I.bare,I.base,I.loc,I.cell,I.free,I.freeC,λp hp=>(j6.mp hp).elim (λz=>I.pin p (A5 _ z)) (h p),I.hok,I.len⟩
theorem yt(hN:N.Nodup){i j:Nat}(a:N[i]?=some x)(b:N[j]?=some x):i=j:=by
 obtain⟨h1,e1⟩:=d6.mp a;obtain⟨h2,e2⟩:=d6.mp b;exact(List.getElem_inj hN).mp (e1.trans e2.symm)
theorem Dj{E:Value->Shared->Prop}{i:Nat}{v:V}{Q:Unit->Shared->Prop}(I:Inv X K5 σ H s)(hN:X.N.Nodup)(hi:X.N[i]?=some x)(hx:Loc X.env.scope x)(r:RelV v u)
  (h:∀s',Inv X K5 (σ.set i (some v)) H s'->(∃a,Heap.SameBut a s.heap s'.heap/\(a=X.env.locals\/X.env.cells.lookup x=some a))->Q () s')(hf:X.fn x=true\/X.env.scope.names.lookup x=some .local:=by first | exact .inl rfl | exact .inr rfl | assumption):wpAny M A (storeName X.env x u) Q E s:=by
 obtain⟨m,hn,hl⟩:=id I.loc;have YZ:(X.env.scope.kind == .class || (X.env.scope.kind == .module && X.env.locals != X.env.globals))=false:=by rw[I.ok.kind];rfl
 have hiσ:i<σ.length:=by rw[I.len];exact(d6.mp hi).1
 have cne:=I.cne
 have tracked:∀{a:Addr}{h':Heap},(∃o,s.heap.get? a=some o/\H a=none)->Heap.SameBut a s.heap h'->Lq X.prog X.w H h':=λ{a h'} ha hs b ob e=>by
  obtain⟨_,_,Qf⟩:=ha;refine(I.hok b ob e).stay (λc w' hc q=>(hs.2 c ?_).trans q) (λ_ q=>q) λ_ _ q=>q;rintro rfl
  rcases hc with rfl | hc
  .rw[Qf]at e;cases e
  .rw[Qf]at hc;cases hc
 rcases hx with hk | hk
 .refine wpAny_storeName_local hk hn (λh' hn' hs=>?_) YZ;obtain⟨oL,_,_,hoL,_⟩:=id hn;refine h _ ⟨I.ok,I.os,I.bare,⟨λb o e n hb hx=>?_,λb o e n hb hx=>?_,I.base.free,λb o e hx=>?_,I.base.tups,I.base.frzs,I.base.tbls⟩,⟨_,hn',λj y v' e1 e2 e3=>?_⟩,λy c e=>?_,I.free,I.freeC,λp hp=>?_,tracked ⟨oL,hoL,I.free⟩ hs,by simpa using I.len⟩ ⟨_,hs,.inl rfl⟩
  .exact(hs.2 b (z6 (i5 (l6 e) I.ok.above))).trans (I.base.keep b o e n hb hx)
  .obtain⟨sl,e1⟩:=I.base.slot b o e n hb hx;exact⟨sl,(hs.2 b (z6 (i5 (l6 e) I.ok.above))).trans e1⟩
  .obtain⟨o',e1⟩:=I.base.there b o e hx;exact⟨o',(hs.2 b (z6 (i5 (l6 e) I.ok.above))).trans e1⟩
  .by_cases hj:j=i
   .subst hj;rw[hi]at e1;cases e1
    rw[List.getElem?_set_self hiσ]at e2;cases e2
    exact⟨u,r,.inl ⟨hk,by simp⟩⟩
   .rw[List.getElem?_set_ne (G5 hj)]at e2;obtain⟨u',r',q⟩:=hl j y v' e1 e2 e3;refine⟨u',r',?_⟩;rcases q with⟨k,e⟩ | ⟨k,c,e,z⟩
    .refine .inl ⟨k,?_⟩;have:y≠x:=λe=>hj (yt hN e1 (e ▸ hi));simp[this,e]
    .exact .inr ⟨k,c,e,z.sameBut hs (cne y c e)⟩
  .obtain⟨w',z⟩:=I.cell y c e;exact⟨w',z.sameBut hs (cne y c e)⟩
  .obtain⟨e,n,ne,nf,d⟩:=I.pin p hp;exact⟨(hs.2 p.1 ne).trans e,n,ne,nf,d⟩
 .have YY:X.fn x=true:=by
   rcases hf with z | z
   .exact z
   .rw[z]at hk;cases hk
  obtain⟨c,hc⟩:=I.ok.has x (.inl hk);obtain⟨w',z⟩:=I.cell x c hc;refine wpAny_storeName_cell I.ok.kind hk hc z (λh' L6 hs=>?_);obtain⟨oc,hoc,YM⟩:=id z;refine h {s with heap:=h' } ⟨I.ok,I.os,I.bare,⟨λb o e n hb hx=>?_,λb o e n hb hx=>?_,I.base.free,λb o e hx=>?_,I.base.tups,I.base.frzs,I.base.tbls⟩,⟨m,hn.sameBut hs (G5 (cne x c hc)),λj y v' e1 e2 e3=>?_⟩,λy c' e=>?_,I.free,I.freeC,λp hp=>?_,tracked ⟨oc,hoc,I.freeC x c hc⟩ hs,by simpa using I.len⟩ ⟨c,hs,.inr hc⟩
  .exact(hs.2 b (z6 (i5 (l6 e) (I.ok.cab x c YY hc)))).trans (I.base.keep b o e n hb hx)
  .obtain⟨sl,e1⟩:=I.base.slot b o e n hb hx;exact⟨sl,(hs.2 b (z6 (i5 (l6 e) (I.ok.cab x c YY hc)))).trans e1⟩
  .obtain⟨o',e1⟩:=I.base.there b o e hx;exact⟨o',(hs.2 b (z6 (i5 (l6 e) (I.ok.cab x c YY hc)))).trans e1⟩
  .by_cases hj:j=i
   .subst hj;rw[hi]at e1;cases e1
    rw[List.getElem?_set_self hiσ]at e2;cases e2
    exact⟨u,r,.inr ⟨.inl hk,c,hc,L6⟩⟩
   .rw[List.getElem?_set_ne (G5 hj)]at e2;obtain⟨u',r',q⟩:=hl j y v' e1 e2 e3;refine⟨u',r',?_⟩;rcases q with q | ⟨k,c',e,z'⟩
    .exact .inl q
    .refine .inr ⟨k,c',e,z'.sameBut hs ?_⟩;rintro rfl
     exact hj (yt hN e1 (I.ok.inj _ _ _ e hc ▸ hi))
  .by_cases W3:c'=c
   .subst W3;exact⟨_,L6⟩
   .obtain⟨w2,z2⟩:=I.cell y c' e;exact⟨w2,z2.sameBut hs W3⟩
  .obtain⟨e,n,ne,nf,d⟩:=I.pin p hp;refine⟨(hs.2 p.1 ?_).trans e,n,ne,nf,d⟩;intro q;rw[q,hoc]at e;have q':oc=p.2:=j8 e;exact d w' (by rw[<- q'];exact YM)
theorem qT{E:Value->Shared->Prop}{i:Nat}{v:V}{Q:Unit->Shared->Prop}(I:Inv X K5 σ H s)(hN:X.N.Nodup)(hi:X.N[i]?=some x)(hx:Loc X.env.scope x)(r:RelV v u)
  (h:∀s',Inv X K5 (σ.set i (some v)) H s'->Q () s')(hf:X.fn x=true\/X.env.scope.names.lookup x=some .local:=by first | exact .inl rfl | exact .inr rfl | assumption):wpAny M A (storeName X.env x u) Q E s:=
 Dj I hN hi hx r (λs' I' _=>h s' I') hf
theorem Inv.call'(I:Inv X K5 σ H s)(ho:s'.os=s.os)(u:Un (LF X.stack) ch H H' s.heap s'.heap)(hok:Lq X.prog X.w H' s'.heap)(hg:AllBare s'.gens)
  (NQ:∀b∈ch,(b∈X.ex\/X.s₀.heap.objs.size<=b)/\b≠X.env.locals/\(∀x c,X.env.cells.lookup x=some c->c≠b)/\∀p∈X.pn++K5,p.1≠b):Inv X K5 σ H' s':=by
 obtain⟨h',g',d',t',o'⟩:=s';have e:o'=s.os:=ho;subst e;exact I.call (g':=g') (t':=t') (d':=d') u hok hg NQ
end
noncomputable abbrev XK:=Value->Option Addr->Hp->Prop
noncomputable abbrev St:=List (Option V)
noncomputable abbrev VK:=V->Hp->Prop
noncomputable abbrev TE:=St->Hp->VK->Prop
noncomputable abbrev TT:=St->Hp->(Bool->Hp->Prop)->Prop
noncomputable abbrev TA:=St->Hp->(List V->Hp->Prop)->Prop
structure Ends where
 nx:St->Hp->Prop
 rt:VK
 bk:St->Hp->Prop:=λ_ _=>False
 ct:St->Hp->Prop:=λ_ _=>False
noncomputable abbrev TS:=Ends->St->Hp->Prop
def EP(X:Cx)(K5:List (Addr×Obj))(σ:St)(Q:VK)(u:Value)(s':Shared):Prop:=∃v H',Inv X K5 σ H' s'/\RelV v u/\Q v H'
def TP(X:Cx)(K5:List (Addr×Obj))(σ:St)(Q:Bool->Hp->Prop)(b:Bool)(s':Shared):Prop:=∃H',Inv X K5 σ H' s'/\Q b H'
def AP(X:Cx)(K5:List (Addr×Obj))(σ:St)(Q:List V->Hp->Prop)(us:List Value)(s':Shared):Prop:=∃vs H',Inv X K5 σ H' s'/\Vals vs us/\Q vs H'
def SP(X:Cx)(K5:List (Addr×Obj))(D:Ends)(f:Flow)(s':Shared):Prop:=
 match f with
 | .next=>∃σ' H',Inv X K5 σ' H' s'/\D.nx σ' H'
 | .brk=>∃σ' H',Inv X K5 σ' H' s'/\D.bk σ' H'
 | .cont=>∃σ' H',Inv X K5 σ' H' s'/\D.ct σ' H'
 | .ret u=>∃v σ' H',Inv X K5 σ' H' s'/\RelV v u/\D.rt v H'
def PE(X:Cx)(e:Expr)(t:TE):Prop:=
 ∀(K5:List (Addr×Obj))(s:Shared)(σ:St)(H:Hp)(Q:VK),Inv X K5 σ H s->t σ H Q->wpAny (model X.prog X.w) X.A (eval e X.env) (EP X K5 σ Q) X.xe s
def PT(X:Cx)(e:Expr)(t:TT):Prop:=
 ∀(K5:List (Addr×Obj))(s:Shared)(σ:St)(H:Hp)(Q:Bool->Hp->Prop),Inv X K5 σ H s->t σ H Q->wpAny (model X.prog X.w) X.A (isTrue e X.env (eval e X.env)) (TP X K5 σ Q) X.xe s
def PW(X:Cx)(e:Expr)(t:TT):Prop:=
 ∀(whole:Sem Value)(K5:List (Addr×Obj))(s:Shared)(σ:St)(H:Hp)(Q:Bool->Hp->Prop),Inv X K5 σ H s->t σ H Q->wpAny (model X.prog X.w) X.A (isTrue e X.env whole) (TP X K5 σ Q) X.xe s
theorem PW.pt{t:TT}(h:PW X e t):PT X e t:=h _
def PA(X:Cx)(es:List Expr)(t:TA):Prop:=
 ∀(pos:Pos)(K5:List (Addr×Obj))(s:Shared)(σ:St)(H:Hp)(Q:List V->Hp->Prop),Inv X K5 σ H s->t σ H Q->wpAny (model X.prog X.w) X.A (spliced (backTo pos (starEach es X.env))) (AP X K5 σ Q) X.xe s
def PS(X:Cx)(st:Stmt)(t:TS):Prop:=
 ∀(K5:List (Addr×Obj))(s:Shared)(σ:St)(H:Hp)(D:Ends),Inv X K5 σ H s->t D σ H->wpAny (model X.prog X.w) X.A (exec st X.env) (SP X K5 D) X.xe s
def Lr(X:Cx)(st:List Stmt)(t:TS):Prop:=
 ∀(K5:List (Addr×Obj))(s:Shared)(σ:St)(H:Hp)(D:Ends),Inv X K5 σ H s->t D σ H->wpAny (model X.prog X.w) X.A (execs st X.env) (SP X K5 D) X.xe s
theorem Lb{α:Type}{t:Sem α}{Q Q':α->Shared->Prop}{E:Value->Shared->Prop}{s:Shared}(h:wpAny M A t Q E s)(hQ:∀a s,Q a s->Q' a s):wpAny M A t Q' E s:=E7 h hQ λ_ _ x=>x
section
variable{X:Cx}
theorem bin{a b:Expr}{ta tb:TE}(ha:PE X a ta)(hb:PE X b tb){s:Shared}{H:Hp}{R:V->V->Hp->Prop}(I:Inv X K5 σ H s)(h:ta σ H λx H1=>tb σ H1 λy H2=>R x y H2)
  {α:Type}{Q:α->Shared->Prop}{f:Value->Value->Sem α}
  (hf:∀v u s2 x y H2,Inv X K5 σ H2 s2->RelV x v->RelV y u->R x y H2->wpAny (model X.prog X.w) X.A (f v u) Q X.xe s2) :
  wpAny (model X.prog X.w) X.A (eval a X.env) (λv s₁=>wpAny (model X.prog X.w) X.A (eval b X.env) (λu s₂=>wpAny (model X.prog X.w) X.A (f v u) Q X.xe s₂) X.xe s₁) X.xe s:=by
 refine Lb (ha K5 s σ H _ I h) λv s1 zz=>?_;obtain⟨x,H1,I1,r1,q1⟩:=zz;refine Lb (hb K5 s1 σ H1 _ I1 q1) λu s2 zz=>?_;obtain⟨y,H2,I2,r2,q2⟩:=zz;exact hf v u s2 x y H2 I2 r1 r2 q2
inductive Qx(i:Nat)(σ:St)(H:Hp)(Q:VK):Prop where
 | mk (v:V) (TX:σ[i]?=some (some v)) (TV:Q v H):Qx i σ H Q
def Fg(i:Nat):TE:=λσ H Q=>Qx i σ H Q
inductive Wb(x:V)(P:Bool->Prop):Prop where
 | mk (c:Bool) (e:x=.bl c) (q:P c):Wb x P
def tC(v:V):TE:=λ_ H Q=>Q v H
theorem Gu{i:Nat}(hN:X.N[i]?=some x)(hv:SW X.env.scope x)(hd:(x==("__debug__":Str))=false:=by decide)(hcd:(x==("__classdict__":Str))=false:=by decide):PE X (.Name x pos) (Fg i):=by
 intro K5 s σ H Q I h;obtain⟨v,e,h⟩:=h;obtain⟨m,hn,hl⟩:=I.loc;obtain⟨u,r,l⟩:=hl i x v hN e hv;have fin:EP X K5 σ Q u s:=⟨v,H,I,r,h⟩;rcases l with⟨hk,hm⟩ | ⟨hk,c,hc,Lc⟩
 .exact wpAny_Name (wpAny_loadName_local I.ok.kind hk hn hm fin) hd
 .rcases hk with hk | hk
  .exact wpAny_Name (wpAny_loadName_cell I.ok.kind hk hc Lc fin) hd
  .exact wpAny_Name (wpAny_loadName_free I.ok.kind hk hc Lc fin hcd) hd
theorem aq{i j pos}:PE X (.Constant (.int i) j pos) (tC (.int i)):=λ_ _ _ H _ I h=>wpAny_Constant_int ⟨.int i,H,I.tok _,⟨_,rfl⟩,h⟩
theorem iJ{b j pos}:PE X (.Constant (.bool b) j pos) (tC (.bl b)):=λ_ _ _ H _ I h=>Constant_bool ⟨.bl b,H,I,rfl,h⟩
theorem bN{j pos}:PE X (.Constant .none j pos) (tC .non):=λ_ _ _ H _ I h=>Constant_none ⟨.non,H,I,rfl,h⟩
theorem aQ{x j pos}:PE X (.Constant (.str x) j pos) (tC (.str x)):=λ_ _ _ H _ I h=>Calls.Constant_str ⟨.str x,H,I.tok _,⟨_,rfl⟩,h⟩
def Gl(X:Cx)(x:Str):Prop:=X.env.kindOf x=some .globalImplicit
theorem lM{E:Value->Shared->Prop}{s:Shared}{H:Hp}{Q:Value->Shared->Prop}(I:Inv X K5 σ H s)(hg:Gl X x)(hm:X.mg x=some u)(h:Q u s)
  (hd:(x==("__debug__":Str))=false:=by decide):wpAny (model X.prog X.w) X.A (eval (.Name x pos) X.env) Q E s:=
 Calls.Name_function_global I.ok.kind hg (Calls.loadGlobal_global (by rw[I.ok.glob];exact I.mod.glob.keeps I.bk) hm h) hd
theorem kT{E:Value->Shared->Prop}{s:Shared}{H:Hp}{Q:Value->Shared->Prop}(I:Inv X K5 σ H s)(hg:Gl X x)(hm:X.mg x=none)(hv:bootBuiltins x=some u)(h:Q u s)
  (hn:x≠"__name__":=by decide)(hd:(x==("__debug__":Str))=false:=by decide):wpAny (model X.prog X.w) X.A (eval (.Name x pos) X.env) Q E s:=by
 obtain⟨mb,h1,h2⟩:=I.mod.blt;exact Calls.Name_function_global I.ok.kind hg (Calls.loadGlobal_builtin (by rw[I.ok.glob];exact I.mod.glob.keeps I.bk) hm (by rw[I.ok.blt];exact h1.keeps I.bk) ((h2 x hn).trans hv) h) hd
theorem cV{v:V}(hg:Gl X x)(hm:X.mg x=some u)(r:RelV v u)(hd:(x==("__debug__":Str))=false:=by decide):PE X (.Name x pos) (tC v):=
 λ_ _ _ H _ I h=>lM I hg hm ⟨v,H,I,r,h⟩ hd
theorem gP{v:V}(hg:Gl X x)(hm:X.mg x=none)(hv:bootBuiltins x=some u)(r:RelV v u)(hn:x≠"__name__":=by decide)(hd:(x==("__debug__":Str))=false:=by decide):PE X (.Name x pos) (tC v):=
 λ_ _ _ H _ I h=>kT I hg hm hv ⟨v,H,I,r,h⟩ hn hd
variable{a b:Expr}{ta tb:TE}{pos:Pos}
def PC(X:Cx)(op:CmpOp)(a b:Expr)(t:TE):Prop:=
 ∀(
  K5:List (Addr×Obj)) (s:Shared) (σ:St) (H:Hp) (Q:VK),Inv X K5 σ H s->t σ H Q->
  wpAny (model X.prog X.w) X.A (eval a X.env) (λv s₁=>wpAny (model X.prog X.w) X.A (eval b X.env) (λu s₂=>wpAny (model X.prog X.w) X.A (compareOp op v u) (EP X K5 σ Q) X.xe s₂) X.xe s₁) X.xe s
def tB(t:TE):TT:=λσ H Q=>t σ H λx H1=>Wb x λc=>Q c H1
theorem Rf{t:TE}(h:PC X op a b t)(h1:behindInMarks op b=false:=by first | exact UR _ (by decide) (by decide) | rfl):PT X (.Compare a [op] [b] pos) (tB t):=by
 intro K5 s σ H Q I hw;refine wpAny_isTrue_Compare1 (Lb (h K5 s σ H _ I hw) λv s1 h1=>Lb h1 λu s2 h2=>Lb h2 λc s3 zz=>?_) h1;obtain⟨x,H1,I1,r1,q1⟩:=zz;obtain⟨d,rfl,q⟩:=q1;cases r1
 exact B8 ⟨H1,I1,q⟩
theorem eB{t:TE}(h:PE X e t)(he:∀whole,isTrue e X.env whole=(do let v <- whole;standAt e.pos;holding [v] (truthy v)):=by intro _;rfl):PT X e (tB t):=by
 intro K5 s σ H Q I hw;refine isTrue_plain (Lb (h K5 s σ H _ I hw) λv s1 zz=>?_) (he _);obtain⟨x,H1,I1,r1,q1⟩:=zz;obtain⟨d,rfl,q⟩:=q1;cases r1
 exact B8 ⟨H1,I1,q⟩
variable{tA WC:TT}{rest:List Expr}
def XD(t u:TT):TT:=λσ H Q=>t σ H λc H1=>if c=true then u σ H1 Q else Q false H1
def tOr(t u:TT):TT:=λσ H Q=>t σ H λc H1=>if c=true then Q true H1 else u σ H1 Q
def Ub(t:TT):TT:=λσ H Q=>t σ H λc H1=>Q (!c) H1
theorem wk(ha:PT X a tA):PW X (.BoolOp .And [a] pos) tA:=by
 intro wh K5 s σ H Q I h;refine isTrue_and (Lb (ha K5 s σ H Q I h) λc s1 e=>?_);cases c with
 | true=>exact isTrue_and_nil e
 | false=>exact e
theorem hZ(ha:PT X a tA):PW X (.BoolOp .Or [a] pos) tA:=by
 intro wh K5 s σ H Q I h;refine isTrue_or (Lb (ha K5 s σ H Q I h) λc s1 e=>?_);cases c with
 | false=>exact isTrue_or_nil e
 | true=>exact e
theorem Ab(ha:PT X a tA)(hb:PW X (.BoolOp .And (b::rest) pos) WC):PW X (.BoolOp .And (a::b::rest) pos) (XD tA WC):=by
 intro wh K5 s σ H Q I h;refine isTrue_and (Lb (ha K5 s σ H _ I h) λc s1 zz=>?_);obtain⟨H1,I1,q1⟩:=zz;cases c with
 | true=>exact hb wh K5 s1 σ H1 Q I1 q1
 | false=>exact⟨H1,I1,q1⟩
theorem gW(ha:PT X a tA)(hb:PW X (.BoolOp .Or (b::rest) pos) WC):PW X (.BoolOp .Or (a::b::rest) pos) (tOr tA WC):=by
 intro wh K5 s σ H Q I h;refine isTrue_or (Lb (ha K5 s σ H _ I h) λc s1 zz=>?_);obtain⟨H1,I1,q1⟩:=zz;cases c with
 | true=>exact⟨H1,I1,q1⟩
 | false=>exact hb wh K5 s1 σ H1 Q I1 q1
theorem fM(ha:PT X a tA):PT X (.UnaryOp .Not a pos) (Ub tA):=by
 intro K5 s σ H Q I h;exact isTrue_not (ha K5 s σ H (λc H1=>Q (!c) H1) I h)
def Ug(ta tb:TE):TE:=λσ H Q=>ta σ H λx H1=>Wb x λc=>if c=true then tb σ H1 Q else Q (.bl false) H1
def Ua(ta:TE):TE:=λσ H Q=>ta σ H λx H1=>Wb x λc=>Q (.bl (!c)) H1
theorem mQ{op}{t:TE}(h:PE X a t):PE X (.BoolOp op [a] pos) t:=λK5 s σ H Q I hw=>BoolOp_one (h K5 s σ H Q I hw)
theorem jh(ha:PE X a ta)(hb:PE X (.BoolOp .And (b::rest) pos) tb):PE X (.BoolOp .And (a::b::rest) pos) (Ug ta tb):=by
 intro K5 s σ H Q I h;refine BoolOp_and (Lb (ha K5 s σ H _ I h) λv s1 zz=>?_);obtain⟨x,H1,I1,r1,q1⟩:=zz;obtain⟨c,rfl,q1⟩:=q1;cases r1
 refine B8 ?_;cases c with
 | true=>exact hb K5 s1 σ H1 Q I1 q1
 | false=>exact⟨.bl false,H1,I1,rfl,q1⟩
theorem Gv(ha:PE X a ta):PE X (.UnaryOp .Not a pos) (Ua ta):=by
 intro K5 s σ H Q I h;refine UnaryOp_ (Lb (ha K5 s σ H _ I h) λv s1 zz=>?_);obtain⟨x,H1,I1,r1,q1⟩:=zz;obtain⟨c,rfl,q1⟩:=q1;cases r1
 exact not_of (B8 ⟨.bl (!c),H1,I1,rfl,q1⟩)
def tIf(t:TT)(ta tb:TE):TE:=λσ H Q=>t σ H λc H1=>if c=true then ta σ H1 Q else tb σ H1 Q
theorem kP(hc:PT X c tA)(ha:PE X a ta)(hb:PE X b tb):PE X (.IfExp c a b pos) (tIf tA ta tb):=by
 intro K5 s σ H Q I h;refine wpAny_IfExp (Lb (hc K5 s σ H _ I h) λd s1 zz=>?_);obtain⟨H1,I1,q1⟩:=zz;cases d with
 | true=>exact ha K5 s1 σ H1 Q I1 q1
 | false=>exact hb K5 s1 σ H1 Q I1 q1
end
def K7(K:W.Frag)(H:Hp)(a:Addr)(xs:List V):Prop:=
 Rd H a (.lst xs)\/
  ∃(o:Obj)(its:Array Value)(n:Nat),K.lookup a=some o/\o.cls=.type "list"/\o.dict=none/\o.data=.seq its n/\its.size<=sizeLine/\Vals xs its.toList
def K6(K:W.Frag)(H:Hp)(a:Addr)(xs:List V):Prop:=
 Rd H a (.tup xs)\/
  ∃(o:Obj)(its:Array Value)(n:Nat),K.lookup a=some o/\o.cls=.type "tuple"/\o.data=.seq its n/\its.size<=sizeLine/\Vals xs its.toList
noncomputable def ZH:Value->Option V
 | .none=>some .non
 | .bool b=>some (.bl b)
 | .int i _=>some (.int i)
 | .str x _=>some (.str x)
 | .bytes b _=>some (.byt b)
 | .float b _=>some (.flt b)
 | .ref a=>some (.ref a)
 | .type n=>some (.ty n)
 | _=>none
theorem RelV.abs{x:V}(r:RelV x u):ZH u=some x:=by
 cases x with
 | non=>cases r;rfl
 | bl _=>cases r;rfl
 | int _=>obtain⟨t,rfl⟩:=r;rfl
 | str _=>obtain⟨t,rfl⟩:=r;rfl
 | byt _=>obtain⟨t,rfl⟩:=r;rfl
 | flt _=>obtain⟨t,rfl⟩:=r;rfl
 | ref _=>cases r;rfl
 | ty _=>cases r;rfl
theorem RelV.inj{x y:V}(r:RelV x u)(q:RelV y u):x=y:=j8 (r.abs.symm.trans q.abs)
theorem Vals.inj:∀{xs ys:List V}{us:List Value},Vals xs us->Vals ys us->xs=ys
 | _,_,_,.nil,.nil=>rfl
 | _,_,_,.cons r t,.cons r' t'=>by rw[r.inj r',Vals.inj t t']
section
variable{X:Cx}{K5:List (Addr×Obj)}{σ:St}{H:Hp}{s:Shared}{a:Addr}{xs ys:List V}
theorem K7.of{K:W.Frag}(h:H a=some (.lst xs)):K7 K H a xs:=.inl (.inl h)
theorem K6.of{K:W.Frag}(h:H a=some (.tup xs)):K6 K H a xs:=.inl (.inl h)
theorem Inv.list(I:Inv X K5 σ H s)(h:K7 X.K H a xs):∃its:List Value,Vals xs its/\PlainL s.heap a its.toArray/\xs.length<=sizeLine:=by
 rcases h with h | ⟨o,its,n,hk,hc,hd,hs,hz,r⟩
 .obtain⟨z,its,n,r,e⟩:=h.ok I.hok;exact⟨its,r,⟨_,n,e,rfl,rfl,rfl⟩,z⟩
 .refine⟨its.toList,r,⟨o,n,I.kIn a o hk,hc,hd,by simpa using hs⟩,?_⟩;have e:=r.length;simp only[A9]at e;omega
theorem Inv.tuple(I:Inv X K5 σ H s)(h:K6 X.K H a xs):∃its:List Value,Vals xs its/\IsTup s.heap a its.toArray/\xs.length<=sizeLine:=by
 rcases h with h | ⟨o,its,n,hk,hc,hs,hz,r⟩
 .obtain⟨z,its,r,p⟩:=h.ok I.hok;exact⟨its,r,p,z⟩
 .refine⟨its.toList,r,⟨o,I.kIn a o hk,hc,n,by simpa using hs⟩,?_⟩;have e:=r.length;simp only[A9]at e;omega
theorem Inv.list_inj(I:Inv X K5 σ H s)(h:K7 X.K H a xs)(h':K7 X.K H a ys):xs=ys:=by
 obtain⟨its,r,⟨o,n,e,_,_,d⟩,_⟩:=I.list h;obtain⟨its',r',⟨o',n',e',_,_,d'⟩,_⟩:=I.list h';rw[e]at e';cases e'
 rw[d]at d';injection d' with d1 _
 have:its=its':=by simpa using x9 Array.toList d1
 subst this;exact r.inj r'
theorem Inv.tuple_inj(I:Inv X K5 σ H s)(h:K6 X.K H a xs)(h':K6 X.K H a ys):xs=ys:=by
 obtain⟨its,r,⟨o,e,_,n,d⟩,_⟩:=I.tuple h;obtain⟨its',r',⟨o',e',_,n',d'⟩,_⟩:=I.tuple h';rw[e]at e';cases e'
 rw[d]at d';injection d' with d1 _
 have:its=its':=by simpa using x9 Array.toList d1
 subst this;exact r.inj r'
end
noncomputable abbrev Cx.wish (X:Cx) (E:Value->Shared->Prop):Cx:={X with xe:=E}
noncomputable abbrev Cx.nox (X:Cx):Cx:=X.wish λ_ _=>False
theorem Cx.Ok.wish(ok:X.Ok)(E:Value->Shared->Prop):(X.wish E).Ok:=
 ⟨ok.mod,ok.kind,ok.glob,ok.blt,ok.above,ok.inj,ok.has,ok.cab,ok.hd,ok.frames,ok.stk,ok.exf,ok.bs,ok.bsz,ok.noex,ok.exfs,ok.funs,ok.frf⟩
theorem Cx.Ok.unwish{E:Value->Shared->Prop}(ok:(X.wish E).Ok):X.Ok:=
 ⟨ok.mod,ok.kind,ok.glob,ok.blt,ok.above,ok.inj,ok.has,ok.cab,ok.hd,ok.frames,ok.stk,ok.exf,ok.bs,ok.bsz,ok.noex,ok.exfs,ok.funs,ok.frf⟩
section
variable{X:Cx}{K5:List (Addr×Obj)}{σ:St}{H:Hp}{s:Shared}{E:Value->Shared->Prop}
theorem Inv.wish(I:Inv X K5 σ H s)(E:Value->Shared->Prop):Inv (X.wish E) K5 σ H s:=⟨I.ok.wish E,I.os,I.bare,I.base,I.loc,I.cell,I.free,I.freeC,I.pin,I.hok,I.len⟩
theorem Inv.unwish(I:Inv (X.wish E) K5 σ H s):Inv X K5 σ H s:=⟨I.ok.unwish,I.os,I.bare,I.base,I.loc,I.cell,I.free,I.freeC,I.pin,I.hok,I.len⟩
theorem SP.unwish{f:Flow}(h:SP (X.wish E) K5 D f s'):SP X K5 D f s':=by
 cases f with
 | next=>obtain⟨σ',H',I,q⟩:=h;exact⟨σ',H',I.unwish,q⟩
 | brk=>obtain⟨σ',H',I,q⟩:=h;exact⟨σ',H',I.unwish,q⟩
 | cont=>obtain⟨σ',H',I,q⟩:=h;exact⟨σ',H',I.unwish,q⟩
 | ret u=>obtain⟨v,σ',H',I,r,q⟩:=h;exact⟨v,σ',H',I.unwish,r,q⟩
theorem Lr.nox{t:TS}(h:Lr X.nox st t):Lr X st t:=λK5 s σ H D I hw =>
 E7 (h K5 s σ H D (I.wish _) hw) (λ_ _ q=>q.unwish) λ_ _ z=>False.elim z
end
section
variable{X:Cx}{st:Stmt}{rest:List Stmt}{t u:TS}{e:Expr}{te:TE}{pos:Pos}
def Bv:TS:=λD σ H=>D.nx σ H
def vB(t u:TS):TS:=λD σ H=>t {D with nx:=u D} σ H
theorem aL:Lr X [] Bv:=λ_ _ σ H _ I h=>JX ⟨σ,H,I,h⟩
theorem ah(h1:PS X st t)(h2:Lr X rest u):Lr X (st::rest) (vB t u):=by
 intro K5 s σ H D I h;refine wpAny_execs_cons (Lb (h1 K5 s σ H {D with nx:=u D} I h) λf s1 q=>?_)
 cases f with
 | next =>
  obtain⟨σ',H',I',q⟩:=q;exact h2 K5 s1 σ' H' D I' q
 | ret v=>exact q
 | brk=>exact q
 | cont=>exact q
theorem ao(h1:PS X st t):Lr X [st] t:=by
 intro K5 s σ H D I h;refine wpAny_execs_cons (Lb (h1 K5 s σ H D I h) λf s1 q=>?_);cases f with
 | next=>exact JX q
 | ret v=>exact q
 | brk=>exact q
 | cont=>exact q
theorem Inv.quiet{H:Hp}{s:Shared}(I:Inv X K5 σ H s):interactive X.env=false:=by simp[interactive,I.ok.kind]
def Uc(te:TE):TS:=λD σ H=>te σ H λ_ H1=>D.nx σ H1
theorem bD(he:PE X e te)(hs:swapsWith e none pos.line X.env=pure false:=by rfl):PS X (.Expr e pos) (Uc te):=by
 intro K5 s σ H D I h;refine wpAny_Expr_any (Lb (he K5 s σ H _ I h) λv s1 zz=>?_) I.quiet hs;obtain⟨x,H1,I1,r1,q1⟩:=zz;exact⟨σ,H1,I1,q1⟩
def Fi(te:TE):TS:=λD σ H=>te σ H D.rt
theorem av(he:PE X e te):PS X (.Return (some e) pos) (Fi te):=by
 intro K5 s σ H D I h;refine wpAny_Return_some (Lb (he K5 s σ H _ I h) λv s1 zz=>?_);obtain⟨x,H1,I1,r1,q1⟩:=zz;exact⟨x,σ,H1,I1,r1,q1⟩
def N7(c:TT)(t u:TS):TS:=λD σ H=>c σ H λb H1=>if b=true then t D σ H1 else u D σ H1
theorem aS{a b:List Stmt}(hc:PT X c tc)(ha:Lr X a t)(hb:Lr X b u):PS X (.If c a b pos) (N7 tc t u):=by
 intro K5 s σ H D I h;refine wpAny_If (Lb (hc K5 s σ H _ I h) λd s1 zz=>?_);obtain⟨H1,I1,q1⟩:=zz;cases d with
 | true=>exact ha K5 s1 σ H1 D I1 q1
 | false=>exact hb K5 s1 σ H1 D I1 q1
def QK:TS:=λ_ _ _=>False
theorem yh:PS X st QK:=λ_ _ _ _ _ _ h=>h.elim
end
noncomputable abbrev TG:=V->St->Hp->(St->Hp->Prop)->Prop
noncomputable abbrev SY:=List V->St->Hp->(St->Hp->Prop)->Prop
def PG(X:Cx)(target:Expr)(t:TG):Prop:=
 ∀(
  K5:List (Addr×Obj)) (s:Shared) (σ:St) (H:Hp) (v:V) (u:Value) (Q:St->Hp->Prop),Inv X K5 σ H s->RelV v u->t v σ H Q->
  wpAny (model X.prog X.w) X.A (assign target X.env u) (λ_ s'=>∃σ' H',Inv X K5 σ' H' s'/\Q σ' H') X.xe s
def Wh(X:Cx)(ts:List Expr)(t:SY):Prop:=
 ∀(
  K5:List (Addr×Obj)) (s:Shared) (σ:St) (H:Hp) (vs:List V) (us:List Value) (Q:St->Hp->Prop),Inv X K5 σ H s->Vals vs us->t vs σ H Q->
  wpAny (model X.prog X.w) X.A (assignInOrder ((assignEach ts X.env).map (·.2)) us) (λ_ s'=>∃σ' H',Inv X K5 σ' H' s'/\Q σ' H') X.xe s
noncomputable abbrev Xm:=V->V->Hp->VK->Prop
def PIp(X:Cx)(op:Operator)(t:Xm):Prop:=
 ∀(
  K5:List (Addr×Obj)) (s:Shared) (σ:St) (H:Hp) (x y:V) (v u:Value) (Q:VK),Inv X K5 σ H s->RelV x v->RelV y u->t x y H Q->
  wpAny (model X.prog X.w) X.A (inplaceOp op v u) (EP X K5 σ Q) X.xe s
section
variable{X:Cx}{pos:Pos}
def kY(i:Nat):TG:=λv σ H Q=>Q (σ.set i (some v)) H
theorem aO{i:Nat}(hN:X.N.Nodup:=by assumption)(hi:X.N[i]?=some x:=by rfl)(hx:Loc X.env.scope x:=by first | exact Or.inl rfl | exact Or.inr rfl)(hf:X.fn x=true\/X.env.scope.names.lookup x=some .local:=by first | exact .inl rfl | exact .inr rfl | assumption):PG X (.Name x pos) (kY i):=by
 intro K5 s σ H v u Q I r h;exact wpAny_assign_Name (qT I hN hi hx r (λs' I'=>⟨_,H,I',h⟩) hf)
def VF:SY:=λvs σ H Q=>vs=[]/\Q σ H
def HW(t:TG)(u:SY):SY:=λvs σ H Q=>∃v r,vs=v::r/\t v σ H λσ' H'=>u r σ' H' Q
theorem di:Wh X [] VF:=by
 intro K5 s σ H vs us Q I r h;obtain⟨e,h⟩:=h;subst e;cases r
 exact assignInOrder_nil ⟨σ,H,I,h⟩
theorem aX{t:TG}{u:SY}(h1:PG X e t)(h2:Wh X es u)
  (hs:(assignEach (e::es) X.env).map (·.2)=assign e X.env::(assignEach es X.env).map (·.2):=by rfl):Wh X (e::es) (HW t u):=by
 intro K5 s σ H vs us Q I r h;obtain⟨v,vr,e1,h⟩:=h;subst e1;cases r with
 | cons r rr =>
  rw[hs];refine assignInOrder_cons (Lb (h1 K5 s σ H _ _ _ I r h) λ_ s1 zz=>?_);obtain⟨σ1,H1,I1,q1⟩:=zz;exact h2 K5 s1 σ1 H1 _ _ Q I1 rr q1
def Sh(K:W.Frag)(n:Nat)(t:SY):TG:=λv σ H Q=>∃a xs,v=.ref a/\K6 K H a xs/\xs.length=n/\t xs σ H Q
theorem iH{k:Nat}{t:SY}(hc:X.calm=true)(h:Wh X es t)
  (hn:(assignEach es X.env).length=n:=by rfl)(RP:(assignEach es X.env).findIdx? (·.1)=none:=by rfl):PG X (.Tuple es k pos) (Sh X.K n t):=by
 intro K5 s σ H v u Q I r hw;obtain⟨a,xs,e1,hq,hl,hw⟩:=hw;subst e1;cases r
 obtain⟨its,rv,ht,hz⟩:=I.tuple hq;refine assign_Tuple_tuple (I.ok.hd hc) ht (by simp[hn,<- hl,rv.length]) RP λh' hx=>?_;have I1:Inv X K5 σ H {s with heap:=h' }:=I.kept (t':=s.toks) λb o e=>hx b o (z6 (l6 e)) e
 exact h K5 _ σ H xs _ Q I1 (by simpa using rv) hw
def Fn(te:TE)(g:TG):TS:=λD σ H=>te σ H λx H1=>g x σ H1 D.nx
theorem sk{g:TG}(he:PE X e te)(hg:PG X tg g)(hs:swapsWithSole [tg] e pos.line X.env=pure false:=by rfl)(hw:swappedStores [tg] e X.env=pure none:=by rfl)
  (h1:(assignEach [tg] X.env).map (·.2)=[assign tg X.env]:=by rfl):PS X (.Assign [tg] e pos) (Fn te g):=by
 intro K5 s σ H D I h;refine wpAny_Assign_stores (Lb (he K5 s σ H _ I h) λv s1 zz=>?_) hs hw;obtain⟨x,H1,I1,r1,q1⟩:=zz;rw[h1];exact Lb (hg K5 s1 σ H1 x v _ I1 r1 q1) λ_ s2 q=>q
theorem aI{i:Nat}(he:PE X e te)(hN:X.N.Nodup:=by assumption)(hi:X.N[i]?=some x:=by rfl)(hx:Loc X.env.scope x:=by first | exact Or.inl rfl | exact Or.inr rfl)(hs:swapsWith e (some (.Name x pos')) pos.line X.env=pure false:=by rfl)(hf:X.fn x=true\/X.env.scope.names.lookup x=some .local:=by first | exact .inl rfl | exact .inr rfl | assumption) :
  PS X (.Assign [.Name x pos'] e pos) (Fn te (kY i)):=by
 intro K5 s σ H D I h;refine wpAny_Assign_Name (Lb (he K5 s σ H _ I h) λv s1 zz=>?_) hs;obtain⟨y,H1,I1,r1,q1⟩:=zz;exact qT I1 hN hi hx r1 (λs2 I2=>⟨_,H1,I2,q1⟩) hf
def XC(i:Nat)(te:TE)(ti:Xm):TS:=λD σ H=>∃x,σ[i]?=some (some x)/\te σ H λy H1=>ti x y H1 λz H2=>D.nx (σ.set i (some z)) H2
theorem Rh{i:Nat}{op:Operator}(hN:X.N.Nodup)(hi:X.N[i]?=some x)(hx:Loc X.env.scope x)(he:PE X e te)(ho:PIp X op ti)(hf:X.fn x=true\/X.env.scope.names.lookup x=some .local:=by first | exact .inl rfl | exact .inr rfl | assumption) :
  PS X (.AugAssign (.Name x pos') op e pos) (XC i te ti):=by
 intro K5 s σ H D I h;obtain⟨v,e1,h⟩:=h;obtain⟨m,hn,hl⟩:=I.loc;have vis:SW X.env.scope x:=by rcases hx with k | k;exact .inl k;exact .inr (.inl k)
 obtain⟨u,r,l⟩:=hl i x v hi e1 vis;refine wpAny_AugAssign_Name ?_
 have go:wpAny (model X.prog X.w) X.A (eval e X.env) (λw s₂=>wpAny (model X.prog X.w) X.A (inplaceOp op u w) (λr s₃=>wpAny (model X.prog X.w) X.A (storeName X.env x r) (λ_=>SP X K5 D .next) X.xe s₃) X.xe s₂) X.xe s:=by
  refine Lb (he K5 s σ H _ I h) λw s1 zz=>?_;obtain⟨y,H1,I1,r1,q1⟩:=zz;refine Lb (ho K5 s1 σ H1 v y u w _ I1 r r1 q1) λz s2 zz=>?_;obtain⟨zv,H2,I2,r2,q2⟩:=zz;exact qT I2 hN hi hx r2 (λs3 I3=>⟨_,H2,I3,q2⟩) hf
 rcases l with⟨hk,hm⟩ | ⟨hk,c,hc,Lc⟩
 .exact wpAny_loadName_local I.ok.kind hk hn hm go
 .rcases hk with hk | hk
  .exact wpAny_loadName_cell I.ok.kind hk hc Lc go
  .rcases hx with k | k
   .have:X.env.scope.names.lookup x=some .free:=hk;rw[k]at this;cases this
   .have:X.env.scope.names.lookup x=some .free:=hk;rw[k]at this;cases this
def ipI(f:Int->Int->Int):Xm:=λx y H Q=>∃i j,x=.int i/\y=.int j/\Q (.int (f i j)) H
theorem RK:PIp X .Add (ipI λi j=>i+j):=by
 intro K5 s σ H x y v u Q I r1 r2 h;obtain⟨i,j,e1,e2,q⟩:=h;subst e1;subst e2;obtain⟨t,rfl⟩:=r1;obtain⟨t',rfl⟩:=r2;exact iadd_int ⟨.int _,H,I.tok _,⟨_,rfl⟩,q⟩
end
section
variable{X:Cx}{pos:Pos}
def QI(c:TT)(tb:TS):TS:=λD σ H=>∃W:Nat->St->Hp->Prop,(∃m,W m σ H)/\∀m σ H,W m σ H->
 c σ H λb H1=>if b=true then ∃N:St->Hp->Prop,(∀σ' H',N σ' H'->∃m',m'<m/\W m' σ' H')/\tb {D with nx:=N,ct:=N,bk:=D.nx} σ H1 else D.nx σ H1
theorem jy(hp:PassesOwn (model X.prog X.w) X.A X.env X.xe)(hc:PT X c tc)(hb:Lr X body tb):PS X (.While c body [] pos) (QI tc tb):=by
 intro K5 s σ H D I h;obtain⟨W,⟨m0,w0⟩,turn⟩:=h;refine wpAny_While (codeAny_whileLoop (λn s'=>∃σ' H',Inv X K5 σ' H' s'/\W n σ' H') ?_ m0 ⟨σ,H,I,w0⟩);rintro n s1 ⟨σ1,H1,I1,w1⟩
 refine Jb hp (Lb (hc K5 s1 σ1 H1 _ I1 (turn n σ1 H1 w1)) λb s2 zz=>?_);obtain⟨H2,I2,q2⟩:=zz;cases b with
 | true =>
  obtain⟨N,hN,q2⟩:=q2;rw[d7 rfl];refine Jb hp (Lb (hb K5 s2 σ1 H2 _ I2 q2) λf s3 q3=>?_);cases f with
  | next =>
   obtain⟨σ3,H3,I3,n3⟩:=q3;obtain⟨m',hm,w3⟩:=hN σ3 H3 n3;exact⟨m',hm,σ3,H3,I3,w3⟩
  | cont =>
   obtain⟨σ3,H3,I3,n3⟩:=q3;obtain⟨m',hm,w3⟩:=hN σ3 H3 n3;exact⟨m',hm,σ3,H3,I3,w3⟩
  | brk=>exact q3
  | ret v=>exact q3
 | false =>
  rw[d9 k8];exact JX ⟨σ1,H2,I2,q2⟩
end
structure It where
 go:Nat->Hp->Prop
 yld:Nat->Hp->V->Hp->Prop
 stop:Nat->Hp->Prop
def jE(X:Cx)(K5:List (Addr×Obj))(H:Hp)(b:Addr):Prop:=
 H b=none/\b≠X.env.locals/\b ∉ X.fs/\(b∈X.ex\/X.s₀.heap.objs.size<=b)/\(∀x c,X.env.cells.lookup x=some c->c≠b)/\∀p∈X.pn++K5,p.1≠b
theorem Inv.fpOk{H H':Hp}{s:Shared}(I:Inv X K5 σ H s)(hb:s.heap.objs.size<=b)(hn:H' b=none):jE X K5 H' b:=by
 refine⟨hn,JI (i5 I.lt hb),I.nofs hb,.inr (l7 I.sz hb),λx c e z=>?_,λp hp z=>?_⟩
 .obtain⟨v,q⟩:=I.cell x c e;exact absurd (i5 q.lt (by rw[z];exact hb)) (B2 _)
 .exact absurd (i5 (l6 (I.pin p hp).1) (by rw[z];exact hb)) (B2 _)
structure Turn(P:Program)(w:World)(K:W.Frag)(tg:Expr)(J:It)(fp:List Addr)(it:Addr)(tn:Nat->Heap->Prop):Prop where
 mem:it∈fp
 obj:∀i h,tn i h->∀b∈fp,∃o,h.get? b=some o/\∀v,o.data≠.cell v
 keep:∀i h h',tn i h->(∀b∈fp,∀o,h.get? b=some o->h'.get? b=some o)->tn i h'
 item:∀(X:Cx),X.prog=P->X.w=w->X.K=K->X.calm=true->∀(i:Nat)(K5:List (Addr×Obj))(s:Shared)(σ:St)(H:Hp)(E:Value->Shared->Prop),Inv X K5 σ H s->(∀b∈fp,jE X K5 H b)->tn i s.heap->J.go i H->
  wpAny (model P w) X.A (pyNext (.ref it)) (λr s1=>∃u,r=some u/\
   wpAny (model P w) X.A (letOwnedTupleGo tg (.ref it) u) (λ_ s2=>∃x H',Inv X K5 σ H' s2/\RelV x u/\J.yld i H x H'/\tn (i+1) s2.heap/\∀b∈fp,H' b=none) E s1) E s
 done:∀(X:Cx),X.prog=P->X.w=w->X.K=K->X.calm=true->∀(i:Nat)(K5:List (Addr×Obj))(s:Shared)(σ:St)(H:Hp)(E:Value->Shared->Prop),Inv X K5 σ H s->(∀b∈fp,jE X K5 H b)->tn i s.heap->J.stop i H->
  wpAny (model P w) X.A (pyNext (.ref it)) (λr s1=>r=none/\Inv X K5 σ H s1) E s
 self:∀(A:Around)(i:Nat)(s:Shared)(Q:Value->Shared->Prop)(E:Value->Shared->Prop),tn i s.heap->Q (.ref it) s->wpAny (model P w) A (pyIter (.ref it)) Q E s
noncomputable abbrev TI:=St->Hp->(It->Hp->Prop)->Prop
def PIE(X:Cx)(K5:List (Addr×Obj))(σ:St)(tg:Expr)(R:It->Hp->Prop)(WR:Value)(s2:Shared):Prop:=
 ∃(it:Addr)(fp:List Addr)(tn:Nat->Heap->Prop)(J:It)(H':Hp),WR=.ref it/\Inv X K5 σ H' s2/\Turn X.prog X.w X.K tg J fp it tn/\tn 0 s2.heap/\(∀b∈fp,jE X K5 H' b)/\R J H'
def PI(X:Cx)(tg Ld:Expr)(wi:TI):Prop:=
 ∀(
  K5:List (Addr×Obj)) (s:Shared) (σ:St) (H:Hp) (R:It->Hp->Prop),Inv X K5 σ H s->wi σ H R->
  wpAny (model X.prog X.w) X.A (eval Ld X.env) (λv s1=>wpAny (model X.prog X.w) X.A (pyIter v) (PIE X K5 σ tg R) X.xe s1) X.xe s
theorem HL{E:Value->Shared->Prop}{s:Shared}{o:Obj}{n:String}{Q:Unit->Shared->Prop}(ho:s.heap.get? it=some o)(hc:o.cls=.type n)(hd:o.data=.fields vs)
  (hn:["enumerate","zip","dict_itemiterator","dict_reverseitemiterator","odict_iterator","itertools.zip_longest","itertools.pairwise"].contains n=false)(hQ:Q () s):wpAny M A (letOwnedTupleGo tg (.ref it) u) Q E s:=by
 unfold letOwnedTupleGo
 cases tg<;>first
  | exact n9 hQ
  | (cases u <;> first
    | exact n9 hQ
    | (
     refine b6 (wpAny_load ho ?_);rw[hc,hd];show wpAny M A (if(["enumerate","zip","dict_itemiterator","dict_reverseitemiterator","odict_iterator","itertools.zip_longest","itertools.pairwise"].contains n && vs[0]? == some (rawInt _))=true then _ else _) Q E s;rw[d9 (by intro h;rw[hn,Bool.false_and]at h;cases h)]
     exact n9 hQ))
def MR(K:W.Frag)(a:Addr):It:=
 ⟨λi H=>∃xs x,K7 K H a xs/\xs[i]?=some x,λi H x H'=>H'=H/\∀xs,K7 K H a xs->xs[i]?=some x,λi H=>∃xs,K7 K H a xs/\xs.length<=i⟩
def NJ(K:W.Frag)(a:Addr):It:=
 ⟨λi H=>∃xs x,K6 K H a xs/\xs[i]?=some x,λi H x H'=>H'=H/\∀xs,K6 K H a xs->xs[i]?=some x,λi H=>∃xs,K6 K H a xs/\xs.length<=i⟩
def QA(lo:Int)(n:Nat):It:=⟨λi _=>i<n,λi H x H'=>H'=H/\x=.int (lo+i),λi _=>n<=i⟩
theorem CZ{P:Program}{w:World}{K:W.Frag}(a it:Addr):Turn P w K tg (MR K a) [it] it (λi h=>h.IsListIter it a i) where
 mem:=by simp
 obj:=λi h st b hb=>by
  have e:b=it:=by simpa using hb
  subst e;obtain⟨o,e,c,d⟩:=st;exact⟨o,e,λv z=>by rw[d]at z;cases z⟩
 keep:=λi h h' st k=>st.at λo e=>k it (by simp) o e
 item:=by
  intro X hP hw hK hc i K5 s σ H E I hf st hg;subst hP hw hK;obtain⟨xs,x,hq,hx⟩:=hg;obtain⟨its,rv,p,hz⟩:=I.list hq;obtain⟨u,hu,ru⟩:=rv.get hx;obtain⟨f0,f1,f2,f3,f4,f5⟩:=hf it (by simp);refine wpAny_pyNext_list_item st p.isList (x:=u) (by simpa using hu) λh' PL sb=>?_;have I1:Inv X K5 σ H {s with heap:=h' }:=I.turned (t':=s.toks) (λb o hb e=>(sb.2 b hb).trans e) f0 f1 f3 f4 f5
  obtain⟨o,e,c,d⟩:=id PL;exact⟨u,rfl,HL (s:={s with heap:=h' }) e c d (by decide) ⟨x,H,I1,ru,⟨rfl,λys hy=>by rw[I.list_inj hy hq];exact hx⟩,PL,λb hb=>(hf b hb).1⟩⟩
 done:=by
  intro X hP hw hK hc i K5 s σ H E I hf st hg;subst hP hw hK;obtain⟨xs,hq,hx⟩:=hg;obtain⟨its,rv,p,hz⟩:=I.list hq;obtain⟨f0,f1,f2,f3,f4,f5⟩:=hf it (by simp);have hl:=rv.length;exact wpAny_pyNext_list_end (I.ok.hd hc) st p.isList (by simp;omega) λh' eb=>⟨rfl,I.turned (t':=s.toks) (λb o hb e=>eb b o hb e) f0 f1 f3 f4 f5⟩
 self:=λ_ _ _ _ _ st h=>wpAny_pyIter_listiter st h
theorem zB{P:Program}{w:World}{K:W.Frag}(a it:Addr):Turn P w K tg (NJ K a) [it] it (λi h=>h.IsTupleIter it a i) where
 mem:=by simp
 obj:=λi h st b hb=>by
  have e:b=it:=by simpa using hb
  subst e;obtain⟨o,e,c,d⟩:=st;exact⟨o,e,λv z=>by rw[d]at z;cases z⟩
 keep:=λi h h' st k=>st.at λo e=>k it (by simp) o e
 item:=by
  intro X hP hw hK hc i K5 s σ H E I hf st hg;subst hP hw hK;obtain⟨xs,x,hq,hx⟩:=hg;obtain⟨its,rv,p,hz⟩:=I.tuple hq;obtain⟨u,hu,ru⟩:=rv.get hx;obtain⟨f0,f1,f2,f3,f4,f5⟩:=hf it (by simp);refine wpAny_pyNext_tuple_item st (show s.heap.IsTuple a its.toArray from p) (x:=u) (by simpa using hu) λh' PL sb=>?_;have I1:Inv X K5 σ H {s with heap:=h' }:=I.turned (t':=s.toks) (λb o hb e=>(sb.2 b hb).trans e) f0 f1 f3 f4 f5
  obtain⟨o,e,c,d⟩:=id PL;exact⟨u,rfl,HL (s:={s with heap:=h' }) e c d (by decide) ⟨x,H,I1,ru,⟨rfl,λys hy=>by rw[I.tuple_inj hy hq];exact hx⟩,PL,λb hb=>(hf b hb).1⟩⟩
 done:=by
  intro X hP hw hK hc i K5 s σ H E I hf st hg;subst hP hw hK;obtain⟨xs,hq,hx⟩:=hg;obtain⟨its,rv,p,hz⟩:=I.tuple hq;obtain⟨f0,f1,f2,f3,f4,f5⟩:=hf it (by simp);have hl:=rv.length;exact wpAny_pyNext_tuple_end (I.ok.hd hc) st (show s.heap.IsTuple a its.toArray from p) (by simp;omega) λh' eb=>⟨rfl,I.turned (t':=s.toks) (λb o hb e=>eb b o hb e) f0 f1 f3 f4 f5⟩
 self:=λ_ _ _ _ _ st h=>wpAny_pyIter_tupleiter st h
theorem zC{P:Program}{w:World}{K:W.Frag}(it:Addr)(lo:Int)(n:Nat):Turn P w K tg (QA lo n) [it] it (λi h=>IsRangeIter h it (lo+(i:Nat)*1) ((n:Int)-(i:Nat)) 1) where
 mem:=by simp
 obj:=λi h st b hb=>by
  have e:b=it:=by simpa using hb
  subst e
  exact⟨_,st,λv z=>by
   have z':Data.fields _=Data.cell v:=z;cases z'⟩
 keep:=λi h h' st k=>k it (by simp) _ st
 item:=by
  intro X hP hw hK hc i K5 s σ H E I hf st hg;subst hP hw hK;obtain⟨f0,f1,f2,f3,f4,f5⟩:=hf it (by simp);have W:=Walks.range (prog:=X.prog) (w:=X.w) (I.ok.hd hc) it lo 1 n;refine W.item i s _ _ hg st λv h' tk hv PL kk=>?_;obtain⟨t,rfl⟩:=hv;have I1:Inv X K5 σ H {s with heap:=h',toks:=tk}:=I.turned (λb o hb e=>kk b o (by simpa using hb) e) f0 f1 f3 f4 f5
  refine⟨_,rfl,HL (s:={s with heap:=h',toks:=tk}) (n:="range_iterator") PL rfl rfl (by decide) ⟨.int (lo+i),H,I1,⟨t,?_⟩,⟨rfl,rfl⟩,PL,λb hb=>(hf b hb).1⟩⟩
  rw[Ku]
 done:=by
  intro X hP hw hK hc i K5 s σ H E I hf st hg;subst hP hw hK;obtain⟨f0,f1,f2,f3,f4,f5⟩:=hf it (by simp);exact wpAny_pyNext_range_end (I.ok.hd hc) st (by have:n<=i:=hg;omega) λh' eb=>⟨rfl,I.turned (t':=s.toks) (λb o hb e=>eb b o hb e) f0 f1 f3 f4 f5⟩
 self:=λ_ _ _ _ _ st h=>wpAny_pyIter_rangeiter st h
section
variable{X:Cx}{tg:Expr}
def U5(K:W.Frag)(tl:TE):TI:=λσ H R=>tl σ H λx H1=>∃a,x=.ref a/\(∃xs,K7 K H1 a xs)/\R (MR K a) H1
def Yv(K:W.Frag)(tl:TE):TI:=λσ H R=>tl σ H λx H1=>∃a,x=.ref a/\(∃xs,K6 K H1 a xs)/\R (NJ K a) H1
theorem cq{l:Expr}{tl:TE}(hl:PE X l tl):PI X tg l (U5 X.K tl):=by
 intro K5 s σ H R I h;refine Lb (hl K5 s σ H _ I h) λv s1 zz=>?_;obtain⟨x,H1,I1,r1,q1⟩:=zz;obtain⟨a,e,⟨xs,hq⟩,q⟩:=q1;subst e;cases r1
 obtain⟨its,rv,p,hz⟩:=I1.list hq;refine Kv p.isList ?_;refine⟨s1.heap.objs.size,[s1.heap.objs.size],_,_,H1,rfl,I1.kept (t':=s1.toks) λb o e=>i6 _ e,CZ a _,⟨_,r8 _ rfl,rfl,rfl⟩,λb hb=>?_,q⟩;have e:b=s1.heap.objs.size:=by simpa using hb
 subst e;exact I1.fpOk (c5 _) (I1.hok.fresh (c5 _))
theorem pf{l:Expr}{tl:TE}(hl:PE X l tl):PI X tg l (Yv X.K tl):=by
 intro K5 s σ H R I h;refine Lb (hl K5 s σ H _ I h) λv s1 zz=>?_;obtain⟨x,H1,I1,r1,q1⟩:=zz;obtain⟨a,e,⟨xs,hq⟩,q⟩:=q1;subst e;cases r1
 obtain⟨its,rv,p,hz⟩:=I1.tuple hq;refine Ji (show s1.heap.IsTuple a its.toArray from p) ?_;refine⟨s1.heap.objs.size,[s1.heap.objs.size],_,_,H1,rfl,I1.kept (t':=s1.toks) λb o e=>i6 _ e,zB a _,⟨_,r8 _ rfl,rfl,rfl⟩,λb hb=>?_,q⟩;have e:b=s1.heap.objs.size:=by simpa using hb
 subst e;exact I1.fpOk (c5 _) (I1.hok.fresh (c5 _))
theorem yf{H:Hp}{s:Shared}{R:It->Hp->Prop}{E:Value->Shared->Prop}{hi:Int}{t u v:Tok}{tk:Nat}(I:Inv X K5 σ H s)(h1:-(2^62)<=lo)(h2:lo<2^62)(h3:-(2^62)<=hi)(h4:hi<2^62)
  (q:R (QA lo (hi-lo).toNat) H):wpAny (model X.prog X.w) X.A (pyIter (.ref s.heap.objs.size)) (PIE X K5 σ tg R) E {s with heap:=s.heap.push {cls:=.type "range",data:=.fields #[.int lo t,.int hi u,.int 1 v] },toks:=tk}:=by
 refine wpAny_pyIter_range (IsRange.new ..) (small_one h1 h2 h3 h4) ?_;have I1:Inv X K5 σ H {s with heap:=s.heap.push {cls:=.type "range",data:=.fields #[.int lo t,.int hi u,.int 1 v] },toks:=tk}:=I.kept λb o e=>i6 _ e
 refine⟨(s.heap.push {cls:=.type "range",data:=.fields #[.int lo t,.int hi u,.int 1 v] }).objs.size,[(s.heap.push {cls:=.type "range",data:=.fields #[.int lo t,.int hi u,.int 1 v] }).objs.size],_,_,H,rfl,
  I1.kept (t':=tk) λb o e=>i6 _ e,zC _ lo (hi-lo).toNat,?_,λb hb=>?_,q⟩
 .have e1:lo+((0:Nat):Int)*1=lo:=by simp
  have e2:(((hi-lo).toNat:Nat):Int)-((0:Nat):Int)=Builtin.Range.rangeSize lo hi 1:=by rw[rangeSize_one];split<;>omega
  show IsRangeIter _ _ (lo+((0:Nat):Int)*1) ((((hi-lo).toNat:Nat):Int)-((0:Nat):Int)) 1;rw[e1,e2];exact r8 _ rfl
 .have e:b=(s.heap.push {cls:=.type "range",data:=.fields #[.int lo t,.int hi u,.int 1 v] }).objs.size:=by simpa using hb
  subst e;exact I1.fpOk (c5 _) (I1.hok.fresh (c5 _))
def U4(ta:TA):TI:=λσ H R=>ta σ H λvs H1=>∃j:Int,vs=[.int j]/\-(2^62)<=j/\j<2^62/\R (QA 0 j.toNat) H1
def U3(ta:TA):TI:=λσ H R=>ta σ H λvs H1=>∃i j:Int,vs=[.int i,.int j]/\(-(2^62)<=i/\i<2^62/\-(2^62)<=j/\j<2^62)/\R (QA i (j-i).toNat) H1
theorem iu{a:Expr}{p:Pos}(hm:X.mg "range"=none)(ha:PA X [a] ta)(hg:Gl X "range":=by rfl)(hs:starEach [a] X.env=[(false,eval a X.env)]:=by rfl):PI X tg (.Call (.Name "range" p) [a] [] pos) (U4 ta):=by
 intro K5 s σ H R I h;refine Call_ (kT I hg hm boot_range (C8 (Lb (ha pos K5 s σ H _ I h) λus s1 zz=>?_) hs rfl));obtain⟨vs,H1,I1,r1,q1⟩:=zz;obtain⟨j,e,q1,q2,q⟩:=q1;subst e;cases r1 with
 | cons r rr =>
  cases rr
  obtain⟨t,rfl⟩:=r;exact call_range_1 (yf I1 (by omega) (by omega) q1 q2 (by simpa using q))
theorem uW{a b:Expr}{p:Pos}(hm:X.mg "range"=none)(ha:PA X [a,b] ta)(hg:Gl X "range":=by rfl)(hs:starEach [a,b] X.env=[(false,eval a X.env),(false,eval b X.env)]:=by rfl)(Nn:starEach [b] X.env=[(false,eval b X.env)]:=by rfl) :
  PI X tg (.Call (.Name "range" p) [a,b] [] pos) (U3 ta):=by
 intro K5 s σ H R I h;refine Call_ (kT I hg hm boot_range (C8 (Lb (ha pos K5 s σ H _ I h) λus s1 zz=>?_) (by rw[hs,Nn]) (by rw[Nn];rfl)));obtain⟨vs,H1,I1,r1,q1⟩:=zz;obtain⟨i,j,e,⟨q1,q2,q3,q4⟩,q⟩:=q1;subst e;cases r1 with
 | cons r rr =>
  cases rr with
  | cons r' rr =>
   cases rr
   obtain⟨t,rfl⟩:=r;obtain⟨t',rfl⟩:=r';exact call_range_2 (yf I1 q1 q2 q3 q4 q)
def XA(wi:TI)(g:TG)(tb:TS):TS:=λD σ H=>wi σ H λJ H1=>∃W:Nat->Nat->St->Hp->Prop,(∃m,W 0 m σ H1)/\∀i m σ H,W i m σ H->
 (J.stop i H/\D.nx σ H)\/(J.go i H/\∃N:St->Hp->Prop,(∀σ' H',N σ' H'->∃m',m'<m/\W (i+1) m' σ' H')/\∀x H',J.yld i H x H'->g x σ H' λσ2 H2=>tb {D with nx:=N,ct:=N,bk:=D.nx} σ2 H2)
noncomputable def so(fp:List Addr)(h:Heap):List (Addr×Obj):=fp.filterMap λb=>(h.get? b).map λo=>(b,o)
theorem gD{o:Obj}(hb:b∈fp)(e:h.get? b=some o):(b,o)∈so fp h:=Ka.mpr ⟨b,hb,by rw[e];rfl⟩
theorem DO{p:Addr×Obj}(hp:p∈so fp h):p.1∈fp/\h.get? p.1=some p.2:=by
 obtain⟨b,hb,e⟩:=Ka.mp hp;cases q:h.get? b with
 | none=>rw[q]at e;cases e
 | some o =>
  rw[q]at e;have e':(b,o)=p:=j8 e;subst e';exact⟨hb,q⟩
theorem Inv.pinned{H:Hp}{s:Shared}(I:Inv X K5 σ H s)(hf:∀b∈fp,jE X K5 H b)(ho:∀b∈fp,∃o,s.heap.get? b=some o/\∀v,o.data≠.cell v):Inv X (K5++so fp s.heap) σ H s:=
 I.pins_of λp hp=>(j6.mp hp).elim (λz=>I.pin p (l9 _ z)) λz=>by
  obtain⟨hb,e⟩:=DO z;obtain⟨f0,f1,f2,_⟩:=hf p.1 hb;obtain⟨o,e',d⟩:=ho p.1 hb;rw[e]at e';cases e'
  exact⟨e,f0,f1,f2,d⟩
theorem Inv.unpinned{pl:List (Addr×Obj)}{H:Hp}{s:Shared}(I:Inv X (K5++pl) σ H s):Inv X K5 σ H s:=I.pins_of λp hp=>I.pin p (l9 _ (A5 _ hp))
theorem dB{g:TG}(hp:PassesOwn (model X.prog X.w) X.A X.env X.xe)(hc:X.calm=true)(hi:PI X tg Ld wi)(hg:PG X tg g)(hb:Lr X body tb)
  (hs:∀x,foldedSetIterable Ld X.env x=pure x:=by intro _;rfl):PS X (.For tg Ld body [] pos) (XA wi g tb):=by
 intro K5 s σ H D I h;refine wpAny_For (Lb (hi K5 s σ H _ I h) λv s1 h1=>Lb h1 λWR s2 h2=>?_) hs;obtain⟨it,fp,tn,J,H2,e,I2,T,PK,f2,W,⟨m0,w0⟩,turn⟩:=h2;subst e;have LR:∀{H':Hp},(∀b∈fp,H' b=none)->∀b∈fp,jE X K5 H' b:=λhn b hb=>⟨hn b hb,(f2 b hb).2⟩;refine codeAny_forLoop_any (λn s'=>∃i σ' H',Inv X K5 σ' H' s'/\tn i s'.heap/\(∀b∈fp,H' b=none)/\W i n σ' H') ?_ m0 ⟨0,σ,H2,I2,PK,λb hb=>(f2 b hb).1,w0⟩;rintro n s3 ⟨i,σ3,H3,I3,Z1,fr3,w3⟩
 rcases turn i n σ3 H3 w3 with⟨stop,qn⟩ | ⟨go,N,hN,step⟩
 .refine Jb hp (Lb (T.done X rfl rfl rfl hc i K5 s3 σ3 H3 X.xe I3 (LR fr3) Z1 stop) λr s4 zz=>?_);obtain⟨hr,I4⟩:=zz;subst hr;exact JX ⟨σ3,H3,I4,qn⟩
 .refine Jb hp (Lb (T.item X rfl rfl rfl hc i K5 s3 σ3 H3 X.xe I3 (LR fr3) Z1 go) λr s4 zz=>?_);obtain⟨u,hr,h4⟩:=zz;subst hr;refine Jb hp (Lb h4 λ_ s5 zz=>?_);obtain⟨x,H5,I5,r5,y5,Oa,Sk⟩:=zz;have I5':=I5.pinned (LR Sk) (T.obj _ _ Oa);refine Jb hp (Lb (hg _ s5 σ3 H5 x u _ I5' r5 (step x H5 y5)) λ_ s6 zz=>?_);obtain⟨σ6,H6,I6,q6⟩:=zz;refine Jb hp (Lb (hb _ s6 σ6 H6 _ I6 q6) λf s7 q7=>?_)
  have again:∀{σ7:St}{H7:Hp},Inv X (K5++so fp s5.heap) σ7 H7 s7->N σ7 H7->∃m,m<n/\∃i σ' H',Inv X K5 σ' H' s7/\tn i s7.heap/\(∀b∈fp,H' b=none)/\W i m σ' H':=λ{σ7 H7} I7 n7=>by
   obtain⟨m',hm,w7⟩:=hN σ7 H7 n7;refine⟨m',hm,i+1,σ7,H7,I7.unpinned,T.keep _ _ _ Oa λb hb o e=>(I7.pin (b,o) (l9 _ (l9 _ (gD hb e)))).1,λb hb=>?_,w7⟩;obtain⟨o,e,d⟩:=T.obj _ _ Oa b hb;exact(I7.pin (b,o) (l9 _ (l9 _ (gD hb e)))).2.1
  cases f with
  | next=>obtain⟨σ7,H7,I7,n7⟩:=q7;exact again I7 n7
  | cont=>obtain⟨σ7,H7,I7,n7⟩:=q7;exact again I7 n7
  | brk=>obtain⟨σ7,H7,I7,q7⟩:=q7;exact⟨σ7,H7,I7.unpinned,q7⟩
  | ret v=>obtain⟨x7,σ7,H7,I7,r7,q7⟩:=q7;exact⟨x7,σ7,H7,I7.unpinned,r7,q7⟩
end
theorem eM{K:W.Frag}{xs:List V}{g:TG}{H:Hp}(Pv:Nat->St->Hp->Prop)(h0:Pv 0 σ H)(hl:∀i σ H,i<=xs.length->Pv i σ H->K7 K H a xs)
  (hs:∀i x σ H,xs[i]?=some x->Pv i σ H->g x σ H λσ2 H2=>tb {D with nx:=Pv (i+1),ct:=Pv (i+1),bk:=D.nx} σ2 H2)(hd:∀σ H,Pv xs.length σ H->D.nx σ H) :
  ∃W:Nat->Nat->St->Hp->Prop,(∃m,W 0 m σ H)/\∀i m σ H,W i m σ H->
   ((MR K a).stop i H/\D.nx σ H)\/((MR K a).go i H/\∃N:St->Hp->Prop,(∀σ' H',N σ' H'->∃m',m'<m/\W (i+1) m' σ' H')/\∀x H',(MR K a).yld i H x H'->g x σ H' λσ2 H2=>tb {D with nx:=N,ct:=N,bk:=D.nx} σ2 H2):=by
 refine⟨λi m σ H=>m=xs.length-i/\i<=xs.length/\Pv i σ H,⟨xs.length,by simp,x4 _,h0⟩,?_⟩;rintro i m σ H ⟨rfl,hi,p⟩
 have q:=hl i σ H hi p
 by_cases Le:i<xs.length
 .refine .inr ⟨⟨xs,xs[i],q,by simp[Le]⟩,Pv (i+1),λσ' H' p'=>⟨xs.length-(i+1),by omega,rfl,Le,p'⟩,λx H' y=>?_⟩;obtain⟨e,y⟩:=y;subst e;exact hs i x σ _ (y xs q) p
 .have e:i=xs.length:=by omega
  subst e;exact .inl ⟨⟨xs,q,c5 _⟩,hd σ H p⟩
theorem iw{g:TG}{H:Hp}(Pv:Nat->St->Hp->Prop)(h0:Pv 0 σ H)
  (hs:∀i σ H,i<n->Pv i σ H->g (.int (lo+i)) σ H λσ2 H2=>tb {D with nx:=Pv (i+1),ct:=Pv (i+1),bk:=D.nx} σ2 H2)(hd:∀σ H,Pv n σ H->D.nx σ H) :
  ∃W:Nat->Nat->St->Hp->Prop,(∃m,W 0 m σ H)/\∀i m σ H,W i m σ H->
   ((QA lo n).stop i H/\D.nx σ H)\/((QA lo n).go i H/\∃N:St->Hp->Prop,(∀σ' H',N σ' H'->∃m',m'<m/\W (i+1) m' σ' H')/\∀x H',(QA lo n).yld i H x H'->g x σ H' λσ2 H2=>tb {D with nx:=N,ct:=N,bk:=D.nx} σ2 H2):=by
 refine⟨λi m σ H=>m=n-i/\i<=n/\Pv i σ H,⟨n,by simp,x4 _,h0⟩,?_⟩;rintro i m σ H ⟨rfl,hi,p⟩
 by_cases Le:i<n
 .refine .inr ⟨Le,Pv (i+1),λσ' H' p'=>⟨n-(i+1),by omega,rfl,Le,p'⟩,λx H' y=>?_⟩;obtain⟨e,y⟩:=y;subst e y;exact hs i σ _ Le p
 .have e:i=n:=by omega
  subst e;exact .inl ⟨c5 _,hd σ H p⟩
noncomputable abbrev R2:=V->V->Hp->VK->Prop
def Lm(X:Cx)(f:Value->Value->Sem Value)(r:R2):Prop:=
 ∀(
  K5:List (Addr×Obj)) (s:Shared) (σ:St) (H:Hp) (x y:V) (v u:Value) (Q:VK),Inv X K5 σ H s->RelV x v->RelV y u->r x y H Q->
  wpAny (model X.prog X.w) X.A (f v u) (EP X K5 σ Q) X.xe s
def Xl(X:Cx)(f:Value->Sem Value)(r:V->Hp->VK->Prop):Prop:=
 ∀(
  K5:List (Addr×Obj)) (s:Shared) (σ:St) (H:Hp) (x:V) (v:Value) (Q:VK),Inv X K5 σ H s->RelV x v->r x H Q->
  wpAny (model X.prog X.w) X.A (f v) (EP X K5 σ Q) X.xe s
def gi(X:Cx)(f:Value)(r:List V->Hp->VK->Prop):Prop:=
 ∀(
  K5:List (Addr×Obj)) (s:Shared) (σ:St) (H:Hp) (xs:List V) (us:List Value) (Q:VK),Inv X K5 σ H s->Vals xs us->r xs H Q->
  wpAny (model X.prog X.w) X.A (call f us) (EP X K5 σ Q) X.xe s
def ZJ(X:Cx)(r:V->Hp->(Bool->Hp->Prop)->Prop):Prop:=
 ∀(
  K5:List (Addr×Obj)) (s:Shared) (σ:St) (H:Hp) (x:V) (v:Value) (Q:Bool->Hp->Prop),Inv X K5 σ H s->RelV x v->r x H Q->
  wpAny (model X.prog X.w) X.A (truthy v) (TP X K5 σ Q) X.xe s
def Nd(r:R2)(ta tb:TE):TE:=λσ H Q=>ta σ H λx H1=>tb σ H1 λy H2=>r x y H2 Q
def ZY(r:V->Hp->VK->Prop)(ta:TE):TE:=λσ H Q=>ta σ H λx H1=>r x H1 Q
inductive XrI(C:Int->Int->Prop)(g:Int->Int->V)(x:V)(y:V)(H:Hp)(Q:VK):Prop where
 | mk (i:Int) (j:Int) (TX:x=.int i) (TV:y=.int j) (Wu:C i j) (Xr:Q (g i j) H):XrI C g x y H Q
def rI(C:Int->Int->Prop)(g:Int->Int->V):R2:=λx y H Q=>XrI C g x y H Q
inductive Wa(g:Int->Int->V)(x:V)(y:V)(H:Hp)(Q:VK):Prop where
 | mk (i:Int) (j:Int) (TX:x=.int i) (TV:y=.int j) (Wu:Q (g i j) H):Wa g x y H Q
def P1(g:Int->Int->V):R2:=λx y H Q=>Wa g x y H Q
def rU(g:Int->V):V->Hp->VK->Prop:=λx H Q=>∃i,x=.int i/\Q (g i) H
section
variable{X:Cx}{a b c:Expr}{ta tb tc:TE}{pos:Pos}
theorem SI(ha:PE X a ta)(hb:PE X b tb){s:Shared}{H:Hp}{R:V->V->Hp->Prop}(I:Inv X K5 σ H s)
  (h:ta σ H λx H1=>tb σ H1 λy H2=>R x y H2){Q:Value->Shared->Prop}
  (hf:∀v u s2 x y H2,Inv X K5 σ H2 s2->RelV x v->RelV y u->R x y H2->wpAny (model X.prog X.w) X.A (f v u) Q X.xe s2) :
  wpAny (model X.prog X.w) X.A (eval a X.env) (λv s₁=>wpAny (model X.prog X.w) X.A (eval b X.env) (λu s₂=>wpAny (model X.prog X.w) X.A (f v u) Q X.xe s₂) X.xe s₁) X.xe s:=by
 refine Lb (ha K5 s σ H _ I h) λv s1 zz=>?_;obtain⟨x,H1,I1,r1,q1⟩:=zz;refine Lb (hb K5 s1 σ H1 _ I1 q1) λu s2 zz=>?_;obtain⟨y,H2,I2,r2,q2⟩:=zz;exact hf v u s2 x y H2 I2 r1 r2 q2
theorem aM{op:Operator}{r:R2}(ho:Lm X (binaryOp op) r)(ha:PE X a ta)(hb:PE X b tb):PE X (.BinOp a op b pos) (Nd r ta tb):=by
 intro K5 s σ H Q I h;exact wpAny_BinOp (SI ha hb I h λv u s2 x y H2 I2 rx ry q=>ho K5 s2 σ H2 x y v u Q I2 rx ry q)
theorem lZ{op:UnaryOp}{r:V->Hp->VK->Prop}(ho:Xl X (unaryOp op) r)(ha:PE X a ta):PE X (.UnaryOp op a pos) (ZY r ta):=by
 intro K5 s σ H Q I h;refine UnaryOp_ (Lb (ha K5 s σ H _ I h) λv s1 zz=>?_);obtain⟨x,H1,I1,r1,q1⟩:=zz;exact ho K5 s1 σ H1 x v Q I1 r1 q1
theorem Tg{C:Int->Int->Prop}{g:Int->Int->Int}
  (rule:∀(i j:Int)(t u:Tok)(s:Shared)(Q:Value->Shared->Prop)(E:Value->Shared->Prop),C i j->Q (.int (g i j) s.toks) {s with toks:=s.toks+1}->wpAny (model X.prog X.w) X.A (f (.int i t) (.int j u)) Q E s) :
  Lm X f (rI C λi j=>.int (g i j)):=by
 intro K5 s σ H x y v u Q I rx ry h;obtain⟨i,j,rfl,rfl,hc,q⟩:=h;obtain⟨t,rfl⟩:=rx;obtain⟨t',rfl⟩:=ry;exact rule i j t t' s _ _ hc ⟨.int (g i j),H,I.tok _,⟨_,rfl⟩,q⟩
theorem UL{g:Int->Int->Int}
  (rule:∀(i j:Int)(t u:Tok)(s:Shared)(Q:Value->Shared->Prop)(E:Value->Shared->Prop),Q (.int (g i j) s.toks) {s with toks:=s.toks+1}->wpAny (model X.prog X.w) X.A (f (.int i t) (.int j u)) Q E s) :
  Lm X f (P1 λi j=>.int (g i j)):=by
 intro K5 s σ H x y v u Q I rx ry h;obtain⟨i,j,rfl,rfl,q⟩:=h;obtain⟨t,rfl⟩:=rx;obtain⟨t',rfl⟩:=ry;exact rule i j t t' s _ _ ⟨.int (g i j),H,I.tok _,⟨_,rfl⟩,q⟩
theorem Oz{g:Int->Int->Bool}
  (rule:∀(i j:Int)(t u:Tok)(s:Shared)(Q:Value->Shared->Prop)(E:Value->Shared->Prop),Q (.bool (g i j)) s->wpAny (model X.prog X.w) X.A (f (.int i t) (.int j u)) Q E s) :
  Lm X f (P1 λi j=>.bl (g i j)):=by
 intro K5 s σ H x y v u Q I rx ry h;obtain⟨i,j,rfl,rfl,q⟩:=h;obtain⟨t,rfl⟩:=rx;obtain⟨t',rfl⟩:=ry;exact rule i j t t' s _ _ ⟨.bl (g i j),H,I,rfl,q⟩
def ZR(i j:Int):Prop:=0<j/\j<1073741824
def ZQ(i j:Int):Prop:=0<=j/\j<=1000000/\i.natAbs<2^64
theorem bW:Lm X (binaryOp .Add) (P1 λi j=>.int (i+j)):=UL λ_ _ _ _ _ _ _ q=>add_int q
theorem cD:Lm X (binaryOp .Sub) (P1 λi j=>.int (i-j)):=UL λ_ _ _ _ _ _ _ q=>sub_int q
theorem gQ:Lm X (binaryOp .FloorDiv) (rI ZR λi j=>.int (i/j)):=Tg λi j _ _ _ _ _ hc q=>by
 have h1:(0:Int)<j:=hc.1;have h2:j<1073741824:=hc.2;exact floordiv_int (by omega) (by rw[F3 i (by omega)];exact q) (.inl (PyProof.noPylong_small (by omega)))
theorem dE:Lm X (binaryOp .Mod) (rI (λ_ j=>0<j) λi j=>.int (i%j)):=Tg λi j _ _ _ _ _ hc q=>by
 have h1:(0:Int)<j:=hc;exact mod_int' (by omega) (by rw[Kb i (by omega)];exact q)
theorem iX:Lm X (binaryOp .Mod) (rI (λ_ j=>j≠0) λi j=>.int (i.fmod j)):=Tg λ_ _ _ _ _ _ _ hc q=>mod_int' hc q
theorem Rj:Lm X (binaryOp .Pow) (rI ZQ λi j=>.int (i^j.toNat)):=Tg λ_ _ _ _ _ _ _ hc q=>pow_int_small hc.1 hc.2.1 hc.2.2 q
theorem unI{f:Value->Sem Value}{g:Int->Int}
  (rule:∀(i:Int)(t:Tok)(s:Shared)(Q:Value->Shared->Prop)(E:Value->Shared->Prop),Q (.int (g i) s.toks) {s with toks:=s.toks+1}->wpAny (model X.prog X.w) X.A (f (.int i t)) Q E s) :
  Xl X f (rU λi=>.int (g i)):=by
 intro K5 s σ H x v Q I rx h;obtain⟨i,rfl,q⟩:=h;obtain⟨t,rfl⟩:=rx;exact rule i t s _ _ ⟨.int (g i),H,I.tok _,⟨_,rfl⟩,q⟩
theorem gp:Xl X (unaryOp .USub) (rU λi=>.int (-i)):=unI λ_ _ _ _ _ q=>neg_int q
end
noncomputable def Uq:V->V->Bool
 | .non,.non=>true | .non,.int _=>true | .int _,.non=>true | .non,.bl _=>true | .bl _,.non=>true | .non,.str _=>true | .str _,.non=>true
 | .int _,.int _=>true | .bl _,.bl _=>true | .str _,.str _=>true | .byt _,.byt _=>true
 | .int _,.str _=>true | .str _,.int _=>true | .bl _,.str _=>true | .str _,.bl _=>true
 | _,_=>false
def rEq:R2:=λx y H Q=>Uq x y=true/\Q (.bl (decide (x=y))) H
def rNe:R2:=λx y H Q=>Uq x y=true/\Q (.bl (!decide (x=y))) H
theorem CJ{i j:Int}:decide (V.int i=V.int j)=(i==j):=by
 rw[JE];simp
theorem Iq{i j:Bool}:decide (V.bl i=V.bl j)=(i==j):=by
 rw[JE];simp
theorem CI{i j:Str}:decide (V.str i=V.str j)=(i==j):=by
 rw[JE];simp
theorem CK{i j:Array UInt8}:decide (V.byt i=V.byt j)=(i.toList==j.toList):=by
 rw[JE];cases i
 cases j
 simp
section
variable{X:Cx}{a b c:Expr}{ta tb tc:TE}{pos:Pos}
theorem bP{H:Hp}{s:Shared}{Q:VK}{k k':Bool}(I:Inv X K5 σ H s)(q:Q (.bl k) H)(e:k=k'):EP X K5 σ Q (.bool k') s:=by
 subst e;exact⟨.bl k,H,I,rfl,q⟩
theorem bS:Lm X (compareOp .Eq) rEq:=by
 intro K5 s σ H x y v u Q I rx ry h;obtain⟨hs,q⟩:=h;cases x with
 | non =>
  cases rx
  cases y with
  | non=>cases ry;exact PySem.EqNone.eq_none_none (bP I q (by simp))
  | bl j=>cases ry;exact PySem.EqNone.eq_none_bool (bP I q (by simp))
  | int j=>obtain⟨t',rfl⟩:=ry;exact PySem.EqNone.eq_none_int (bP I q (by simp))
  | str j=>obtain⟨t',rfl⟩:=ry;exact PySem.EqNone.eq_none_str (bP I q (by simp))
  | _=>exact absurd (show false=true from hs) k8
 | bl i =>
  cases rx
  cases y with
  | non=>cases ry;exact PySem.EqNone.eq_bool_none (bP I q (by simp))
  | bl j=>cases ry;exact eq_bool (bP I q Iq)
  | str j=>obtain⟨t',rfl⟩:=ry;exact PySem.EqMixed.eq_bool_str (bP I q (by simp))
  | _=>exact absurd (show false=true from hs) k8
 | int i =>
  obtain⟨t,rfl⟩:=rx;cases y with
  | non=>cases ry;exact PySem.EqNone.eq_int_none (bP I q (by simp))
  | int j=>obtain⟨t',rfl⟩:=ry;exact eq_int (bP I q CJ)
  | str j=>obtain⟨t',rfl⟩:=ry;exact PySem.EqMixed.eq_int_str (bP I q (by simp))
  | _=>exact absurd (show false=true from hs) k8
 | str i =>
  obtain⟨t,rfl⟩:=rx;cases y with
  | non=>cases ry;exact PySem.EqNone.eq_str_none (bP I q (by simp))
  | bl j=>cases ry;exact PySem.EqMixed.eq_str_bool (bP I q (by simp))
  | int j=>obtain⟨t',rfl⟩:=ry;exact PySem.EqMixed.eq_str_int (bP I q (by simp))
  | str j=>obtain⟨t',rfl⟩:=ry;exact eq_str (bP I q CI)
  | _=>exact absurd (show false=true from hs) k8
 | byt i =>
  obtain⟨t,rfl⟩:=rx;cases y with
  | byt j=>obtain⟨t',rfl⟩:=ry;exact PySem.W.eq_bytes (bP I q CK)
  | _=>exact absurd (show false=true from hs) k8
 | _=>cases y<;>exact absurd (show false=true from hs) k8
theorem ma:Lm X (compareOp .NotEq) rNe:=by
 intro K5 s σ H x y v u Q I rx ry h;obtain⟨hs,q⟩:=h;cases x with
 | non =>
  cases rx
  cases y with
  | non=>cases ry;exact PySem.EqNone.ne_none_none (bP I q (by simp))
  | bl j=>cases ry;exact PySem.EqNone.ne_none_bool (bP I q (by simp))
  | int j=>obtain⟨t',rfl⟩:=ry;exact PySem.EqNone.ne_none_int (bP I q (by simp))
  | str j=>obtain⟨t',rfl⟩:=ry;exact PySem.EqNone.ne_none_str (bP I q (by simp))
  | _=>exact absurd (show false=true from hs) k8
 | bl i =>
  cases rx
  cases y with
  | non=>cases ry;exact PySem.EqNone.ne_bool_none (bP I q (by simp))
  | bl j=>cases ry;exact ne_bool (bP I q (x9 not Iq))
  | str j=>obtain⟨t',rfl⟩:=ry;exact PySem.EqMixed.ne_bool_str (bP I q (by simp))
  | _=>exact absurd (show false=true from hs) k8
 | int i =>
  obtain⟨t,rfl⟩:=rx;cases y with
  | non=>cases ry;exact PySem.EqNone.ne_int_none (bP I q (by simp))
  | int j=>obtain⟨t',rfl⟩:=ry;exact ne_int (bP I q (x9 not CJ))
  | str j=>obtain⟨t',rfl⟩:=ry;exact PySem.EqMixed.ne_int_str (bP I q (by simp))
  | _=>exact absurd (show false=true from hs) k8
 | str i =>
  obtain⟨t,rfl⟩:=rx;cases y with
  | non=>cases ry;exact PySem.EqNone.ne_str_none (bP I q (by simp))
  | bl j=>cases ry;exact PySem.EqMixed.ne_str_bool (bP I q (by simp))
  | int j=>obtain⟨t',rfl⟩:=ry;exact PySem.EqMixed.ne_str_int (bP I q (by simp))
  | str j=>obtain⟨t',rfl⟩:=ry;exact ne_str (bP I q (x9 not CI))
  | _=>exact absurd (show false=true from hs) k8
 | byt i =>
  obtain⟨t,rfl⟩:=rx;cases y with
  | byt j=>obtain⟨t',rfl⟩:=ry;exact PySem.W.ne_bytes (bP I q (x9 not CK))
  | _=>exact absurd (show false=true from hs) k8
 | _=>cases y<;>exact absurd (show false=true from hs) k8
theorem iK:Lm X (compareOp .Lt) (P1 λi j=>.bl (decide (i<j))):=Oz λ_ _ _ _ _ _ _ q=>lt_int q
theorem jz:Lm X (compareOp .LtE) (P1 λi j=>.bl (decide (i<=j))):=Oz λ_ _ _ _ _ _ _ q=>le_int q
theorem kh:Lm X (compareOp .Gt) (P1 λi j=>.bl (decide (j<i))):=Oz λ_ _ _ _ _ _ _ q=>gt_int q
theorem qf:Lm X (compareOp .GtE) (P1 λi j=>.bl (decide (j<=i))):=Oz λ_ _ _ _ _ _ _ q=>ge_int q
theorem ji:Lm X (compareOp .Is) (λx y H Q=>y=.non/\Q (.bl (decide (x=.non))) H):=by
 intro K5 s σ H x y v u Q I rx ry h;obtain⟨rfl,q⟩:=h;cases ry
 refine is_none_gen (bP I q ?_)
 cases x<;>first
  | (cases rx;rfl)
  | (obtain⟨t,rfl⟩:=rx;rfl)
theorem wz:Lm X (compareOp .IsNot) (λx y H Q=>y=.non/\Q (.bl (!decide (x=.non))) H):=by
 intro K5 s σ H x y v u Q I rx ry h;obtain⟨rfl,q⟩:=h;cases ry
 refine isnot_none_gen (bP I q ?_)
 cases x<;>first
  | (cases rx;rfl)
  | (obtain⟨t,rfl⟩:=rx;rfl)
theorem aH(b:Expr)(h:op≠.In:=by decide)(h2:op≠.NotIn:=by decide):behindInMarks op b=false:=by
 have e1:(op==CmpOp.In)=false:=by cases op<;>first | rfl | exact absurd rfl h
 have e2:(op==CmpOp.NotIn)=false:=by cases op<;>first | rfl | exact absurd rfl h2
 cases b<;>simp[behindInMarks,e1,e2]
theorem dO{r:R2}(ho:Lm X (compareOp op) r)(ha:PE X a ta)(hb:PE X b tb)(hm:behindInMarks op b=false):PE X (.Compare a [op] [b] pos) (Nd r ta tb):=by
 intro K5 s σ H Q I h;exact wpAny_Compare1 (SI ha hb I h λv u s2 x y H2 I2 rx ry q=>ho K5 s2 σ H2 x y v u Q I2 rx ry q) hm
def Fh(t:TE):TT:=λσ H Q=>t σ H λx H'=>Wb x λk=>Q k H'
theorem aF{r:R2}(ho:Lm X (compareOp op) r)(ha:PE X a ta)(hb:PE X b tb)(hm:behindInMarks op b=false):PT X (.Compare a [op] [b] pos) (Fh (Nd r ta tb)):=by
 intro K5 s σ H Q I h
 refine wpAny_isTrue_Compare1 (Lb (ha K5 s σ H _ I h) λv s1 ⟨x,H1,I1,r1,q1⟩=>Lb (hb K5 s1 σ H1 _ I1 q1) λu s2 ⟨y,H2,I2,r2,q2⟩ =>
  Lb (ho K5 s2 σ H2 x y v u _ I2 r1 r2 q2) λc s3 ⟨z,H3,I3,r3,k,e,q3⟩=>?_) hm
 subst e;cases r3
 exact B8 ⟨H3,I3,q3⟩
def Fm(r r':R2)(ta tb tc:TE):TE:=λσ H Q=>ta σ H λx H1=>tb σ H1 λy H2=>r x y H2 λz H3=>∃k,z=.bl k/\
 (if k=true then tc σ H3 λw' H4=>r' y w' H4 Q else Q (.bl false) H3)
theorem yj{r:R2}(ho:Lm X (compareOp op) r)(Ml:Lm X (compareOp Th) r')(ha:PE X a ta)(hb:PE X b tb)(hc:PE X c tc)
  (hm:lastMarks [op,Th] [b,c]=false:=by with_unfolding_all rfl):PE X (.Compare a [op,Th] [b,c] pos) (Fm r r' ta tb tc):=by
 intro K5 s σ H Q I h
 refine Compare_chain (Lb (ha K5 s σ H _ I h) λv s1 ⟨x,H1,I1,r1,q1⟩=>chain_link (Lb (hb K5 s1 σ H1 _ I1 q1) λu s2 ⟨y,H2,I2,r2,q2⟩ =>
  Lb (ho K5 s2 σ H2 x y v u _ I2 r1 r2 q2) λd s3 ⟨z,H3,I3,r3,k,e,q3⟩=>?_)) hm
 subst e;cases r3
 refine B8 ?_;cases k with
 | false=>exact ite_ff ⟨.bl false,H3,I3,rfl,q3⟩
 | true=>exact ite_tt (chain_last (Lb (hc K5 s3 σ H3 _ I3 q3) λw' s4 ⟨z',H4,I4,r4,q4⟩=>Ml K5 s4 σ H4 y z' u w' Q I4 r2 r4 q4))
theorem Gk{r:R2}(ho:Lm X (compareOp op) r)(Ml:Lm X (compareOp Th) r')(ha:PE X a ta)(hb:PE X b tb)(hc:PE X c tc)
  (hm:lastMarks [op,Th] [b,c]=false:=by with_unfolding_all rfl):PT X (.Compare a [op,Th] [b,c] pos) (Fh (Fm r r' ta tb tc)):=by
 intro K5 s σ H Q I h
 refine isTrue_chain (Lb (ha K5 s σ H _ I h) λv s1 ⟨x,H1,I1,r1,q1⟩=>test_link (Lb (hb K5 s1 σ H1 _ I1 q1) λu s2 ⟨y,H2,I2,r2,q2⟩ =>
  Lb (ho K5 s2 σ H2 x y v u _ I2 r1 r2 q2) λd s3 ⟨z,H3,I3,r3,k,e,q3⟩=>?_)) hm
 subst e;cases r3
 refine B8 ?_;cases k with
 | false =>
  obtain⟨k',e',q'⟩:=q3;cases e'
  exact ite_ff ⟨H3,I3,q'⟩
 | true =>
  refine ite_tt (test_last (Lb (hc K5 s3 σ H3 _ I3 q3) λw' s4 zz=>?_));obtain⟨z',H4,I4,r4,q4⟩:=zz;refine Lb (Ml K5 s4 σ H4 y z' u w' _ I4 r2 r4 q4) λd' s5 zz=>?_;obtain⟨z2,H5,I5,r5,k2,e2,q5⟩:=zz;subst e2;cases r5
  exact B8 ⟨H5,I5,q5⟩
def Wc(K:W.Frag)(x:V)(H:Hp)(k:Bool):Prop:=
 match x with
 | .non=>k=false
 | .bl b=>k=b
 | .int i=>k=(i != 0)
 | .str y=>y.length<=sizeLine/\k=((y.length:Int) != 0)
 | .byt y=>y.size<=sizeLine/\k=((y.size:Int) != 0)
 | .ref p=>(∃xs,K7 K H p xs/\k = !xs.isEmpty)\/(∃xs,K6 K H p xs/\k = !xs.isEmpty)\/∃K8,H p=some (.dK K8)/\k = !K8.isEmpty
 | _=>False
theorem AE{κ:Type}{K8:List (κ×V)}{vs:List (κ×Value)}(r:KV K8 vs):(!vs.isEmpty) = !K8.isEmpty:=by
 cases r<;>rfl
theorem sN{xs:List V}(r:Vals xs its):(!its.toArray.isEmpty) = !xs.isEmpty:=by
 cases r<;>simp
theorem wK:(sizeLine:Nat)<2^63:=by rw[Kw];decide
theorem QF:ZJ X (λx H Q=>∃k,Wc X.K x H k/\Q k H):=by
 intro K5 s σ H x v Q I rx h;obtain⟨k,e,q⟩:=h;have hl:=wK;have hs:sizeLine=16777216:=Kw;cases x with
 | non =>
  cases rx
  have e':k=false:=e;subst e';exact truthy_none ⟨H,I,q⟩
 | bl b =>
  cases rx
  have e':k=b:=e;subst e';exact B8 ⟨H,I,q⟩
 | int i =>
  obtain⟨t,rfl⟩:=rx;have e':k=(i != 0):=e;subst e';exact PySem.P.truthy_int ⟨H,I,q⟩
 | str y =>
  obtain⟨t,rfl⟩:=rx;obtain⟨hy,e'⟩:y.length<=sizeLine/\k=((y.length:Int) != 0):=e;subst e';exact PySem.P.truthy_str (by omega) ⟨H,I.tok _,q⟩
 | byt y =>
  obtain⟨t,rfl⟩:=rx;obtain⟨hy,e'⟩:y.size<=sizeLine/\k=((y.size:Int) != 0):=e;subst e';exact PySem.W.truthy_bytes (by omega) ⟨H,I.tok _,q⟩
 | ref p =>
  cases rx
  have e':(∃xs,K7 X.K H p xs/\k = !xs.isEmpty)\/(∃xs,K6 X.K H p xs/\k = !xs.isEmpty)\/∃K8,H p=some (.dK K8)/\k = !K8.isEmpty:=e;rcases e' with⟨xs,hx,e'⟩ | ⟨xs,hx,e'⟩ | ⟨K8,hx,e'⟩
  .subst e';obtain⟨its,r,pl,hz⟩:=I.list hx;have hlen:=r.length;exact wpAny_truthy_list pl.isList (by simp only[j7];omega) ⟨H,I.tok _,by rw[sN r];exact q⟩
  .subst e';obtain⟨its,r,pl,hz⟩:=I.tuple hx;have hlen:=r.length;exact truthy_tuple pl (by simp only[j7];omega) ⟨H,I.tok _,by rw[sN r];exact q⟩
  .subst e';obtain⟨hz,hS,vs,r,m⟩:K8.length<=sizeLine/\(p==sysModules)=false/\∃vs,KV K8 vs/\s.heap.DictOf (dj X.prog X.w) p vs:=I.hok p _ hx;have hlen:K8.length=vs.length:=KD r;exact wpAny_truthy_dict hS m (by omega) ⟨H,I.tok _,by rw[AE r];exact q⟩
 | _=>exact(show False from e).elim
theorem sj(ha:PE X a ta)(he:∀whole,isTrue a X.env whole=(do let v <- whole;standAt a.pos;holding [v] (truthy v))) :
  PT X a (λσ H Q=>ta σ H λx H'=>∃k,Wc X.K x H' k/\Q k H'):=by
 intro K5 s σ H Q I h;refine isTrue_plain (Lb (ha K5 s σ H _ I h) λv s1 zz=>?_) (he _);obtain⟨x,H1,I1,r1,q1⟩:=zz;exact QF K5 s1 σ H1 x v Q I1 r1 q1
theorem vals1{x:V}(r:Vals [x] us):∃u,us=[u]/\RelV x u:=by
 cases r with
 | cons r1 r2=>cases r2;exact⟨_,rfl,r1⟩
theorem vals2{x y:V}(r:Vals [x,y] us):∃u w',us=[u,w']/\RelV x u/\RelV y w':=by
 cases r with
 | cons r1 r2 =>
  cases r2 with
  | cons r3 r4=>cases r4;exact⟨_,_,rfl,r1,r3⟩
theorem iN:gi X (.builtin "abs") (λxs H Q=>∃i,xs=[.int i]/\Q (.int (if i<0 then -i else i)) H):=by
 intro K5 s σ H xs us Q I r h;obtain⟨i,rfl,q⟩:=h;obtain⟨u,rfl,t,rfl⟩:=vals1 r;exact call_abs_int λu tk=>⟨.int (if i<0 then -i else i),H,I.tok _,⟨_,rfl⟩,q⟩
theorem iz(hc:X.calm=true):gi X (.builtin "max") (λxs H Q=>∃i j,xs=[.int i,.int j]/\Q (.int (if j>i then j else i)) H):=by
 intro K5 s σ H xs us Q I r h;obtain⟨i,j,rfl,q⟩:=h;obtain⟨u,w',rfl,⟨t,rfl⟩,⟨t',rfl⟩⟩:=vals2 r;refine max_two_ints (I.ok.hd hc) λh' tk k=>⟨_,H,I.kept k,?_,q⟩
 by_cases hj:j>i
 .rw[d7 hj,d7 hj];exact⟨_,rfl⟩
 .rw[d9 hj,d9 hj];exact⟨_,rfl⟩
theorem fo(hc:X.calm=true):gi X (.builtin "min") (λxs H Q=>∃i j,xs=[.int i,.int j]/\Q (.int (if j<i then j else i)) H):=by
 intro K5 s σ H xs us Q I r h;obtain⟨i,j,rfl,q⟩:=h;obtain⟨u,w',rfl,⟨t,rfl⟩,⟨t',rfl⟩⟩:=vals2 r;refine min_two_ints (I.ok.hd hc) λh' tk k=>⟨_,H,I.kept k,?_,q⟩
 by_cases hj:j<i
 .rw[d7 hj,d7 hj];exact⟨_,rfl⟩
 .rw[d9 hj,d9 hj];exact⟨_,rfl⟩
theorem jD:gi X (.type "int") (λxs H Q=>(∃i,xs=[.int i]/\Q (.int i) H)\/∃k,xs=[.bl k]/\Q (.int (if k then 1 else 0)) H):=by
 intro K5 s σ H xs us Q I r h;rcases h with⟨i,rfl,q⟩ | ⟨k,rfl,q⟩
 .obtain⟨u,rfl,t,rfl⟩:=vals1 r;exact call_int_int ⟨.int i,H,I,⟨_,rfl⟩,q⟩
 .obtain⟨u,rfl,r1⟩:=vals1 r;cases r1
  exact call_int_bool ⟨.int (if k then 1 else 0),H,I.tok _,⟨_,rfl⟩,q⟩
def ZO(K:W.Frag)(x:V)(H:Hp)(n:Nat):Prop:=
 match x with
 | .str y=>y.length<=sizeLine/\n=y.length
 | .byt y=>y.size<=sizeLine/\n=y.size
 | .ref p=>(∃xs,K7 K H p xs/\n=xs.length)\/∃xs,K6 K H p xs/\n=xs.length
 | _=>False
theorem bJ:gi X (.builtin "len") (λxs H Q=>∃x n,xs=[x]/\ZO X.K x H n/\Q (.int n) H):=by
 intro K5 s σ H xs us Q I r h;obtain⟨x,n,rfl,e,q⟩:=h;obtain⟨u,rfl,rx⟩:=vals1 r;have hl:=wK;have hs:sizeLine=16777216:=Kw;cases x with
 | str y =>
  obtain⟨t,rfl⟩:=rx;obtain⟨hy,e'⟩:y.length<=sizeLine/\n=y.length:=e;subst e';exact len_str (by omega) ⟨.int _,H,I.tok _,⟨_,rfl⟩,q⟩
 | byt y =>
  obtain⟨t,rfl⟩:=rx;obtain⟨hy,e'⟩:y.size<=sizeLine/\n=y.size:=e;subst e';exact PySem.W.len_bytes (by omega) ⟨.int _,H,I.tok _,⟨_,rfl⟩,q⟩
 | ref p =>
  cases rx
  have e':(∃xs,K7 X.K H p xs/\n=xs.length)\/∃xs,K6 X.K H p xs/\n=xs.length:=e;rcases e' with⟨xs,hx,e'⟩ | ⟨xs,hx,e'⟩
  .subst e';obtain⟨its,r',pl,hz⟩:=I.list hx;have hlen:=r'.length;exact Calls.call_len_list pl.isList (by simp only[j7];omega) ⟨.int xs.length,H,I.tok _,⟨_,by simp only[j7];rw[hlen]⟩,q⟩
  .subst e';obtain⟨its,r',pl,hz⟩:=I.tuple hx;have hlen:=r'.length;exact len_tuple pl (by simp only[j7];omega) ⟨.int xs.length,H,I.tok _,⟨_,by simp only[j7];rw[hlen]⟩,q⟩
 | _=>exact(show False from e).elim
end
structure Bh(h:Heap)(x dx C:Addr)(mA:Str->Option Value):Prop where
 obj:h.get? x=some (PySem.W.instObj C dx)
 ns:h.Ns1 dx mA
 ne:dx≠x
theorem Ed(n:h.Ns1 dx mA):∃od,h.get? dx=some od/\∀name,PySem.W.lookIn name od=some (mA name):=by
 obtain⟨o,es,ep,ho,hd,hk,_,hm⟩:=n;refine⟨o,ho,λname=>?_⟩;have e:=hm name;unfold nsFind findBy at e;rw[<- Array.find?_toList]at e;unfold PySem.W.lookIn;rw[hd];dsimp only;split
 .rename_i y q;rw[q]at e;exact x9 some e
 .rename_i q;rw[q]at e
  have a:es.toList.any (·.refKey)=false:=by
   rw[List.any_eq_false];intro y hy;obtain⟨z,t,YW⟩:=hk y (Array.mem_toList_iff.mp hy);simp[DictEntry.refKey,YW]
  have a':¬es.toList.any (·.refKey)=true:=by rw[a];exact k8
  rw[d9 a'];exact x9 some e
theorem Bh.look{x:Addr}(I:Bh h x dx C mA):∃od,PySem.W.InstAt h x (PySem.W.instObj C dx) C (some od)/\∀name,PySem.W.lookIn name od=some (mA name):=
 let ⟨od,ho,hl⟩:=Ed I.ns
 ⟨od,⟨I.obj,rfl,rfl,ho⟩,hl⟩
section
variable{prog:Program}{w:World}{A:Around}{E:Value->Shared->Prop}{s:Shared}{K:W.Frag}{x dx C f:Addr}{mA:Str->Option Value}{name:Str}{v:Value}
theorem get_map{Q:Value->Shared->Prop}(X:K.In s.heap)(I:Bh s.heap x dx C mA)(hg:PySem.W.plainGet K C name=true)(hh:PySem.W.hasDictIn K C=true)
  (ha:PySem.W.findIn K (.ref C) name=some none)(hv:mA name=some v)(Mg:PySem.W.handedIn v=true)(h:Q v {s with toks:=s.toks+1}) :
  wpAny (model prog w) A (getAttr (.ref x) name expr) Q E s:=by
 obtain⟨od,J,hl⟩:=I.look;exact PySem.W.get_value X J (J4 hg).1 (PySem.W.findObj_own hh ha rfl (by rw[hl,hv])) Mg h
theorem HR{pl:Sem Bool}{Q:Value×List Value->Shared->Prop}(X:K.In s.heap)(I:Bh s.heap x dx C mA)(hg:PySem.W.plainGet K C name=true)
  (hf:PySem.W.findIn K (.ref C) name=some (some (.ref f)))(ht:PySem.W.isFn K (.ref f)=true)(hv:mA name=none)(h:Q (.ref f,[.ref x]) s) :
  wpAny (model prog w) A (getMethod (.ref x) name pl) Q E s:=by
 obtain⟨od,J,hl⟩:=I.look;exact PySem.W.method_fn X J (J4 hg).1 (J4 hg).2 hf (Jd.mp ht) (by show(PySem.W.lookIn name od).map (·.isSome)=some false;rw[hl,hv];rfl) h
theorem Od{Q:Unit->Shared->Prop}(X:K.In s.heap)(I:Bh s.heap x dx C mA)
  (hs:PySem.W.findIn K (.ref C) "__setattr__"=some (some (.builtin "object.__setattr__")))(hp:PySem.W.plainOver K C=true)(ht:PySem.W.takerIn K C name=some none)(hh:PySem.W.hasDictIn K C=true)
  (hw:PySem.Within mA ns)(hsz:ns.length<=sizeLine)
  (h:∀h',Bh h' x dx C (λy=>if y=name then some v else mA y)->Heap.SameBut dx s.heap h'->Q () {s with heap:=h',toks:=s.toks+2}) :
  wpAny (model prog w) A (setAttr (.ref x) name v) Q E s:=by
 obtain⟨od,J,hl⟩:=I.look;refine PySem.W.set_plain X J hs (PySem.W.osa_open (s:={s with toks:=s.toks+1}) (r:=none) X J hp ht λb=>?_)
 obtain⟨cd,hc,Vk⟩:=PySem.W.any_some hh;have hx:s.heap.get? x=some ⟨.ref C,some dx,.plain,#[]⟩:=I.obj;refine b6 (n9 (b6 (b6 (wpAny_loadPart hx (b6 (PySem.W.Looks.here (s:={s with toks:=s.toks+1}) (PySem.W.looks_clsIn X hc) ?_))))))
 rw[Vk];refine n9 (a:=some dx) (b6 (n9 (b6 ?_)));refine wpAny_nsSet1 (s:={s with toks:=s.toks+1}) I.ns λh' WW Nn=>?_
 obtain⟨oD,esD,epD,hoD,hdD,hcD⟩:=WW.count (PySem.Within.cons name v hw);refine b6 (wpAny_lookBehind hoD (by rw[hdD];exact pastItsLine_dict (l7 hcD (by rw[j9];omega))) ?_);exact n9 (h _ ⟨(Nn.2 _ (G5 I.ne)).trans I.obj,WW,I.ne⟩ Nn)
theorem Ho{R:Result->Shared->Prop}{vs:List Value}(X:K.In s.heap)(hm:PySem.W.makesIn K C=true)
  (hi:PySem.W.findIn K (.ref C) "__init__"=some (some (.ref f)))(hf:PySem.W.typeIn K (.ref f)=some (.type "function"))
  (h:codeAny (model prog w) (A.under (.builtin "type.__call__" ⟨.ref C::vs,kw⟩)) (.call (.ref f) ⟨.ref (s.heap.objs.size+1)::vs,kw⟩) (PySem.W.InitBack (s.heap.objs.size+1) R)
   {s with heap:=(s.heap.push PySem.W.emptyDict).push (PySem.W.instObj C s.heap.objs.size) }) :
  codeAny (model prog w) A (.call (.ref C) ⟨vs,kw⟩) R s:=by
 obtain⟨hh,g,d,t,os⟩:=s;exact PySem.W.make_core (KN X hm) (PySem.W.looks_findIn X hi) (λself=>PySem.W.bind_fn X self hf) (.inl rfl) h
theorem Ea{R:Result->Shared->Prop}(X:K.In s.heap)(hm:PySem.W.makesIn K C=true)
  (hi:PySem.W.findIn K (.ref C) "__init__"=some (some (.builtin "object.__init__")))
  (hb:∀self,PySem.W.Looks (model prog w) s.heap (bindSpecial (.builtin "object.__init__") self) (.builtin "object.__init__",[self]))
  (h:codeAny (model prog w) (A.under (.builtin "type.__call__" ⟨[.ref C],[]⟩)) (.call (.builtin "object.__init__") ⟨[.ref (s.heap.objs.size+1)],[]⟩) (PySem.W.InitBack (s.heap.objs.size+1) R)
   {s with heap:=(s.heap.push PySem.W.emptyDict).push (PySem.W.instObj C s.heap.objs.size) }) :
  codeAny (model prog w) A (.call (.ref C) ⟨[],[]⟩) R s:=by
 obtain⟨hh,g,d,t,os⟩:=s;exact PySem.W.make_core (KN X hm) (PySem.W.looks_findIn X hi) hb (.inr ⟨rfl,rfl⟩) h
end
noncomputable def jO(f:Str)(v:V):List (Str×V)->List (Str×V)
 | []=>[(f,v)]
 | (g,x)::r=>if g=f then(g,v)::r else(g,x)::jO f v r
theorem qg(f g:Str)(v:V):∀fs:List (Str×V),(jO f v fs).lookup g=if g=f then some v else fs.lookup g
 | []=>by
  show List.lookup g [(f,v)]=_
  by_cases h:g=f
  .have hb:(g==f)=true:=Jd.mpr h;simp only[List.lookup,hb,d7 h]
  .have hb:(g==f)=false:=F6.mpr h;simp only[List.lookup,hb,d9 h]
 | (k,x)::r=>by
  have ih:=qg f g v r;rw[show jO f v ((k,x)::r)=(if k=f then(k,v)::r else(k,x)::jO f v r) from rfl]
  by_cases hk:k=f
  .rw[d7 hk]
   by_cases h:g=k
   .have hb:(g==k)=true:=Jd.mpr h;simp only[List.lookup,hb,d7 (h.trans hk)]
   .have hb:(g==k)=false:=F6.mpr h;simp only[List.lookup,hb,d9 (λe:g=f=>h (e.trans hk.symm))]
  .rw[d9 hk]
   by_cases h:g=k
   .have hb:(g==k)=true:=Jd.mpr h;simp only[List.lookup,hb,d9 (λe:g=f=>hk (h.symm.trans e))]
   .have hb:(g==k)=false:=F6.mpr h;simp only[List.lookup,hb];exact ih
theorem pD(f:Str)(v:V):∀fs:List (Str×V),f∈(jO f v fs).map (·.1)/\∀g,g∈fs.map (·.1)->g∈(jO f v fs).map (·.1)
 | []=>⟨by simp[jO],λg h=>by simp at h⟩
 | (k,x)::r=>by
  obtain⟨i1,i2⟩:=pD f v r;rw[show jO f v ((k,x)::r)=(if k=f then(k,v)::r else(k,x)::jO f v r) from rfl]
  by_cases hk:k=f
  .rw[d7 hk];subst hk;exact⟨by simp,λg h=>by simpa using h⟩
  .rw[d9 hk];refine⟨?_,λg h=>?_⟩
   .rw[z7];exact x6 _ i1
   .rw[z7]at h ⊢;rcases j4.mp h with e | e
    .exact j4.mpr (.inl e)
    .exact x6 _ (i2 g e)
theorem qh(f:Str)(v:V):∀fs:List (Str×V),(jO f v fs).length<=fs.length+1
 | []=>by simp[jO]
 | (k,x)::r=>by
  have ih:=qh f v r;rw[show jO f v ((k,x)::r)=(if k=f then(k,v)::r else(k,x)::jO f v r) from rfl]
  by_cases hk:k=f
  .rw[d7 hk,j9,j9];omega
  .rw[d9 hk,j9,j9];omega
theorem lS.some_of{v:V}{o:Option Value}(r:lS (some v) o):∃u,o=some u/\RelV v u:=by
 cases o with
 | none=>exact(show False from r).elim
 | some u=>exact⟨u,rfl,r⟩
theorem lS.none_of{o:Option Value}(r:lS none o):o=none:=by
 cases o with
 | none=>rfl
 | some u=>exact(show False from r).elim
theorem Ej{v:V}(r:RelV v u):PySem.W.handedIn u=true:=by
 cases v with
 | non=>cases(show u=Value.none from r);rfl
 | bl b=>cases(show u=Value.bool b from r);rfl
 | int i=>obtain⟨t,e⟩:=(show ∃t,u=Value.int i t from r);cases e;rfl
 | str x=>obtain⟨t,e⟩:=(show ∃t,u=Value.str x t from r);cases e;rfl
 | byt b=>obtain⟨t,e⟩:=(show ∃t,u=Value.bytes b t from r);cases e;rfl
 | flt b=>obtain⟨t,e⟩:=(show ∃t,u=Value.float b t from r);cases e;rfl
 | ref a=>cases(show u=Value.ref a from r);rfl
 | ty n=>cases(show u=Value.type n from r);rfl
section
variable{P:Program}{w:World}{H H':Hp}{h h':Heap}{a C dx:Addr}{fs Zf:List (Str×V)}
theorem qH(hok:Lq P w H h)(e:H a=some (.ins C dx fs)):∃mA,Bh h a dx C mA/\(∀f,lS (fs.lookup f) (mA f))/\PySem.Within mA (fs.map (·.1))/\fs.length<=1000/\H dx=some (.own a):=by
 obtain⟨d,z,ne,ob,mA,n,r,q⟩:=(show cP P w H h a (.ins C dx fs) from hok a _ e);exact⟨mA,⟨ob,n,ne⟩,r,q,z,d⟩
end
structure Cls(K:W.Frag)(C:Addr):Prop where
 pg:PySem.W.plainGet K C Str.empty=true
 hd:PySem.W.hasDictIn K C=true
 po:PySem.W.plainOver K C=true
 sa:PySem.W.findIn K (.ref C) "__setattr__"=some (some (.builtin "object.__setattr__"))
theorem Cls.get{K:W.Frag}(c:Cls K C)(f:Str):PySem.W.plainGet K C f=true:=c.pg
def fX(K:W.Frag)(C:Addr)(f:Str):Prop:=PySem.W.findIn K (.ref C) f=some none
theorem fX.taker{K:W.Frag}{f:Str}(n:fX K C f):PySem.W.takerIn K C f=some none:=by
 unfold PySem.W.takerIn;rw[show PySem.W.findIn K (.ref C) f=some none from n];rfl
structure Meth(K:W.Frag)(C:Addr)(m:Str)(f:Addr):Prop where
 at_:PySem.W.findIn K (.ref C) m=some (some (.ref f))
 fn:PySem.W.isFn K (.ref f)=true
 kp:PySem.W.keepIn K (.ref f)=true
section
variable{X:Cx}{K5:List (Addr×Obj)}{σ:St}{H:Hp}{s:Shared}{a C dx:Addr}{fs:List (Str×V)}{f:Str}{v:V}{A:Around}{E:Value->Shared->Prop}
theorem AH{b:Bool}{Q:Value->Shared->Prop}(I:Inv X K5 σ H s)(e:H a=some (.ins C dx fs))(c:Cls X.K C)(n:fX X.K C f)(l:fs.lookup f=some v)
  (h:∀u s',Inv X K5 σ H s'->RelV v u->Q u s'):wpAny (model X.prog X.w) A (getAttr (.ref a) f b) Q E s:=by
 obtain⟨mA,O,r,_,_,_⟩:=qH I.hok e;obtain⟨u,hu,ru⟩:=lS.some_of (v:=v) (o:=mA f) (by rw[<- l];exact r f);exact get_map I.kIn O (c.get f) c.hd n hu (Ej ru) (h u _ (I.tok _) ru)
theorem sR{m:Str}{g:Addr}{pl:Sem Bool}{Q:Value×List Value->Shared->Prop}(I:Inv X K5 σ H s)(e:H a=some (.ins C dx fs))(c:Cls X.K C)(k:Meth X.K C m g)(l:fs.lookup m=none)
  (h:Q (.ref g,[.ref a]) s):wpAny (model X.prog X.w) A (getMethod (.ref a) m pl) Q E s:=by
 obtain⟨mA,O,r,_,_,_⟩:=qH I.hok e;have hn:mA m=none:=lS.none_of (by rw[<- l];exact r m);exact HR I.kIn O (c.get m) k.at_ k.fn hn h
theorem zU{y:V}{Q:Unit->Shared->Prop}(I:Inv X K5 σ H s)(e:H a=some (.ins C dx fs))(c:Cls X.K C)(n:fX X.K C f)(hl:fs.length<1000)(ry:RelV y u)
  (h:∀s',Inv X K5 σ (upd H a (.ins C dx (jO f y fs))) s'->Q () s'):wpAny (model X.prog X.w) A (setAttr (.ref a) f u) Q E s:=by
 obtain⟨mA,O,r,wi,_,ho⟩:=qH I.hok e;have hz:(fs.map (·.1)).length<=sizeLine:=by rw[i7,Kw];omega
 refine Od I.kIn O c.sa c.po n.taker c.hd wi hz λh' O' sb=>h _ ?_;have hd:∃o,h'.get? dx=some o:=let ⟨o,_,_,e',_⟩:=O'.ns;⟨o,e'⟩;refine I.write (x:=a) (e:=dx) (by rw[e];exact True.intro) (.inr ho) (λb q hb z=>(sb.2 b hb).trans z) hd ?_;refine⟨by rw[az O.ne];exact ho,?_,O.ne,O'.obj,_,O'.ns,λg=>?_,λg hg=>?_⟩
 .have:=qh f y fs;omega
 .show lS ((jO f y fs).lookup g) (if g=f then some u else mA g);rw[qg]
  by_cases q:g=f
  .rw[d7 q,d7 q];exact ry
  .rw[d9 q,d9 q];exact r g
 .by_cases q:g=f
  .rw[q];exact(pD f y fs).1
  .refine(pD f y fs).2 g (wi g λz=>hg ?_);show(if g=f then some u else mA g)=none;rw[d9 q];exact z
theorem Inv.made(I:Inv X K5 σ H s):Inv X K5 σ (upd (upd H s.heap.objs.size (.own (s.heap.objs.size+1))) (s.heap.objs.size+1) (.ins C s.heap.objs.size []))
  {s with heap:=(s.heap.push PySem.W.emptyDict).push (PySem.W.instObj C s.heap.objs.size) }:=by
 have e1:(s.heap.push PySem.W.emptyDict).get? s.heap.objs.size=some PySem.W.emptyDict:=r8 s.heap rfl
 have e2:((s.heap.push PySem.W.emptyDict).push (PySem.W.instObj C s.heap.objs.size)).get? (s.heap.objs.size+1)=some (PySem.W.instObj C s.heap.objs.size):=by
  have:=r8 (s.heap.push PySem.W.emptyDict) (o:=PySem.W.instObj C s.heap.objs.size) rfl
  rwa [E4]at this
 have e3:(s.heap.push PySem.W.emptyDict).Ns s.heap.objs.size (λ_=>none):=⟨PySem.W.emptyDict,#[],_,e1,rfl,(λe he=>absurd he (by simp)),λ_=>rfl⟩;have I1:=I.laid (a:=s.heap.objs.size) (o:=.own (s.heap.objs.size+1)) (h':=s.heap.push PySem.W.emptyDict) (t':=s.toks) (λb u q=>i6 _ q) (c5 _) ⟨_,e1⟩;refine I1.laid (a:=s.heap.objs.size+1) (o:=.ins C s.heap.objs.size []) (t':=s.toks) (λb u q=>i6 _ q) (Nat.le_of_eq (E4 _ _)) ?_;have ne:s.heap.objs.size≠s.heap.objs.size+1:=z6 (IV _);refine⟨by rw[az ne,ae],x4 _,ne,e2,λ_=>none,(Heap.Ns1.of_empty e3).at λo q=>i6 _ q,λ_=>True.intro,λy hy=>absurd rfl hy⟩
theorem Pf{w:World}{Q:Value->Shared->Prop}(hb:attributeBase e f env (eval e env)=eval e env)
  (h:wpAny (model prog w) A (eval e env) (λo s₁=>wpAny (model prog w) A (getAttr o f true) Q E s₁) E s):wpAny (model prog w) A (eval (.Attribute e f pos) env) Q E s:=
 Attribute_any_ h (by rw[arm_eval_Attribute,hb])
end
def XB(K:W.Frag)(ta:TE)(f:Str):TE:=λσ H Q=>ta σ H λx H1=>∃a C dx fs v,x=.ref a/\H1 a=some (.ins C dx fs)/\Cls K C/\fX K C f/\fs.lookup f=some v/\Q v H1
def XO(K:W.Frag)(ta tv:TE)(f:Str):TS:=λD σ H=>tv σ H λy H1=>ta σ H1 λx H2=>∃a C dx fs,x=.ref a/\H2 a=some (.ins C dx fs)/\Cls K C/\fX K C f/\fs.length<1000/\
 D.nx σ (upd H2 a (.ins C dx (jO f y fs)))
section
variable{X:Cx}{o e value:Expr}{f:Str}{pos pos' LQ:Pos}{ta tv:TE}
theorem mR(he:PE X e ta)(hb:attributeBase e f X.env (eval e X.env)=eval e X.env):PE X (.Attribute e f pos) (XB X.K ta f):=by
 intro K5 s σ H Q I h;refine Pf hb (Lb (he K5 s σ H _ I h) λu s1 zz=>?_);obtain⟨x,H1,I1,rx,a,C,dx,fs,v,ex,ea,c,n,l,q⟩:=zz;subst ex;obtain rfl:u=Value.ref a:=rx;exact AH I1 ea c n l λu' s2 I2 ru=>⟨v,H1,I2,ru,q⟩
theorem wm(ha:PE X o ta)(hv:PE X value tv)(hs:swapsWith value (some (.Attribute o f pos')) pos.line X.env=pure false):PS X (.Assign [.Attribute o f pos'] value pos) (XO X.K ta tv f):=by
 intro K5 s σ H D I h;refine plainObj_wpAny_Assign_Attribute (Lb (hv K5 s σ H _ I h) λu s1 zz=>?_) hs;obtain⟨y,H1,I1,ry,q⟩:=zz;refine Lb (ha K5 s1 σ H1 _ I1 q) λov s2 zz=>?_;obtain⟨x,H2,I2,rx,a,C,dx,fs,ex,ea,c,n,l,q2⟩:=zz;subst ex;obtain rfl:ov=Value.ref a:=rx;exact zU I2 ea c n l ry λs3 I3=>⟨σ,_,I3,q2⟩
end
section
variable{X:Cx}{K5:List (Addr×Obj)}{σ:St}{H:Hp}{s:Shared}{A:Around}{E:Value->Shared->Prop}{Q:Value->Shared->Prop}{c:Value}{b:Bool}
inductive jX(K:W.Frag)(H:Hp):V->Value->Prop where
 | non:jX K H .non (.type "NoneType")
 | bl (x:Bool):jX K H (.bl x) (.type "bool")
 | int (i:Int):jX K H (.int i) (.type "int")
 | str (x:Str):jX K H (.str x) (.type "str")
 | flt (x:UInt64):jX K H (.flt x) (.type "float")
 | lst {a:Addr} {xs:List V} (e:H a=some (.lst xs)):jX K H (.ref a) (.type "list")
 | frz {a:Addr} {o:Obj} {xs:List V} (e:H a=some (.frz o (.lst xs))):jX K H (.ref a) (.type "list")
 | tup {a:Addr} {xs:List V} (e:H a=some (.tup xs)):jX K H (.ref a) (.type "tuple")
 | dK {a:Addr} {K8:List (Key×V)} (e:H a=some (.dK K8)):jX K H (.ref a) (.type "dict")
 | dT {a:Addr} {K8:List (List Key×V)} (e:H a=some (.dT K8)):jX K H (.ref a) (.type "dict")
 | ins {a C dx:Addr} {fs:List (Str×V)} (e:H a=some (.ins C dx fs)) (cl:Cls K C) (ha:PySem.W.findIn K (.ref C) "__class__"=some (some (.builtin "object.__class__")))
   (hn:PySem.W.specialIn K (.builtin "object.__class__") "__get__"=some (some (.builtin "getset_descriptor.__get__"))) (htk:PySem.W.takesIn K (.builtin "object.__class__")=some true)
   (hm:PySem.W.mroIn K C (.type "object")=some true):jX K H (.ref a) (.ref C)
theorem Eg{x:V}{t:Value}(I:Inv X K5 σ H s)(rx:RelV x u)(ty:jX X.K H x t)(e:PySem.W.kitOne X.K t c=some b)(h:∀tk,Q (.bool b) {s with toks:=tk}) :
  wpAny (model X.prog X.w) A (call (.builtin "isinstance") [u,c]) Q E s:=by
 cases ty with
 | non=>cases(show u=Value.none from rx);exact C5 PySem.W.kitx_none I.kIn True.intro e (λz=>nomatch z) h
 | bl y=>cases(show u=Value.bool y from rx);exact C5 PySem.W.kitx_bool I.kIn True.intro e (λz=>nomatch z) h
 | int i=>obtain⟨t,q⟩:=(show ∃t,u=Value.int i t from rx);cases q;exact C5 PySem.W.kitx_int I.kIn True.intro e (λz=>nomatch z) h
 | str y=>obtain⟨t,q⟩:=(show ∃t,u=Value.str y t from rx);cases q;exact C5 PySem.W.kitx_str I.kIn True.intro e (λz=>nomatch z) h
 | flt y=>obtain⟨t,q⟩:=(show ∃t,u=Value.float y t from rx);cases q;exact C5 PySem.W.kitx_float I.kIn True.intro e (λz=>nomatch z) h
 | @lst a xs ea =>
  cases(show u=Value.ref a from rx)
  obtain⟨_,_,n,_,h1⟩:=(show cP X.prog X.w H s.heap a (.lst xs) from I.hok a _ ea);exact C5 PySem.W.kitx_list I.kIn ⟨_,h1,rfl⟩ e (λz=>nomatch z) h
 | @frz a ob xs ea =>
  cases(show u=Value.ref a from rx)
  obtain⟨_,_,_,n,_,h1⟩:=(show cP X.prog X.w H s.heap a (.frz ob (.lst xs)) from I.hok a _ ea);exact C5 PySem.W.kitx_list I.kIn ⟨_,h1,rfl⟩ e (λz=>nomatch z) h
 | @tup a xs ea =>
  cases(show u=Value.ref a from rx)
  obtain⟨_,_,_,p⟩:=(show cP X.prog X.w H s.heap a (.tup xs) from I.hok a _ ea);obtain⟨o,h1,h2,_⟩:=p;exact C5 PySem.W.kitx_tuple I.kIn ⟨o,h1,h2⟩ e (λz=>nomatch z) h
 | @dK a K8 ea =>
  cases(show u=Value.ref a from rx)
  obtain⟨_,_,vs,_,p⟩:=(show cP X.prog X.w H s.heap a (.dK K8) from I.hok a _ ea);obtain⟨o,es,ep,h1,h2,_⟩:=p;exact C5 PySem.W.kitx_dict I.kIn ⟨o,h1,h2.1⟩ e (λz=>nomatch z) h
 | @dT a K8 ea =>
  cases(show u=Value.ref a from rx)
  obtain⟨_,_,xs,_,o,es,ep,h1,h2,_⟩:=(show cP X.prog X.w H s.heap a (.dT K8) from I.hok a _ ea);exact C5 PySem.W.kitx_dict I.kIn ⟨o,h1,h2.1⟩ e (λz=>nomatch z) h
 | @ins a C dx fs ea cl ha hn htk hm =>
  cases(show u=Value.ref a from rx)
  obtain⟨mA,O,_⟩:=qH I.hok ea;obtain⟨od,J,_⟩:=O.look;exact C5 (PySem.W.kitx_own (cl.get _) cl.hd ha hn htk hm) I.kIn J e (λz=>nomatch z) h
end
structure dP(k:Nat)(A:Around):Prop where
 hd:A.handled=none
 dp:A.depth+3*k+5<recursionLimit
 un:A.units+16*k+200<cLine
theorem dP.mono{j k:Nat}(r:dP k A)(h:j<=k):dP j A:=⟨r.hd,by have:=r.dp;omega,by have:=r.un;omega⟩
theorem dP.deeper{k:Nat}(r:dP (k+1) A)(env:Env):dP k (A.deeper env):=
 ⟨r.hd,by have:=r.dp;show A.depth+1+3*k+5<_;omega,by have:=r.un;show A.units+3+16*k+200<_;omega⟩
theorem Ay:(A.under (.builtin "type.__call__" ⟨.ref C::us,kw⟩)).depth=A.depth+1:=by
 first | rfl | simp[Around.under,Code.weight,Code.isCreation,Code.isGuard,Code.isCaller,Code.frames,Code.isFrame,guardIds]
theorem Ax:(A.under (.builtin "type.__call__" ⟨.ref C::us,kw⟩)).units=A.units+1:=by
 first | rfl | simp[Around.under,Code.cUnits,Code.frames,Code.isFrame]
theorem dP.make{k:Nat}(r:dP (k+1) A)(C:Addr)(us:List Value)(kw:List (Str×Value)):dP k (A.under (.builtin "type.__call__" ⟨.ref C::us,kw⟩)):=
 ⟨r.hd,by have:=r.dp;rw[Ay];omega,by have:=r.un;rw[Ax];omega⟩
theorem dP.depth{k:Nat}(r:dP k A):A.depth<recursionLimit:=by have:=r.dp;omega
theorem dP.units{k:Nat}(r:dP k A):A.units+64<cLine:=by have:=r.un;omega
def lQ:TA:=λ_ H Q=>Q [] H
def dZ(ta:TE)(tr:TA):TA:=λσ H Q=>ta σ H λx H1=>tr σ H1 λxs H2=>Q (x::xs) H2
section
variable{X:Cx}{e:Expr}{es:List Expr}{te:TE}{t:TA}{pos:Pos}
theorem af:PA X [] lQ:=λ_ _ _ _ H Q I h=>JJ ⟨[],H,I,.nil,h⟩
theorem aa(ha:PE X e te)(hr:PA X es t)(hs:starEach (e::es) X.env=(false,eval e X.env)::starEach es X.env:=by rfl):PA X (e::es) (dZ te t):=by
 intro pos K5 s σ H Q I h;rw[hs];show wpAny _ _ (spliced ((false,eval e X.env)::backTo pos (starEach es X.env))) _ _ s;refine IY (Lb (ha K5 s σ H _ I h) λu s1 zz=>?_);obtain⟨x,H1,I1,r1,q1⟩:=zz;refine Lb (hr pos K5 s1 σ H1 _ I1 q1) λus s2 zz=>?_;obtain⟨xs,H2,I2,r2,q2⟩:=zz;exact⟨x::xs,H2,I2,.cons r1 r2,q2⟩
def N5(t:TA):TE:=λσ H Q=>t σ H λxs H1=>xs.length<=sizeLine/\∀p,H1 p=none->Q (.ref p) (upd H1 p (.tup xs))
def N6(t:TA):TE:=λσ H Q=>t σ H λxs H1=>xs.length<=sizeLine/\∀p,H1 p=none->Q (.ref p) (upd H1 p (.lst xs))
theorem bj{x1}(h:PA X es t):PE X (.Tuple es x1 pos) (N5 t):=by
 intro K5 s σ H Q I hq;refine wpAny_Tuple_spliced (Lb (h pos K5 s σ H _ I hq) λus s1 zz=>?_);obtain⟨xs,H1,I1,r,z,q⟩:=zz;refine⟨by rw[<- r.length];exact z,?_⟩;have hf:H1 s1.heap.objs.size=none:=I1.hok.fresh (c5 _);refine⟨.ref s1.heap.objs.size,upd H1 s1.heap.objs.size (.tup xs),I1.laid (t':=s1.toks) (λb u e=>i6 _ e) (c5 _) ?_,rfl,q _ hf⟩;exact⟨z,us,r,⟨_,r8 _ rfl,rfl,_,rfl⟩⟩
theorem cf(h:PA X es t):PE X (.List es pos) (N6 t):=by
 intro K5 s σ H Q I hq;refine wpAny_List_spliced (Lb (h pos K5 s σ H _ I hq) λus s1 zz=>?_);obtain⟨xs,H1,I1,r,z,q⟩:=zz;refine⟨by rw[<- r.length];exact z,?_⟩;have hf:H1 s1.heap.objs.size=none:=I1.hok.fresh (c5 _);refine⟨.ref s1.heap.objs.size,upd H1 s1.heap.objs.size (.lst xs),I1.laid (t':=s1.toks) (λb u e=>i6 _ e) (c5 _) ?_,rfl,q _ hf⟩;exact⟨z,us,0,r,r8 _ rfl⟩
end
noncomputable abbrev Sp:=List V->Hp->VK->XK->Prop
noncomputable abbrev M9:=List Env->Hp->Shared->XK->Value->Shared->Prop
structure Bk(P:Program)(w:World)(K:W.Frag)(mg:Str->Option Value)(base:Heap)(A:Around)(outer:List Env)(s:Shared)(H:Hp):Prop where
 frames:A.frames=some outer
 mod:Mod K mg base
 bs:∀b o,base.get? b=some o->s.heap.get? b=some o/\H b=none
 bsz:base.objs.size<=s.heap.objs.size
 funs:s.heap.FunFrames base outer
 frf:∀b∈LF outer,H b=none
 hok:Lq P w H s.heap
 bare:AllBare s.gens
def CE(outer:List Env)(P:Program)(w:World)(H:Hp)(s:Shared)(Q:VK)(u:Value)(s':Shared):Prop:=
 ∃v H',s'.os=s.os/\AllBare s'.gens/\Un (LF outer) [] H H' s.heap s'.heap/\Lq P w H' s'.heap/\RelV v u/\Q v H'
def CR(CX:M9)(outer:List Env)(P:Program)(w:World)(H:Hp)(s:Shared)(Q:VK)(E:XK)(r:Result)(s':Shared):Prop:=
 match r with
 | .ok (.ret u)=>CE outer P w H s Q u s'
 | .ok _=>False
 | .error e=>CX outer H s E e s'
structure oz(P:Program)(w:World)(K:W.Frag)(mg:Str->Option Value)(base:Heap)(CX:M9)(k:Nat)(f:Addr)(fd:FuncData)(ps:List Str)(sp:Sp):Prop where
 len:∀vs H Q E,sp vs H Q E->vs.length=ps.length
 run:∀(A:Around)(outer:List Env)(s:Shared)(H:Hp)(args:Args)(us:List Value)(vs:List V)(Q:VK)(E:XK),dP k A->Bk P w K mg base A outer s H->BindsTo s fd args (ps.zip us)->Vals vs us->sp vs H Q E->
  codeAny (model P w) A (.call (.ref f) args) (CR CX outer P w H s Q E) s
theorem Bk.make{P:Program}{w:World}{K:W.Frag}{outer:List Env}{s:Shared}{H:Hp}(e:Bk P w K mg base A outer s H)(C:Addr)(us:List Value)(kw:List (Str×Value)) :
  Bk P w K mg base (A.under (.builtin "type.__call__" ⟨.ref C::us,kw⟩)) outer s H:=⟨by first | exact e.frames | (simpa [Around.under,Code.envs,Code.isFrame,pushEnvs] using e.frames),e.mod,e.bs,e.bsz,e.funs,e.frf,e.hok,e.bare⟩
section
variable{X:Cx}{K5:List (Addr×Obj)}{σ:St}{H:Hp}{s s':Shared}
theorem Inv.env0(I:Inv X K5 σ H s):Bk X.prog X.w X.K X.mg X.base X.A X.stack s H:=
 ⟨I.ok.frames,I.ok.mod,I.bs,l7 I.ok.bsz I.sz,I.stack,I.stkFree,I.hok,I.bare⟩
theorem Inv.after{Q:VK}(I:Inv X K5 σ H s)(h:CE X.stack X.prog X.w H s Q u s'):EP X K5 σ Q u s':=by
 obtain⟨v,H',os,bare,un,hok,r,q⟩:=h;obtain⟨hh,g,d,t,os'⟩:=s';obtain rfl:os'=s.os:=os;exact⟨v,H',I.call (h':=hh) (g':=g) (d':=d) (t':=t) (ch:=[]) un hok bare (λb z=>absurd z (by simp)),r,q⟩
end
def qS(sp:Sp)(dvs:List V)(E:XK)(t:TA):TE:=λσ H Q=>t σ H λvs H1=>sp (vs++dvs) H1 Q E
def PF(C:Addr)(sp:Sp)(dvs:List V)(E:XK)(t:TA):TE:=λσ H Q=>t σ H λvs H1=>∀x dx,H1 x=none->H1 dx=none->dx≠x->
 sp (.ref x::(vs++dvs)) (upd (upd H1 dx (.own x)) x (.ins C dx [])) (λv H2=>v=.non/\Q (.ref x) H2) E
def Binds(K:W.Frag)(fd:FuncData)(ps:List Str)(ds:List Value):Prop:=
 ∀(s:Shared)(us:List Value),K.In s.heap->(us++ds).length=ps.length->BindsTo s fd ⟨us,[]⟩ (ps.zip (us++ds))
theorem Binds.all{K:W.Frag}{fd:FuncData}(h:∀us:List Value,us.length=ps.length->bindArgs fd ⟨us,[]⟩=pure (ps.zip us)):Binds K fd ps []:=λs us _ hl=>by
 rw[A4]at hl ⊢;exact .of_eq (h us hl)
def Passes(CX:M9)(X:Cx)(E:XK):Prop:=∀(K5:List (Addr×Obj))(σ:St)(H:Hp)(s:Shared)(e:Value)(s':Shared),Inv X K5 σ H s->CX X.stack H s E e s'->X.xe e s'
section
variable{X:Cx}{CX:M9}{k:Nat}{f C:Addr}{fd:FuncData}{ps:List Str}{sp:Sp}{dvs:List V}{ds:List Value}{E:XK}{x m:Str}{p pos apos:Pos}{e o:Expr}{es:List Expr}{ta:TE}{t:TA}
theorem vY{H:Hp}{s:Shared}{Q:VK}{vs:List V}(F:oz X.prog X.w X.K X.mg X.base CX k f fd ps sp)(hr:dP k X.A)(hb:Binds X.K fd ps ds)(hd:Vals dvs ds)(hx:Passes CX X E)
  (I:Inv X K5 σ H s)(r:Vals vs us)(h:sp (vs++dvs) H Q E):wpAny (model X.prog X.w) X.A (call (.ref f) us) (EP X K5 σ Q) X.xe s:=by
 have r2:Vals (vs++dvs) (us++ds):=r.append hd;have hl:(us++ds).length=ps.length:=by rw[<- r2.length];exact F.len _ _ _ _ h
 refine wpAny_call (KR (F.run X.A X.stack s H ⟨us,[]⟩ (us++ds) (vs++dvs) Q E hr I.env0 (hb s us I.kIn hl) r2 h) λr s' hq=>?_);cases r with
 | error e=>exact hx K5 σ H s e s' I hq
 | ok fl =>
  cases fl with
  | ret u=>exact I.after hq
  | next=>exact False.elim hq
  | brk=>exact False.elim hq
  | cont=>exact False.elim hq
theorem wx(F:oz X.prog X.w X.K X.mg X.base CX k f fd ps sp)(hr:dP k X.A)(hg:Gl X x)(hm:X.mg x=some (.ref f))(hk:PySem.W.keepIn X.K (.ref f)=true)(hb:Binds X.K fd ps ds)(hd:Vals dvs ds)(hx:Passes CX X E)
  (ha:PA X (e::es) t)(hdb:(x==("__debug__":Str))=false:=by decide)(he:starEach (e::es) X.env=(false,eval e X.env)::starEach es X.env:=by rfl)(hpl:(backTo pos (starEach es X.env)).any (·.1)=false:=by rfl) :
  PE X (.Call (.Name x p) (e::es) [] pos) (qS sp dvs E t):=by
 intro K5 s σ H Q I h;refine D0 (lM I hg hm ?_ hdb);refine Kc (h₀:=X.base) I.ok.mod.kin hk (Lb (ha pos K5 s σ H _ I h) λus s1 zz=>?_) he hpl;obtain⟨vs,H1,I1,r,q⟩:=zz;refine⟨I1.kIn,?_⟩;exact vY F hr hb hd hx I1 r q
theorem Gz(F:oz X.prog X.w X.K X.mg X.base CX k f fd ps sp)(hr:dP k X.A)(hg:Gl X x)(hm:X.mg x=some (.ref f))(hk:PySem.W.keepIn X.K (.ref f)=true)(hb:Binds X.K fd ps ds)(hd:Vals dvs ds)(hx:Passes CX X E)
  (hdb:(x==("__debug__":Str))=false:=by decide):PE X (.Call (.Name x p) [] [] pos) (qS sp dvs E lQ):=by
 intro K5 s σ H Q I h;refine D0 (lM I hg hm ?_ hdb);exact J5 I.kIn hk (vY (us:=[]) F hr hb hd hx I .nil h)
structure Mk(K:W.Frag)(C f:Addr):Prop where
 makes:PySem.W.makesIn K C=true
 init:PySem.W.findIn K (.ref C) "__init__"=some (some (.ref f))
 fn:PySem.W.isFn K (.ref f)=true
 kp:PySem.W.keepIn K (.ref C)=true
theorem FO{H:Hp}{s:Shared}{Q:VK}{vs:List V}(M:Mk X.K C f)(F:oz X.prog X.w X.K X.mg X.base CX k f fd ps sp)(hr:dP (k+1) X.A)(hb:Binds X.K fd ps ds)(hd:Vals dvs ds)
  (hx:Passes CX X E)(I:Inv X K5 σ H s)(r:Vals vs us)
  (h:∀x dx,H x=none->H dx=none->dx≠x->sp (.ref x::(vs++dvs)) (upd (upd H dx (.own x)) x (.ins C dx [])) (λv H2=>v=.non/\Q (.ref x) H2) E) :
  wpAny (model X.prog X.w) X.A (call (.ref C) us) (EP X K5 σ Q) X.xe s:=by
 have hq:=h (s.heap.objs.size+1) s.heap.objs.size (I.hok.fresh (K1 _)) (I.hok.fresh (c5 _)) (z6 (IV _));have I2:=Inv.made (C:=C) I;have r2:Vals (V.ref (s.heap.objs.size+1)::(vs++dvs)) (Value.ref (s.heap.objs.size+1)::(us++ds)):=.cons rfl (r.append hd)
 have hl:(Value.ref (s.heap.objs.size+1)::us++ds).length=ps.length:=by
  have e:=r2.length;rw[F.len _ _ _ _ hq]at e;exact e.symm
 refine wpAny_call (Ho (f:=f) I.kIn M.makes M.init (Jd.mp M.fn) (KR (F.run _ X.stack _ _ ⟨Value.ref (s.heap.objs.size+1)::us,[]⟩ (Value.ref (s.heap.objs.size+1)::(us++ds)) _ _ E (hr.make C us [])
  (I2.env0.make C us []) (hb _ (Value.ref (s.heap.objs.size+1)::us) I2.kIn hl) r2 hq) λr s' Vd=>?_))
 cases r with
 | error e=>exact hx K5 σ _ _ e s' I2 Vd
 | ok fl =>
  cases fl with
  | ret u =>
   obtain⟨v,H',I3,rv,ev,q3⟩:=I2.after Vd;subst ev;exact⟨rv,⟨V.ref (s.heap.objs.size+1),H',I3,rfl,q3⟩⟩
  | next=>exact False.elim Vd
  | brk=>exact False.elim Vd
  | cont=>exact False.elim Vd
theorem Ou(M:Mk X.K C f)(F:oz X.prog X.w X.K X.mg X.base CX k f fd ps sp)(hr:dP (k+1) X.A)(hg:Gl X x)(hm:X.mg x=some (.ref C))(hb:Binds X.K fd ps ds)(hd:Vals dvs ds)(hx:Passes CX X E)
  (ha:PA X (e::es) t)(hdb:(x==("__debug__":Str))=false:=by decide)(he:starEach (e::es) X.env=(false,eval e X.env)::starEach es X.env:=by rfl)(hpl:(backTo pos (starEach es X.env)).any (·.1)=false:=by rfl) :
  PE X (.Call (.Name x p) (e::es) [] pos) (PF C sp dvs E t):=by
 intro K5 s σ H Q I h;refine D0 (lM I hg hm ?_ hdb);refine Kc (h₀:=X.base) I.ok.mod.kin M.kp (Lb (ha pos K5 s σ H _ I h) λus s1 zz=>?_) he hpl;obtain⟨vs,H1,I1,r,q⟩:=zz;refine⟨I1.kIn,?_⟩;exact FO M F hr hb hd hx I1 r q
end
section
variable{X:Cx}{CX:M9}{k:Nat}{f C:Addr}{fd:FuncData}{ps ks:List Str}{sp:Sp}{E:XK}{x m:Str}{p pos apos kpos:Pos}{e o:Expr}{es:List Expr}{kws:List Keyword}{te ta:TE}{t tk:TA}{nm:Option Str}
variable{g:List Value->List Value->List Value}{gV:List V->List V->List V}
end
structure aB(N P:List Str)(sc:Scope):Prop where
 kind:sc.kind=.function
 co:sc.isCoroutine=false
 gen:sc.isGenerator=false
 nd:N.Nodup
 pre:N.take P.length=P
 par:∀x∈P,sc.names.lookup x=some .local\/sc.names.lookup x=some .cell
 nofree:∀y∈sc.names,y.2≠.free
theorem ar0(h:p [])(us:List Value)(e:us.length=0):p us:=by
 rw[E1 e];exact h
theorem V7(h:∀a us,us.length=n->p (a::us))(us:List Value)(e:us.length=n+1):p us:=by
 cases us with
 | nil=>exact absurd e.symm (Nat.succ_ne_zero n)
 | cons a t=>exact h a t (Nat.succ.inj e)
theorem ar1(h:∀a,p [a]):∀us:List Value,us.length=1->p us:=V7 λa=>ar0 (h a)
theorem ar2(h:∀a b,p [a,b]):∀us:List Value,us.length=2->p us:=V7 λa=>ar1 (h a)
theorem ar3(h:∀a b c,p [a,b,c]):∀us:List Value,us.length=3->p us:=V7 λa=>ar2 (h a)
theorem ar4(h:∀a b c d,p [a,b,c,d]):∀us:List Value,us.length=4->p us:=V7 λa=>ar3 (h a)
theorem ar5(h:∀a b c d e,p [a,b,c,d,e]):∀us:List Value,us.length=5->p us:=V7 λa=>ar4 (h a)
theorem fsc{P:List Str}(k:sc.kind=.function)(h:(sc.isCoroutine=false)/\(sc.isGenerator=false)/\(N.Nodup)/\(N.take P.length=P)/\(∀x∈P,sc.names.lookup x=some .local\/sc.names.lookup x=some .cell)/\(∀y∈sc.names,y.2≠.free)):aB N P sc:=⟨k,h.1,h.2.1,h.2.2.1,h.2.2.2.1,h.2.2.2.2.1,h.2.2.2.2.2⟩
theorem vq:∀{binds:List (Str×Value)}{m:Str->Option Value},(∀v,(x,v) ∉ binds)->bindL kindOf binds m x=m x
 | [],_,_=>rfl
 | (n,v)::r,m,h=>by
  unfold bindL;rw[vq λw hw=>h w (x6 _ hw)];split
  .have:x≠n:=by rintro rfl;exact h v v8
   simp[this]
  .rfl
theorem vw:∀{binds:List (Str×Value)}{m:Str->Option Value},(∀v,(x,v) ∉ binds)->bindC kindOf binds m x=m x
 | [],_,_=>rfl
 | (n,v)::r,m,h=>by
  unfold bindC;rw[vw λw hw=>h w (x6 _ hw)];split
  .rfl
  .have:x≠n:=by rintro rfl;exact h v v8
   simp[this]
theorem vv{v:Value}:∀{P:List Str}{vs:List Value}{i:Nat}{m:Str->Option Value},P.Nodup->P[i]?=some x->vs[i]?=some v->kindOf x=some .local->
  bindL kindOf (P.zip vs) m x=some v
 | [],_,_,_,_,h,_,_=>by simp at h
 | _::_,[],_,_,_,_,h,_=>by simp at h
 | p::P,w::vs,0,m,nd,h1,h2,hk=>by
  simp at h1 h2;subst h1;subst h2;show bindL kindOf ((p,w)::P.zip vs) m p=_;unfold bindL;rw[vq λv hv=>(JY.mp nd).1 (KY hv).1,d7 hk];simp
 | p::P,w::vs,i+1,m,nd,h1,h2,hk=>by
  show bindL kindOf ((p,w)::P.zip vs) m x=_;unfold bindL;exact vv (i:=i) (JY.mp nd).2 (by simpa using h1) (by simpa using h2) hk
theorem vx{v:Value}:∀{P:List Str}{vs:List Value}{i:Nat}{m:Str->Option Value},P.Nodup->P[i]?=some x->vs[i]?=some v->kindOf x≠some .local->
  bindC kindOf (P.zip vs) m x=some v
 | [],_,_,_,_,h,_,_=>by simp at h
 | _::_,[],_,_,_,_,h,_=>by simp at h
 | p::P,w::vs,0,m,nd,h1,h2,hk=>by
  simp at h1 h2;subst h1;subst h2;show bindC kindOf ((p,w)::P.zip vs) m p=_;unfold bindC;rw[vw λv hv=>(JY.mp nd).1 (KY hv).1,d9 hk];simp
 | p::P,w::vs,i+1,m,nd,h1,h2,hk=>by
  show bindC kindOf ((p,w)::P.zip vs) m x=_;unfold bindC;exact vx (i:=i) (JY.mp nd).2 (by simpa using h1) (by simpa using h2) hk
noncomputable def start(N:List Str)(vs:List V):St:=vs.map some++List.replicate (N.length-vs.length) none
noncomputable def cN(CX:M9)(P:Program)(w:World)(K:W.Frag)(mg:Str->Option Value)(base:Heap)(N:List Str)(qual:Str)(scope:Scope)(f:Addr)(cd:Value)(A:Around)(outer:List Env)(s:Shared)(H:Hp)(E:XK):Cx where
 prog:=P
 w:=w
 K:=K
 mg:=mg
 base:=base
 A:=A.deeper (envOfC qual scope s.heap.objs.size f cd)
 N:=N
 s₀:=s
 H₀:=H
 env:=envOfC qual scope s.heap.objs.size f cd
 outer:=outer
 stack:=envOfC qual scope s.heap.objs.size f cd::outer
 ex:=[]
 calm:=true
 fn:=λ_=>true
 pn:=[]
 xe:=λe s'=>wpAny (model P w) (A.deeper (envOfC qual scope s.heap.objs.size f cd)) (leaving (envOfC qual scope s.heap.objs.size f cd) e) (λ_ Ni=>CX outer H s E e Ni) (λe' Ni=>CX outer H s E e' Ni) s'
theorem yX(h:sc.names.lookup x=some .cell):∃c,(cellsFrom n sc.names []).lookup x=some c:=by
 have q:=PySem.W.cellsFrom_some sc.names n [] (.inl h);exact KG.mp q
theorem Eh{CX:M9}{P:Program}{w:World}{K:W.Frag}{f:Addr}{outer:List Env}{s s1:Shared}{H:Hp}{E:XK}{vs:List V}
  (S:aB N ps scope)(hd:A.handled=none)(e0:Bk P w K mg base A outer s H)(hl:vs.length=ps.length)(r:Vals vs us)
  (x:InCallC s s.heap.objs.size (bindL (envOfC qual scope s.heap.objs.size f cd).kindOf (ps.zip us) λ_=>none) (cellsFrom (s.heap.objs.size+1) scope.names []) (bindC (envOfC qual scope s.heap.objs.size f cd).kindOf (ps.zip us) λ_=>none) s1) :
  Inv (cN CX P w K mg base N qual scope f cd A outer s H E) [] (start N vs) H s1:=by
 have hpl:ps.length<=N.length:=by have:=x9 List.length S.pre;rw[G0]at this;omega
 obtain⟨h1,tk,rfl,hk⟩:=x.done;have US:∀b:Addr,b ∉ (cN CX P w K mg base N qual scope f cd A outer s H E).ex:=λb z=>absurd (show b∈([]:List Addr) from z) (by simp)
 refine⟨⟨e0.mod,S.kind,rfl,rfl,c5 _,λy z c h1 h2=>?_,λy hy=>?_,λy c _ h=>?_,λ_=>hd,Around.frames_deeper e0.frames,.inr ⟨rfl,rfl⟩,λb z=>absurd z (US b),e0.bs,e0.bsz,λb _ _=>US b,λb z=>absurd z (US b),e0.funs,e0.frf⟩,
  rfl,e0.bare,Un.kept hk,⟨_,x.toInCall.ns,λi y v h1 h2 h3=>?_⟩,λy c h=>⟨_,x.cell y c h⟩,e0.hok.fresh (c5 _),λy c h=>?_,λp hp=>absurd (show p∈([]:List (Addr×Obj)) from hp) (by simp),e0.hok.kept hk,?_⟩
 .exact name_of_addr x.apart (Jf h1) (Jf h2)
 .have hy:scope.names.lookup y=some .cell\/scope.names.lookup y=some .free:=hy;rcases hy with hy | hy
  .exact yX hy
  .exact absurd rfl (S.nofree _ (Jf hy))
 .exact Jx (x.above y c (Jf h))
 .have hi:i<vs.length:=by
   unfold start at h2
   by_cases hi:i<vs.length
   .exact hi
   .rw[F4 (by simpa using hi)]at h2;rw[List.getElem?_replicate]at h2;split at h2<;>cases h2
  have ha:vs[i]?=some v:=by
   unfold start at h2;rw[B0 (by simpa using hi),w6]at h2;cases e:vs[i]? with
   | none=>rw[e]at h2;cases h2
   | some a=>rw[e]at h2;cases h2;rfl
  obtain⟨u,hu,rv⟩:=r.get ha
  have hp:ps[i]?=some y:=by
   rw[<- S.pre,List.getElem?_take_of_lt (by omega)];exact h1
  have ndP:ps.Nodup:=by rw[<- S.pre];exact S.nd.sublist (List.take_sublist _ _)
  refine⟨u,rv,?_⟩;rcases S.par y (p8 hp) with k | k
  .exact .inl ⟨k,vv ndP hp hu k⟩
  .obtain⟨c,e⟩:=yX (n:=s.heap.objs.size+1) k;refine .inr ⟨.inl k,c,e,?_⟩;have q:=x.cell y c e;rw[vx ndP hp hu (by show scope.names.lookup y≠_;rw[k];decide)]at q;exact q
 .exact e0.hok.fresh (Jx (x.above y c (Jf h)))
 .unfold start;show _=N.length;rw[c7,i7,Jt];omega
theorem Qj{CX:M9}{P:Program}{w:World}{K:W.Frag}{k:Nat}{f:Addr}{name:Str}{dV kV doc pm cdv ct oc:Value}(lk:K.lookup f=some ⟨oc,od,.func (PySem.W.fnOf name qual params body scope dV kV doc pm an cdv ct),osl⟩)(hcd:PySem.W.codeIn K cdv qual=true)(S:aB N ps scope)
  (len:∀vs H Q E,sp vs H Q E->vs.length=ps.length)
  (Nu:∀(A:Around)(outer:List Env)(s:Shared)(H:Hp)(vs:List V)(Q:VK)(E:XK),dP k (A.deeper (envOfC qual scope s.heap.objs.size f cdv))->sp vs H Q E->
   ∃t,Lr (cN CX P w K mg base N qual scope f cdv A outer s H E) body t/\t {nx:=λ_ H'=>Q .non H',rt:=Q} (start N vs) H) :
  oz P w K mg base CX (k+1) f (PySem.W.fnOf name qual params body scope dV kV doc pm an cdv ct) ps sp:=by
 refine⟨len,λA outer s H args us vs Q E hr e0 hb r Qc=>?_⟩;have hl:=len _ _ _ _ Qc;have KX:K.In s.heap:=e0.mod.kin.keeps λb o e=>(e0.bs b o e).1;have lim:s.heap.NoLimit:=e0.mod.nolimit.keeps λb o e=>(e0.bs b o e).1
 have Vh:∀y∈ps.zip us,scope.names.lookup y.1=some .local\/(scope.names.lookup y.1=some .cell/\((cellsFrom (s.heap.objs.size+1) scope.names []).lookup y.1).isSome=true):=λ⟨n,v⟩ hy=>by
  rcases S.par n (KY hy).1 with q | q
  .exact .inl q
  .exact .inr ⟨q,PySem.W.cellsFrom_some _ _ _ (.inl q)⟩
 refine codeAny_call_function hr.depth (KX _ _ lk) rfl S.co S.gen rfl (PySem.W.codeRec_of KX hcd) (hb _ _ _ _ ?_);refine wpAny_newFunctionEnv_cells S.kind Vh λenv he s1 x=>?_;subst he;refine⟨lim.keeps x.toInCall.keep,codeAny_func ?_⟩;obtain⟨t,ht,hq⟩:=Nu A outer s H vs Q E (hr.deeper _) Qc;have I:Inv (cN CX P w K mg base N qual scope f cdv A outer s H E) [] (start N vs) H s1:=Eh S hr.hd e0 hl r x;refine E7 (ht [] s1 (start N vs) H _ I hq) (λfl s' hs=>?_) λe s' hs=>hs
 have fin:∀{σ':St}{H':Hp}{v:V}{u:Value},Inv (cN CX P w K mg base N qual scope f cdv A outer s H E) [] σ' H' s'->RelV v u->Q v H'->CE outer P w H s Q u s':=
  λ{σ' H' v u} J rv q=>⟨v,H',J.os,J.bare,J.base,J.hok,rv,q⟩
 cases fl with
 | ret u =>
  obtain⟨v,σ',H',J,rv,q⟩:=hs;exact fin J rv q
 | next =>
  obtain⟨σ',H',J,q⟩:=hs;exact fin (v:=V.non) (u:=Value.none) J rfl q
 | brk =>
  obtain⟨_,_,_,q⟩:=hs;exact False.elim q
 | cont =>
  obtain⟨_,_,_,q⟩:=hs;exact False.elim q
section
variable{X:Cx}{x:Str}{p pos:Pos}{e:Expr}{es:List Expr}{t:TA}{id T:String}{r:List V->Hp->VK->Prop}
def Nf(r:List V->Hp->VK->Prop)(t:TA):TE:=λσ H Q=>t σ H λvs H1=>r vs H1 Q
theorem aG(hc:gi X (.builtin id) r)(hm:X.mg x=none)(ha:PA X (e::es) t)(hg:Gl X x:=by rfl)(hv:bootBuiltins x=some (.builtin id):=by decide+kernel)(hn:x≠"__name__":=by decide)(hdb:(x==("__debug__":Str))=false:=by decide)(he:starEach (e::es) X.env=(false,eval e X.env)::starEach es X.env:=by rfl)(hpl:(backTo pos (starEach es X.env)).any (·.1)=false:=by rfl):PE X (.Call (.Name x p) (e::es) [] pos) (Nf r t):=by
 intro K5 s σ H Q I h;refine D0 (kT I hg hm hv ?_ hn hdb);refine PyProof.Rows.callWith_builtin1 (Lb (ha pos K5 s σ H _ I h) λus s1 zz=>?_) he hpl;obtain⟨vs,H1,I1,r1,q1⟩:=zz;exact hc K5 s1 σ H1 vs us Q I1 r1 q1
theorem cR(hc:gi X (.type T) r)(hm:X.mg x=none)(ha:PA X (e::es) t)(hg:Gl X x:=by rfl)(hv:bootBuiltins x=some (.type T):=by decide+kernel)(hn:x≠"__name__":=by decide)(hdb:(x==("__debug__":Str))=false:=by decide)(he:starEach (e::es) X.env=(false,eval e X.env)::starEach es X.env:=by rfl)(hpl:(backTo pos (starEach es X.env)).any (·.1)=false:=by rfl):PE X (.Call (.Name x p) (e::es) [] pos) (Nf r t):=by
 intro K5 s σ H Q I h;refine D0 (kT I hg hm hv ?_ hn hdb);refine C8 (Lb (ha pos K5 s σ H _ I h) λus s1 zz=>?_) he hpl;obtain⟨vs,H1,I1,r1,q1⟩:=zz;exact hc K5 s1 σ H1 vs us Q I1 r1 q1
end
end L2
namespace HT
open PySem PyProof.Rows
variable{vs ws:List Value}{Q:Value->Shared->Prop}{v vl vu:Value}{o lo hi:Option Int}{sl:Addr}{n:Nat}{items:Array Value}
section
open PySem.SeqAt
open PySem.AutoSeq1 (wpAny_loadPart')
open PySem.MeetsSeq PySem.MeetsSeq2 PySem.MeetsSeq3
end
section
variable{prog:Program}{w:World}{A:Around}{E:Value->Shared->Prop}{s:Shared}
theorem cat_tup{t b:Addr}(ht:IsTup s.heap t vs.toArray)(hb:IsTup s.heap b ws.toArray)(hv:vs≠[])
  (h1:ws=[]->Q (.ref t) s)(h2:ws≠[]->Q (.ref s.heap.objs.size) {s with heap:=s.heap.push {cls:=.type "tuple",data:=.seq (vs++ws).toArray} })
  (hsz:vs.length+ws.length<=sizeLine):wpAny (model prog w) A (binaryOp .Add (.ref t) (.ref b)) Q E s:=by
 obtain⟨⟨cls,dd,data,sl⟩,ho,hc,n,hd⟩:=id ht;obtain⟨⟨cls2,dd2,data2,Z9⟩,WV,Qg,n2,hd2⟩:=id hb;simp only at hc hd Qg hd2;subst hc hd Qg hd2;have e:vs.toArray++ws.toArray=(vs++ws).toArray:=by simp
 by_cases hw:ws=[]
 .exact concat_meets ⟨_,ho,rfl⟩ ⟨_,WV,rfl⟩ noFill_tuple_add seq_tuple_add PySem.F.slot_tuple_add PySem.F.entry_tuple_add (KH _ _)
   (tuple_addW1 t b vs.toArray ws.toArray n n2 dd dd2 sl Z9 (by simpa using hv) (by simp[hw])) ⟨ho,WV,h1 hw⟩
 .refine concat_meets ⟨_,ho,rfl⟩ ⟨_,WV,rfl⟩ noFill_tuple_add seq_tuple_add PySem.F.slot_tuple_add PySem.F.entry_tuple_add (KH _ _)
   (tuple_addW2 t b vs.toArray ws.toArray n n2 dd dd2 sl Z9 (by simpa using hv) (by simpa using hw) (by rw[j7,j7];exact hsz)) ⟨ho,WV,?_⟩
  rw[e];exact h2 hw
noncomputable def sIx(n d:Nat):Option Int->Nat
 | none=>d
 | some v=>if v<0 then(v+(n:Int)).toNat else min v.toNat n
theorem rX(n d:Nat):sIx n d none=d:=rfl
theorem nQ(n d k:Nat):sIx n d (some (k:Int))=min k n:=by
 show(if(k:Int)<0 then((k:Int)+(n:Int)).toNat else min (k:Int).toNat n)=min k n;rw[d9 (by omega),Kx]
theorem Q3(n d:Nat)(hd:d<=n)(o:Option Int):sIx n d o<=n:=by
 cases o with
 | none=>exact hd
 | some v =>
  show(if v<0 then(v+(n:Int)).toNat else min v.toNat n)<=n
  by_cases hv:v<0
  .rw[d7 hv];omega
  .rw[d9 hv];exact Nat.min_le_right _ _
theorem CO(v:Int)(n d:Nat):(if v<0 then max (v+(n:Int)) 0 else min v (n:Int))=((sIx n d (some v):Nat):Int):=by
 show(if v<0 then max (v+(n:Int)) 0 else min v (n:Int))=(((if v<0 then(v+(n:Int)).toNat else min v.toNat n):Nat):Int)
 by_cases hv:v<0
 .simp only[d7 hv];omega
 .simp only[d9 hv];omega
theorem AS(lo hi:Option Int)(n:Nat):Builtin.Slice.sliceAdjust lo hi 1 (n:Int)=(((sIx n 0 lo:Nat):Int),((sIx n n hi:Nat):Int)):=by
 have h1:¬((1:Int)<0):=by omega
 unfold Builtin.Slice.sliceAdjust;simp only[h1,if_false];refine Prod.ext ?_ ?_
 .cases lo with
  | none=>rfl
  | some v=>exact CO v n 0
 .cases hi with
  | none=>rfl
  | some v=>exact CO v n n
theorem Ac(i j:Nat):Builtin.Slice.slicePlaces (i:Int) (j:Int) 1=j-i:=by
 unfold Builtin.Slice.slicePlaces;have h1:(1:Int)>0:=by omega
 simp only[h1,KS,Int.ediv_one];split<;>omega
theorem rz{Q:Option Int->Shared->Prop}(p:IsPart v o)(h:Q o s):wpAny (model prog w) A (Builtin.Slice.slicePartIndex v) Q E s:=by
 cases p with
 | none=>exact slicePart_none h
 | int i t=>exact slicePart_int h
theorem jo{Q:Int×Int×Nat->Shared->Prop}(hs:s.heap.IsSliceOf sl vl vu .none)(pl:IsPart vl lo)(pu:IsPart vu hi)
  (h:Q (((sIx n 0 lo:Nat):Int),1,sIx n n hi-sIx n 0 lo) s):wpAny (model prog w) A (Builtin.Slice.sliceApplied (.ref sl) (pure (n:Int))) Q E s:=by
 obtain⟨os,RV,W0,RY⟩:=id hs;unfold Builtin.Slice.sliceApplied Builtin.Slice.sliceFields;refine b6 (b6 (E2 RV RY (x:=vl) rfl (b6 (E2 RV RY (x:=vu) rfl (b6 (E2 RV RY (x:=.none) rfl (n9 ?_)))))));refine b6 (slicePart_none ?_);show wpAny _ _ (if((1:Int)==0)=true then _ else _) _ _ s;rw[d9 (by decide)];refine b6 (rz pl (b6 (rz pu (b6 (n9 ?_)))));show wpAny _ _ (match Builtin.Slice.sliceAdjust lo hi 1 (n:Int) with | (lo,hi)=>pure (lo,(1:Int),Builtin.Slice.slicePlaces lo hi 1)) _ _ s
 rw[AS lo hi n];show wpAny _ _ (pure (((sIx n 0 lo:Nat):Int),(1:Int),Builtin.Slice.slicePlaces ((sIx n 0 lo:Nat):Int) ((sIx n n hi:Nat):Int) 1)) _ _ s;rw[Ac];exact n9 h
theorem Gs(xs:Array Value)(i k:Nat):((List.range k).filterMap λ(m:Nat)=>xs[((i:Int)+(m:Int)*1).toNat]?).toArray=((xs.toList.drop i).take k).toArray:=by
 have e:(λ(m:Nat)=>xs[((i:Int)+(m:Int)*1).toNat]?)=λm=>xs[i+m]?:=by
  funext m;have:((i:Int)+(m:Int)*1).toNat=i+m:=by omega
  rw[this]
 rw[e];have:=pick_run xs i k;rw[List.filterMap_map]at this;have e2:((λx=>xs[x]?) ∘ λx=>i+x)=λm=>xs[i+m]?:=rfl;rw[e2]at this;rw[this]
theorem nY{t:Addr}(ht:IsTup s.heap t items)(hs:s.heap.IsSliceOf sl vl vu .none)(pl:IsPart vl lo)(pu:IsPart vu hi)
  (hw:¬(sIx items.size 0 lo=0/\sIx items.size items.size hi=items.size))
  (h:Q (.ref s.heap.objs.size) {s with heap:=s.heap.push {cls:=.type "tuple",data:=.seq ((items.toList.drop (sIx items.size 0 lo)).take (sIx items.size items.size hi-sIx items.size 0 lo)).toArray} })
  (hsz:items.size<=sizeLine):wpAny (model prog w) A (getItem (.ref t) (.ref sl)) Q E s:=by
 have MM:sizeOk (.seq ((items.toList.drop (sIx items.size 0 lo)).take (sIx items.size items.size hi-sIx items.size 0 lo)).toArray):=by
  show((items.toList.drop (sIx items.size 0 lo)).take (sIx items.size items.size hi-sIx items.size 0 lo)).toArray.size<=sizeLine;rw[j7,G0,Jg,A9];omega
 have hj:sIx items.size items.size hi<=items.size:=Q3 _ _ (c5 _) hi;obtain⟨os,RV,W0,RY⟩:=id hs;have Y5:s.TypeIs (.ref sl) "slice":=⟨os,RV,W0⟩;unfold getItem
 try with_reducible refine wpAny_holding ?_
 first | refine b6 (n9 ?_) | skip
 refine b6 (wpAny_sequenceKey ht.typeIs (by decide) ?_)
 refine b6 (C9 (name:=Str.ofString "__getitem__") ht.typeIs B3
  (IW B3 ht.typeIs entry_tuple_getitem ?_ (args_tuple_getitem _ _)))
 show wpAny _ _ (Builtin.Tuple.tupleItemsOf (.ref t) >>= _) _ _ s;refine b6 (tupleItemsOf_ ht ?_);refine b6 (wpAny_typeOf Y5 ?_);rw[d7 (by decide)];refine b6 (jo hs pl pu ?_)
 have YO:¬((((sIx items.size 0 lo:Nat):Int)==0 && (1:Int)==1 && (sIx items.size items.size hi-sIx items.size 0 lo)==items.size)=true):=by
  intro q;rw[A8,A8]at q;have q1:((sIx items.size 0 lo:Nat):Int)=0:=eq_of_beq q.1.1;have q2:sIx items.size items.size hi-sIx items.size 0 lo=items.size:=eq_of_beq q.2;exact hw ⟨by omega,by omega⟩
 show wpAny _ _ (if(((sIx items.size 0 lo:Nat):Int)==0 && (1:Int)==1 && (sIx items.size items.size hi-sIx items.size 0 lo)==items.size)=true then _ else _) _ _ s;rw[d9 YO,Gs]
 first
  | exact b6 (m:=Builtin.Tuple.tupleExact _) (F5 (n9 ⟨_,rfl,n9 h⟩) MM)
  | exact b6 (m:=Builtin.Tuple.tupleExact _) (F5 (b6 (n9 (n9 ⟨_,rfl,n9 h⟩))) MM)
  | exact b6 (b6 (m:=Builtin.Tuple.tupleExact _) (F5 (n9 (n9 ⟨_,rfl,n9 h⟩)) MM))
  | exact b6 (b6 (m:=Builtin.Tuple.tupleExact _) (F5 (n9 ⟨_,rfl,n9 h⟩) MM))
end
end HT
namespace L2
open PySem PySem.Spec PyProof.Rows
variable{ns:List Int}{us its its':List Value}{n j t':Nat}{i:Int}{A:Around}{s:Shared}{u v:Value}{K5:List (Addr×Obj)}{σ:St}{H:Hp}{T:String}{f:Array Value->Array Value}
noncomputable abbrev TO:=St->Hp->(Option Int->Hp->Prop)->Prop
def PO(X:Cx)(e:Option Expr)(t:TO):Prop:=
 ∀(
  K5:List (Addr×Obj)) (s:Shared) (σ:St) (H:Hp) (Q:Option Int->Hp->Prop),Inv X K5 σ H s->t σ H Q->
  wpAny (model X.prog X.w) X.A (evalPart e X.env) (λu s'=>∃o H',Inv X K5 σ H' s'/\IsPart u o/\Q o H') X.xe s
noncomputable def nA:TO:=λ_ H Q=>Q none H
noncomputable def T9(t:TE):TO:=λσ H Q=>t σ H λx H1=>∃i,x=.int i/\Q (some i) H1
theorem intsAre_of:∀{us:List Value},Vals (ns.map V.int) us->IntsAre us ns:=by
 induction ns with
 | nil=>intro us r;rw[J7]at r;cases r;exact .nil
 | cons n ns ih =>
  intro us r;rw[z7]at r;cases r with
  | cons r1 r2 =>
   obtain⟨t,e⟩:=r1;subst e;exact .cons n t (ih r2)
section
variable{X:Cx}{e:Expr}{te:TE}{lo hi:Option Expr}{tl th:TO}{pos p2:Pos}
theorem jR:PO X none nA:=by
 intro K5 s σ H Q I h;rw[evalPart_none];exact n9 ⟨none,H,I,.none,h⟩
theorem jQ(h:PE X e te):PO X (some e) (T9 te):=by
 intro K5 s σ H Q I hw;rw[evalPart_some];refine Lb (h K5 s σ H _ I hw) λu s1 zz=>?_;obtain⟨x,H1,I1,r1,q1⟩:=zz;obtain⟨i,rfl,q⟩:=q1;obtain⟨t,rfl⟩:=r1;exact⟨some i,H1,I1,.int i t,q⟩
def Xn(X:Cx)(r:V->Option Int->Option Int->Hp->VK->Prop):Prop:=
 ∀(
  K5:List (Addr×Obj)) (s:Shared) (σ:St) (H:Hp) (x:V) (v vl vu:Value) (lo hi:Option Int) (sl:Addr) (Q:VK),Inv X K5 σ H s->RelV x v->s.heap.IsSliceOf sl vl vu .none->IsPart vl lo->IsPart vu hi->r x lo hi H Q->
  ∃T id,typeLookup (.type T) "__getitem__"=pure (some (.builtin id))/\s.TypeIs v T/\wpAny (model X.prog X.w) X.A (getItem v (.ref sl)) (EP X K5 σ Q) X.xe s
def tSl(r:V->Option Int->Option Int->Hp->VK->Prop)(te:TE)(tl th:TO):TE:=λσ H Q=>te σ H λx H1=>tl σ H1 λl H2=>th σ H2 λu H3=>r x l u H3 Q
theorem iI{r:V->Option Int->Option Int->Hp->VK->Prop}(hr:Xn X r)(he:PE X e te)(hl:PO X lo tl)(hu:PO X hi th):PE X (.Subscript e (.Slice lo hi none p2) pos) (tSl r te tl th):=by
 intro K5 s σ H Q I h;refine Subscript_ (Lb (he K5 s σ H _ I h) λv s1 zz=>?_);obtain⟨x,H1,I1,r1,q1⟩:=zz;refine wpAny_Slice (Lb (hl K5 s1 σ H1 _ I1 q1) λvl s2 zz=>?_);obtain⟨l,H2,I2,pl,q2⟩:=zz;refine Lb (hu K5 s2 σ H2 _ I2 q2) λvu s3 zz=>?_;obtain⟨u,H3,I3,pu,q3⟩:=zz;rw[evalPart_none];refine n9 ?_;have I4:Inv X K5 σ H3 {s3 with heap:=s3.heap.push {cls:=.type "slice",data:=.fields #[vl,vu,.none] } }:=I3.kept (t':=s3.toks) λb ob q=>i6 _ q
 obtain⟨T,id,hT,ht,hg⟩:=hr K5 {s3 with heap:=s3.heap.push {cls:=.type "slice",data:=.fields #[vl,vu,.none] } } σ H3 x v vl vu l u s3.heap.objs.size Q I4 r1 (Heap.IsSliceOf.new ..) pl pu q3
 show wpAny (model X.prog X.w) X.A (subscriptTail e (.Slice lo hi none p2) v (.ref s3.heap.objs.size)) (EP X K5 σ Q) X.xe {s3 with heap:=s3.heap.push {cls:=.type "slice",data:=.fields #[vl,vu,.none] } }
 exact tail_any (ops:=[.ref s3.heap.objs.size,v]) ht hT hg (by with_unfolding_all rfl)
noncomputable def jV(xs:List V)(lo hi:Option Int):List V:=(xs.drop (HT.sIx xs.length 0 lo)).take (HT.sIx xs.length xs.length hi-HT.sIx xs.length 0 lo)
theorem qj(xs:List V)(lo hi:Option Int):(jV xs lo hi).length<=xs.length:=by
 unfold jV;rw[G0,Jg];omega
def XW(K:W.Frag):V->Option Int->Option Int->Hp->VK->Prop:=λx lo hi H Q=>∃a xs,x=.ref a/\K6 K H a xs/\
 ¬(HT.sIx xs.length 0 lo=0/\HT.sIx xs.length xs.length hi=xs.length)/\∀p,H p=none->Q (.ref p) (upd H p (.tup (jV xs lo hi)))
theorem Q1:Xn X (XW X.K):=by
 intro K5 s σ H x v vl vu lo hi sl Q I rx hs pl pu h;obtain⟨a,xs,rfl,hx,hw,q⟩:=h;cases rx
 obtain⟨its,r,ht,hz⟩:=I.tuple hx;have hlen:its.toArray.size=xs.length:=by rw[j7];exact r.length.symm
 refine⟨"tuple",_,B3.lookup,ht.typeIs,?_⟩;refine HT.nY ht hs pl pu (by rw[hlen];exact hw) ?_ (by rw[hlen];exact hz);rw[hlen];refine⟨.ref s.heap.objs.size,_,I.laid (t':=s.toks) (o:=.tup (jV xs lo hi)) (λb ob q=>i6 _ q) (c5 _) ?_,rfl,q _ (I.hok.fresh (c5 _))⟩;exact⟨l7 (qj xs lo hi) hz,_,(r.drop (HT.sIx xs.length 0 lo)).take (HT.sIx xs.length xs.length hi-HT.sIx xs.length 0 lo),IsTup.new _ _⟩
def P2(K:W.Frag):R2:=λx y H Q=>∃a b xs ys,x=.ref a/\y=.ref b/\K6 K H a xs/\K6 K H b ys/\xs≠[]/\xs.length+ys.length<=sizeLine/\
 (ys=[]->Q (.ref a) H)/\(ys≠[]->∀p,H p=none->Q (.ref p) (upd H p (.tup (xs++ys))))
theorem Vals.nil_iff{xs:List V}(r:Vals xs us):us=[]↔xs=[]:=by
 cases r with
 | nil=>simp
 | cons _ _=>simp
theorem Cc:Lm X (binaryOp .Add) (P2 X.K):=by
 intro K5 s σ H x y v u Q I rx ry h;obtain⟨a,b,xs,ys,rfl,rfl,ha,hb,hx,hz,q1,q2⟩:=h;cases rx
 cases ry
 obtain⟨its,r1,p1,_⟩:=I.tuple ha;obtain⟨Lj,r2,p2,_⟩:=I.tuple hb;refine HT.cat_tup p1 p2 (λz=>hx (r1.nil_iff.mp z)) (λz=>⟨.ref a,H,I,rfl,q1 (r2.nil_iff.mp z)⟩) (λz=>?_) (by rw[<- r1.length,<- r2.length];exact hz);refine⟨.ref s.heap.objs.size,_,I.laid (t':=s.toks) (o:=.tup (xs++ys)) (λb ob q=>i6 _ q) (c5 _) ?_,rfl,q2 (λw=>z (r2.nil_iff.mpr w)) _ (I.hok.fresh (c5 _))⟩;exact⟨by rw[c7];exact hz,_,r1.append r2,IsTup.new _ _⟩
end
noncomputable def Qa(n:Nat)(i:Int):Option Nat:=if 0<=i then(if i<n then some i.toNat else none) else if -(n:Int)<=i then some (i+n).toNat else none
noncomputable def Mi{α:Type}(xs:List α)(i:Int):Option α:=(Qa xs.length i).bind λj=>xs[j]?
theorem OP(h:Qa n i=some j):seqIndex? i n=some j/\j<n/\-(n:Int)<=i/\i<n:=by
 unfold Qa at h
 by_cases h0:0<=i
 .rw[d7 h0]at h
  by_cases h1:i<n
  .rw[d7 h1]at h;have e:i.toNat=j:=j8 h;exact⟨by rw[seqIndex_of h0 h1,e],by omega,by omega,h1⟩
  .rw[d9 h1]at h;cases h
 .rw[d9 h0]at h
  by_cases h1:-(n:Int)<=i
  .rw[d7 h1]at h;have e:(i+n).toNat=j:=j8 h;exact⟨by rw[seqIndex_neg (by omega) h1,e],by omega,h1,by omega⟩
  .rw[d9 h1]at h;cases h
theorem CQ{α:Type}{xs:List α}{v:α}(h:Mi xs i=some v):∃j,seqIndex? i xs.length=some j/\xs[j]?=some v/\j<xs.length/\-(xs.length:Int)<=i/\i<xs.length:=by
 unfold Mi at h;cases e:Qa xs.length i with
 | none=>rw[e]at h;cases h
 | some j =>
  rw[e]at h;obtain⟨h1,h2,h3,h4⟩:=OP e;exact⟨j,h1,h,h2,h3,h4⟩
theorem cC{α:Type}{xs:List α}{v:α}(h:xs[j]?=some v):Mi xs (j:Int)=some v:=by
 have hj:j<xs.length:=(d6.mp h).1
 have e:Qa xs.length (j:Int)=some j:=by
  unfold Qa;rw[d7 (by omega),d7 (by omega)];simp
 unfold Mi;rw[e];exact h
def xc(b:Expr):Prop:=∀o i,subscripted b false o i=operate [o,i] (getItem o i)
def TQ(X:Cx)(r:R2):Prop:=
 ∀(
  value slice:Expr) (K5:List (Addr×Obj)) (s:Shared) (σ:St) (H:Hp) (x y:V) (v u:Value) (Q:VK),Inv X K5 σ H s->RelV x v->RelV y u->r x y H Q->
  subscripted slice false v u=operate [v,u] (getItem v u)->wpAny (model X.prog X.w) X.A (subscriptTail value slice v u) (EP X K5 σ Q) X.xe s
def ZM(X:Cx)(id:String)(r:V->List V->Hp->VK->Prop):Prop:=
 ∀(
  K5:List (Addr×Obj)) (s:Shared) (σ:St) (H:Hp) (x:V) (xs:List V) (v:Value) (us:List Value) (Q:VK),Inv X K5 σ H s->RelV x v->Vals xs us->r x xs H Q->
  wpAny (model X.prog X.w) X.A (call (.builtin id) (v::us)) (EP X K5 σ Q) X.xe s
section
variable{X:Cx}{a b:Expr}{ta tb:TE}{pos:Pos}
theorem aD{r:R2}(hr:TQ X r)(ha:PE X a ta)(hb:PE X b tb)(hs:xc b:=by intro _ _;rfl):PE X (.Subscript a b pos) (Nd r ta tb):=by
 intro K5 s σ H Q I h;exact Subscript_ (SI ha hb I h λv u s2 x y H2 I2 rx ry q=>hr a b K5 s2 σ H2 x y v u Q I2 rx ry q (hs _ _))
inductive Qz(K:W.Frag)(x:V)(y:V)(H:Hp)(Q:VK):Prop where
 | mk (p:Addr) (xs:List V) (i:Int) (v:V) (TX:x=.ref p) (TV:y=.int i) (Wu:K7 K H p xs) (Xr:Mi xs i=some v) (ZS:Q v H):Qz K x y H Q
def UB(K:W.Frag):R2:=λx y H Q=>Qz K x y H Q
inductive Qy(K:W.Frag)(x:V)(y:V)(H:Hp)(Q:VK):Prop where
 | mk (p:Addr) (xs:List V) (i:Int) (v:V) (TX:x=.ref p) (TV:y=.int i) (Wu:K6 K H p xs) (Xr:Mi xs i=some v) (ZS:Q v H):Qy K x y H Q
def UA(K:W.Frag):R2:=λx y H Q=>Qy K x y H Q
theorem bH:TQ X (UB X.K):=by
 intro value slice K5 s σ H x y v u Q I rx ry h hs;obtain⟨p,xs,i,z,rfl,rfl,hq,he,q⟩:=h;cases rx
 obtain⟨t,rfl⟩:=ry;obtain⟨its,r,pl,hz⟩:=I.list hq;obtain⟨j,h1,h2,h3,h4,h5⟩:=CQ he;obtain⟨w,ew,LH⟩:=r.get h2;have hl:=r.length;have hn:=wK;have fin:EP X K5 σ Q w s:=⟨z,H,I,LH,q⟩
 by_cases h0:0<=i
 .have hj:i.toNat=j:=by
   rw[seqIndex_of h0 h5]at h1;exact j8 h1
  exact item_listR pl.isList h0 (by omega) (by rw[hj];simpa using ew) fin hs
 .have hj:(i+(its.toArray.size:Int)).toNat=j:=by
   rw[seqIndex_neg (by omega) h4]at h1;rw[j7,<- hl];exact j8 h1
  exact subscriptTail_builtinR (x:=w) pl.isList.typeIs slot_list_getitem.lookup
   (wpAny_getItem_list_neg (Q:=λr s'=>r=w/\EP X K5 σ Q r s') pl.isList (by omega) (by rw[j7]<;>omega) (by omega) (by rw[hj];simpa using ew) ⟨rfl,fin⟩) hs
theorem aA:TQ X (UA X.K):=by
 intro value slice K5 s σ H x y v u Q I rx ry h hs;obtain⟨p,xs,i,z,rfl,rfl,hq,he,q⟩:=h;cases rx
 obtain⟨t,rfl⟩:=ry;obtain⟨its,r,pl,hz⟩:=I.tuple hq;obtain⟨j,h1,h2,h3,h4,h5⟩:=CQ he;obtain⟨w,ew,LH⟩:=r.get h2;have hl:=r.length;have hn:=wK;have fin:EP X K5 σ Q w s:=⟨z,H,I,LH,q⟩
 exact subscriptTail_builtinR (x:=w) pl.typeIs slot_tuple_getitem.lookup
  (getItem_tuple (j:=j) (Q:=λr s'=>r=w/\EP X K5 σ Q r s') pl (by omega) (by omega) (by rw[j7,<- hl];exact h1) (by simpa using ew) ⟨rfl,fin⟩) hs
theorem vP(lo hi:Option Int)(n:Nat):(sliceBounds lo hi none n).1=((HT.sIx n 0 lo:Nat):Int)/\(sliceBounds lo hi none n).2.1=((HT.sIx n n hi:Nat):Int)/\(sliceBounds lo hi none n).2.2=1:=by
 refine⟨?_,?_,rfl⟩
 .cases lo with
  | none=>simp[sliceBounds,HT.sIx]
  | some i =>
   simp only[sliceBounds,HT.sIx,Option.getD_none,show(1:Int)>0 by decide,KS]
   by_cases h:i<0
   .simp only[h,KS]<;>omega
   .simp only[h,if_false]<;>omega
 .cases hi with
  | none=>simp[sliceBounds,HT.sIx]
  | some i =>
   simp only[sliceBounds,HT.sIx,Option.getD_none,show(1:Int)>0 by decide,KS]
   by_cases h:i<0
   .simp only[h,KS]<;>omega
   .simp only[h,if_false]<;>omega
theorem tV(its:List Value)(lo hi:Option Int):slicePick its.toArray lo hi none=((its.drop (HT.sIx its.length 0 lo)).take (HT.sIx its.length its.length hi-HT.sIx its.length 0 lo)).toArray:=by
 obtain⟨h1,h2,h3⟩:=vP lo hi its.toArray.size;unfold slicePick;rw[h1,h2,h3];simp only[sliceRange_one,pick_run,j7]<;>rfl
def XX(K:W.Frag):V->Option Int->Option Int->Hp->VK->Prop:=λx lo hi H Q=>∃a xs,x=.ref a/\K7 K H a xs/\∀p,H p=none->Q (.ref p) (upd H p (.lst (jV xs lo hi)))
theorem vQ:Xn X (XX X.K):=by
 intro K5 s σ H x v vl vu lo hi sl Q I rx hs pl pu h;obtain⟨a,xs,rfl,hx,q⟩:=h;cases rx
 obtain⟨its,r,ht,hz⟩:=I.list hx;have hlen:=r.length;refine⟨"list",_,slot_list_getitem.lookup,ht.isList.typeIs,?_⟩;refine wpAny_getItem_list_slice ht.isList hs pl pu .none (by simp) ?_ (by rw[j7]<;>omega);rw[tV,<- hlen];refine⟨.ref s.heap.objs.size,_,I.laid (t':=s.toks) (o:=.lst (jV xs lo hi)) (λb ob q=>i6 _ q) (c5 _) ?_,rfl,q _ (I.hok.fresh (c5 _))⟩;exact⟨l7 (qj xs lo hi) hz,_,0,(r.drop (HT.sIx xs.length 0 lo)).take (HT.sIx xs.length xs.length hi-HT.sIx xs.length 0 lo),r8 _ rfl⟩
noncomputable def qi:V->Bool
 | .non=>true
 | .bl _=>true
 | .int _=>true
 | .str _=>true
 | _=>false
noncomputable def Qk:V->V->Bool
 | .non,.non=>true
 | .bl a,.bl b=>a==b
 | .bl a,.int b=>(if a then 1 else 0)==b
 | .int a,.bl b=>a==(if b then 1 else 0)
 | .int a,.int b=>a==b
 | .str a,.str b=>a==b
 | _,_=>false
theorem Sr{y x:V}(ry:RelV y u)(rx:RelV x v)(fy:qi y=true)(fx:qi x=true):SeqAt.EqAt A s u v (Qk y x):=by
 cases y with
 | non =>
  cases ry
  cases x with
  | non=>cases rx;exact SeqAt.EqAt.same _
  | bl b=>cases rx;exact SeqAt.EqAt.none_bool b
  | int b=>obtain⟨t,rfl⟩:=rx;exact SeqAt.EqAt.none_int b t
  | str b=>obtain⟨t,rfl⟩:=rx;exact SeqAt.EqAt.none_str b t
  | _=>exact absurd (show false=true from fx) k8
 | bl a =>
  cases ry
  cases x with
  | non=>cases rx;exact SeqAt.EqAt.bool_none a
  | bl b=>cases rx;exact SeqAt.EqAt.bool_bool a b
  | int b=>obtain⟨t,rfl⟩:=rx;exact SeqAt.EqAt.bool_int a b t
  | str b=>obtain⟨t,rfl⟩:=rx;exact SeqAt.EqAt.bool_str a b t
  | _=>exact absurd (show false=true from fx) k8
 | int a =>
  obtain⟨t',rfl⟩:=ry;cases x with
  | non=>cases rx;exact SeqAt.EqAt.int_none a t'
  | bl b=>cases rx;exact SeqAt.EqAt.int_bool a t' b
  | int b=>obtain⟨t,rfl⟩:=rx;exact SeqAt.EqAt.int_int a t' b t
  | str b=>obtain⟨t,rfl⟩:=rx;exact SeqAt.EqAt.int_str a t' b t
  | _=>exact absurd (show false=true from fx) k8
 | str a =>
  obtain⟨t',rfl⟩:=ry;cases x with
  | non=>cases rx;exact SeqAt.EqAt.str_none a t'
  | bl b=>cases rx;exact SeqAt.EqAt.str_bool a t' b
  | int b=>obtain⟨t,rfl⟩:=rx;exact SeqAt.EqAt.str_int a t' b t
  | str b=>obtain⟨t,rfl⟩:=rx;exact SeqAt.EqAt.str_str a t' b t
  | _=>exact absurd (show false=true from fx) k8
 | _=>exact absurd (show false=true from fy) k8
noncomputable def O3(x:V)(u:Value):Bool:=match u with
 | .none=>Qk .non x
 | .bool b=>Qk (.bl b) x
 | .int i _=>Qk (.int i) x
 | .str z _=>Qk (.str z) x
 | _=>false
theorem Ih{x y:V}(r:RelV y u)(f:qi y=true):O3 x u=Qk y x:=by
 cases y with
 | non=>cases r;rfl
 | bl b=>cases r;rfl
 | int i=>obtain⟨t,rfl⟩:=r;rfl
 | str z=>obtain⟨t,rfl⟩:=r;rfl
 | _=>exact absurd (show false=true from f) k8
theorem wY{x:V}:∀{xs:List V}{us:List Value},Vals xs us->xs.all qi=true->us.any (O3 x)=xs.any λy=>Qk y x
 | _,_,.nil,_=>rfl
 | y::xs,u::us,.cons r t,f=>by
  rw[K4,A8]at f;rw[JB,JB,Ih r f.1,wY t f.2]
theorem sM{x:V}(rx:RelV x v)(fx:qi x=true):∀{xs:List V}{us:List Value},Vals xs us->xs.all qi=true->∀u∈us,SeqAt.EqAt A s u v (O3 x u)
 | _,_,.nil,_=>λu hu=>by cases hu
 | y::xs,u::us,.cons r t,f=>λu' hu=>by
  rw[K4,A8]at f;rcases j4.mp hu with rfl | hu
  .rw[Ih r f.1];exact Sr r rx f.1 fx
  .exact sM rx fx t f.2 u' hu
noncomputable def Mf(x:V)(xs:List V):Bool:=xs.any λy=>Qk y x
def rIn(K:W.Frag)(neg:Bool):R2:=λx y H Q=>∃p xs,y=.ref p/\(K7 K H p xs\/K6 K H p xs)/\qi x=true/\xs.all qi=true/\Q (.bl (if neg then !Mf x xs else Mf x xs)) H
theorem lK:Lm X (compareOp .In) (rIn X.K false):=by
 intro K5 s σ H x y v u Q I rx ry h;obtain⟨p,xs,rfl,hq,fx,fs,q⟩:=h;cases ry
 rcases hq with hq | hq
 .obtain⟨its,r,pl,hz⟩:=I.list hq;refine SeqAt.in_listAt (O3 x) pl.isList (λw hw=>sM rx fx r fs w (by simpa using hw)) ⟨.bl _,H,I,rfl,?_⟩;rw[show its.toArray.any (O3 x)=its.any (O3 x) by simp,wY r fs];exact q
 .obtain⟨its,r,pl,hz⟩:=I.tuple hq;refine SeqAt.in_tupleAt (O3 x) pl (λw hw=>sM rx fx r fs w (by simpa using hw)) ⟨.bl _,H,I,rfl,?_⟩;rw[show its.toArray.any (O3 x)=its.any (O3 x) by simp,wY r fs];exact q
theorem cY:gi X (.type "tuple") (λxs H Q=>∃p ys,xs=[.ref p]/\((K7 X.K H p ys/\∀l,H l=none->Q (.ref l) (upd H l (.tup ys)))\/(K6 X.K H p ys/\Q (.ref p) H))):=by
 intro K5 s σ H xs us Q I r h;obtain⟨p,ys,rfl,h⟩:=h;obtain⟨u,rfl,rx⟩:=vals1 r;cases rx
 rcases h with⟨hq,q⟩ | ⟨hq,q⟩
 .obtain⟨its,r',pl,hz⟩:=I.list hq;have hlen:=r'.length;refine call_tuple_list pl.isList (λh' kp=>?_) (by simp only[j7]<;>omega);have I1:Inv X K5 σ H {s with heap:=h' }:=I.kept (t':=s.toks) kp
  have I2:Inv X K5 σ (upd H h'.objs.size (.tup ys)) {s with heap:=h'.push {cls:=.type "tuple",data:=.seq its.toArray} }:=
   I1.laid (t':=s.toks) (λb o e=>i6 _ e) (c5 _) (show cP X.prog X.w _ _ _ (.tup ys) from⟨hz,its,r',IsTup.new _ _⟩)
  exact⟨.ref h'.objs.size,_,I2,rfl,q _ (I1.hok.fresh (c5 _))⟩
 .obtain⟨its,r',pl,hz⟩:=I.tuple hq;exact call_tuple_same pl ⟨.ref p,H,I,rfl,q⟩
def Xx(K:W.Frag)(T:String)(x:V)(H:Hp):Prop:=match x with
 | .str _=>T="str"
 | .int _=>T="int"
 | .ref p=>(T="list"/\∃ xs,K7 K H p xs)\/(T="tuple"/\∃ o,K.lookup p=some o/\o.cls=.type "tuple"/\o.dict=none)\/
   (T="dict"/\((∃K8,H p=some (.dK K8))\/∃K8,H p=some (.dT K8)))\/(T="set"/\∃S n,H p=some (.set S n))
 | _=>False
theorem EX{x:V}(I:Inv X K5 σ H s)(r:RelV x v)(ty:Xx X.K T x H) :
  s.TypeIs v T/\∀a,v=.ref a->∃ob,s.heap.get? a=some ob/\ob.dict=none:=by
 cases x with
 | str z =>
  obtain⟨t,rfl⟩:=r;cases(show T="str" from ty)
  exact⟨typeIs_str s z t,λ_ e=>nomatch e⟩
 | int i =>
  obtain⟨t,rfl⟩:=r;cases(show T="int" from ty)
  exact⟨typeIs_int s i t,λ_ e=>nomatch e⟩
 | ref p =>
  cases r
  rcases ty with⟨rfl,xs,hq⟩ | ⟨rfl,o,hk,hc,hd⟩ | ⟨rfl,hk⟩ | ⟨rfl,S,n,hk⟩
  .obtain⟨its,_,pl,_⟩:=I.list hq;refine⟨pl.isList.typeIs,λa e=>?_⟩;cases e
   obtain⟨o,n,e,c,hd,_⟩:=pl;exact⟨o,e,hd⟩
  .refine⟨⟨o,I.kIn p o hk,hc⟩,λa e=>?_⟩;cases e
   exact⟨o,I.kIn _ o hk,hd⟩
  .have z:∃o,s.heap.get? p=some o/\o.ExactDict:=by
    rcases hk with⟨K8,hk⟩ | ⟨K8,hk⟩
    .obtain⟨_,_,_,_,o,_,_,e,ex,_⟩:=I.hok p _ hk;exact⟨o,e,ex⟩
    .obtain⟨_,_,_,_,o,_,_,e,ex,_⟩:=I.hok p _ hk;exact⟨o,e,ex⟩
   obtain⟨o,e,ex⟩:=z;refine⟨⟨o,e,ex.1⟩,λa e2=>?_⟩;cases e2
   exact⟨o,e,ex.2.1⟩
  .obtain⟨o,_,_,_,e,ex,_⟩:=I.hok p _ hk;refine⟨⟨o,e,ex.1⟩,λa e2=>?_⟩;cases e2
   exact⟨o,e,ex.2.1⟩
 | _=>exact False.elim ty
def Ue(K:W.Frag)(T:String)(r:V->List V->Hp->VK->Prop)(to:TE):TE:=λσ H Q=>to σ H λx H1=>Xx K T x H1/\r x [] H1 Q
def tBM(K:W.Frag)(T:String)(r:V->List V->Hp->VK->Prop)(to:TE)(t:TA):TE:=λσ H Q=>to σ H λx H1=>Xx K T x H1/\t σ H1 λxs H2=>r x xs H2 Q
variable{o e:Expr}{es:List Expr}{to:TE}{t:TA}{name:Str}{apos Ll:Pos}{T id:String}{r:V->List V->Hp->VK->Prop}
theorem jg(pa:PlainAttrs T)(slot:Slot T name id)(U9:typeOf (.builtin id)=pure (.type "method_descriptor"))(hm:ZM X id r)(ho:PE X o to)
  (Mp:attributeBase o name X.env (eval o X.env)=eval o X.env:=by rfl)(Mn:(apos.endLine==Ll.line)=true:=by rfl):PE X (.Call (.Attribute o name apos) [] [] Ll) (Ue X.K T r to):=by
 intro K5 s σ H Q I h;refine wpAny_Call_method0_late Mp Mn (Lb (ho K5 s σ H _ I h) λv s1 zz=>?_);obtain⟨x,H1,I1,r1,ty,q1⟩:=zz;obtain⟨h1,h2⟩:=EX I1 r1 ty;exact⟨T,id,pa,slot,U9,h1,h2,Calls.callWith_builtin rfl (PySem.evalArgs_none (hm K5 s1 σ H1 x [] v [] Q I1 r1 .nil q1))⟩
theorem cO(pa:PlainAttrs T)(slot:Slot T name id)(U9:typeOf (.builtin id)=pure (.type "method_descriptor"))(hm:ZM X id r)(ho:PE X o to)(ha:PA X (e::es) t)
  (Mp:attributeBase o name X.env (eval o X.env)=eval o X.env:=by rfl)
  (L5:((backTo Ll (starEach (e::es) X.env)).all (λx=>!x.1) && (backToKw Ll (keywordEach [] X.env)).all (λx=>x.1.isSome)
   && decide ((e::es).length+([]:List Keyword).length+(if([]:List Keyword).isEmpty then 0 else 1)<30))=true:=by rfl)
  (Mn:(apos.endLine==Ll.line)=true:=by rfl)(hs:starEach (e::es) X.env=(false,eval e X.env)::starEach es X.env:=by rfl)(RT:(backTo Ll (starEach es X.env)).any (·.1)=false:=by rfl) :
  PE X (.Call (.Attribute o name apos) (e::es) [] Ll) (tBM X.K T r to t):=by
 intro K5 s σ H Q I h;refine wpAny_Call_method_late Mp L5 Mn rfl (Lb (ho K5 s σ H _ I h) λv s1 zz=>?_);obtain⟨x,H1,I1,r1,ty,q1⟩:=zz;obtain⟨h1,h2⟩:=EX I1 r1 ty;refine⟨T,id,pa,slot,U9,h1,h2,?_⟩;have hA:=ha Ll K5 s1 σ H1 _ I1 q1;rw[hs]at hA ⊢;refine Calls.callWith_builtin (by show(false || (backTo Ll (starEach es X.env)).any (·.1))=false;rw[RT]<;>rfl) (Calls.evalArgs_plain ?_);refine Lb hA λus s2 zz=>?_;obtain⟨vs,H2,I2,r2,q2⟩:=zz;exact hm K5 s2 σ H2 x vs v us Q I2 r1 r2 q2
end
def TN(X:Cx)(id:String)(r:V->List V->Hp->VK->Prop):Prop:=
 ∀(
  K5:List (Addr×Obj)) (s:Shared) (σ:St) (H:Hp) (x:V) (xs:List V) (v:Value) (us:List Value) (Q:VK),Inv X K5 σ H s->RelV x v->Vals xs us->r x xs H Q->
  wpAny (model X.prog X.w) X.A (call (.builtin id) (v::us)) (EP X K5 σ Q) X.xe s
theorem Vals.one{x:V}(h:Vals [x] us):∃u,us=[u]/\RelV x u:=by
 cases h with
 | cons r t =>
  cases t
  exact⟨_,rfl,r⟩
theorem Vals.zero:∀{us:List Value},Vals [] us->us=[]
 | _,.nil=>rfl
theorem Vals.dropLast{xs:List V}(h:Vals xs us):Vals xs.dropLast us.dropLast:=by
 induction h with
 | nil=>exact .nil
 | cons r t ih =>
  cases t with
  | nil=>exact .nil
  | cons q t'=>exact .cons r ih
theorem Vals.eraseIdx:∀{xs:List V}{us:List Value}(i:Nat),Vals xs us->Vals (xs.eraseIdx i) (us.eraseIdx i)
 | _,_,_,.nil=>.nil
 | _,_,0,.cons _ t=>t
 | _,_,i+1,.cons r t=>.cons r (Vals.eraseIdx i t)
theorem Vals.reverse{xs:List V}(h:Vals xs us):Vals xs.reverse us.reverse:=by
 induction h with
 | nil=>exact .nil
 | cons r t ih=>rw[B9,B9];exact Vals.append ih (.cons r .nil)
theorem AL{α:Type}(l:List α):l.eraseIdx (l.length-1)=l.dropLast:=by
 induction l with
 | nil=>rfl
 | cons a r ih =>
  cases r with
  | nil=>rfl
  | cons b r =>
   have e:(a::b::r).length-1=((b::r).length-1)+1:=by
    have h1:(a::b::r).length=r.length+2:=rfl;have h2:(b::r).length=r.length+1:=rfl;omega
   rw[e,List.eraseIdx_cons_succ,ih]
   all_goals rfl
theorem vc{α:Type}:∀(l:List α)(i:Nat),(l.eraseIdx i).length<=l.length
 | [],_=>c5 _
 | _::_,0=>K1 _
 | _::r,i+1=>Nat.succ_le_succ (vc r i)
section
variable{X:Cx}{K5:List (Addr×Obj)}{σ:St}{H:Hp}{s:Shared}{l b:Addr}{xs ys zs:List V}
theorem Inv.lset{t':Nat}(I:Inv X K5 σ H s)(hH:H l=some (.lst xs))
  (e:s.heap.get? l=some {cls:=.type "list",data:=.seq its.toArray n})(hf:f its.toArray=its'.toArray)(hv:Vals ys its')(hz:ys.length<=sizeLine) :
  Inv X K5 σ (upd H l (.lst ys)) {s with heap:=s.heap.update l (Obj.mapSeq f),toks:=t' }:=by
 have q:=PySem.IsL.update e f;rw[hf]at q;refine I.write (x:=l) (e:=l) (by rw[hH];exact trivial) (.inl rfl) (λb' u hb hu=>(Heap.get?_update_other s.heap (Obj.mapSeq f) (G5 hb)).trans hu) ⟨_,q⟩ ?_;exact⟨hz,its',_,hv,q⟩
theorem Inv.lnew{t':Nat}(I:Inv X K5 σ H s)(hv:Vals ys its)(hz:ys.length<=sizeLine) :
  Inv X K5 σ (upd H s.heap.objs.size (.lst ys)) {s with heap:=s.heap.push {cls:=.type "list",data:=.seq its.toArray},toks:=t' }:=
 I.laid (λ_ _ q=>i6 _ q) (c5 _) ⟨hz,its,0,hv,r8 _ rfl⟩
theorem Inv.fresh(I:Inv X K5 σ H s):H s.heap.objs.size=none:=I.hok.fresh (c5 _)
theorem Inv.lstM(I:Inv X K5 σ H s)(hH:H l=some (.lst xs)):xs.length<=sizeLine/\∃(its:List Value)(n:Nat),Vals xs its/\xs.length=its.length/\s.heap.get? l=some {cls:=.type "list",data:=.seq its.toArray n}:=by
 obtain⟨z,its,n,r,e⟩:=I.hok l _ hH;exact⟨z,its,n,r,r.length,e⟩
theorem Hf(h:n<=sizeLine):Builtin.List.listTooLong n=false:=by
 unfold Builtin.List.listTooLong;exact B7 (by omega)
end
section
variable{X:Cx}
inductive ze(x:V)(vs:List V)(H:Hp)(Q:VK):Prop where
 | mk (l:Addr) (xs:List V) (y:V) (TX:x=.ref l) (TV:vs=[y]) (Wu:H l=some (.lst xs)) (Xr:xs.length<sizeLine) (ZS:Q .non (upd H l (.lst (xs++[y])))):ze  x vs H Q
def Oj:V->List V->Hp->VK->Prop:=λx vs H Q=>ze  x vs H Q
theorem bf:TN X "list.append" Oj:=by
 intro K5 s σ H x vs v us Q I rx rv h;obtain⟨l,xs,y,rfl,rfl,hH,hz,q⟩:=h;cases rx
 obtain⟨u,rfl,ru⟩:=rv.one;obtain⟨z,its,n,r,hl,e⟩:=I.lstM hH;refine Kd F.slot_list_append ⟨_,e,rfl⟩ F.entry_list_append (F.args_list_append_2 _ _) (PySem.list_append l its.toArray n u (by rw[j7];omega)) ⟨e,?_⟩;refine⟨.non,_,I.lset (its':=its++[u]) hH e (by simp) (r.append (.cons ru .nil)) ?_,rfl,q⟩;rw[c7,F9];omega
def Oi:V->List V->Hp->VK->Prop:=λx vs H Q=>∃l b xs zs,x=.ref l/\vs=[.ref b]/\H l=some (.lst xs)/\H b=some (.lst zs)/\xs.length+zs.length<=sizeLine/\Q .non (upd H l (.lst (xs++zs)))
theorem pz:TN X "list.extend" Oi:=by
 intro K5 s σ H x vs v us Q I rx rv h;obtain⟨l,b,xs,zs,rfl,rfl,hH,hB,hz,q⟩:=h;cases rx
 obtain⟨u,rfl,ru⟩:=rv.one;cases ru
 obtain⟨z,its,n,r,hl,e⟩:=I.lstM hH;obtain⟨z2,Lj,n2,r2,hl2,e2⟩:=I.lstM hB;have hsz:its.toArray.size+Lj.toArray.size<=sizeLine:=by rw[j7,j7];omega
 have Vg:¬(!its.toArray.isEmpty && Builtin.List.listTooLong (its.toArray.size+Lj.toArray.size))=true:=by
  rw[Hf hsz,Bool.and_false];exact k8
 refine Kd F.slot_list_extend ⟨_,e,rfl⟩ F.entry_list_extend (F.args_list_extend_2 _ _)
  (AutoSeq1.list_extend_list_list_0 l its.toArray n b Lj.toArray n2 Vg (by rw[j7];omega) (by omega)) ⟨e,e2,?_⟩
 refine⟨.non,_,I.lset (its':=its++Lj) hH e (by simp) (r.append r2) ?_,rfl,q⟩;rw[c7];omega
def XZ:V->List V->Hp->VK->Prop:=λx vs H Q=>∃l xs y,x=.ref l/\vs=[]/\H l=some (.lst xs)/\xs[xs.length-1]?=some y/\Q y (upd H l (.lst xs.dropLast))
theorem kQ:TN X "list.pop" XZ:=by
 intro K5 s σ H x vs v us Q I rx rv h;obtain⟨l,xs,y,rfl,rfl,hH,hy,q⟩:=h;cases rx
 have Yy:=rv.zero;subst Yy;obtain⟨z,its,n,r,hl,e⟩:=I.lstM hH;obtain⟨u,hu,ru⟩:=r.get hy
 have OR:its.toArray[its.toArray.size-1]?=some u:=by
  show its.toArray[its.length-1]?=some u;rw[<- Array.getElem?_toList,<- hl];exact hu
 refine Kd F.slot_list_pop ⟨_,e,rfl⟩ F.entry_list_pop (F.args_list_pop_1 _) (MeetsSeq.list_pop_last l its.toArray n u OR (by rw[j7];omega)) ⟨e,?_⟩;refine⟨y,_,I.lset (its':=its.dropLast) hH e ?_ r.dropLast ?_,ru,q⟩
 .show its.toArray.eraseIdxIfInBounds (its.toArray.size-1)=its.dropLast.toArray;rw[j7,JP,AL]
 .rw[List.length_dropLast];omega
def Ra:V->List V->Hp->VK->Prop:=λx vs H Q=>∃l xs i k y,x=.ref l/\vs=[.int i]/\H l=some (.lst xs)/\-(2^63)<=i/\i<2^63/\seqIndex? i xs.length=some k/\xs[k]?=some y/\Q y (upd H l (.lst (xs.eraseIdx k)))
theorem Hj:TN X "list.pop" Ra:=by
 intro K5 s σ H x vs v us Q I rx rv h;obtain⟨l,xs,i,k,y,rfl,rfl,hH,h1,h2,hk,hy,q⟩:=h;cases rx
 obtain⟨u,rfl,ru⟩:=rv.one;obtain⟨t,rfl⟩:=ru;obtain⟨z,its,n,r,hl,e⟩:=I.lstM hH;obtain⟨w,hw,LH⟩:=r.get hy
 refine Kd F.slot_list_pop ⟨_,e,rfl⟩ F.entry_list_pop (F.args_list_pop_2 _ _)
  (MeetsSeq.list_pop_at l its.toArray n i t k w (fitsIndex_both h1 h2) (by rw[j7,<- hl];exact hk) (by rw[<- Array.getElem?_toList];exact hw) (by rw[j7];omega)) ⟨e,?_⟩
 refine⟨y,_,I.lset (its':=its.eraseIdx k) hH e ?_ (r.eraseIdx k) ?_,LH,q⟩
 .show its.toArray.eraseIdxIfInBounds k=(its.eraseIdx k).toArray;rw[JP]
 .have:=vc xs k;omega
def Ge:V->List V->Hp->VK->Prop:=λx vs H Q=>∃l xs,x=.ref l/\vs=[]/\H l=some (.lst xs)/\Q .non (upd H l (.lst xs.reverse))
theorem sJ:TN X "list.reverse" Ge:=by
 intro K5 s σ H x vs v us Q I rx rv h;obtain⟨l,xs,rfl,rfl,hH,q⟩:=h;cases rx
 have Yy:=rv.zero;subst Yy;obtain⟨z,its,n,r,hl,e⟩:=I.lstM hH;refine Kd F.slot_list_reverse ⟨_,e,rfl⟩ F.entry_list_reverse (F.args_list_reverse_1 _) (AutoSeq1.list_reverse_list_0 l its.toArray n (by rw[j7];omega)) ⟨e,?_⟩;refine⟨.non,_,I.lset (its':=its.reverse) hH e (by simp) r.reverse ?_,rfl,q⟩;rw[C7];omega
def X4:R2:=λx y H Q=>∃l b xs zs,x=.ref l/\y=.ref b/\H l=some (.lst xs)/\H b=some (.lst zs)/\xs.length+zs.length<=sizeLine/\∀p,H p=none->Q (.ref p) (upd H p (.lst (xs++zs)))
theorem GD:Lm X (binaryOp .Add) X4:=by
 intro K5 s σ H x y v u Q I rx ry h;obtain⟨l,b,xs,zs,rfl,rfl,hH,hB,hz,q⟩:=h;cases rx
 cases ry
 obtain⟨z,its,n,r,hl,e⟩:=I.lstM hH;obtain⟨z2,Lj,n2,r2,hl2,e2⟩:=I.lstM hB;refine PySem.P.add_list e e2 ?_ (by rw[j7,j7];omega);have ea:its.toArray++Lj.toArray=(its++Lj).toArray:=by simp
 rw[ea];exact⟨.ref _,_,I.lnew (t':=s.toks) (r.append r2) (by rw[c7];omega),rfl,q _ I.fresh⟩
end
section
variable{prog:Program}{w:World}{A:Around}{E:Value->Shared->Prop}{s:Shared}
set_option maxRecDepth 100000 in
end
section
variable{X:Cx}
end
end L2
namespace Att
open PySem PySem.W PySem.Calls PyProof.Rows
variable{P:Params}{h:Heap}{n:Nat}{args:List WData}{Lu:List Value}
theorem qp:∀(ns:List Int)(vs:List Value),WellAll P h vs (ns.map WData.int)->IntsAre vs ns:=by
 intro ns
 induction ns with
 | nil =>
  intro vs w;rw[J7]at w;cases w
  exact .nil
 | cons n ns ih =>
  intro vs w;rw[z7]at w;cases w with
  | cons a b =>
   cases a
   exact .cons _ _ (ih _ b)
theorem Dm{l:OpenLaw}(hn:l.most=some n)
  (OU:l.row.toRowW.claim.pre args=true)(Yx:WellAll P h Lu args) :
  ∃a vs ns,Lu=[Value.ref a]/\args=[WData.list (ns.map WData.int)]/\h.get? a=some {cls:=.type "list",data:=.seq vs.toArray}/\IntsAre vs ns/\ns.length<=n:=by
 have hsh:WShape.hasAll [] args [.list .int]=true:=(pre_splitW OU).1;have hc:l.pre.holds [] {args:=args}=true:=(pre_splitW OU).2;obtain⟨d,r,rfl,h1,h2⟩:=hasAllW_cons hsh;obtain rfl:=hasAllW_nil h2;obtain⟨xs,rfl,h3⟩:=hasW_list h1;obtain⟨ns,rfl⟩:=items_int h3
 have hlen:ns.length<=n:=by
  unfold OpenLaw.pre at hc
  have h4:(WTm.not (.lt (.lit (.int (n:Int))) (.len (.arg 0)))).holds [] {args:=[.list (ns.map .int)] }=true:=by
   have h4:=(holds_andW hc).1;rw[hn]at h4;exact h4
  have h5:=condW_of h4 (w_not (w_lt w_lit (w_len_list (w_arg rfl))));rw[i7]at h5;refine Nat.le_of_not_lt λq=>?_;have q':(n:Int)<((ns.length:Nat):Int):=by omega
  first
   | (rw[e9 q']at h5;exact absurd h5 (by decide))
   | (simp at h5;omega)
 cases Yx with
 | cons w1 w2 =>
  cases w2
  cases w1 with
  | list ho Nv=>exact⟨_,_,ns,rfl,rfl,ho,qp ns _ Nv,hlen⟩
theorem Du(l:OpenLaw)(args:List WData):l.row.toRowW.claim.post args (.bool true) args=true:=
 postW_of (r:=l.row.toRowW) (X:=(true==true))
  (show WShape.has [] (.bool true) .bool=true by first | rfl | decide | simp[WShape.has,WShape.arms,WShape.armsAll])
  (show(WTm.eq .res (.lit (.bool true))).value [] {args:=args,res:=some (.bool true),after:=args}=some (.bool (true==true)) from w_eq_bool (w_res rfl) w_lit) rfl
section
variable{prog:Program}{w:World}{A:Around}{E:Value->Shared->Prop}{s:Shared}{K:Frag}
end
end Att
namespace L2
open PySem PySem.Spec PyProof.Rows
variable{P:Program}{w:World}{mg mb:Str->Option Value}{CX:M9}{a f:Addr}{x qual:Str}{sp:Sp}{s₁:Shared}{vs:List Value}{ns:List Int}{X:Cx}{N ps:List Str}{oc:Value}{od an:Option Addr}{osl:Array (Option Value)}{A:Around}{n:Nat}{pos:Pos}{H H':Hp}
theorem uz:∀{vs:List Value}{ns:List Int},IntsAre vs ns->Vals (ns.map V.int) vs
 | _,_,.nil=>.nil
 | _,_,.cons n t h=>.cons ⟨t,rfl⟩ (uz h)
def Pn(H:Hp):Prop:=∀b,H b=none\/∃o xs,H b=some (.frz o (.lst xs))
theorem Ht{K:W.Frag}{k:Nat}{fa:Addr}{fd:FuncData}
  (KX:K.In s₁.heap)(Tv:s₁.heap.Ns mainGlobals mg)(hb:s₁.heap.Ns builtinsNs mb)(hbb:∀x:Str,x≠"__name__"->mb x=bootBuiltins x)(YR:s₁.heap.NoLimit)(hg:s₁.gens=#[])
  (ha:s₁.heap.get? a=some {cls:=.type "list",data:=.seq vs.toArray})(hi:IntsAre vs ns)(hl:ns.length<=sizeLine)(hr:dP k callerA)
  (F:∀base:Heap,K.In base->base.Ns mainGlobals mg->oz P w K mg base CX k fa fd [x] sp)(Vl:∀(s:Shared)(u:Value),BindsTo s fd ⟨[u],[]⟩ [(x,u)])
  (Qc:∀H:Hp,Pn H->K7 K H a (ns.map V.int)->sp [.ref a] H (λv _=>v=.bl true) λ_ _ _=>False)
  (Y6:∀H e s',CX [] H s₁ (λ_ _ _=>False) e s'->False) :
  codeAny (model P w) callerA (.call (.ref fa) ⟨[.ref a],[]⟩) (λr s'=>r=.ok (.ret (.bool true))/\OldK s₁.heap s'.heap/\s'.os=s₁.os/\AllBare s'.gens) s₁:=by
 have rv:=uz hi;have OM:=hi.length
 have core:∀H:Hp,Pn H->K7 K H a (ns.map V.int)->Lq P w H s₁.heap->(∀b,H b≠none->b=a)->(H a≠none->K.lookup a=none)->
   codeAny (model P w) callerA (.call (.ref fa) ⟨[.ref a],[]⟩) (λr s'=>r=.ok (.ret (.bool true))/\OldK s₁.heap s'.heap/\s'.os=s₁.os/\AllBare s'.gens) s₁:=by
  intro H hO hS hok hA hK;have MO:∀{b:Addr}{o:Obj},s₁.heap.get? b=some o->H b=none->(wO s₁.heap H).get? b=some o:=λe n=>HB e n
  have US:∀{b:Addr}{o:Obj}{es:Array DictEntry}{ep:Nat},s₁.heap.get? b=some o->o.data=.dict es ep->H b=none:=λ{b o es ep} e d=>by
   cases q:H b with
   | none=>rfl
   | some u =>
    have e':b=a:=hA b (by rw[q];simp);subst e';rw[ha]at e;cases e
    have d':Data.seq vs.toArray _=Data.dict es ep:=d;cases d'
  have WN:∀{b:Addr}{m:Str->Option Value},s₁.heap.Ns b m->(wO s₁.heap H).Ns b m:=λ{b m} ⟨o,es,ep,e,d,r⟩=>⟨o,es,ep,MO e (US e d),d,r⟩
  have hKb:K.In (wO s₁.heap H):=λb o e=>MO (KX b o e) (by
   cases q:H b with
   | none=>rfl
   | some u =>
    have e':b=a:=hA b (by rw[q];simp);subst e';rw[hK (by rw[q];simp)]at e;cases e)
  have hM:Mod K mg (wO s₁.heap H):=⟨hKb,WN Tv,⟨mb,WN hb,hbb⟩,let ⟨mc,h1,h2⟩:=YR;⟨mc,WN h1,h2⟩⟩;have e0:Bk P w K mg (wO s₁.heap H) callerA [] s₁ H:=⟨rfl,hM,λb o e=>OF e,Nat.le_of_eq (Ei _ _),trivial,λb hb=>absurd (show b∈([]:List Addr) from hb) (by simp),hok,.of_eq hg⟩;refine KR ((F _ hKb (WN Tv)).run callerA [] s₁ H ⟨[.ref a],[]⟩ [.ref a] [.ref a] _ _ hr e0 (Vl s₁ (.ref a)) (.cons rfl .nil) (Qc H hO hS)) λr s' h=>?_;cases r with
  | error e=>exact(Y6 H e s' h).elim
  | ok fl =>
   cases fl with
   | next=>exact False.elim h
   | brk=>exact False.elim h
   | cont=>exact False.elim h
   | ret u =>
    obtain⟨v,H',os,bare,un,YL,r',q⟩:=h;have q':v=.bl true:=q;subst q';obtain rfl:u=Value.bool true:=r';refine⟨rfl,OldK.of_keep λb o e=>?_,os,bare⟩;cases q:H b with
    | none=>exact un.keep b o e q (by intro z;exact absurd (show b∈([]:List Addr) from z) (by simp)) (by simp)
    | some u =>
     rcases hO b with z | ⟨ob,xs,z⟩
     .rw[q]at z;cases z
     .have z2:=un.frzs b ob _ z;obtain⟨e1,_⟩:=hok b _ z;obtain⟨e2,_⟩:=YL b _ z2;rw[e]at e1;cases e1
      exact e2
 cases hk:K.lookup a with
 | some o =>
  have e:=KX a o hk;rw[ha]at e;cases e
  refine core (λ_=>none) (λ_=>.inl rfl) (.inr ⟨_,vs.toArray,_,hk,rfl,rfl,rfl,by rw[j7,OM];exact hl,by simpa using rv⟩) (λb u z=>by have z':(none:Option HO)=some u:=z;cases z') (λb z=>absurd rfl z) λz=>absurd rfl z
 | none =>
  refine core (λb=>if b=a then some (.frz {cls:=.type "list",data:=.seq vs.toArray} (.lst (ns.map V.int))) else none) (λb=>?_) (.inl (.inr ⟨{cls:=.type "list",data:=.seq vs.toArray},d7 rfl⟩)) (λb u z=>?_) (λb z=>?_) λ_=>hk
  .by_cases hb:b=a
   .exact .inr ⟨_,_,d7 hb⟩
   .exact .inl (d9 hb)
  .by_cases hb:b=a
   .have z':=(d7 hb).symm.trans z;cases z'
    subst hb;exact⟨ha,by rw[i7];exact hl,vs,_,rv,ha⟩
   .have z':=(d9 hb).symm.trans z;cases z'
  .by_cases hb:b=a
   .exact hb
   .exact absurd (d9 hb) z
noncomputable abbrev KOf {K:W.Frag} {h:Heap} (_:K.In h):W.Frag:=K
noncomputable def inClass(s:Stmt)(j:Nat):Stmt:=match s with
 | .ClassDef _ _ _ body _ _ _ _ _ _ _=>body.getD j (.Pass ⟨0,0,0,0⟩)
 | _=>.Pass ⟨0,0,0,0⟩
noncomputable def fT(s:Stmt):Arguments:=match s with
 | .FunctionDef _ a _ _ _ _ _ _ _ _=>a
 | _=>{posonlyargs:=[],args:=[],vararg:=none,kwonlyargs:=[],kw_defaults:=[],kwarg:=none,defaults:=[] }
noncomputable def bA(s:Stmt):List Stmt:=match s with
 | .FunctionDef _ _ b _ _ _ _ _ _ _=>b
 | _=>[]
noncomputable def au(s:Stmt):Scope:=match s with
 | .FunctionDef _ _ _ _ _ _ sc _ _ _=>sc
 | _=>{kind:=.function,names:=[],isGenerator:=false,isCoroutine:=false}
noncomputable abbrev CX0:M9:=λ_ _ _ _ _ _=>False
noncomputable abbrev E0:XK:=λ_ _ _=>False
theorem yk:Passes CX0 X E0:=λ_ _ _ _ _ _ _ h=>h.elim
structure NY(K:W.Frag)(x qual:Str)(st:Stmt)(f:Addr)(fd:FuncData):Prop where
 ex:∃(oc:Value)(od:Option Addr)(kV doc pm:Value)(an:Option Addr)(cdv ct:Value)(osl:Array (Option Value)),
  fd=PySem.W.fnOf x qual (fT st) (bA st) (au st) .none kV doc pm an cdv ct/\K.lookup f=some ⟨oc,od,.func fd,osl⟩/\PySem.W.codeIn K cdv qual=true
 kp:PySem.W.keepIn K (.ref f)=true
variable{P:Program}{w:World}{K:W.Frag}{mg:Str->Option Value}{base:Heap}
theorem NY.ok{st:Stmt}{fd:FuncData}{k:Nat}(F:NY K x qual st f fd)(S:aB N ps (au st))(len:∀vs H Q E,sp vs H Q E->vs.length=ps.length)
  (Nu:∀(cdv:Value)(A:Around)(outer:List Env)(s:Shared)(H:Hp)(vs:List V)(Q:VK)(E:XK),dP k (A.deeper (envOfC qual (au st) s.heap.objs.size f cdv))->sp vs H Q E->
   ∃t,Lr (cN CX0 P w K mg base N qual (au st) f cdv A outer s H E).nox (bA st) t/\t {nx:=λ_ H'=>Q .non H',rt:=Q} (start N vs) H):oz P w K mg base CX0 (k+1) f fd ps sp:=by
 obtain⟨oc,od,kV,doc,pm,an,cdv,ct,osl,rfl,lk,hcd⟩:=F.ex;refine Qj lk hcd S len λA outer s H vs Q E hr Qc=>?_;obtain⟨t,h,q⟩:=Nu cdv A outer s H vs Q E hr Qc;exact⟨t,h.nox,q⟩
theorem NY.binds{st:Stmt}{fd:FuncData}(F:NY K x qual st f fd)
  (h:∀(kV doc pm:Value)(an:Option Addr)(cdv ct:Value)(us:List Value),us.length=ps.length->bindArgs (PySem.W.fnOf x qual (fT st) (bA st) (au st) .none kV doc pm an cdv ct) ⟨us,[]⟩=pure (ps.zip us)):Binds K fd ps []:=by
 obtain⟨oc,od,kV,doc,pm,an,cdv,ct,osl,rfl,lk,hcd⟩:=F.ex;exact .all (h kV doc pm an cdv ct)
theorem HX{st:Stmt}{kV doc pm cdv ct:Value}(l:K.lookup f=some ⟨oc,od,.func (PySem.W.fnOf x qual (fT st) (bA st) (au st) .none kV doc pm an cdv ct),osl⟩)
  (c:PySem.W.codeIn K cdv qual=true)(k:PySem.W.keepIn K (.ref f)=true):NY K x qual st f (PySem.W.fnOf x qual (fT st) (bA st) (au st) .none kV doc pm an cdv ct):=⟨⟨oc,od,kV,doc,pm,an,cdv,ct,osl,rfl,l,c⟩,k⟩
theorem Cu{k:Nat}(hr:dP k A):A.units+1<cLine:=d8 (Nat.add_le_add_left (by decide:1<=64) _) hr.units
theorem aZ(h:n<=1000):n<sizeLine:=d8 h (by decide)
section
variable{X:Cx}
theorem pv(i:Nat)(hN:X.N[i]?=some x:=by rfl)(hv:SW X.env.scope x:=by first | exact Or.inl rfl | exact Or.inr (Or.inl rfl) | exact Or.inr (Or.inr rfl))(hd:(x==("__debug__":Str))=false:=by decide)
  (hcd:(x==("__classdict__":Str))=false:=by decide):PE X (.Name x pos) (Fg i):=Gu hN hv hd hcd
end
theorem bL{A B:Prop}(h:B):if false=true then A else B:=by
 rw[d9 k8];exact h
theorem dH{A B:Prop}(h:A):if true=true then A else B:=by
 rw[d7 rfl];exact h
theorem cJ{c A B:Prop}[Decidable c](h1:c->A)(h2:¬c->B):if c then A else B:=by
 by_cases h:c
 .rw[d7 h];exact h1 h
 .rw[d9 h];exact h2 h
theorem Qb{c A B:Prop}[Decidable c](hc:c)(h:B):if(!decide c)=true then A else B:=by
 rw[e9 hc];exact bL h
def aJ(H H':Hp):Prop:=∀b o,H b=some o->H' b=some o
theorem aJ.refl(H:Hp):aJ H H:=λ_ _ h=>h
theorem aJ.trans{H1 H2:Hp}(a:aJ H H1)(b:aJ H1 H2):aJ H H2:=λc o h=>b c o (a c o h)
theorem aJ.free(e:aJ H H'){l:Addr}(h:H' l=Option.none):H l=Option.none:=by
 cases q:H l with
 | none=>rfl
 | some o =>
  rw[e l o q]at h;cases h
theorem aJ.seq{xs:List V}(e:aJ H H')(h:K7 K H a xs):K7 K H' a xs:=by
 rcases h with(h | ⟨o,h⟩) | h
 .exact .inl (.inl (e _ _ h))
 .exact .inl (.inr ⟨o,e _ _ h⟩)
 .exact .inr h
end L2
set_option maxHeartbeats 4000000
namespace L2
open PySem PySem.Spec PyProof.Rows
variable{scope:Scope}{j tk i n t':Nat}{js:List Nat}{y x:Str}{env:Env}{K5:List (Addr×Obj)}{s:Shared}{σ:St}{H:Hp}{h base B h6:Heap}{mg:Str->Option Value}{st:Stmt}{f ea C b a:Addr}{od an:Option Addr}{osl:Array (Option Value)}{N ps loose:List Str}{sp:Sp}{K:Frag}{ZG:List Value}{newId:String}{e₀:Expr}{es:List Expr}{ta:TA}{pos:Pos}{ns:List Int}{q prog:Program}{XP:(Str->Option Value)->Heap->Prop}{YP:World->Heap->Prop}{d:DefRec}{CX:M9}{A:Around}{E:Value->Shared->Prop}
noncomputable def bI(X:Cx)(scope:Scope)(cl:List (Str×Addr))(N:List Str)(s:Shared)(H:Hp)(fp:List Addr):Cx:=
 {prog:=X.prog,w:=X.w,K:=X.K,mg:=X.mg,base:=X.base,A:=X.A,N:=N,s₀:=s,H₀:=H,env:=compEnvC scope cl s.heap.objs.size X.env,
  outer:=X.stack,stack:=X.stack,ex:=fp,fn:=λ_=>false,calm:=X.calm,pn:=[],xe:=λ_ _=>False}
noncomputable def ck(X:Cx)(x:Str)(js:List Nat):List Str:=x::js.map λj=>X.N.getD j ""
noncomputable def bQ(js:List Nat)(σ:St):St:=js.map λj=>(σ[j]?).getD none
structure fY(X:Cx)(scope:Scope)(js:List Nat):Prop where
 all:∀j∈js,∃y,X.N[j]?=some y/\(X.env.kindOf y=some .cell\/X.env.kindOf y=some .free)/\(y,NameKind.free)∈scope.names/\
  ((relabel scope X.env).names.lookup y=some .cell\/(relabel scope X.env).names.lookup y=some .free)
theorem cE:fY X scope []:=⟨λ_ h=>nomatch h⟩
theorem bY(r:fY X scope js)(h1:X.N[j]?=some y:=by rfl)(h2:X.env.kindOf y=some .cell\/X.env.kindOf y=some .free:=by exact Or.inl rfl)(h3:(y,NameKind.free)∈scope.names:=by decide+kernel)(h4:(relabel scope X.env).names.lookup y=some .cell\/(relabel scope X.env).names.lookup y=some .free:=by exact Or.inl rfl):fY X scope (j::js):=
 ⟨λk hk=>by
  rcases j4.mp hk with e | e
  .subst e;exact⟨y,h1,h2,h3,h4⟩
  .exact r.all k e⟩
theorem dF:∀{names:List (Str×NameKind)}{y:Str}{k:NameKind},
  (names.map λ(n,k)=>if(k==NameKind.free && env.scope.kind == .function && env.kindOf n==some .cell) then(n,NameKind.cell) else(n,k)).lookup y=some k->
  ∃k',(y,k')∈names/\(k'=k\/(k=.cell/\k'=.free))
 | [],_,_,h=>by simp at h
 | (n,k0)::r,y,k,h=>by
  by_cases hc:(k0==NameKind.free && env.scope.kind == .function && env.kindOf n==some .cell)=true
  .rw[z7]at h;dsimp only at h;rw[d7 hc]at h;simp only[C6]at h
   have hf:k0=.free:=by
    rw[A8,A8]at hc;exact Jd.mp hc.1.1
   cases hx:y==n with
   | true =>
    rw[hx]at h;have e:=Jd.mp hx;subst e;have e2:=j8 h;exact⟨k0,v8,.inr ⟨e2.symm,hf⟩⟩
   | false =>
    rw[hx]at h;obtain⟨k',m,q⟩:=dF h;exact⟨k',x6 _ m,q⟩
  .rw[z7]at h;dsimp only at h;rw[d9 hc]at h;simp only[C6]at h;cases hx:y==n with
   | true =>
    rw[hx]at h;have e:=Jd.mp hx;subst e;have e2:=j8 h;exact⟨k0,v8,.inl e2⟩
   | false =>
    rw[hx]at h;obtain⟨k',m,q⟩:=dF h;exact⟨k',x6 _ m,q⟩
section
variable{X:Cx}{K5:List (Addr×Obj)}{σ:St}{H:Hp}{s:Shared}{scope:Scope}{cl:List (Str×Addr)}{x:Str}{js:List Nat}{fp:List Addr}
theorem Pd(I:Inv X K5 σ H s)(hk:scope.kind=.function)(Lc:∀y∈scope.names,y.2≠.cell)
  (Lf:∀y c,cl.lookup y=some c->X.env.cells.lookup y=some c)(Li:∀y,(y,NameKind.free)∈scope.names->∃c,cl.lookup y=some c)
  (hf:∀b∈fp,jE X K5 H b)(Le:∀b∈fp,b<s.heap.objs.size):(bI X scope cl (ck X x js) s H fp).Ok where
 mod:=I.ok.mod
 kind:=hk
 glob:=I.ok.glob
 blt:=I.ok.blt
 above:=c5 _
 inj:=λy z c h1 h2=>I.ok.inj y z c (Lf y c h1) (Lf z c h2)
 has:=λy hy=>by
  have OR:(relabel scope X.env).names.lookup y=some .cell\/(relabel scope X.env).names.lookup y=some .free:=hy;rcases OR with h | h
  .obtain⟨k',m,q⟩:=dF h;rcases q with q | ⟨_,q⟩
   .exact absurd q (Lc _ m)
   .subst q;exact Li y m
  .obtain⟨k',m,q⟩:=dF h;rcases q with q | ⟨q,_⟩
   .subst q;exact Li y m
   .cases q
 cab:=λy c h _=>by cases h
 hd:=I.ok.hd
 frames:=I.ok.frames
 stk:=.inl rfl
 exf:=λb hb=>⟨z6 (Le b hb),λy c h=>(hf b hb).2.2.2.2.1 y c (Lf y c h)⟩
 bs:=I.bs
 bsz:=l7 I.ok.bsz I.sz
 noex:=λb o e hb=>by
  rcases(hf b hb).2.2.2.1 with z | z
  .exact I.ok.noex b o e z
  .exact absurd (i5 (l6 e) (l7 I.ok.bsz z)) (B2 _)
 exfs:=λb hb hz=>(j4.mp (I.stkSub b hz)).elim (hf b hb).2.1 (hf b hb).2.2.1
 funs:=I.stack
 frf:=I.stkFree
theorem AO{tk:Nat}(I:Inv X K5 σ H s)(hk:scope.kind=.function)(Lc:∀y∈scope.names,y.2≠.cell)
  (Lf:∀y c,cl.lookup y=some c->X.env.cells.lookup y=some c)(Li:∀y,(y,NameKind.free)∈scope.names->∃c,cl.lookup y=some c)(L4:fY X scope js)
  (hf:∀b∈fp,jE X K5 H b)(Le:∀b∈fp,b<s.heap.objs.size)(hn:h₁.Ns s.heap.objs.size m)(LB:∀b o,s.heap.get? b=some o->h₁.get? b=some o) :
  Inv (bI X scope cl (ck X x js) s H fp) [] (none::bQ js σ) H {s with heap:=h₁,toks:=tk} where
 ok:=Pd I hk Lc Lf Li hf Le
 os:=rfl
 bare:=I.bare
 base:=Un.kept LB
 loc:=by
  refine⟨m,hn,λi y v h1 h2 h3=>?_⟩;cases i with
  | zero =>
   have z:(some none:Option (Option V))=some (some v):=h2;cases z
  | succ k =>
   have M5:(js.map λj=>X.N.getD j "")[k]?=some y:=h1;have Mh:(js.map λj=>(σ[j]?).getD none)[k]?=some (some v):=h2;rw[w6]at M5 Mh;cases hj:js[k]? with
   | none=>rw[hj]at M5;cases M5
   | some j =>
    rw[hj]at M5 Mh;have e1:X.N.getD j ""=y:=j8 M5;have e2:(σ[j]?).getD none=some v:=j8 Mh;obtain⟨y',n1,n2,n3,n4⟩:=L4.all j (p8 hj);have e3:y'=y:=by rw[<- e1,z5,n1];rfl
    subst e3
    have e4:σ[j]?=some (some v):=by
     cases q:σ[j]? with
     | none=>rw[q]at e2;cases e2
     | some a=>rw[q]at e2;exact x9 some e2
    obtain⟨m0,_,hl⟩:=I.loc;obtain⟨u,r,l⟩:=hl j y' v n1 e4 (n2.elim (λz=>Or.inr (Or.inl z)) λz=>Or.inr (Or.inr z));refine⟨u,r,.inr ⟨n4,?_⟩⟩;rcases l with⟨l,_⟩ | ⟨_,c,hc,hi⟩
    .exfalso;rcases n2 with z | z<;>(rw[z]at l;cases l)
    .obtain⟨c',L6⟩:=Li y' n3;have e5:=Lf y' c' L6;rw[hc]at e5;have e6:=j8 e5;subst e6;obtain⟨o,ho,hd⟩:=hi;exact⟨c,L6,o,LB c o ho,hd⟩
 cell:=λy c h=>by
  obtain⟨v,o,ho,hd⟩:=I.cell y c (Lf y c h);exact⟨v,o,LB c o ho,hd⟩
 free:=I.hok.fresh (c5 _)
 freeC:=λy c h=>I.freeC y c (Lf y c h)
 pin:=λp hp=>absurd (show p∈([]:List (Addr×Obj)) from hp) (by simp)
 hok:=I.hok.kept LB
 len:=by
  show(none::bQ js σ).length=(ck X x js).length;simp[bQ,ck]
end
def S1(X:Cx)(ifs:List Expr)(t:TT):Prop:=
 ∀K5 s σ H Q,Inv X K5 σ H s->t σ H Q->
  wpAny (model X.prog X.w) X.A (forIn ifs true λc r=>if r=true then do let ok <- isTrue c X.env (eval c X.env);pure (ForInStep.yield ok) else pure (ForInStep.yield r)) (TP X K5 σ Q) X.xe s
def ke:TT:=λ_ H Q=>Q true H
theorem cM:S1 X [] ke:=λ_ _ _ H _ I h=>wpAny_tests_nil ⟨H,I,h⟩
theorem Ot(h:PT X c t):S1 X [c] t:=λK5 s σ H Q I q=>wpAny_tests_one (h K5 s σ H Q I q)
def iS(wi:TI)(tc:TT)(te:TE)(js:List Nat):TE:=λσ H Q=>wi σ H λJ H1=>∀D,H1 D=none->
 ∃W:Nat->Nat->Hp->Prop,(∃m,W 0 m (upd H1 D (.lst [])))/\∀i m H2,W i m H2->(J.stop i H2/\Q (.ref D) H2)\/
  (J.go i H2/\∀v H3,J.yld i H2 v H3->tc (some v::bQ js σ) H3 λb H4=>if b=true then te (some v::bQ js σ) H4 λy H5 =>
   ∃ys,H5 D=some (.lst ys)/\ys.length<sizeLine/\∃m',m'<m/\W (i+1) m' (upd H5 D (.lst (ys++[y]))) else ∃m',m'<m/\W (i+1) m' H4)
section
variable{X:Cx}{elt Ld:Expr}{x:Str}{px pos:Pos}{ifs:List Expr}{scope:Scope}{cl:List (Str×Addr)}{wi:TI}{tc:TT}{te:TE}{js:List Nat}
theorem vo
  (hc:X.calm=true) (hi:PI X (.Name x px) Ld wi) (hk:scope.kind=.function) (Lc:∀y∈scope.names,y.2≠.cell) (hx:(relabel scope X.env).names.lookup x=some .local)
  (Lf:∀y c,cl.lookup y=some c->X.env.cells.lookup y=some c) (Li:∀y,(y,NameKind.free)∈scope.names->∃c,cl.lookup y=some c) (L4:fY X scope js) (Mt:(ck X x js).Nodup)
  (ht:∀s' H' fp,S1 (bI X scope cl (ck X x js) s' H' fp) ifs tc) (he:∀s' H' fp,PE (bI X scope cl (ck X x js) s' H' fp) elt te)
  (I:Inv X K5 σ H s) (h:iS wi tc te js σ H Q)
  (fin:∀D C H' s',Inv X K5 σ H' s'->jE X K5 H' C->(∃m,s'.heap.Ns C m)->Q (.ref D) H'->compPost (model X.prog X.w) X.A X.xe use Qv (.ref D) C (.ok .next) s') :
  wpAny (model X.prog X.w) X.A (eval Ld X.env) (λxv s₁=>wpAny (model X.prog X.w) X.A (pyIter xv) (λit s₂=>wpAny (model X.prog X.w) X.A (newList []) (λacc s₃ =>
   wpAny (model X.prog X.w) X.A (newFunctionEnv scope X.env.globals cl [] X.env.qual none .none (some X.env)) (λNF s₄ =>
    codeAny (model X.prog X.w) X.A (.compStart (.ListComp elt [⟨.Name x px,Ld,ifs,0⟩] scope pos) 0 it acc {NF with scope:=relabel scope X.env})
     (compPost (model X.prog X.w) X.A X.xe use Qv acc NF.locals) s₄) X.xe s₃) X.xe s₂) X.xe s₁) X.xe s:=by
 refine Lb (hi K5 s σ H _ I h) λv s1 h1=>Lb h1 λWR s2 h2=>?_;obtain⟨it,fp,tn,J,H2,e,I2,T,PK,f2,hW⟩:=h2;subst e;obtain⟨W,⟨m0,w0⟩,turn⟩:=hW s2.heap.objs.size (I2.hok.fresh (c5 _));have Nq:∀b∈fp,b<s2.heap.objs.size:=λb hb=>let ⟨_,e,_⟩:=T.obj _ _ PK b hb;l6 e
 have I3:Inv X K5 σ (upd H2 s2.heap.objs.size (.lst [])) {s2 with heap:=s2.heap.push {cls:=.type "list",data:=.seq ([]:List Value).toArray} }:=
  I2.lnew (t':=s2.toks) (its:=[]) .nil (x4 _)
 refine F5 ?_;have Ys:∀b o,s2.heap.get? b=some o->(s2.heap.push {cls:=.type "list",data:=.seq ([]:List Value).toArray}).get? b=some o:=λb o e=>i6 _ e;have XE:(s2.heap.push {cls:=.type "list",data:=.seq ([]:List Value).toArray}).objs.size=s2.heap.objs.size+1:=E4 ..;generalize YF:({s2 with heap:=s2.heap.push {cls:=.type "list",data:=.seq ([]:List Value).toArray} }:Shared)=s3 at I3
 have Nm:s3.heap=s2.heap.push {cls:=.type "list",data:=.seq ([]:List Value).toArray}:=by rw[<- YF]
 have Np:∀b∈fp,b<s3.heap.objs.size:=λb hb=>by rw[Nm,XE];exact JK (Nq b hb)
 have f3:∀b∈fp,jE X K5 (upd H2 s2.heap.objs.size (.lst [])) b:=λb hb=>⟨by rw[az (z6 (Nq b hb))];exact(f2 b hb).1,(f2 b hb).2⟩;refine wpAny_newFunctionEnv Lc (by intro y hy;simp at hy) (λh₁ Tv YE=>?_) hk;have UZ:∀b o,s3.heap.get? b=some o->h₁.get? b=some o:=λb o e=>YE.extBut b o (z6 (l6 e)) (i6 _ e);have I4:=AO (x:=x) (js:=js) (tk:=s3.toks+([]:List (Str×Value)).length) I3 hk Lc Lf Li L4 f3 Np Tv UZ;have Uh:tn 0 h₁:=T.keep 0 _ _ PK λb hb o e=>UZ b o (by rw[Nm];exact Ys b o e)
 have LR:∀{H':Hp},(∀b∈fp,H' b=none)->∀b∈fp,jE (bI X scope cl (ck X x js) s3 (upd H2 s2.heap.objs.size (.lst [])) fp) [] H' b:=λhn b hb =>
  ⟨hn b hb,z6 (Np b hb),λhz=>(j4.mp (I3.stkSub b hz)).elim (f2 b hb).2.1 (f2 b hb).2.2.1,.inl hb,λy c q=>(f2 b hb).2.2.2.2.1 y c (Lf y c q),λp hp=>absurd (show p∈([]:List (Addr×Obj)) from hp) (by simp)⟩
 have back:∀{σ':St}{H':Hp}{s':Shared},Inv (bI X scope cl (ck X x js) s3 (upd H2 s2.heap.objs.size (.lst [])) fp) [] σ' H' s'->Inv X K5 σ H' s':=λ{σ' H' s'} J' =>
  I3.call' (ch:=fp) J'.os J'.base J'.hok J'.bare λb hb=>⟨(f2 b hb).2.2.2.1,(f2 b hb).2.1,(f2 b hb).2.2.2.2.1,(f2 b hb).2.2.2.2.2⟩
 have loop:codeAny (model X.prog X.w) X.A (.compLoop (.ListComp elt [⟨.Name x px,Ld,ifs,0⟩] scope pos) 0 (.ref it) (.ref s2.heap.objs.size) (compEnvC scope cl s3.heap.objs.size X.env))
   (compPost (model X.prog X.w) X.A X.xe use Qv (.ref s2.heap.objs.size) s3.heap.objs.size) {s3 with heap:=h₁,toks:=s3.toks+([]:List (Str×Value)).length}:=by
  refine codeAny_compLoop_tests (λn s'=>∃i o H',Inv (bI X scope cl (ck X x js) s3 (upd H2 s2.heap.objs.size (.lst [])) fp) [] (o::bQ js σ) H' s'/\tn i s'.heap/\(∀b∈fp,H' b=none)/\W i n H') ?_ m0
   ⟨0,none,_,I4,Uh,λb hb=>(f3 b hb).1,w0⟩
  rintro n s5 ⟨i,o,H5,I5,Oa,Sk,w5⟩
  rcases turn i n H5 w5 with⟨stop,q⟩ | ⟨go,step⟩
  .refine Lb (T.done (bI X scope cl (ck X x js) s3 (upd H2 s2.heap.objs.size (.lst [])) fp) rfl rfl rfl hc i [] s5 _ H5 _ I5 (LR Sk) Oa stop) λr s6 zz=>?_;obtain⟨hr,I6⟩:=zz;subst hr;exact fin _ _ H5 s6 (back I6) (I3.fpOk (c5 _) I6.free) (let ⟨m,hm,_⟩:=I6.loc;⟨m,hm⟩) q
  .refine Lb (T.item (bI X scope cl (ck X x js) s3 (upd H2 s2.heap.objs.size (.lst [])) fp) rfl rfl rfl hc i [] s5 _ H5 _ I5 (LR Sk) Oa go) λr s6 zz=>?_;obtain⟨u,hr,h6⟩:=zz;subst hr;show wpAny _ _ (assign (.Name x px) _ u) _ _ s6;intro Γ p hΓ;have h6':=h6 Γ p hΓ;obtain⟨v,H6,I6,r6,y6,QQ,Zg⟩:=h6';refine(?_:wpAny _ _ _ _ _ s6) Γ p hΓ;have ZP:=I6.pinned (LR Zg) (T.obj _ _ QQ);have hg:PG (bI X scope cl (ck X x js) s3 (upd H2 s2.heap.objs.size (.lst [])) fp) (.Name x px) (kY 0):=aO (i:=0) Mt rfl (Or.inl hx) (.inr hx);refine E7 (hg _ s6 _ H6 v u (λσ' H'=>σ'=some v::bQ js σ/\H'=H6) ZP r6 ⟨rfl,rfl⟩) (λ_ s7 q7=>?_) (λ_ _ f=>False.elim f);obtain⟨σ7,H7,I7,e7,e8⟩:=q7;subst e7 e8;refine E7 (ht s3 _ fp _ s7 _ H7 _ I7 (step v H7 y6)) (λok s8 q8=>?_) (λ_ _ f=>False.elim f);obtain⟨H8,I8,q8⟩:=q8
   have again:∀{s9:Shared}{σ9:St}{H9:Hp}{m':Nat},Inv (bI X scope cl (ck X x js) s3 (upd H2 s2.heap.objs.size (.lst [])) fp) ([]++so fp s6.heap) (some v::bQ js σ) H9 s9->m'<n->W (i+1) m' H9->
     ∃m,m<n/\∃i o H',Inv (bI X scope cl (ck X x js) s3 (upd H2 s2.heap.objs.size (.lst [])) fp) [] (o::bQ js σ) H' s9/\tn i s9.heap/\(∀b∈fp,H' b=none)/\W i m H':=λ{s9 σ9 H9 m'} I9 hm w9=>by
    refine⟨m',hm,i+1,some v,H9,I9.unpinned,T.keep _ _ _ QQ λb hb o e=>(I9.pin (b,o) (l9 _ (l9 _ (gD hb e)))).1,λb hb=>?_,w9⟩;obtain⟨o,e,d⟩:=T.obj _ _ QQ b hb;exact(I9.pin (b,o) (l9 _ (l9 _ (gD hb e)))).2.1
   cases ok with
   | false =>
    rw[d9 k8]at q8 ⊢;obtain⟨m',hm,w9⟩:=q8;exact again (σ9:=[]) I8 hm w9
   | true =>
    rw[d7 rfl]at q8 ⊢;refine E7 (he s3 _ fp _ s8 _ H8 _ I8 q8) (λy s9 q9=>?_) (λ_ _ f=>False.elim f);obtain⟨yv,H9,I9,r9,ys,hD,hl,m',hm,w9⟩:=q9;refine E7 (bf (X:=bI X scope cl (ck X x js) s3 (upd H2 s2.heap.objs.size (.lst [])) fp) _ s9 _ H9 (.ref s2.heap.objs.size) [yv] (.ref s2.heap.objs.size) [y] (λ_ H'=>H'=upd H9 s2.heap.objs.size (.lst (ys++[yv]))) I9 rfl (.cons r9 .nil) ⟨_,ys,yv,rfl,rfl,hD,hl,rfl⟩) (λ_ s10 X5=>?_) (λ_ _ f=>False.elim f);obtain⟨_,H10,Wm,_,Zr⟩:=X5;subst Zr;exact again (σ9:=[]) Wm hm w9
 exact codeAny_compStart_list loop (T.self _ 0 _ _ _ Uh loop)
theorem Ox(hc:X.calm=true)(hi:PI X (.Name x px) Ld wi)(hk:scope.kind=.function)(Lc:∀y∈scope.names,y.2≠.cell)(Lg:∀y∈scope.names,y.2=.local->scope.names.lookup y.1=some .local)(hx:(relabel scope X.env).names.lookup x=some .local)
  (Mo:closureFor scope X.env=pure cl)(Lf:∀y c,cl.lookup y=some c->X.env.cells.lookup y=some c)(Li:∀y,(y,NameKind.free)∈scope.names->∃c,cl.lookup y=some c)(L4:fY X scope js)(Mt:(ck X x js).Nodup)
  (ht:∀s' H' fp,S1 (bI X scope cl (ck X x js) s' H' fp) ifs tc)(he:∀s' H' fp,PE (bI X scope cl (ck X x js) s' H' fp) elt te)
  (hs:∀x,foldedSetIterable Ld X.env x=pure x:=by intro _;rfl):PE X (.ListComp elt [⟨.Name x px,Ld,ifs,0⟩] scope pos) (iS wi tc te js):=by
 intro K5 s σ H Q I h;rw[eval_ListComp];refine Je (use:=none) rfl hs Mo hk Lg (vo hc hi hk Lc hx Lf Li L4 Mt ht he I h λD C H' s' I' fC hC q=>?_);obtain⟨m,hm⟩:=hC;refine⟨m,hm,λh' sb=>?_⟩;obtain⟨f0,f1,f2,f3,f4,f5⟩:=fC;exact⟨.ref D,H',I'.turned (t':=s'.toks) (λb o hb e=>(sb.2 b hb).trans e) f0 f1 f3 f4 f5,rfl,q⟩
def pR(i:Nat)(te:TE):TS:=λD σ H=>te σ H λv H1=>D.nx (σ.set i (some v)) H1
theorem Ol(hN:X.N.Nodup)(hy:X.N[i]?=some y)(U7:Loc X.env.scope y)(U8:X.fn y=true\/X.env.scope.names.lookup y=some .local)
  (Vb:swapsWith (.ListComp elt [⟨.Name x px,Ld,ifs,0⟩] scope pos) (some (.Name y py)) MT.line X.env=pure true)
  (hc:X.calm=true)(hi:PI X (.Name x px) Ld wi)(hk:scope.kind=.function)(Lc:∀y∈scope.names,y.2≠.cell)(Lg:∀y∈scope.names,y.2=.local->scope.names.lookup y.1=some .local)(hx:(relabel scope X.env).names.lookup x=some .local)
  (Mo:closureFor scope X.env=pure cl)(Lf:∀y c,cl.lookup y=some c->X.env.cells.lookup y=some c)(Li:∀y,(y,NameKind.free)∈scope.names->∃c,cl.lookup y=some c)(L4:fY X scope js)(Mt:(ck X x js).Nodup)
  (ht:∀s' H' fp,S1 (bI X scope cl (ck X x js) s' H' fp) ifs tc)(he:∀s' H' fp,PE (bI X scope cl (ck X x js) s' H' fp) elt te)
  (hs:∀x,foldedSetIterable Ld X.env x=pure x:=by intro _;rfl) :
  PS X (.Assign [.Name y py] (.ListComp elt [⟨.Name x px,Ld,ifs,0⟩] scope pos) MT) (pR i (iS wi tc te js)):=by
 intro K5 s σ H D I h;rw[exec_Assign_Name_used _ _ _ _ Vb];refine b6 (wpAny_standAt (b6 ?_));show wpAny _ _ (do let _ <- comprehension (.ListComp elt [⟨.Name x px,Ld,ifs,0⟩] scope pos) scope X.env _ (newList []) false (eval Ld X.env) (some (assign (.Name y py) X.env))) _ _ s
 refine b6 (E7 (Je (use:=some (assign (.Name y py) X.env)) (Q:=λ_ s'=>SP X K5 D .next s') rfl hs Mo hk Lg
  (vo hc hi hk Lc hx Lf Li L4 Mt ht he I h λD' C H' s' I' fC hC q=>?_)) (λ_ s' hq=>n9 (n9 hq)) λ_ _ e=>e)
 obtain⟨m,o,es,ep,ho,hd,hr⟩:=hC;obtain⟨f0,f1,f2,f3,f4,f5⟩:=fC
 have Ip:Inv X (K5++[(C,o)]) σ H' s':=I'.pins_of λp hp=>(j6.mp hp).elim (λz=>I'.pin p (l9 _ z)) λz=>by
  have e:p=(C,o):=by simpa using z
  subst e;exact⟨ho,f0,f1,f2,λv z=>by rw[hd]at z;cases z⟩
 have hg:PG X (.Name y py) (kY i):=aO hN hy U7 U8;refine Lb (hg _ s' σ H' (.ref D') (.ref D') (λσ' La=>σ'=σ.set i (some (.ref D'))/\La=H') Ip rfl ⟨rfl,rfl⟩) λ_ Ni X6=>?_;obtain⟨σ'',La,Wn,e1,e2⟩:=X6;subst e1 e2;have hp:=(Wn.pin (C,o) (by simp)).1;refine⟨m,⟨o,es,ep,hp,hd,hr⟩,λh' sb=>?_⟩;exact⟨_,_,(Wn.unpinned).turned (t':=Ni.toks) (λb o hb e=>(sb.2 b hb).trans e) f0 f1 f3 f4 f5,q⟩
end
structure aC(K:W.Frag)(mg:Str->Option Value)(x:Str)(st:Stmt):Prop where
 ex:∃(f:Addr)(fd:FuncData),NY K x x st f fd/\mg x=some (.ref f)
theorem aT{K:W.Frag}{oc kV doc pm cdv ct:Value}(X:K.In h)(G:h.Ns mainGlobals mg)
  (a:PySem.W.nsIn K mainGlobals x=some (some (.ref f)))
  (l:K.lookup f=some ⟨oc,od,.func (PySem.W.fnOf x x (fT st) (bA st) (au st) .none kV doc pm an cdv ct),osl⟩)
  (c:PySem.W.codeIn K cdv x=true)(k:PySem.W.keepIn K (.ref f)=true):aC K mg x st:=
 ⟨_,_,HX l c k,KI X G a⟩
structure Def(P:Program)(w:World)(K:W.Frag)(mg:Str->Option Value)(base:Heap)(n:Nat)(x:Str)(ps:List Str)(sp:Sp):Prop where
 ex:∃(f:Addr)(fd:FuncData),oz P w K mg base CX0 n f fd ps sp/\Binds K fd ps []/\PySem.W.keepIn K (.ref f)=true/\mg x=some (.ref f)
variable{P:Program}{w:World}{K:W.Frag}{mg:Str->Option Value}{base:Heap}
theorem aP{k:Nat}(T:aC K mg x st)(S:aB N ps (au st))(len:∀vs H Q E,sp vs H Q E->vs.length=ps.length)(body:∀f cdv A outer s H vs Q E,dP k (A.deeper (envOfC x (au st) s.heap.objs.size f cdv))->sp vs H Q E->
   ∃t,Lr (cN CX0 P w K mg base N x (au st) f cdv A outer s H E).nox (bA st) t/\t {nx:=λ_ H'=>Q .non H',rt:=Q} (start N vs) H)
  (bd:∀kV doc pm an cdv ct us,us.length=ps.length->bindArgs (PySem.W.fnOf x x (fT st) (bA st) (au st) .none kV doc pm an cdv ct) ⟨us,[]⟩=pure (ps.zip us):=by intro _ _ _ _ _ _;first | exact L2.ar1 λ_=>rfl | exact L2.ar2 λ_ _=>rfl | exact L2.ar3 λ_ _ _=>rfl | exact L2.ar4 λ_ _ _ _=>rfl | exact L2.ar0 rfl | exact L2.ar5 λ_ _ _ _ _=>rfl) :
  Def P w K mg base (k+1) x ps sp:=by
 obtain⟨f,fd,F,m⟩:=T.ex;exact⟨f,fd,F.ok S len (body f),F.binds bd,F.kp,m⟩
section
variable{X:Cx}{n:Nat}{x:Str}{ps:List Str}{sp:Sp}{e a b:Expr}{es:List Expr}{t:TA}{ta tb:TE}{p pos:Pos}
theorem aK(D:Def X.prog X.w X.K X.mg X.base n x ps sp)(ha:PA X (e::es) t)(hr:dP n X.A:=by exact dP.mono (by assumption) (by first | decide | omega))(hg:Gl X x:=by rfl)(hdb:(x==("__debug__":Str))=false:=by decide)(he:starEach (e::es) X.env=(false,eval e X.env)::starEach es X.env:=by rfl)(hpl:(backTo pos (starEach es X.env)).any (·.1)=false:=by rfl) :
  PE X (.Call (.Name x p) (e::es) [] pos) (qS sp [] E0 t):=by
 obtain⟨f,fd,F,b,kp,m⟩:=D.ex;exact wx F hr hg m kp b .nil yk ha hdb he hpl
theorem bo:Lm X (binaryOp .Mult) (rI IntMulOk λi j=>.int (i*j)):=Tg λ_ _ _ _ _ _ _ hc q=>PyProof.Rows.mul_int q hc
def QB(_ j:Int):Prop:=j≠0/\j.natAbs.log2<9000
theorem iL:Lm X (binaryOp .FloorDiv) (rI QB λi j=>.int (i.fdiv j)):=Tg λ_ _ _ _ _ _ _ hc q=>PyProof.Rows.floordiv_int hc.1 q (.inl (PyProof.noPylong_of_log2 hc.2))
theorem lj:gi X (.builtin "isinstance") (λxs H Q=>∃y c cv t k,xs=[y,c]/\(∀u,RelV c u->u=cv)/\jX X.K H y t/\PySem.W.kitOne X.K t cv=some k/\Q (.bl k) H):=by
 intro K5 s σ H xs us Q I r h;obtain⟨y,c,cv,t,k,rfl,hc,ty,kt,q⟩:=h;obtain⟨u,w',rfl,r1,r2⟩:=vals2 r;have e:=hc _ r2;subst e;exact Eg I r1 ty kt λtk=>⟨.bl k,H,I.tok tk,rfl,q⟩
end
open PySem.Calls PySem.W PySem.Builtin.Getset_descriptor
section
variable{prog:Program}{w:World}{A:Around}{E:Value->Shared->Prop}{s:Shared}{K:Frag}{x D:Addr}
end
section
variable{P:Program}{w:World}{H:Hp}{h:Heap}{a:Addr}{o:HO}
theorem cP.there(x:cP P w H h a o):∃ob,h.get? a=some ob:=by
 cases o with
 | lst xs=>obtain⟨_,_,_,_,e⟩:=x;exact⟨_,e⟩
 | tup xs=>obtain⟨_,_,_,⟨_,e,_⟩⟩:=x;exact⟨_,e⟩
 | dK K8=>obtain⟨_,_,_,_,o,_,_,e,_⟩:=x;exact⟨_,e⟩
 | dT K8=>obtain⟨_,_,_,_,o,_,_,e,_⟩:=x;exact⟨_,e⟩
 | set S n=>obtain⟨o,_,_,_,e,_⟩:=x;exact⟨_,e⟩
 | ins C dx fs=>obtain⟨_,_,_,e,_⟩:=x;exact⟨_,e⟩
 | own y=>exact x
 | xd fs=>obtain⟨_,⟨_,_,_,e,_⟩,_⟩:=x;exact⟨_,e⟩
 | rng lo hi=>obtain⟨_,_,_,e⟩:=x;exact⟨_,e⟩
 | frz ob u=>obtain⟨e,_⟩:=x;exact⟨_,e⟩
 | tbl ps=>exact⟨_,(show h.get? a=some _ from x)⟩
 | met f y=>exact⟨_,(show h.get? a=some _ from x)⟩
 | ext φ=>obtain⟨_,e,_⟩:=x;exact e
end
def Wq(P:Program)(w:World)(outer:List Env)(H:Hp)(s:Shared)(ea:Addr)(C:Value)(H':Hp)(s':Shared):Prop:=∃t B,
 s'.os=s.os/\AllBare s'.gens/\Un (LF outer) [] H H' s.heap s'.heap/\Lq P w H' s'.heap/\Heap.FlyingW B outer ea C (.ref t) s'.heap/\H' ea=none/\s.heap.get? ea=none/\
 ∀b o,s'.heap.get? b=some o->b ∉ LF outer->((∃u,H' b=some u)\/∃o',s.heap.get? b=some o')->B.get? b=some o
def LZ(P:Program)(w:World):M9:=λouter H s E e s'=>∃ea C H',e=.ref ea/\Wq P w outer H s ea C H' s'/\E C none H'
theorem UK:Passes (LZ P w) X E0:=λ_ _ _ _ _ _ _ ⟨_,_,_,_,_,h⟩=>h.elim
section
variable{P:Program}{w:World}{K:W.Frag}{mg:Str->Option Value}{base:Heap}{N:List Str}{qual:Str}{scope:Scope}{f:Addr}{cd:Value}{A:Around}{outer:List Env}{s:Shared}{H:Hp}{E:XK}
theorem wg(I:Inv (cN (LZ P w) P w K mg base N qual scope f cd A outer s H E) K5 σ H1 s₂)
  (hx:Heap.MadeExcOf s₂.heap h' ea (.ref C) vs)(q:E (.ref C) none H1):(cN (LZ P w) P w K mg base N qual scope f cd A outer s H E).xe (.ref ea) {s₂ with heap:=h' }:=by
 have hin:∀en∈(envOfC qual scope s.heap.objs.size f cd::outer),∀b,en.frame=some b->b∈LF (envOfC qual scope s.heap.objs.size f cd::outer):=λen he b hb=>Ka.mpr ⟨en,he,hb⟩;show wpAny (model P w) (A.deeper (envOfC qual scope s.heap.objs.size f cd)) (leaving (envOfC qual scope s.heap.objs.size f cd) (.ref ea)) _ _ _;refine wpAny_leaves_madeW (base:=PySem.W.hideAll s₂.heap (LF (envOfC qual scope s.heap.objs.size f cd::outer))) (h:=s₂.heap) I.ok.frames rfl (λb o z=>PySem.W.of_hideAll _ z) (PySem.W.funFrames_hide I.stack hin) hx λh'' t fl _ _ up=>?_;have ML:∀b o,s₂.heap.get? b=some o->b ∉ LF (envOfC qual scope s.heap.objs.size f cd::outer)->h''.get? b=some o:=λb o e n=>fl.1 b o (J2 _ e n)
 have Rp:∀b o,s.heap.get? b=some o->b ∉ LF outer->b ∉ LF (envOfC qual scope s.heap.objs.size f cd::outer):=λb o e n z =>
  (j4.mp (I.stkSub b z)).elim (λz=>absurd (i5 (l6 e) I.ok.above) (by rw[z];exact B2 _)) n
 have PD:∀b u,H1 b=some u->b ∉ LF (envOfC qual scope s.heap.objs.size f cd::outer):=λb u e z=>by
  have:=I.stkFree b z;rw[e]at this;cases this
 have Yc:∀b,s₂.heap.get? b=none->H1 b=none:=λb e=>by
  cases z:H1 b with
  | none=>rfl
  | some u=>obtain⟨ob,e2⟩:=(I.hok b u z).there;rw[e]at e2;cases e2
 have LI:∀b o,s.heap.get? b=some o->∃o',s₂.heap.get? b=some o':=λb o e=>I.base.there b o e (λz=>nomatch z);refine⟨ea,.ref C,H1,rfl,⟨t,_,I.os,I.bare,⟨?_,?_,λb o e n z=>I.base.free b o e n z,?_,I.base.tups,I.base.frzs,I.base.tbls⟩,?_,fl,Yc _ hx.new,?_,?_⟩,q⟩
 .exact λb o e n hb z=>ML b o (I.base.keep b o e n hb z) (Rp b o e hb)
 .intro b o e n hb z;obtain⟨sl,e1⟩:=I.base.slot b o e n hb z;obtain⟨_,o',e2,nf⟩:=I.ok.funs.mem hb;have e3:some o'=some o:=e2.symm.trans e;cases e3
  obtain⟨Tf,e4⟩:=up b _ (hx.keeps b _ e1) nf;exact⟨Tf,e4⟩
 .intro b o e z
  by_cases hb:b∈LF outer
  .obtain⟨sl,e1⟩:=I.base.slot b o e (I.ok.frf b hb) hb z;obtain⟨_,o',e2,nf⟩:=I.ok.funs.mem hb;have e3:some o'=some o:=e2.symm.trans e;cases e3
   obtain⟨Tf,e4⟩:=up b _ (hx.keeps b _ e1) nf;exact⟨_,e4⟩
  .obtain⟨o',e1⟩:=LI b o e;exact⟨o',ML b o' e1 (Rp b o e hb)⟩
 .intro b u e;exact(I.hok b u e).stay (λc v hc e'=>ML c v e' (hc.elim (λz=>by subst z;exact PD _ _ e) λz=>PD _ _ z)) (λ_ z=>z) λ_ _ z=>z
 .cases z:s.heap.get? ea with
  | none=>rfl
  | some o=>obtain⟨o',e⟩:=LI ea o z;rw[hx.new]at e;cases e
 .intro b o e n hb
  have key:∃o2,s₂.heap.get? b=some o2/\b ∉ LF (envOfC qual scope s.heap.objs.size f cd::outer):=by
   rcases hb with⟨u,hu⟩ | ⟨o',ho⟩
   .obtain⟨ob,e2⟩:=(I.hok b u hu).there;exact⟨ob,e2,PD b u hu⟩
   .obtain⟨o2,e2⟩:=LI b o' ho;exact⟨o2,e2,Rp b o' ho n⟩
  obtain⟨o2,e2,n2⟩:=key;have e3:=ML b o2 e2 n2;rw[e]at e3;cases e3
  exact J2 _ e2 n2
end
abbrev bmV:List Value:=[.type "ValueError",.type "Exception",.type "BaseException",.type "object"]
theorem O1{K:Frag}(X:K.In h)(q:excIn K C ZG newId=true) :
  ∃bm N nm qn bs hd sn sub ab col dd k0 k1 k2 k3 k5 mN,h.get? C=some (excClassObj nm qn C N bs bm hd sn sub ab col dd k0 k1 k2 k3 k5 newId)/\h.Ns N mN/\mN "__init__"=none/\OwnTail h ZG bm:=by
 unfold excIn at q;split at q
 .rename_i d0 c0 sl0 lk;split at q
  .rename_i C1 bm1 j0 j1 j2 j3 n1 j5 em es;simp only[Bool.not_eq_true',Jd,A8]at q;obtain⟨⟨⟨⟨⟨e1,e2⟩,P6⟩,tl⟩,ok⟩,ni⟩:=q;subst e1 e2;obtain⟨nm1,bs1,mro1,ns1,qn1,L8,sn1,sub1,ab1,col1,del1⟩:=c0;dsimp only at em P6 ok ni;subst em P6
   have esl:sl0=#[j0,j1,j2,j3,some (.builtin n1),j5]:=by
    obtain⟨l0⟩:=sl0;simp only at es;rw[es]
   subst esl;exact⟨_,_,_,_,_,_,_,_,_,_,_,_,_,_,_,_,_,X _ _ lk,.of_isNs (isNs_of_in X ok),nsMap_none_of_in X ok ni,tail_of_in X tl⟩
  .cases q
 .cases q
def QJ(C:Addr)(E:XK)(ta:TA):TS:=λ_ σ H=>ta σ H λvs H1=>vs.length<=sizeLine/\E (.ref C) none H1
section
variable{P:Program}{w:World}{K:Frag}{mg:Str->Option Value}{base:Heap}{N:List Str}{qual:Str}{scope:Scope}{f:Addr}{cd:Value}{A:Around}{outer:List Env}{s:Shared}{H:Hp}{E:XK}
theorem Gm{C:Addr}{np Ll:Pos}(hg:Gl (cN (LZ P w) P w K mg base N qual scope f cd A outer s H E) x)(hm:mg x=some (.ref C))(q:excIn K C bmV "ValueError.__new__"=true)
  (ha:PA (cN (LZ P w) P w K mg base N qual scope f cd A outer s H E) (e₀::es) ta)(hdb:(x==("__debug__":Str))=false:=by decide)
  (he:starEach (e₀::es) (envOfC qual scope s.heap.objs.size f cd)=(false,eval e₀ (envOfC qual scope s.heap.objs.size f cd))::starEach es (envOfC qual scope s.heap.objs.size f cd):=by rfl)
  (hpl:(backTo Ll (starEach (e₀::es) (envOfC qual scope s.heap.objs.size f cd))).any (·.1)=false:=by rfl) :
  PS (cN (LZ P w) P w K mg base N qual scope f cd A outer s H E) (.Raise (some (.Call (.Name x np) (e₀::es) [] Ll)) none pos) (QJ C E ta):=by
 intro K5 s₁ σ H1 D I h;obtain⟨bm,N1,nm,qn,bs,hd,sn,sub,ab,col,dd,k0,k1,k2,k3,k5,mN,gC,nN,ni,T⟩:=O1 I.mod.kin q
 refine wpAny_Raise_call_subT (C:=C) (nm:=nm) (q:=qn) (N:=N1) (bs:=bs) (bm:=bm) (hdct:=hd) (sn:=sn) (sub:=sub) (ab:=ab) (col:=col) (dd:=dd) (k0:=k0) (k1:=k1) (k2:=k2) (k3:=k3) (k5:=k5) F.excBase_ValueError (mN:=mN)
  (T.hasType F.excBase_ValueError.hasBase) (I.ok.hd rfl) hpl ni (lM I hg hm ⟨rfl,?_⟩ hdb)
 have hA:=ha Ll K5 s₁ σ H1 _ I h;have he':starEach (e₀::es) (cN (LZ P w) P w K mg base N qual scope f cd A outer s H E).env=(false,eval e₀ (cN (LZ P w) P w K mg base N qual scope f cd A outer s H E).env)::starEach es (cN (LZ P w) P w K mg base N qual scope f cd A outer s H E).env:=he;rw[he']at hA ⊢;refine Calls.evalArgs_plain (Lb hA λus s₂ z=>?_);obtain⟨vs,H2,I2,r,z,q2⟩:=z;exact⟨rfl,by rw[<- r.length];exact z,I2.bk _ _ gC,nN.keeps I2.bk,T.keeps I2.bk,λh' e hx=>wg I2 hx q2⟩
end
structure xi(P:Program)(w:World)(K:Frag)(mg:Str->Option Value)(base:Heap)(n:Nat)(x:Str)(ps:List Str)(sp:Sp):Prop where
 ex:∃(f:Addr)(fd:FuncData),oz P w K mg base (LZ P w) n f fd ps sp/\Binds K fd ps []/\keepIn K (.ref f)=true/\mg x=some (.ref f)
theorem CH{K:Frag}{k:Nat}(T:aC K mg x st)(S:aB N ps (au st))(len:∀vs H Q E,sp vs H Q E->vs.length=ps.length)(body:∀f cdv A outer s H vs Q E,dP k (A.deeper (envOfC x (au st) s.heap.objs.size f cdv))->sp vs H Q E->
   ∃t,Lr (cN (LZ P w) P w K mg base N x (au st) f cdv A outer s H E) (bA st) t/\t {nx:=λ_ H'=>Q .non H',rt:=Q} (start N vs) H)
  (bd:∀kV doc pm an cdv ct us,us.length=ps.length->bindArgs (fnOf x x (fT st) (bA st) (au st) .none kV doc pm an cdv ct) ⟨us,[]⟩=pure (ps.zip us):=by intro _ _ _ _ _ _;first | exact L2.ar1 λ_=>rfl | exact L2.ar2 λ_ _=>rfl | exact L2.ar3 λ_ _ _=>rfl | exact L2.ar4 λ_ _ _ _=>rfl | exact L2.ar0 rfl | exact L2.ar5 λ_ _ _ _ _=>rfl) :
  xi P w K mg base (k+1) x ps sp:=by
 obtain⟨f,fd,F,m⟩:=T.ex;obtain⟨oc,od,kV,doc,pm,an,cdv,ct,osl,rfl,lk,hcd⟩:=id F.ex;exact⟨f,_,Qj lk hcd S len λA outer s H vs Q E hr h=>body f cdv A outer s H vs Q E hr h,F.binds bd,F.kp,m⟩
theorem wu(D:xi X.prog X.w X.K X.mg X.base n x ps sp)(hr:dP n X.A)(hg:Gl X x)(ha:PA X (e::es) t)
  (hdb:(x==("__debug__":Str))=false:=by decide)(he:starEach (e::es) X.env=(false,eval e X.env)::starEach es X.env:=by rfl)(hpl:(backTo pos (starEach es X.env)).any (·.1)=false:=by rfl) :
  PE X (.Call (.Name x p) (e::es) [] pos) (qS sp [] E0 t):=by
 obtain⟨f,fd,F,b,kp,m⟩:=D.ex;exact wx F hr hg m kp b .nil UK ha hdb he hpl
structure zw(K:Frag)(D:Addr):Prop where
 cl:∃cd,clsIn K D=some cd
 ty:typeIn K (.ref D)=some (.type "type")
 hb:mroIn K D (.type "BaseException")=some true
section
variable{X:Cx}{K5:List (Addr×Obj)}{σ:St}{H H':Hp}{s s':Shared}
theorem Inv.caught{ea:Addr}{C:Value}(I:Inv X K5 σ H s){t:Addr}{tk:Nat}(ho:s'.os=s.os)(hg:AllBare s'.gens)(un:Un (LF X.stack) [] H H' s.heap s'.heap)(hok:Lq X.prog X.w H' s'.heap)
  (TH:∀b o,s'.heap.get? b=some o->b ∉ LF X.stack->((∃u,H' b=some u)\/∃o',s.heap.get? b=some o')->B.get? b=some o)(st:B.StaysIn h6)(up:s'.heap.UpToSlots h6):Inv X K5 σ H' {s' with heap:=h6,toks:=tk}:=by
 have fr:=I.stack
 have frf:∀b u,H' b=some u->b ∉ LF X.stack:=λb u e z=>by
  obtain⟨_,o,e2,_⟩:=fr.mem z;have q:=un.free b o e2 (I.stkFree b z) (by simp);rw[e]at q;cases q
 have PN:∀b o,s.heap.get? b=some o->b∈LF X.stack->∃sl,h6.get? b=some {o with slots:=sl}:=λb o e hb=>by
  obtain⟨_,o',e2,nf⟩:=fr.mem hb;have e3:some o'=some o:=e2.symm.trans e;cases e3
  obtain⟨sl,e4⟩:=un.slot b _ e (I.stkFree b hb) hb (by simp);obtain⟨Tf,e5⟩:=up b _ e4 nf;exact⟨Tf,e5⟩
 have u6:Un (LF X.stack) [] H H' s.heap h6:=by
  refine⟨λb o e n hb hx=>st b o (TH b o (un.keep b o e n hb hx) hb (.inr ⟨o,e⟩)),λb o e n hb hx=>PN b o e hb,un.free,λb o e hx=>?_,un.tups,un.frzs,un.tbls⟩
  by_cases hb:b∈LF X.stack
  .obtain⟨sl,z⟩:=PN b o e hb;exact⟨_,z⟩
  .obtain⟨o',z⟩:=un.there b o e hx;exact⟨o',st b o' (TH b o' z hb (.inr ⟨o,e⟩))⟩
 have k6:Lq X.prog X.w H' h6:=λb u e=>(hok b u e).stay (λc z hc q=>by
  have tr:∃v,H' c=some v:=hc.elim (λk=>⟨u,by rw[k];exact e⟩) λk=>⟨_,k⟩;obtain⟨v,hv⟩:=tr;exact st c z (TH c z q (frf c v hv) (.inl ⟨v,hv⟩))) (λ_ z=>z) λ_ _ z=>z
 exact I.call' (s':={s' with heap:=h6,toks:=tk}) (ch:=[]) ho u6 k6 hg λb hb=>nomatch hb
end
section
variable{X:Cx}
theorem wX:∀(names:List (Str×NameKind))(acc:List (Str×Addr)),(∀y,(y,NameKind.free)∈names->∃c,env.cells.lookup y=some c)->
  ∃ cl:List (Str×Addr),(forIn names acc (λx r=>match x with
    | (name,kind)=>if(kind==NameKind.free)=true then do let a <- cellOf env name;pure (ForInStep.yield ((name,a)::r)) else pure (ForInStep.yield r)):Sem _)=pure cl/\
   (∀y c,cl.lookup y=some c->acc.lookup y=some c\/env.cells.lookup y=some c)/\(∀y,(y,NameKind.free)∈names->∃c,cl.lookup y=some c)/\∀y,(∃c,acc.lookup y=some c)->∃c,cl.lookup y=some c
 | [],acc,_=>⟨acc,rfl,λ_ _ h=>.inl h,(λ_ h=>nomatch h),λ_ h=>h⟩
 | (nm,kd)::r,acc,h=>by
  by_cases hk:kd=.free
  .subst hk;obtain⟨c,hc⟩:=h nm v8;obtain⟨cl,e,p1,p2,p3⟩:=wX r ((nm,c)::acc) λy hy=>h y (x6 _ hy);refine⟨cl,?_,λy d hd=>?_,λy hy=>?_,λy hy=>?_⟩
   .rw[JZ];have z:cellOf env nm=pure c:=by unfold cellOf;rw[hc]
    simp only[z,F0,KS];exact e
   .rcases p1 y d hd with q | q
    .rw[C6]at q;cases hy:y==nm with
     | true =>
      rw[hy]at q;have e1:=Jd.mp hy;subst e1;cases q
      exact .inr hc
     | false=>rw[hy]at q;exact .inl q
    .exact .inr q
   .rcases j4.mp hy with q | q
    .cases q
     exact p3 nm ⟨c,by rw[C6,F0]⟩
    .exact p2 y q
   .obtain⟨d,hd⟩:=hy;refine p3 y ?_;rw[C6];cases y==nm with
    | true=>exact⟨c,rfl⟩
    | false=>exact⟨d,hd⟩
  .obtain⟨cl,e,p1,p2,p3⟩:=wX r acc λy hy=>h y (x6 _ hy);refine⟨cl,?_,p1,λy hy=>?_,p3⟩
   .rw[JZ];have z:(kd==NameKind.free)=false:=by simpa using hk
    simp only[z,Bool.false_eq_true,if_false];exact e
   .rcases j4.mp hy with q | q
    .cases q;exact absurd rfl hk
    .exact p2 y q
theorem wW{env:Env}(h:∀y,(y,NameKind.free)∈scope.names->∃c,env.cells.lookup y=some c) :
  ∃cl,closureFor scope env=pure cl/\(∀y c,cl.lookup y=some c->env.cells.lookup y=some c)/\∀y,(y,NameKind.free)∈scope.names->∃c,cl.lookup y=some c:=by
 obtain⟨cl,e,p1,p2,_⟩:=wX (env:=env) scope.names [] h;refine⟨cl,?_,λy c hc=>(p1 y c hc).elim (λz=>by cases z) λz=>z,p2⟩;unfold closureFor;show(forIn scope.names [] _ >>= λs=>pure s)=pure cl;rw[bind_pure];exact e
theorem qK{js:List Nat}(I:Inv X K5 σ H s)(hf:∀y,(y,NameKind.free)∈scope.names->X.env.kindOf y=some .cell\/X.env.kindOf y=some .free) :
  ∀y,(y,NameKind.free)∈scope.names->∃c,X.env.cells.lookup y=some c:=λy hy=>I.ok.has y (hf y hy)
variable{elt Ld:Expr}{x:Str}{px pos:Pos}{ifs:List Expr}{scope:Scope}{wi:TI}{tc:TT}{te:TE}{js:List Nat}
theorem dC(hi:PI X (.Name x px) Ld wi)(L4:fY X scope js)(ht:∀cl s' H' fp,S1 (bI X scope cl (ck X x js) s' H' fp) ifs tc)(he:∀cl s' H' fp,PE (bI X scope cl (ck X x js) s' H' fp) elt te)(hc:X.calm=true:=by rfl)(hk:scope.kind=.function:=by rfl)(Lc:∀y∈scope.names,y.2≠.cell:=by decide+kernel)(Lg:∀y∈scope.names,y.2=.local->scope.names.lookup y.1=some .local:=by decide+kernel)(hx:(relabel scope X.env).names.lookup x=some .local:=by rfl)(hf:∀p∈scope.names,p.2=.free->X.env.kindOf p.1=some .cell\/X.env.kindOf p.1=some .free:=by exact c8 (by kernel_rfl))(Mt:(ck X x js).Nodup:=by exact c8 (by kernel_rfl))(hs:∀x,foldedSetIterable Ld X.env x=pure x:=by intro _;rfl):PE X (.ListComp elt [⟨.Name x px,Ld,ifs,0⟩] scope pos) (iS wi tc te js):=by
 intro K5 s σ H Q I h;obtain⟨cl,e,p1,p2⟩:=wW (qK (js:=js) I λy hy=>hf (y,.free) hy rfl);exact Ox hc hi hk Lc Lg hx e p1 p2 L4 Mt (ht cl) (he cl) hs K5 s σ H Q I h
theorem lH{py MT:Pos}(hi:PI X (.Name x px) Ld wi)(L4:fY X scope js)(ht:∀cl s' H' fp,S1 (bI X scope cl (ck X x js) s' H' fp) ifs tc)(he:∀cl s' H' fp,PE (bI X scope cl (ck X x js) s' H' fp) elt te)(hN:X.N.Nodup:=by assumption)(hy:X.N[i]?=some y:=by rfl)(U7:Loc X.env.scope y:=by first | exact Or.inl rfl | exact Or.inr rfl)(U8:X.fn y=true\/X.env.scope.names.lookup y=some .local:=by first | exact .inl rfl | exact .inr rfl)(Vb:swapsWith (.ListComp elt [⟨.Name x px,Ld,ifs,0⟩] scope pos) (some (.Name y py)) MT.line X.env=pure true:=by rfl)(hc:X.calm=true:=by rfl)(hk:scope.kind=.function:=by rfl)(Lc:∀y∈scope.names,y.2≠.cell:=by decide+kernel)(Lg:∀y∈scope.names,y.2=.local->scope.names.lookup y.1=some .local:=by decide+kernel)(hx:(relabel scope X.env).names.lookup x=some .local:=by rfl)(hf:∀p∈scope.names,p.2=.free->X.env.kindOf p.1=some .cell\/X.env.kindOf p.1=some .free:=by exact c8 (by kernel_rfl))(Mt:(ck X x js).Nodup:=by exact c8 (by kernel_rfl))(hs:∀x,foldedSetIterable Ld X.env x=pure x:=by intro _;rfl) :
  PS X (.Assign [.Name y py] (.ListComp elt [⟨.Name x px,Ld,ifs,0⟩] scope pos) MT) (pR i (iS wi tc te js)):=by
 intro K5 s σ H D I h;obtain⟨cl,e,p1,p2⟩:=wW (qK (js:=js) I λy hy=>hf (y,.free) hy rfl);exact Ol hN hy U7 U8 Vb hc hi hk Lc Lg hx e p1 p2 L4 Mt (ht cl) (he cl) hs K5 s σ H D I h
end
theorem qO:∀{ns:List Int}{n:Int},n∈ns->WData.weight (.int n)<=WData.weightAll (ns.map WData.int)
 | [],_,h=>nomatch h
 | m::r,n,h=>by
  show _<=WData.weight (.int m)+1+WData.weightAll (r.map WData.int);rcases j4.mp h with e | e
  .subst e;omega
  .have:=qO (ns:=r) e;omega
theorem zb(n:Int):Builtin.Int.intBits n=WData.weight (.int n):=by
 show _=if n==0 then 0 else n.natAbs.log2+1
 unfold Builtin.Int.intBits
 by_cases h:n=0
 .subst h;rfl
 .simp[h]
theorem xH(h:WData.layableAll [.list (ns.map .int)]=true):∀n∈ns,Builtin.Int.intBits n<=1048576:=λn hn=>by
 have h1:WData.layable (.list (ns.map .int))=true:=by
  simpa [WData.layableAll] using h
 have h2:WData.weight (.list (ns.map .int))<=2^20:=by
  unfold WData.layable at h1;rw[A8,A8]at h1;exact c8 h1.2
 have h3:WData.weightAll (ns.map WData.int)<=2^20:=h2;have h4:=qO hn;rw[zb];omega
theorem CV{l:OpenLaw}{k:Nat}{K:Params->Frag}{sp:Frag->Sp}
  (hn:l.most=some n)(WW:n<=sizeLine)(hdf:d.params.defaults=[])(hr:dP k callerA)(hY:∀(w:World)(h:Heap),YP w h->(K w.params).In h)
  (F:∀(w:World)(mg:Str->Option Value)(fa:Addr)(h:Heap),(K w.params).In h->h.Ns mainGlobals mg->mg d.name=some (.ref fa)->
   ∃fd:FuncData,(∀(s:Shared)(u:Value),BindsTo s fd ⟨[u],[]⟩ [(x,u)])/\∀base:Heap,(K w.params).In base->base.Ns mainGlobals mg->oz l.prog w (K w.params) mg base CX k fa fd [x] (sp (K w.params)))
  (Qc:∀(K:Frag)(H:Hp)(a:Addr)(ns:List Int),ns.length<=n->(∀m∈ns,Builtin.Int.intBits m<=1048576)->Pn H->K7 K H a (ns.map V.int)->sp K [.ref a] H (λv _=>v=.bl true) λ_ _ _=>False)
  (Y6:∀(H:Hp)(s:Shared)(e:Value)(s':Shared),CX [] H s (λ_ _ _=>False) e s'->False):WalkO q loose XP YP l.row.toRowW d [] (λf vs=>PySem.call f vs):=by
 intro w s₀ s₁ mg mb G Y fa o pm cd doc dV kV ho hd hcd hD YQ hg args Lu as OU YT hrd Yx LC;obtain rfl:dV=.none:=Dflts.none hD hdf;obtain rfl:kV=.none:=Dflts.noKw hD;obtain⟨a,vs,ns,rfl,rfl,YN,hints,hlen⟩:=Att.Dm hn OU Yx;have KX:=hY w _ Y;obtain⟨fd,hb,hF⟩:=F w mg fa _ KX G.T.g YQ;have c:=Ht KX G.T.g G.T.b G.T.builtins G.T.nolimit hg YN hints (l7 hlen WW) hr hF hb (λH hO hS=>Qc (K w.params) H a ns hlen (xH YT) hO hS) λH e s'=>Y6 H s₁ e s';refine enter_call (KR c λr s' hq=>?_);obtain⟨rfl,h2,h3,h4⟩:=hq;exact⟨.inl ⟨.bool true,.bool true,[],rfl,λ_=>rfl,.bool true,Att.Du l _,λ_=>⟨List.Pairwise.nil,λ_ hm=>(nomatch hm)⟩⟩,h2,h3,h4⟩
section
variable{κ:Type}[DecidableEq κ]
noncomputable def fq(K8:List (κ×V))(k:κ):Option V:=(K8.find? λkv=>decide (kv.1=k)).map (·.2)
noncomputable def putK(K8:List (κ×V))(k:κ)(v:V):List (κ×V):=
 if(K8.any λkv=>decide (kv.1=k))=true then K8.map (λkv=>if kv.1=k then(kv.1,v) else kv) else K8++[(k,v)]
theorem dX{p:κ×V}{r:List (κ×V)}{k:κ}(e:p.1=k):fq (p::r) k=some p.2:=by simp[fq,Jp,e]
theorem dY{p:κ×V}{r:List (κ×V)}{k:κ}(e:¬p.1=k):fq (p::r) k=fq r k:=by simp[fq,Jp,e]
theorem kq(k:κ):∀K8:List (κ×V),(K8.any λkv=>decide (kv.1=k))=(fq K8 k).isSome
 | []=>rfl
 | p::r=>by
  rw[JB]
  by_cases e:p.1=k
  .simp only[dX e,e9 e,Bool.true_or,Option.isSome_some]
  .rw[dY e,B7 e,Bool.false_or];exact kq k r
theorem xp(k j:κ)(y:V):∀K8:List (κ×V),fq (K8.map λkv=>if kv.1=k then(kv.1,y) else kv) j=(fq K8 j).map λx=>if j=k then y else x
 | []=>rfl
 | p::r=>by
  have ih:=xp k j y r;rw[z7]
  by_cases h:p.1=k
  .rw[d7 h]
   by_cases e:p.1=j
   .rw[dX (p:=(p.1,y)) e,dX e,JF,d7 (e.symm.trans h)]
   .rw[dY (p:=(p.1,y)) e,dY e,ih]
  .rw[d9 h]
   by_cases e:p.1=j
   .rw[dX (p:=p) e,dX e,JF,d9 (λz=>h (e.trans z))]
   .rw[dY (p:=p) e,dY e,ih]
theorem uA(k j:κ)(y:V):∀K8:List (κ×V),fq K8 k=none->fq (K8++[(k,y)]) j=if j=k then some y else fq K8 j
 | [],_=>by
  by_cases e:k=j
  .rw[d7 e.symm];exact dX (p:=(k,y)) e
  .rw[d9 (λz=>e z.symm)];exact dY (p:=(k,y)) e
 | p::r,hn=>by
  rw[y7];have hk:¬p.1=k:=λz=>by rw[dX z]at hn;cases hn
  rw[dY hk]at hn;have ih:=uA k j y r hn
  by_cases e:p.1=j
  .rw[dX e,dX e,d9 (λz=>hk (e.trans z))]
  .rw[dY e,dY e,ih]
theorem jj(K8:List (κ×V))(k j:κ)(y:V):fq (putK K8 k y) j=if j=k then some y else fq K8 j:=by
 unfold putK
 by_cases a:(K8.any λkv=>decide (kv.1=k))=true
 .rw[d7 a,xp];rw[kq]at a
  by_cases e:j=k
  .obtain⟨x,hx⟩:=KG.mp a;rw[d7 e,e,hx,JF,d7 rfl]
  .rw[d9 e];cases fq K8 j with
   | none=>rfl
   | some x=>rw[JF,d9 e]
 .rw[d9 a];refine uA k j y K8 ?_;rw[kq]at a;cases q:fq K8 k with
  | none=>rfl
  | some x=>rw[q]at a;exact(a rfl).elim
theorem kS(K8:List (κ×V))(k:κ)(v:V):(putK K8 k v).length<=K8.length+1:=by
 unfold putK;split
 .rw[i7];omega
 .rw[c7,j9,JG];omega
theorem Gi{K8:List (κ×V)}{k:κ}(v:V)(h:fq K8 k=none):putK K8 k v=K8++[(k,v)]:=by
 unfold putK;rw[kq,h];exact d9 (by decide)
theorem lS.isSome_eq(r:lS o u):o.isSome=u.isSome:=by
 cases o with
 | none=>cases u with
  | none=>rfl
  | some _=>exact(show False from r).elim
 | some _=>cases u with
  | none=>exact(show False from r).elim
  | some _=>rfl
theorem KV.val(r:KV K8 vs)(k:κ):lS (fq K8 k) (valueAt vs k):=by
 unfold KV at r
 induction r with
 | nil=>exact True.intro
 | @cons p q ps qs h t ih =>
  obtain⟨h1,h2⟩:=h
  by_cases e:p.1=k
  .have e':q.1=k:=h1.symm.trans e;have b:valueAt (q::qs) k=some q.2:=by simp[valueAt,Jp,e']
   rw[dX e,b];exact h2
  .have e':¬q.1=k:=λz=>e (h1.trans z);have b:valueAt (q::qs) k=valueAt qs k:=by simp[valueAt,Jp,e']
   rw[dY e,b];exact ih
theorem KV.any(r:KV K8 vs)(k:κ):(K8.any λkv=>decide (kv.1=k))=vs.any λkv=>decide (kv.1=k):=by
 unfold KV at r
 induction r with
 | nil=>rfl
 | cons h t ih=>rw[JB,JB,ih,h.1]
theorem KV.repl(r:KV K8 vs)(k:κ){y:V}(ry:RelV y u) :
  KV (K8.map λkv=>if kv.1=k then(kv.1,y) else kv) (vs.map λkv=>if kv.1=k then(kv.1,u) else kv):=by
 unfold KV at r ⊢
 induction r with
 | nil=>exact .nil
 | @cons p q ps qs h t ih =>
  rw[z7,z7];refine .cons ?_ ih;obtain⟨h1,h2⟩:=h
  by_cases e:p.1=k
  .rw[d7 e,d7 (h1.symm.trans e)];exact⟨h1,ry⟩
  .rw[d9 e,d9 (λz=>e (h1.trans z))];exact⟨h1,h2⟩
theorem KV.put(r:KV K8 vs)(k:κ){y:V}(ry:RelV y u):KV (putK K8 k y) (stored vs k u):=by
 unfold putK stored;rw[r.any k]
 by_cases e:(vs.any λkv=>decide (kv.1=k))=true
 .rw[d7 e,d7 e];exact r.repl k ry
 .rw[d9 e,d9 e];exact Paired.snoc r ⟨rfl,ry⟩
theorem KV.length(r:KV K8 vs):K8.length=vs.length:=KD r
end
theorem yL(r:RelV (kV k) u):(dj P w).is k u=true:=by
 cases k with
 | inl i=>obtain⟨t,e⟩:=(show ∃t,u=Value.int i t from r);subst e;exact yI P w i t
 | inr x=>obtain⟨t,e⟩:=(show ∃t,u=Value.str x t from r);subst e;exact yH P w x t
theorem vi:∀{ks:List Key}{us:List Value},Vals (ks.map kV) us->ItemsAre (dj P w) ks us
 | [],_,r=>by rw[J7]at r;cases r;exact .nil
 | k::ks,_,r=>by
  rw[z7]at r;cases r with
  | cons h t=>exact .cons (yL h) (vi t)
abbrev KT(H:Hp):List (List Key×V)->List (List Key×Addr×Value)->Prop:=Paired λp q=>p.1=q.1/\H q.2.1=some (.tup (p.1.map kV))/\RelV p.2 q.2.2
theorem KT.val(r:KT H K8 xs)(k:List Key):lS (fq K8 k) ((atKey xs k).map (·.2)):=by
 induction r with
 | nil=>exact True.intro
 | @cons p q ps qs h t ih =>
  obtain⟨h1,_,h2⟩:=h
  by_cases e:p.1=k
  .have e':q.1=k:=h1.symm.trans e;have b:atKey (q::qs) k=some q.2:=by simp[atKey,Jp,e']
   rw[dX e,b];exact h2
  .have e':¬q.1=k:=λz=>e (h1.trans z);have b:atKey (q::qs) k=atKey qs k:=by simp[atKey,Jp,e']
   rw[dY e,b];exact ih
theorem KT.repl(r:KT H K8 xs)(k:List Key){y:V}(ry:RelV y u) :
  KT H (K8.map λkv=>if kv.1=k then(kv.1,y) else kv) (xs.map (putAt k u)):=by
 induction r with
 | nil=>exact .nil
 | @cons p q ps qs h t ih =>
  rw[z7,z7];refine .cons ?_ ih;obtain⟨h1,h2,h3⟩:=h;unfold putAt
  by_cases e:p.1=k
  .rw[d7 e,d7 (h1.symm.trans e)];exact⟨h1,h2,ry⟩
  .rw[d9 e,d9 (λz=>e (h1.trans z))];exact⟨h1,h2,h3⟩
theorem KT.put(r:KT H K8 xs)(k:List Key){y:V}(hb:H b=some (.tup (k.map kV)))(ry:RelV y u) :
  KT H (putK K8 k y) (storedH xs k b u):=by
 have e:(K8.any λkv=>decide (kv.1=k))=(atKey xs k).isSome:=by
  rw[kq,(r.val k).isSome_eq,Option.isSome_map]
 unfold putK storedH;rw[e]
 by_cases q:(atKey xs k).isSome=true
 .rw[d7 q,d7 q];exact r.repl k ry
 .rw[d9 q,d9 q];exact Paired.snoc r ⟨rfl,hb,ry⟩
theorem KT.keeps(r:KT H K8 xs)(ht:∀b ys,H b=some (.tup ys)->H' b=some (.tup ys)):KT H' K8 xs:=
 Paired.mapP r λ_ _ z=>⟨z.1,ht _ _ z.2.1,z.2.2⟩
section
variable{P:Program}{w:World}{H:Hp}{h:Heap}{a:Addr}
theorem P0(ok:Lq P w H h)(e:Rd H a u):cP P w H h a u:=e.ok ok
theorem CG(ok:Lq P w H h)(e:Rd H a (.dK K8)):K8.length<=sizeLine/\(a==sysModules)=false/\∃vs,KV K8 vs/\h.DictOf (dj P w) a vs:=
 show cP P w H h a (.dK K8) from P0 ok e
theorem Qo(ok:Lq P w H h)(e:H a=some (.dK K8)):K8.length<=sizeLine/\(a==sysModules)=false/\∃vs,KV K8 vs/\h.DictOf (dj P w) a vs:=CG ok (.inl e)
theorem wL(ok:Lq P w H h)(e:H a=some (.tup (ks.map kV))):(tupleKind (dj P w)).is h ks a:=by
 obtain⟨_,its,r,o,h1,h2,n,h3⟩:=(show cP P w H h a (.tup (ks.map kV)) from ok a _ e);exact⟨o,its.toArray,n,h1,h2,h3,by simpa using vi r⟩
theorem CA(ok:Lq P w H h)(e:Rd H a (.dT K8)):K8.length<=sizeLine/\(a==sysModules)=false/\
  ∃xs,KT H K8 xs/\h.DictOfH (tupleKind (dj P w)) a xs:=by
 obtain⟨z,y,xs,r,o,es,ep,h1,h2,h3,h4,h5⟩:=(show cP P w H h a (.dT K8) from P0 ok e);refine⟨z,y,xs,r,o,es,ep,h1,h2,h3,h4,λx hx=>?_,h5⟩
 have all:∀{l:List (List Key×V)}{m:List (List Key×Addr×Value)},KT H l m->∀x∈m,(tupleKind (dj P w)).is h x.1 x.2.1:=by
  intro l m q
  induction q with
  | nil=>intro x hx;exact nomatch hx
  | @cons p q ps qs hq t ih =>
   intro x hx;rcases j4.mp hx with e | hx
   .subst e;exact wL ok (by rw[<- hq.1];exact hq.2.1)
   .exact ih x hx
 exact all r x hx
theorem VU(ok:Lq P w H h)(e:H a=some (.dT K8)):K8.length<=sizeLine/\(a==sysModules)=false/\
  ∃xs,KT H K8 xs/\h.DictOfH (tupleKind (dj P w)) a xs:=CA ok (.inl e)
end
def ko(H:Hp)(a:Addr)(y:V)(r:Option V):Prop:=
 (∃K8 k,Rd H a (.dK K8)/\y=kV k/\r=fq K8 k)\/∃K8 k b,Rd H a (.dT K8)/\y=.ref b/\H b=some (.tup (k.map kV))/\r=fq K8 k
def IU(H:Hp)(a:Addr)(y v:V)(H':Hp):Prop:=
 (∃K8 k,H a=some (.dK K8)/\y=kV k/\K8.length<sizeLine/\H'=upd H a (.dK (putK K8 k v)))\/
 ∃K8 k b,H a=some (.dT K8)/\y=.ref b/\H b=some (.tup (k.map kV))/\K8.length<sizeLine/\H'=upd H a (.dT (putK K8 k v))
theorem ko.k{K8:List (Key×V)}{k:Key}(e:H a=some (.dK K8)):ko H a (kV k) (fq K8 k):=.inl ⟨K8,k,.inl e,rfl,rfl⟩
theorem ko.t{K8:List (List Key×V)}{k:List Key}(e:H a=some (.dT K8))(eb:H b=some (.tup (k.map kV))):ko H a (.ref b) (fq K8 k):=.inr ⟨K8,k,b,.inl e,rfl,eb,rfl⟩
theorem IU.t{K8:List (List Key×V)}{k:List Key}{v:V}(e:H a=some (.dT K8))(eb:H b=some (.tup (k.map kV)))(hl:K8.length<sizeLine) :
  IU H a (.ref b) v (upd H a (.dT (putK K8 k v))):=.inr ⟨K8,k,b,e,rfl,eb,hl,rfl⟩
section
variable{X:Cx}{K5:List (Addr×Obj)}{σ:St}{H:Hp}{s:Shared}{a:Addr}{y v:V}{u r:Value}{o:Option V}{A:Around}{E:Value->Shared->Prop}
theorem Inv.big(I:Inv X K5 σ H s):sysModules<s.heap.objs.size:=by
 have h:mainGlobals<s.heap.objs.size:=(I.mod.glob.keeps I.bk).lt;exact Nat.lt_trans (by decide) h
theorem En(hu:A.units+1<cLine)(I:Inv X K5 σ H s)(g:ko H a y (some v))(ry:RelV y u)(h:∀w' s',Inv X K5 σ H s'->RelV v w'->Q w' s') :
  wpAny (model X.prog X.w) A (getItem (.ref a) u) Q E s:=by
 rcases g with⟨K8,k,e,ey,l⟩ | ⟨K8,k,b,e,ey,eb,l⟩
 .subst ey;obtain⟨z,hd,vs,rel,dd⟩:=CG I.hok e;obtain⟨w',hw,LH⟩:=lS.some_of (v:=v) (o:=valueAt vs k) (by rw[l];exact rel.val k);exact wpAny_getItem_of (yL ry) dd.mapOf hw (h w' _ (I.tok _) LH)
 .subst ey;cases(show u=Value.ref b from ry)
  obtain⟨z,hd,xs,rel,dd⟩:=CA I.hok e;obtain⟨w',hw,LH⟩:=lS.some_of (v:=v) (o:=(atKey xs k).map (·.2)) (by rw[l];exact rel.val k);obtain⟨p,hp,Lk⟩:=JL.mp hw;refine wpAny_getItem_heap (Ke hu) (wL I.hok eb) dd hp ?_;rw[Lk];exact h w' _ (I.tok _) LH
theorem O7(hu:A.units+1<cLine)(I:Inv X K5 σ H s)(g:ko H a y o)(ry:RelV y u)(h:∀s',Inv X K5 σ H s'->Q (.bool (!o.isSome)) s') :
  wpAny (model X.prog X.w) A (compareOp .NotIn u (.ref a)) Q E s:=by
 rcases g with⟨K8,k,e,ey,l⟩ | ⟨K8,k,b,e,ey,eb,l⟩
 .subst ey;obtain⟨z,hd,vs,rel,dd⟩:=CG I.hok e;refine wpAny_notIn_of (yL ry) hd dd.mapOf ?_;rw[<- (rel.val k).isSome_eq,<- l];exact h _ (I.tok _)
 .subst ey;cases(show u=Value.ref b from ry)
  obtain⟨z,hd,xs,rel,dd⟩:=CA I.hok e;refine wpAny_notIn_heap (Ke hu) (wL I.hok eb) hd dd ?_;have q:=(rel.val k).isSome_eq;rw[Option.isSome_map]at q;rw[<- q,<- l];exact h _ (I.tok _)
theorem wU{t':Nat}(I:Inv X K5 σ H s)(mu:Wi (H a))(hs:Heap.SameBut a s.heap h')(he:∃q,h'.get? a=some q)(new:cP X.prog X.w (upd H a ob) h' a ob) :
  Inv X K5 σ (upd H a ob) {s with heap:=h',toks:=t' }:=
 I.write (x:=a) (e:=a) mu (.inl rfl) (λb q hb z=>(hs.2 b hb).trans z) he new
theorem Il(z:K8.length<=sizeLine)(hd:(a==sysModules)=false)(rel:KV K8 vs)(dd:h'.DictOf (dj P w) a vs) :
  cP P w H' h' a (.dK K8):=⟨z,hd,vs,rel,dd⟩
theorem Em(hu:A.units+1<cLine)(I:Inv X K5 σ H s)(g:IU H a y v H')(ry:RelV y u)(rv:RelV v r)(h:∀s',Inv X K5 σ H' s'->Q () s') :
  wpAny (model X.prog X.w) A (setItem (.ref a) u r) Q E s:=by
 rcases g with⟨K8,k,e,ey,l,eH⟩ | ⟨K8,k,b,e,ey,eb,l,eH⟩
 .subst ey eH;obtain⟨z,hd,vs,rel,dd⟩:=Qo I.hok e;have hz:vs.length<=sizeLine:=by rw[<- rel.length];exact z
  have hl:(putK K8 k v).length<=sizeLine:=by have:=kS K8 k v;omega
  refine wpAny_setItem_pairs (hsz:=hz) (yL ry) dd λh' Sw hs=>h _ ?_;have he:∃q,h'.get? a=some q:=let ⟨q,_,_,hq,_⟩:=Sw;⟨q,hq⟩;exact wU I (by rw[e];exact True.intro) hs he (Il hl hd (rel.put k rv) Sw)
 .subst ey eH;cases(show u=Value.ref b from ry)
  obtain⟨z,hd,xs,rel,dd⟩:=VU I.hok e;have hz:xs.length<=sizeLine:=by rw[<- KD rel];exact z
  have hl:(putK K8 k v).length<=sizeLine:=by have:=kS K8 k v;omega
  refine wpAny_setItem_heap (hsz:=hz) (Ke hu) (wL I.hok eb) dd λh' Sw hs=>h _ ?_;obtain⟨q,es,ep,hq,h2,h3,h4,_,h5⟩:=Sw;refine wU I (by rw[e];exact True.intro) hs ⟨q,hq⟩ ⟨hl,hd,_,(rel.put k eb rv).keeps λc ys ec=>?_,q,es,ep,hq,h2,h3,h4,h5⟩;rw[az (sG ec e (λz=>nomatch z))];exact ec
end
section
variable{X:Cx}{K5:List (Addr×Obj)}{σ:St}{H:Hp}{s:Shared}{a:Addr}{K8:List (Key×V)}{k:Key}{u:Value}{A:Around}{E:Value->Shared->Prop}
end
def S3(i:Expr):Prop:=∀ov iv,subscripted i false ov iv=operate [ov,iv] (getItem ov iv)
theorem N9{value slice:Expr}{T id:String}{Q:Value->Shared->Prop}
  (hl:typeLookup (.type T) "__getitem__"=pure (some (.builtin id)))(hs:S3 slice)
  (h:wpAny (model prog w) A (eval value env) (λo s₁=>wpAny (model prog w) A (eval slice env) (λi s₂=>s₂.TypeIs o T/\wpAny (model prog w) A (getItem o i) Q E s₂) E s₁) E s) :
  wpAny (model prog w) A (eval (.Subscript value slice pos) env) Q E s:=by
 refine Subscript_ (E7 h (λo s₁ h₁=>E7 h₁ (λi s₂ h₂=>?_) λ_ _ x=>x) λ_ _ x=>x);obtain⟨hT,h₂⟩:=h₂;unfold subscriptTail;refine b6 ?_;rw[getitemInPython_of_ne hT.not_modules];refine b6 (wpAny_specialOf hT hl ?_)
 have fin:wpAny (model prog w) A (subscripted slice false o i) (λr s₃=>wpAny (model prog w) A (letTemporaryGo value o r >>= λ_=>pure r) Q E s₃) E s₂:=by
  rw[hs o i];exact wpAny_operating (E7 h₂ (λr s₃ h₃=>b6 (wpAny_letTemporaryGo (n9 h₃))) λ_ _ x=>x)
 first
  | exact n9 (b6 fin)
  | exact b6 (n9 (b6 fin))
  | exact b6 fin
theorem yS{y:V}(I:Inv X K5 σ H s)(g:ko H a y o):s.TypeIs (.ref a) "dict":=by
 rcases g with⟨K8,k,e,_,_⟩ | ⟨K8,k,b,e,_,_,_⟩
 .obtain⟨_,_,vs,_,dd⟩:=CG I.hok e;exact dd.typeIs
 .obtain⟨_,_,xs,_,dd⟩:=CA I.hok e;exact dd.typeIs
def PJ(td ty:TE):TE:=λσ H Q=>td σ H λx H1=>ty σ H1 λy H2=>∃a v,x=.ref a/\ko H2 a y (some v)/\Q v H2
def N8(ty td:TE):TE:=λσ H Q=>ty σ H λy H1=>td σ H1 λx H2=>∃a o,x=.ref a/\ko H2 a y o/\Q (.bl (!o.isSome)) H2
def Uu(td ty tv:TE):TS:=λD σ H=>tv σ H λv H1=>td σ H1 λx H2=>ty σ H2 λy H3=>∃a H4,x=.ref a/\IU H3 a y v H4/\D.nx σ H4
section
variable{X:Cx}{o i e value:Expr}{pos pos' LQ:Pos}{td ty tv:TE}
theorem qG(hu:X.A.units+1<cLine)(ho:PE X o td)(hi:PE X i ty)(hs:S3 i:=by intro _ _;rfl):PE X (.Subscript o i pos) (PJ td ty):=by
 intro K5 s σ H Q I h;refine N9 PySem.F.slot_dict_getitem.lookup hs (Lb (ho K5 s σ H _ I h) λu s1 zz=>?_);obtain⟨x,H1,I1,rx,q1⟩:=zz;refine Lb (hi K5 s1 σ H1 _ I1 q1) λiv s2 zz=>?_;obtain⟨y,H2,I2,ry,a,v,ex,g,q2⟩:=zz;subst ex;obtain rfl:u=Value.ref a:=rx;exact⟨yS I2 g,En hu I2 g ry λw' s3 I3 LH=>⟨v,H2,I3,LH,q2⟩⟩
theorem Dv(hu:X.A.units+1<cLine)(hi:PE X i ty)(ho:PE X o td):PC X .NotIn i o (N8 ty td):=by
 intro K5 s σ H Q I h;refine Lb (hi K5 s σ H _ I h) λiv s1 zz=>?_;obtain⟨y,H1,I1,ry,q1⟩:=zz;refine Lb (ho K5 s1 σ H1 _ I1 q1) λu s2 zz=>?_;obtain⟨x,H2,I2,rx,a,ov,ex,g,q2⟩:=zz;subst ex;obtain rfl:u=Value.ref a:=rx;exact O7 hu I2 g ry λs3 I3=>⟨.bl (!ov.isSome),H2,I3,rfl,q2⟩
theorem Om(hu:X.A.units+1<cLine)(ho:PE X o td)(hi:PE X i ty)(hv:PE X value tv)(hs:swapsWith value (some (.Subscript o i pos')) pos.line X.env=pure false) :
  PS X (.Assign [.Subscript o i pos'] value pos) (Uu td ty tv):=by
 intro K5 s σ H D I h;refine wpAny_Assign_Subscript (Lb (hv K5 s σ H _ I h) λr s1 zz=>?_) hs;obtain⟨v,H1,I1,rv,q1⟩:=zz;refine Lb (ho K5 s1 σ H1 _ I1 q1) λu s2 zz=>?_;obtain⟨x,H2,I2,rx,q2⟩:=zz;refine Lb (hi K5 s2 σ H2 _ I2 q2) λiv s3 zz=>?_;obtain⟨y,H3,I3,ry,a,H4,ex,g,q3⟩:=zz;subst ex;obtain rfl:u=Value.ref a:=rx;exact Em hu I3 g ry rv λs4 I4=>⟨σ,H4,I4,q3⟩
end
theorem yR(h:Heap)(hb:sysModules<h.objs.size):cP P w H (h.push {cls:=.type "dict",data:=.dict #[] }) h.objs.size (.dK []):=
 ⟨x4 _,F6.mpr (G5 (z6 hb)),[],.nil,Heap.DictOf.new h⟩
theorem Ik(h:Heap)(hb:sysModules<h.objs.size):cP P w H (h.push {cls:=.type "dict",data:=.dict #[] }) h.objs.size (.dT []):=
 ⟨x4 _,F6.mpr (G5 (z6 hb)),[],.nil,_,#[],0,r8 _ rfl,⟨rfl,rfl,rfl⟩,rfl,rfl,List.nodup_nil⟩
def Fl:TE:=λ_ H Q=>∀p,H p=none->Q (.ref p) (upd H p (.dK []))
def QO:TE:=λ_ H Q=>∀p,H p=none->Q (.ref p) (upd H p (.dT []))
section
variable{X:Cx}{pos:Pos}
theorem Gx:PE X (.Dict [] [] pos) Fl:=λK5 s σ H Q I h =>
 wpAny_Dict_empty ⟨.ref s.heap.objs.size,_,I.laid (a:=s.heap.objs.size) (o:=.dK []) (t':=s.toks) (λ_ _ q=>i6 _ q) (c5 _) (yR s.heap I.big),rfl,h _ (I.hok.fresh (c5 _))⟩
theorem Gw:PE X (.Dict [] [] pos) QO:=λK5 s σ H Q I h =>
 wpAny_Dict_empty ⟨.ref s.heap.objs.size,_,I.laid (a:=s.heap.objs.size) (o:=.dT []) (t':=s.toks) (λ_ _ q=>i6 _ q) (c5 _) (Ik s.heap I.big),rfl,h _ (I.hok.fresh (c5 _))⟩
end
def zI:List (TE×TE)->St->Hp->(List (V×V)->Hp->Prop)->Prop
 | [],_,H,Q=>Q [] H
 | (tk,tv)::r,σ,H,Q=>tk σ H λx H1=>tv σ H1 λy H2=>zI r σ H2 λps H3=>Q ((x,y)::ps) H3
abbrev VV:List (V×V)->List (Value×Value)->Prop:=Paired λp q=>RelV p.1 q.1/\RelV p.2 q.2
def Wg(X:Cx)(pos:Pos)(keys:List (Option Expr))(values:List Expr)(MJ:List (TE×TE)):Prop:=
 ∀K5 s σ H Q,Inv X K5 σ H s->zI MJ σ H Q->
  wpAny (model X.prog X.w) X.A (evalPairs (pairTrees keys values X.env pos)) (λvs s'=>∃ps H',Inv X K5 σ H' s'/\VV ps vs/\Q ps H') X.xe s
theorem Oq:Wg X pos [] [] []:=λK5 s σ H Q I h=>pairTrees_nil_walk ⟨[],H,I,.nil,h⟩
theorem Gp{tk:TE}(hk:PE X k tk)(hv:PE X v tv)(hr:Wg X pos ks vs MJ) :
  Wg X pos (some k::ks) (v::vs) ((tk,tv)::MJ):=λK5 s σ H Q I h =>
 pairTrees_cons_walk (Lb (hk K5 s σ H _ I h) λu s1 ⟨x,H1,I1,rx,q1⟩=>Lb (hv K5 s1 σ H1 _ I1 q1) λw2 s2 ⟨y,H2,I2,ry,q2⟩ =>
  Lb (hr K5 s2 σ H2 _ I2 q2) λws s3 ⟨ps,H3,I3,rel,q3⟩=>⟨(x,y)::ps,H3,I3,.cons ⟨rx,ry⟩ rel,q3⟩)
noncomputable def bX(K8 more:List (Key×V)):List (Key×V):=more.foldl (λacc kv=>putK acc kv.1 kv.2) K8
theorem KV.merge:∀{more:List (Key×V)}{rs:List (Key×Value)}{K8:List (Key×V)}{vs:List (Key×Value)},KV more rs->KV K8 vs->KV (bX K8 more) (merged vs rs):=by
 intro more rs K8 vs r;unfold KV at r
 induction r generalizing K8 vs with
 | nil=>intro q;exact q
 | @cons p q ps qs h t ih =>
  intro r0
  have e:KV (putK K8 p.1 p.2) (stored vs q.1 q.2):=by
   have:=r0.put p.1 h.2;rw[<- h.1];exact this
  exact ih e
theorem mh:∀more K8,(bX K8 more).length<=K8.length+more.length
 | [],K8=>by show K8.length<=K8.length+0;omega
 | p::r,K8=>by
  have h1:=mh r (putK K8 p.1 p.2);have h2:=kS K8 p.1 p.2;show(bX (putK K8 p.1 p.2) r).length<=_;rw[j9];omega
theorem tL{P:Program}{w:World}:∀{K8:List (Key×V)}{ws:List (Value×Value)},VV (K8.map λkv=>(kV kv.1,kv.2)) ws->∃rs,Carries (dj P w) ws rs/\KV K8 rs
 | [],_,r=>by rw[J7]at r;cases r;exact⟨[],True.intro,.nil⟩
 | p::K8,_,r=>by
  rw[z7]at r;cases r with
  | @cons a b as bs h t =>
   obtain⟨rs,c,q⟩:=tL (P:=P) (w:=w) t;obtain⟨b1,b2⟩:=b;exact⟨(p.1,b2)::rs,⟨yL h.1,rfl,c⟩,.cons ⟨rfl,h.2⟩ q⟩
def PH(MJ:List (TE×TE)):TE:=λσ H Q=>∀p,H p=none->zI MJ σ (upd H p (.dK [])) λps H2=>H2 p=some (.dK [])/\∃K8:List (Key×V),ps=K8.map (λkv=>(kV kv.1,kv.2))/\K8.length<=15/\Q (.ref p) (upd H2 p (.dK (bX [] K8)))
theorem Ov(h:Wg X pos keys values MJ)(Nv:keys.all (·.isSome)=true)(hl:keys.length=values.length)(h0:keys≠[])
  (Y9:keys.length<=15):PE X (.Dict keys values pos) (PH MJ):=by
 intro K5 s σ H Q I q;have hn:=I.hok.fresh (c5 s.heap.objs.size);have I1:=I.laid (a:=s.heap.objs.size) (o:=.dK []) (h':=s.heap.push {cls:=.type "dict",data:=.dict #[] }) (t':=s.toks) (λ_ _ q=>i6 _ q) (c5 _) (yR s.heap I.big);refine wpAny_Dict_walk (knd:=dj X.prog X.w) Nv hl h0 Y9 (Lb (h K5 _ σ _ _ I1 (q _ hn)) λws s2 zz=>?_);obtain⟨ps,H2,I2,rel,e,K8,ep,lk,q2⟩:=zz;subst ep;obtain⟨rs,c,rk⟩:=tL (P:=X.prog) (w:=X.w) rel;obtain⟨z,hd,ZT,r0,dd⟩:=Qo I2.hok e;cases r0
 refine⟨rs,c,dd,λh' Sw hs=>⟨.ref s.heap.objs.size,_,?_,rfl,q2⟩⟩
 have hz:(bX [] K8).length<=sizeLine:=by
  have h1:=mh K8 [];rw[JG]at h1;rw[Kw];omega
 have he:∃q,h'.get? s.heap.objs.size=some q:=let ⟨q,_,_,hq,_⟩:=Sw;⟨q,hq⟩;exact wU I2 (by rw[e];exact True.intro) hs he (Il hz hd (rk.merge .nil) Sw)
section
variable{X:Cx}{K5:List (Addr×Obj)}{σ:St}{H:Hp}{s:Shared}{a:Addr}{y d:V}{u r:Value}{o:Option V}{A:Around}{E:Value->Shared->Prop}
end
section
variable{X:Cx}{o e f:Expr}{apos Ll:Pos}{td ty tx:TE}
end
section
variable{X:Cx}{K5:List (Addr×Obj)}{σ:St}{H:Hp}{s:Shared}{a:Addr}{K8:List (Key×V)}{A:Around}{E:Value->Shared->Prop}
end
section
variable{X:Cx}{K5:List (Addr×Obj)}{σ:St}{H:Hp}{s:Shared}{a:Addr}{y:V}{u:Value}{A:Around}{E:Value->Shared->Prop}
end
section
variable{prog:Program}{w:World}{A:Around}{E:Value->Shared->Prop}{s:Shared}{R:Result->Shared->Prop}{l it S:Addr}{items:Array Value}
end
structure bC(P:Program)(w:World)(K:W.Frag)(mg:Str->Option Value)(base:Heap)(C:Addr)(m:Str)(k:Nat)(ps:List Str)(sp:Sp):Prop where
 cl:Cls K C
 ex:∃(f:Addr)(fd:FuncData),Meth K C m f/\oz P w K mg base CX0 k f fd ps sp/\Binds K fd ps []
section
variable{X:Cx}{o e:Expr}{es:List Expr}{ta te:TE}{t:TA}{m x:Str}{k:Nat}{p pos apos p2 pos2:Pos}{C:Addr}
def Fj(X:Cx)(k:Nat)(m:Str)(ta:TE)(t:TA):TE:=λσ H Q=>ta σ H λx H1=>∃a C dx fs ps sp,x=.ref a/\H1 a=some (.ins C dx fs)/\fs.lookup m=none/\
 bC X.prog X.w X.K X.mg X.base C m k ps sp/\t σ H1 λvs H2=>sp (.ref a::vs) H2 Q E0
theorem gy{pl:Sem Bool}(he:PE X o ta)(hr:dP k X.A)
  (ht:eval (.Call (.Attribute o m apos) [] [] pos) X.env=(do
   let ov <- eval o X.env
   standAt apos.atName
   let (f,first) <- holding [ov] (getMethod ov m pl)
   callWith pos f first (backTo pos (starEach [] X.env)) (backToKw pos (keywordEach [] X.env))):=by rfl) :
  PE X (.Call (.Attribute o m apos) [] [] pos) (Fj X k m ta lQ):=by
 intro K5 s σ H Q I h;refine PySem.W.methodCall_KW (pl:=pl) (Lb (he K5 s σ H _ I h) λu s1 zz=>?_) ht;obtain⟨y,H1,I1,ry,a,C,dx,fs,ps,sp,ey,ea,lo,M,q⟩:=zz;subst ey;have eu:u=Value.ref a:=ry;subst eu;obtain⟨f,fd,hm,G,hb⟩:=M.ex;refine sR I1 ea M.cl hm lo ?_;exact J5 (first:=[.ref a]) I1.kIn hm.kp (vY (us:=[.ref a]) (vs:=[.ref a]) G hr hb .nil yk I1 (.cons rfl .nil) q)
theorem sA{pl:Sem Bool}(he:PE X o ta)(hr:dP k X.A)(ha:PA X (e::es) t)
  (RP:starEach (e::es) X.env=(false,eval e X.env)::starEach es X.env:=by rfl)(hpl:(backTo pos (starEach es X.env)).any (·.1)=false:=by rfl)
  (ht:eval (.Call (.Attribute o m apos) (e::es) [] pos) X.env=(do
   let ov <- eval o X.env
   standAt apos.atName
   let (f,first) <- holding [ov] (getMethod ov m pl)
   callWith pos f first (backTo pos (starEach (e::es) X.env)) (backToKw pos (keywordEach [] X.env))):=by rfl) :
  PE X (.Call (.Attribute o m apos) (e::es) [] pos) (Fj X k m ta t):=by
 intro K5 s σ H Q I h;refine PySem.W.methodCall_KW (pl:=pl) (Lb (he K5 s σ H _ I h) λu s1 zz=>?_) ht;obtain⟨y,H1,I1,ry,a,C,dx,fs,ps,sp,ey,ea,lo,M,q⟩:=zz;subst ey;have eu:u=Value.ref a:=ry;subst eu;obtain⟨f,fd,hm,G,hb⟩:=M.ex;refine sR I1 ea M.cl hm lo ?_;refine Kc (first:=[.ref a]) (h₀:=X.base) I.ok.mod.kin hm.kp (Lb (ha pos K5 s1 σ H1 _ I1 q) λus s2 zz=>?_) RP hpl;obtain⟨vs,H2,I2,r2,q2⟩:=zz;refine⟨I2.kIn,?_⟩;refine vY (us:=.ref a::us) (vs:=.ref a::vs) (dvs:=[]) G hr hb .nil yk I2 (.cons rfl r2) ?_;rw[A4];exact q2
structure Mk0(K:W.Frag)(C:Addr):Prop where
 makes:PySem.W.makesIn K C=true
 init:PySem.W.findIn K (.ref C) "__init__"=some (some (.builtin "object.__init__"))
 kp:PySem.W.keepIn K (.ref C)=true
def QL(C:Addr):TE:=λ_ H Q=>∀a dx,H a=none->H dx=none->dx≠a->Q (.ref a) (upd (upd H dx (.own a)) a (.ins C dx []))
theorem yi(M:Mk0 X.K C)(hg:Gl X x)(hm:X.mg x=some (.ref C))(hdb:(x==("__debug__":Str))=false:=by decide):PE X (.Call (.Name x p) [] [] pos) (QL C):=by
 intro K5 s σ H Q I h;refine D0 (lM I hg hm ?_ hdb);refine J5 I.kIn M.kp (wpAny_call ?_);have Y:=KN (M:=model X.prog X.w) I.kIn M.makes;refine Ea I.kIn M.makes M.init (λself=>PySem.W.Looks.of_pure (PySem.W.oi_bind self)) ?_;have I2:=Inv.made (C:=C) I
 have e2:((s.heap.push PySem.W.emptyDict).push (PySem.W.instObj C s.heap.objs.size)).get? (s.heap.objs.size+1)=some (PySem.W.instObj C s.heap.objs.size):=by
  have z:=r8 (s.heap.push PySem.W.emptyDict) (o:=PySem.W.instObj C s.heap.objs.size) rfl
  rwa [E4]at z
 have t1:PySem.W.Looks (model X.prog X.w) ((s.heap.push PySem.W.emptyDict).push (PySem.W.instObj C s.heap.objs.size)) (typeOf (.ref (s.heap.objs.size+1))) (.ref C):=(PySem.W.Looks.ld e2).andThen .now
 have t2:PySem.W.Looks (model X.prog X.w) ((s.heap.push PySem.W.emptyDict).push (PySem.W.instObj C s.heap.objs.size)) (isInstance (.ref (s.heap.objs.size+1)) (.type "object")) true:=
  t1.andThen (Y.top.keeps λb q z=>i6 _ (i6 _ z))
 have z:=h (s.heap.objs.size+1) s.heap.objs.size (I.hok.fresh (K1 _)) (I.hok.fresh (c5 _)) (z6 (IV _));refine codeAny_call_builtin PySem.W.oi_plain PySem.W.entry_oi (PySem.W.check_slot (i:="object.__init__") (owner:="object") (n:="__init__") (self:=.ref (s.heap.objs.size+1)) (rest:=[]) (kw:=[]) PySem.W.oi_kind PySem.W.oi_split t2 (PySem.W.oi_args _) ?_);rw[PySem.W.oi_run];exact n9 (And.intro rfl ⟨V.ref (s.heap.objs.size+1),_,I2,rfl,z⟩)
end
end L2
namespace Mine
open PySem
inductive W5 where
 | more | less | greater | lesser | leads
noncomputable def W5.str:W5->Str
 | .more=>"more" | .less=>"less" | .greater=>"greater" | .lesser=>"lesser" | .leads=>"leads"
inductive Tr where
 | never | always | lp | lq
 | no (t:Tr)
 | fold (w:W5) (a b:Tr)
noncomputable def Tr.size:Tr->Nat
 | .no t=>t.size+1
 | .fold _ a b=>a.size+b.size+1
 | _=>1
theorem Tr.size_pos:∀t:Tr,1<=t.size
 | .never | .always | .lp | .lq=>c5 _
 | .no _=>KZ _ _
 | .fold _ _ _=>KZ _ _
noncomputable def W5.worth(w:W5)(n a b:Int):Int:=match w with
 | .more=>min (a+b) n
 | .less=>max (a+b-n) 0
 | .greater=>max a b
 | .lesser=>min a b
 | .leads=>min (n-a+b) n
structure Alg(α:Type) where
 leaf:Tr->α
 no:α->α
 fold:W5->α->α->α
noncomputable def Alg.val{α:Type}(G:Alg α):Tr->α
 | .no t=>G.no (G.val t)
 | .fold w a b=>G.fold w (G.val a) (G.val b)
 | t=>G.leaf t
noncomputable def Tr.post:Tr->List Tr
 | .no t=>t.post++[.no t]
 | .fold w a b=>a.post++b.post++[.fold w a b]
 | t=>[t]
theorem fN:∀t:Tr,t.post.length=t.size
 | .no t=>by simp[Tr.post,Tr.size,fN t]
 | .fold w a b=>by simp[Tr.post,Tr.size,fN a,fN b];omega
 | .never=>rfl
 | .always=>rfl
 | .lp=>rfl
 | .lq=>rfl
noncomputable def Alg.step{α:Type}(G:Alg α):List α->Tr->Option (List α)
 | a::R,.no _=>some (G.no a::R)
 | b::a::R,.fold w _ _=>some (G.fold w a b::R)
 | [],.no _=>none
 | [],.fold _ _ _=>none
 | [_],.fold _ _ _=>none
 | R,t=>some (G.leaf t::R)
noncomputable def Alg.run{α:Type}(G:Alg α):List α->List Tr->Option (List α)
 | R,[]=>some R
 | R,t::r=>(G.step R t).bind λR'=>G.run R' r
theorem nR{α:Type}(G:Alg α):∀t R r,G.run R (t.post++r)=G.run (G.val t::R) r
 | .no t,R,r=>by
  show G.run R (t.post++[.no t]++r)=_;rw[m6,nR G t R];cases R<;>rfl
 | .fold w a b,R,r=>by
  show G.run R (a.post++b.post++[.fold w a b]++r)=_;rw[m6,m6,nR G a R,nR G b _];cases R<;>rfl
 | .never,R,r=>by cases R with
  | nil=>rfl
  | cons a R=>cases R<;>rfl
 | .always,R,r=>by cases R with
  | nil=>rfl
  | cons a R=>cases R<;>rfl
 | .lp,R,r=>by cases R with
  | nil=>rfl
  | cons a R=>cases R<;>rfl
 | .lq,R,r=>by cases R with
  | nil=>rfl
  | cons a R=>cases R<;>rfl
theorem Og{α:Type}(G:Alg α)(t:Tr):G.run [] t.post=some [G.val t]:=by
 have h:=nR G t [] [];rw[A4]at h;rw[h];rfl
noncomputable def iB(n x y:Int):Alg Int where
 leaf:=λt=>match t with
  | .always=>n
  | .lp=>x
  | .lq=>y
  | _=>0
 no:=λa=>n-a
 fold:=λw a b=>w.worth n a b
noncomputable abbrev Tr.worth (n x y:Int) (t:Tr):Int:=(iB n x y).val t
end Mine
namespace L2
open PySem PySem.Spec PyProof.Rows
variable{H H':Hp}{a:Addr}{ds:List PyData}{i n:Nat}{d:PyData}{h:Heap}{mg:Str->Option Value}{x:Str}{od:Option Addr}{its:Array Value}{osl:Array (Option Value)}{ns:List Int}{v:Value}
mutual
def Dat(K:W.Frag)(H:Hp):PyData->V->Prop
 | .none,v=>v=.non
 | .bool b,v=>v=.bl b
 | .int i,v=>v=.int i
 | .str x,v=>v=.str x
 | .tuple ds,v=>∃a xs,v=.ref a/\K6 K H a xs/\DatAll K H ds xs
 | .list _,_=>False
 | .dict _,_=>False
def DatAll(K:W.Frag)(H:Hp):List PyData->List V->Prop
 | [],xs=>xs=[]
 | d::ds,xs=>∃x r,xs=x::r/\Dat K H d x/\DatAll K H ds r
end
structure LY(H H':Hp):Prop where
 t:∀b xs,H b=some (.tup xs)->H' b=some (.tup xs)
 f:∀b o u,H b=some (.frz o u)->H' b=some (.frz o u)
theorem aJ.ts(e:aJ H H'):LY H H':=⟨λb xs h=>e b _ h,λb o u h=>e b _ h⟩
theorem dk(e:H l=some (.lst xs)):LY H (upd H l o):=
 ⟨λb ys h=>by rw[az (sG h e (by intro z;cases z))];exact h,λb o u h=>by rw[az (sG h e (by intro z;cases z))];exact h⟩
theorem K6.ts{K:W.Frag}{xs:List V}(h:K6 K H a xs)(e:LY H H'):K6 K H' a xs:=by
 rcases h with(h | ⟨o,h⟩) | h
 .exact .inl (.inl (e.t _ _ h))
 .exact .inl (.inr ⟨o,e.f _ _ _ h⟩)
 .exact .inr h
mutual
theorem Dat.ts{K:W.Frag}(e:LY H H'):∀{d:PyData}{v:V},Dat K H d v->Dat K H' d v
 | .none,_,h=>h
 | .bool _,_,h=>h
 | .int _,_,h=>h
 | .str _,_,h=>h
 | .tuple _,_,⟨a,xs,h1,h2,h3⟩=>⟨a,xs,h1,h2.ts e,DatAll.ts e h3⟩
 | .list _,_,h=>h
 | .dict _,_,h=>h
theorem DatAll.ts{K:W.Frag}(e:LY H H'):∀{ds:List PyData}{xs:List V},DatAll K H ds xs->DatAll K H' ds xs
 | [],_,h=>h
 | _::_,_,⟨x,r,h1,h2,h3⟩=>⟨x,r,h1,Dat.ts e h2,DatAll.ts e h3⟩
end
theorem DatAll.len{K:W.Frag}:∀{ds:List PyData}{xs:List V},DatAll K H ds xs->xs.length=ds.length
 | [],_,h=>by subst h;rfl
 | _::_,_,⟨x,r,h1,_,h3⟩=>by subst h1;simp[h3.len]
theorem DatAll.get{K:W.Frag}:∀{ds:List PyData}{xs:List V}{i:Nat}{d:PyData},DatAll K H ds xs->ds[i]?=some d->∃x,xs[i]?=some x/\Dat K H d x
 | [],_,_,_,_,e=>by cases e
 | _::_,_,0,_,⟨x,r,h1,h2,_⟩,e=>by subst h1;cases e;exact⟨x,rfl,h2⟩
 | _::_,_,i+1,_,⟨x,r,h1,_,h3⟩,e=>by
  subst h1;obtain⟨y,e1,e2⟩:=h3.get (i:=i) (by simpa using e);exact⟨y,by simpa using e1,e2⟩
theorem DatAll.get'{K:W.Frag}{xs:List V}{x:V}(h:DatAll K H ds xs)(e:xs[i]?=some x):∃d,ds[i]?=some d/\Dat K H d x:=by
 have hl:=h.len;have hi:=(d6.mp e).1;have hd:ds[i]?=some (ds[i]'(by omega)):=c6 (by omega);obtain⟨y,e1,e2⟩:=h.get hd;rw[e]at e1;cases e1
 exact⟨_,hd,e2⟩
theorem DatAll.append{K:W.Frag}:∀{ds es:List PyData}{xs ys:List V},DatAll K H ds xs->DatAll K H es ys->DatAll K H (ds++es) (xs++ys)
 | [],_,_,_,h,g=>by subst h;exact g
 | _::_,_,_,_,⟨x,r,h1,h2,h3⟩,g=>by subst h1;exact⟨x,_,rfl,h2,h3.append g⟩
theorem DatAll.snoc{K:W.Frag}{xs:List V}{x:V}(h:DatAll K H ds xs)(g:Dat K H d x):DatAll K H (ds++[d]) (xs++[x]):=h.append ⟨x,[],rfl,g,rfl⟩
mutual
theorem Dat.reads(I:Inv X K5 σ H s):∀d {v:V} {u:Value},Dat X.K H d v->RelV v u->∃as,Reads s.heap u d as
 | .none,_,_,h,r=>by
  cases(show _=V.non from h)
  cases(show _=Value.none from r)
  exact⟨[],.none⟩
 | .bool b,_,_,h,r=>by
  cases(show _=V.bl b from h)
  cases(show _=Value.bool b from r)
  exact⟨[],.bool b⟩
 | .int i,_,_,h,r=>by
  cases(show _=V.int i from h)
  obtain⟨t,q⟩:=(show ∃t,_=Value.int i t from r);cases q
  exact⟨[],.int i t⟩
 | .str x,_,_,h,r=>by
  cases(show _=V.str x from h)
  obtain⟨t,q⟩:=(show ∃t,_=Value.str x t from r);cases q
  exact⟨[],.str x t⟩
 | .tuple ds,_,_,⟨a,xs,h1,h2,h3⟩,r=>by
  cases h1
  cases(show _=Value.ref a from r)
  obtain⟨its,rv,⟨o,ho,hc,n,hd⟩,_⟩:=I.tuple h2;obtain⟨as,ra⟩:=DatAll.reads I ds h3 rv;exact⟨as,.tuple ho hc hd (by simpa using ra)⟩
 | .list _,_,_,h,_=>False.elim h
 | .dict _,_,_,h,_=>False.elim h
theorem DatAll.reads(I:Inv X K5 σ H s):∀ds {xs:List V} {us:List Value},DatAll X.K H ds xs->Vals xs us->∃as,ReadsAll s.heap us ds as
 | [],_,_,h,r=>by
  cases(show _=([]:List V) from h)
  cases r
  exact⟨[],.nil⟩
 | d::ds,_,_,⟨x,t,h1,h2,h3⟩,r=>by
  cases h1
  cases r with
  | cons r1 r2 =>
   obtain⟨as,a1⟩:=Dat.reads I d h2 r1;obtain⟨bs,b1⟩:=DatAll.reads I ds h3 r2;exact⟨as++bs,.cons a1 b1⟩
end
def Bl(K:W.Frag)(H:Hp)(d:PyData)(v:V):Prop:=Dat K H d v\/∃ds a xs,d=.list ds/\v=.ref a/\K7 K H a xs/\DatAll K H ds xs
theorem Bl.reads{v:V}(I:Inv X K5 σ H s)(h:Bl X.K H d v)(r:RelV v u):∃as,Reads s.heap u d as:=by
 rcases h with h | ⟨ds,a,xs,rfl,rfl,h2,h3⟩
 .exact Dat.reads I d h r
 .cases(show _=Value.ref a from r)
  obtain⟨its,rv,⟨o,n,ho,hc,_,hd⟩,_⟩:=I.list h2;obtain⟨as,ra⟩:=DatAll.reads I ds h3 rv;exact⟨a::as,.list ho hc hd (by simpa using ra)⟩
section
variable{X:Cx}
def X3(K:W.Frag):R2:=λx y H Q=>∃d e,Bl K H d x/\Bl K H e y/\SeqAt.shaped d=true/\SeqAt.shaped e=true/\Q (.bl (PyData.eqv d e)) H
theorem GC(hu:X.A.units+64<cLine):Lm X (compareOp .Eq) (X3 X.K):=by
 intro K5 s σ H x y v u Q I rx ry h;obtain⟨d,e,hd,he,sd,se,q⟩:=h;obtain⟨as,ra⟩:=hd.reads I rx;obtain⟨bs,rb⟩:=he.reads I ry;exact eq_dataH ra rb sd se hu ⟨.bl _,H,I,rfl,q⟩
theorem iA:gi X (.builtin "isinstance") (λxs H Q=>∃a ys c cv k,xs=[.ref a,c]/\(∀u,RelV c u->u=cv)/\K6 X.K H a ys/\PySem.W.kitOne X.K (.type "tuple") cv=some k/\Q (.bl k) H):=by
 intro K5 s σ H xs us Q I r h;obtain⟨a,ys,c,cv,k,rfl,hc,hq,kt,q⟩:=h;obtain⟨u,w',rfl,r1,r2⟩:=vals2 r;have e:=hc _ r2;subst e;cases(show u=Value.ref a from r1)
 obtain⟨its,rv,⟨o,h1,h2,_⟩,_⟩:=I.tuple hq;exact C5 PySem.W.kitx_tuple I.kIn ⟨o,h1,h2⟩ kt (λz=>nomatch z) λtk=>⟨.bl k,H,I.tok tk,rfl,q⟩
theorem yZ{bs:List Bool}:∀{us:List Value},Vals (bs.map V.bl) us->LSm.BoolsAre us bs:=by
 induction bs with
 | nil=>intro us r;cases r;exact .nil
 | cons b r ih =>
  intro us q;cases q with
  | cons a t =>
   cases(show _=Value.bool b from a)
   exact .cons b (ih t)
theorem lx(hc:X.calm=true):gi X (.builtin "all") (λxs H Q=>∃(l:Addr)(bs:List Bool),xs=[.ref l]/\K7 X.K H l (bs.map V.bl)/\Q (.bl (bs.all id)) H):=by
 intro K5 s σ H xs us Q I r h;obtain⟨l,bs,rfl,hq,q⟩:=h;obtain⟨u,rfl,rx⟩:=vals1 r;cases rx
 obtain⟨its,rv,pl,_⟩:=I.list hq;have hl:=pl.isList;have hb:=yZ rv;have Le:l<s.heap.objs.size:=by obtain⟨_,e,_⟩:=hl;exact l6 e
 refine call_all_walk (Kv hl ?_)
 refine⟨s.heap.objs.size,[s.heap.objs.size,l],[s.heap.objs.size],its.toArray.size,_,_,λi=>(bs[i]?).getD true,rfl,Walks.list (A:=X.A.in1) (I.ok.hd hc) _ l (z6 Le) its.toArray,
  ⟨⟨_,r8 _ rfl,rfl,rfl⟩,hl.push _⟩,λi v s' Q' E' hP hQ=>?_,λh' tk hk=>?_⟩
 .obtain⟨b,e,rfl⟩:=hb.get i v (by simpa using hP);simp only[e,Option.getD_some]at hQ;exact B8 hQ
 .have e:((List.range its.toArray.size).all λi=>(bs[i]?).getD true)=bs.all id:=by
   rw[j7,hb.length];exact LSm.range_all bs
  rw[e];exact⟨.bl _,H,I.kept (t':=tk) (LSm.kept_iter hk),rfl,q⟩
theorem IB(hc:X.calm=true):gi X (.builtin "any") (λxs H Q=>∃(l:Addr)(bs:List Bool),xs=[.ref l]/\K7 X.K H l (bs.map V.bl)/\Q (.bl (bs.any id)) H):=by
 intro K5 s σ H xs us Q I r h;obtain⟨l,bs,rfl,hq,q⟩:=h;obtain⟨u,rfl,rx⟩:=vals1 r;cases rx
 obtain⟨its,rv,pl,_⟩:=I.list hq;have hl:=pl.isList;have hb:=yZ rv;have Le:l<s.heap.objs.size:=by obtain⟨_,e,_⟩:=hl;exact l6 e
 refine call_any_walk (Kv hl ?_)
 refine⟨s.heap.objs.size,[s.heap.objs.size,l],[s.heap.objs.size],its.toArray.size,_,_,λi=>(bs[i]?).getD false,rfl,Walks.list (A:=X.A.in1) (I.ok.hd hc) _ l (z6 Le) its.toArray,
  ⟨⟨_,r8 _ rfl,rfl,rfl⟩,hl.push _⟩,λi v s' Q' E' hP hQ=>?_,λh' tk hk=>?_⟩
 .obtain⟨b,e,rfl⟩:=hb.get i v (by simpa using hP);simp only[e,Option.getD_some]at hQ;exact B8 hQ
 .have e:((List.range its.toArray.size).any λi=>(bs[i]?).getD false)=bs.any id:=by
   rw[j7,hb.length];exact LSm.range_any bs
  rw[e];exact⟨.bl _,H,I.kept (t':=tk) (LSm.kept_iter hk),rfl,q⟩
end
section
variable{X:Cx}{K:W.Frag}
theorem lN(e:X.K=K):TQ X (UA K):=e ▸ aA
theorem Hw(e:X.K=K):TQ X (UB K):=e ▸ bH
theorem Ex(e:X.K=K):gi X (.builtin "isinstance") (λxs H Q=>∃y c cv t k,xs=[y,c]/\(∀u,RelV c u->u=cv)/\jX K H y t/\PySem.W.kitOne K t cv=some k/\Q (.bl k) H):=e ▸ lj
end
theorem Cz{α:Type}[DecidableEq α]{f:α->PyData}(h:∀a b,PyData.eqv (f a) (f b)=decide (a=b)):∀L M:List α,PyData.eqvAll (L.map f) (M.map f)=decide (L=M)
 | [],[]=>by simp[PyData.eqvAll]
 | [],_::_=>by simp[PyData.eqvAll]
 | _::_,[]=>by simp[PyData.eqvAll]
 | a::r,b::t=>by
  simp only[z7,PyData.eqvAll,h a b,Cz h r t]
  by_cases h1:a=b<;>by_cases h2:r=t<;>simp[h1,h2]
structure ff(K:W.Frag)(mg:Str->Option Value)(x:Str)(ns:List Int):Prop where
 ex:∃a,mg x=some (.ref a)/\∀H,K6 K H a (ns.map V.int)
theorem jk{K:W.Frag}(X:K.In h)(G:h.Ns mainGlobals mg)
  (e:PySem.W.nsIn K mainGlobals x=some (some (.ref a)))(l:K.lookup a=some ⟨.type "tuple",od,.seq its n,osl⟩)(hz:its.size<=sizeLine)(v:Vals (ns.map V.int) its.toList):ff K mg x ns:=
 ⟨a,KI X G e,λ_=>.inr ⟨_,its,n,l,rfl,rfl,hz,v⟩⟩
theorem Df{K:W.Frag}{n:Int}(X:K.In h)(G:h.Ns mainGlobals mg)(e:PySem.W.nsIn K mainGlobals x=some (some v))(q:∃t,v=.int n t):∃t,mg x=some (.int n t):=by
 obtain⟨t,rfl⟩:=q;exact⟨t,KI X G e⟩
end L2
namespace Mine
variable{H H' H1 H2:Hp}{p:Addr}{c:CCs}
namespace Lo
noncomputable def gc(a b:Int):Int:=(Int.gcd a b:Nat)
theorem pF(a b:Int):0<=gc a b:=Int.natCast_nonneg _
theorem AJ{a b:Int}(h:b≠0):0<gc a b:=by
 have:=Int.gcd_pos_of_ne_zero_right a h;unfold gc;omega
theorem Cw{a:Int}(h:0<=a):gc a 0=a:=by
 unfold gc;rw[Int.gcd_zero_right];omega
theorem El(a b:Int):gc a.natAbs b.natAbs=gc a b:=by
 unfold gc Int.gcd;simp
theorem Cy(g l:Int):gc l (g.fmod l)=gc g l:=by
 unfold gc;congr 1;rw[Int.fmod_def];rw[Int.gcd_comm g l];have:g-l*g.fdiv l=g+l*(-(g.fdiv l)):=by rw[Int.mul_neg];omega
 rw[this];exact Int.gcd_add_mul_left_right ..
theorem eJ(a b:Int):gc a b∣a:=Int.gcd_dvd_left ..
theorem fS(a b:Int):gc a b∣b:=Int.gcd_dvd_right ..
noncomputable def sg(t b:Int):Int:=if b<0 then -(gc t b) else gc t b
noncomputable def yJ(t b:Int):Int:=t.fdiv (sg t b)
noncomputable def yK(t b:Int):Int:=b.fdiv (sg t b)
theorem uI{t b:Int}(h:b≠0):sg t b≠0:=by
 have:=AJ (a:=t) h;unfold sg;split<;>omega
theorem xF(t b:Int):sg t b∣t:=by
 unfold sg;split
 .exact Int.neg_dvd.mpr (eJ t b)
 .exact eJ t b
theorem xG(t b:Int):sg t b∣b:=by
 unfold sg;split
 .exact Int.neg_dvd.mpr (fS t b)
 .exact fS t b
theorem Cm(t b:Int):sg t b*yJ t b=t:=by
 unfold yJ;rw[JH (xF t b)];exact JU (xF t b)
theorem Cq(t b:Int):sg t b*yK t b=b:=by
 unfold yK;rw[JH (xG t b)];exact JU (xG t b)
theorem AK(f t b:Int):gc (f*t) (f*b)=f.natAbs*gc t b:=by
 unfold gc;rw[Int.gcd_mul_left];rfl
theorem jA{s x n:Int}(hs:s≠0)(e:s*x=n):x.natAbs<=n.natAbs:=by
 rw[<- e,K2];have:1<=s.natAbs:=by omega
 exact Nat.le_mul_of_pos_left _ this
theorem Ck{t b:Int}(hb:b≠0):(yJ t b).natAbs<=t.natAbs:=jA (uI hb) (Cm t b)
theorem Cp{t b:Int}(hb:b≠0):(yK t b).natAbs<=b.natAbs:=jA (uI hb) (Cq t b)
theorem Vo{t b:Int}(hb:b≠0):(gc t b).natAbs<=b.natAbs:=by
 have h:=Int.gcd_dvd_right (a:=t) (b:=b);have:=Nat.le_of_dvd (by omega) (Int.natAbs_dvd_natAbs.mpr h);unfold gc;exact this
theorem sg_le{t b:Int}(hb:b≠0):(sg t b).natAbs<=b.natAbs:=by
 have:=Vo (t:=t) hb;unfold sg;split<;>omega
theorem low_gc{t b:Int}(hb:b≠0):gc (yJ t b) (yK t b)=1:=by
 have h1:=Cm t b;have h2:=Cq t b;have h3:=AK (sg t b) (yJ t b) (yK t b);rw[h1,h2]at h3;have h4:=AJ (a:=t) hb
 have h5:((sg t b).natAbs:Int)=gc t b:=by
  unfold sg;split<;>omega
 rw[h5]at h3;have h6:gc t b*gc (yJ t b) (yK t b)=gc t b*1:=by rw[<- h3,Ku]
 exact Ja (by omega) h6
end Lo
namespace Ln
end Ln
open PySem L2
noncomputable abbrev bits (x:Int):Nat:=Builtin.Int.intBits x
theorem CP{x:Int}{m:Nat}(h:x.natAbs<2^m):bits x<=m:=intBits_le_iff.mpr h
theorem dS(i:Int):(if i<0 then -i else i)=(i.natAbs:Int):=by split<;>omega
structure NI(K:W.Frag)(H:Hp)(a:Addr)(ns:List Int):Prop where
 sq:(∃o,H a=some (.frz o (.lst (ns.map V.int))))\/∃(o:Obj)(its:Array Value)(n:Nat),K.lookup a=some o/\o.cls=.type "list"/\o.dict=none/\o.data=.seq its n/\its.size<=sizeLine/\Vals (ns.map V.int) its.toList
 few:ns.length<=63
 bit:∀n∈ns,bits n<=1048576
theorem NI.l(S:NI K H a ns):K7 K H a (ns.map V.int):=S.sq.elim (λh=>.inl (.inr h)) .inr
theorem NI.ts(S:NI K H a ns)(e:LY H H'):NI K H' a ns:=⟨S.sq.elim (λ⟨o,h⟩=>.inl ⟨o,e.f _ _ _ h⟩) .inr,S.few,S.bit⟩
theorem scr_of(O:Pn H)(h:K7 K H a (ns.map V.int))(few:ns.length<=63)(bit:∀n∈ns,bits n<=1048576):NI K H a ns:=by
 refine⟨?_,few,bit⟩;rcases h with(h | h) | h
 .exfalso;rcases O a with z | ⟨o,xs,z⟩
  .rw[h]at z;cases z
  .rw[h]at z;cases z
 .exact .inl h
 .exact .inr h
theorem ak(h:H p=none)(o:HO):aJ H (upd H p o):=λb u q=>by rw[az (aE q h)];exact q
theorem aW(e:aJ H H')(h:H l=none)(o:HO):aJ H (upd H' l o):=λb u q=>by rw[az (aE q h)];exact e b u q
noncomputable def OY(p q:Int):PyData:=.tuple [.int p,.int q]
section
variable{K:W.Frag}{H H':Hp}{a:Addr}{v e:V}{p q m h:Int}{s:St4}{L:List St4}
end
theorem Si(p q:Int):(OY p q).canLay0=true:=by simp[OY,PyData.canLay0,PyData.canLayAll0]
theorem HY(p q:Int):(OY p q).depth=1:=by simp[OY,PyData.depth,PyData.depthAll]
theorem vk(p q:Int):SeqAt.shaped (OY p q)=true:=by simp[SeqAt.shaped,Si,HY]
theorem Sj(p q r s:Int):PyData.eqv (OY p q) (OY r s)=decide (p=r/\q=s):=by
 simp only[OY,PyData.eqv,PyData.eqvAll,Bool.and_true]
 by_cases h1:p=r<;>by_cases h2:q=s<;>simp[h1,h2]
mutual
theorem Ig:∀d:PyData,d.canLay0=true->PyData.eqv d d=true
 | .none,_=>by simp[PyData.eqv]
 | .bool _,_=>by simp[PyData.eqv]
 | .int _,_=>by simp[PyData.eqv]
 | .str _,_=>by simp[PyData.eqv]
 | .list xs,h=>by simp only[PyData.eqv];exact kZ xs (by simpa [PyData.canLay0] using h)
 | .tuple xs,h=>by simp only[PyData.eqv];exact kZ xs (by simpa [PyData.canLay0] using h)
 | .dict _,h=>by simp[PyData.canLay0]at h
theorem kZ:∀xs:List PyData,PyData.canLayAll0 xs=true->PyData.eqvAll xs xs=true
 | [],_=>by simp[PyData.eqvAll]
 | x::xs,h=>by
  have h':x.canLay0=true/\PyData.canLayAll0 xs=true:=by simpa [PyData.canLayAll0] using h
  simp[PyData.eqvAll,Ig x h'.1,kZ xs h'.2]
end
noncomputable def O0:HO->Bool
 | .tup _=>true
 | .ins _ _ _=>true
 | .own _=>true
 | .frz _ _=>true
 | _=>false
def Kp(H H':Hp):Prop:=∀b o,H b=some o->O0 o=true->H' b=some o
theorem Kp.trans(a:Kp H H1)(b:Kp H1 H2):Kp H H2:=λc o h f=>b c o (a c o h f) f
theorem Kp.of(e:aJ H H'):Kp H H':=λb o h _=>e b o h
theorem RA(h:H p=none)(o:HO):Kp H (upd H p o):=Kp.of (λb u z=>by rw[az (aE z h)];exact z)
theorem iM{l:Addr}{o u:HO}(h:H l=some o)(f:O0 o=false):Kp H (upd H l u):=λb z hb fz=>by
 rw[az (sG hb h λe=>by rw[e,f]at fz;cases fz)]
 exact hb
theorem fQ{K:W.Frag}{t:Value}:PySem.W.kitOne K t t=some true:=by unfold PySem.W.kitOne;rw[d7 (F0 t)]
def SB(c:V)(H H':Hp):Prop:=∀b o,H b=some o->V.ref b≠c->H' b=some o
theorem SB.refl(c:V)(H:Hp):SB c H H:=λ_ _ h _=>h
theorem SB.trans{c:V}(a:SB c H H1)(b:SB c H1 H2):SB c H H2:=λd o h n=>b d o (a d o h n) n
theorem SB.of{c:V}(e:aJ H H'):SB c H H':=λb o h _=>e b o h
theorem SB.kp{c:V}(e:SB c H H')(hc:∀a o,c=.ref a->H a=some o->O0 o=false):Kp H H':=λb o h f=>e b o h λz=>by
 rw[hc b o z.symm h]at f;cases f
theorem jI{a:Addr}(H:Hp)(u:HO):SB (.ref a) H (upd H a u):=λb o h n=>by
 rw[az λz=>n (by rw[z])];exact h
inductive Tu(H:Hp):Addr->Tr->Prop where
 | never {a}:H a=some (.tup [.str "never"])->Tu H a .never
 | always {a}:H a=some (.tup [.str "always"])->Tu H a .always
 | lp {a}:H a=some (.tup [.str "p"])->Tu H a .lp
 | lq {a}:H a=some (.tup [.str "q"])->Tu H a .lq
 | no {a b t}:H a=some (.tup [.str "not",.ref b])->Tu H b t->Tu H a (.no t)
 | fold {a b d w x y}:H a=some (.tup [.str (W5.str w),.ref b,.ref d])->Tu H b x->Tu H d y->Tu H a (.fold w x y)
theorem Tu.to{a:Addr}{t:Tr}(h:Tu H a t)(e:Kp H H'):Tu H' a t:=by
 induction h with
 | never h=>exact .never (e _ _ h rfl)
 | always h=>exact .always (e _ _ h rfl)
 | lp h=>exact .lp (e _ _ h rfl)
 | lq h=>exact .lq (e _ _ h rfl)
 | no h _ ih=>exact .no (e _ _ h rfl) ih
 | fold h _ _ i1 i2=>exact .fold (e _ _ h rfl) i1 i2
structure CCs where
 (ne al le no mo ls gr lr ld:Addr)
noncomputable def CCs.fold(c:CCs):W5->Addr
 | .more=>c.mo | .less=>c.ls | .greater=>c.gr | .lesser=>c.lr | .leads=>c.ld
noncomputable def og(x:V):List (Str×V):=[("name",x)]
noncomputable def sX(x:V):List (Str×V):=[("part",x)]
noncomputable def uf(x y:V):List (Str×V):=[("one",x),("other",y)]
inductive Ob(c:CCs)(H:Hp):Addr->Tr->Prop where
 | never {a dx}:H a=some (.ins c.ne dx [])->Ob c H a .never
 | always {a dx}:H a=some (.ins c.al dx [])->Ob c H a .always
 | lp {a dx}:H a=some (.ins c.le dx (og (.str "p")))->Ob c H a .lp
 | lq {a dx}:H a=some (.ins c.le dx (og (.str "q")))->Ob c H a .lq
 | no {a dx b t}:H a=some (.ins c.no dx (sX (.ref b)))->Ob c H b t->Ob c H a (.no t)
 | fold {a dx b d w x y}:H a=some (.ins (c.fold w) dx (uf (.ref b) (.ref d)))->Ob c H b x->Ob c H d y->Ob c H a (.fold w x y)
theorem Ob.to{a:Addr}{t:Tr}(h:Ob c H a t)(e:Kp H H'):Ob c H' a t:=by
 induction h with
 | never h=>exact .never (e _ _ h rfl)
 | always h=>exact .always (e _ _ h rfl)
 | lp h=>exact .lp (e _ _ h rfl)
 | lq h=>exact .lq (e _ _ h rfl)
 | no h _ ih=>exact .no (e _ _ h rfl) ih
 | fold h _ _ i1 i2=>exact .fold (e _ _ h rfl) i1 i2
inductive cH{α β:Type}(R:α->β->Prop):List α->List β->Prop where
 | nil:cH R [] []
 | cons {a b as bs}:R a b->cH R as bs->cH R (a::as) (b::bs)
theorem cH.imp{α β:Type}{R R':α->β->Prop}(f:∀a b,R a b->R' a b){as:List α}{bs:List β}(h:cH R as bs):cH R' as bs:=by
 induction h with
 | nil=>exact .nil
 | cons r _ ih=>exact .cons (f _ _ r) ih
theorem cH.app{α β:Type}{R:α->β->Prop}{as cs:List α}{bs ds:List β}(h:cH R as bs)(k:cH R cs ds):cH R (as++cs) (bs++ds):=by
 induction h with
 | nil=>exact k
 | cons r _ ih=>exact .cons r ih
theorem cH.rev{α β:Type}{R:α->β->Prop}{as:List α}{bs:List β}(h:cH R as bs):cH R as.reverse bs.reverse:=by
 induction h with
 | nil=>exact .nil
 | cons r _ ih=>rw[B9,B9];exact ih.app (.cons r .nil)
theorem cH.len{α β:Type}{R:α->β->Prop}{as:List α}{bs:List β}(h:cH R as bs):as.length=bs.length:=by
 induction h with
 | nil=>rfl
 | cons _ _ ih=>rw[j9,j9,ih]
theorem cH.get{α β:Type}{R:α->β->Prop}{as:List α}{bs:List β}(h:cH R as bs):∀(i:Nat)(a:α),as[i]?=some a->∃b,bs[i]?=some b/\R a b:=by
 induction h with
 | nil=>intro i a z;cases z
 | cons r _ ih =>
  intro i x z;cases i with
  | zero=>cases z;exact⟨_,rfl,r⟩
  | succ i=>exact ih i x z
theorem cH.last{α β:Type}{R:α->β->Prop}{as:List α}{bs:List β}(h:cH R as bs)(n:as≠[]):∃as' a bs' b,as=as'++[a]/\bs=bs'++[b]/\R a b/\cH R as' bs':=by
 have h':=h.rev;have n':as.reverse≠[]:=λz=>n (List.reverse_eq_nil_iff.mp z);have e1:as=as.reverse.reverse:=(JV _).symm;have e2:bs=bs.reverse.reverse:=(JV _).symm;rw[e1,e2]
 revert h' n'
 generalize as.reverse=u;generalize bs.reverse=v;intro h' n';cases h' with
 | nil=>exact absurd rfl n'
 | cons r k=>exact⟨_,_,_,_,B9,B9,r,k.rev⟩
theorem jn{α:Type}(ys:List α)(a:α):(ys++[a])[(ys++[a]).length-1]?=some a:=by simp
abbrev MQ(c:CCs)(H:Hp)(v:V)(t:Tr):Prop:=∃a,v=.ref a/\Ob c H a t
theorem MQ.to(e:Kp H H')(v:V)(t:Tr)(h:MQ c H v t):MQ c H' v t:=by
 obtain⟨a,r,o⟩:=h;exact⟨a,r,o.to e⟩
noncomputable def Tr.kids:Tr->List Tr
 | .no t=>[t]
 | .fold _ a b=>[a,b]
 | _=>[]
noncomputable def bZ(ts:List Tr):Nat:=(ts.map Tr.size).sum
theorem lC(a b:List Tr):bZ (a++b)=bZ a+bZ b:=by simp[bZ]
theorem ve(t:Tr):bZ t.kids+1=t.size:=by cases t<;>simp[bZ,Tr.kids,Tr.size]
theorem Gq(t:Tr):t.post.reverse=t::(t.kids.reverse.flatMap λx=>x.post.reverse):=by
 cases t<;>simp[Tr.post,Tr.kids]
inductive Pc where
 | w (x:Str)
 | t (t:Tr)
noncomputable def Tr.pieces:Tr->List Pc
 | .never=>[.w "never"]
 | .always=>[.w "always"]
 | .lp=>[.w "p"]
 | .lq=>[.w "q"]
 | .no t=>[.w "not",.t t]
 | .fold w a b=>[.w "(",.t a,.w w.str,.t b,.w ")"]
inductive PcV(c:CCs)(H:Hp):V->Pc->Prop where
 | w (x:Str):PcV c H (.str x) (.w x)
 | t {a:Addr} {t:Tr}:Ob c H a t->PcV c H (.ref a) (.t t)
theorem jS(i j:Int):(if j<i then j else i)=min i j:=by
 rw[Int.min_def];split<;>split<;>omega
theorem mU(i j:Int):(if j>i then j else i)=max i j:=by
 rw[Int.max_def];split<;>split<;>omega
end Mine
namespace L2
open PySem PySem.Spec PyProof.Rows
variable{C:Addr}{qual:Str}{st:Stmt}{N ps:List Str}{sp:Sp}
structure bF(K:W.Frag)(C:Addr)(m qual:Str)(st:Stmt):Prop where
 cl:Cls K C
 ex:∃(f:Addr)(fd:FuncData),Meth K C m f/\NY K m qual st f fd
variable{P:Program}{w:World}{K:W.Frag}{mg:Str->Option Value}{base:Heap}
theorem bM{m:Str}{k:Nat}(T:bF K C m qual st)(S:aB N ps (au st))(len:∀vs H Q E,sp vs H Q E->vs.length=ps.length)(body:∀(f:Addr)(cdv:Value)(A:Around)(outer:List Env)(s:Shared)(H:Hp)(vs:List V)(Q:VK)(E:XK),dP k (A.deeper (envOfC qual (au st) s.heap.objs.size f cdv))->sp vs H Q E->
   ∃t,Lr (cN CX0 P w K mg base N qual (au st) f cdv A outer s H E).nox (bA st) t/\t {nx:=λ_ H'=>Q .non H',rt:=Q} (start N vs) H)
  (bd:∀(kV doc pm:Value)(an:Option Addr)(cdv ct:Value)(us:List Value),us.length=ps.length->bindArgs (PySem.W.fnOf m qual (fT st) (bA st) (au st) .none kV doc pm an cdv ct) ⟨us,[]⟩=pure (ps.zip us):=by intro _ _ _ _ _ _;first | exact L2.ar1 λ_=>rfl | exact L2.ar2 λ_ _=>rfl | exact L2.ar3 λ_ _ _=>rfl | exact L2.ar4 λ_ _ _ _=>rfl | exact L2.ar0 rfl | exact L2.ar5 λ_ _ _ _ _=>rfl) :
  bC P w K mg base C m (k+1) ps sp:=by
 obtain⟨f,fd,hm,G⟩:=T.ex;exact⟨T.cl,f,fd,hm,G.ok S len (body f),G.binds bd⟩
structure MkF(K:W.Frag)(mg:Str->Option Value)(x:Str)(C:Addr)(qual:Str)(st:Stmt):Prop where
 cl:Cls K C
 mg_:mg x=some (.ref C)
 ex:∃(f:Addr)(fd:FuncData),Mk K C f/\NY K "__init__" qual st f fd
structure tO(P:Program)(w:World)(K:W.Frag)(mg:Str->Option Value)(base:Heap)(x:Str)(C:Addr)(k:Nat)(ps:List Str)(sp:Sp):Prop where
 mg_:mg x=some (.ref C)
 ex:∃(f:Addr)(fd:FuncData),Mk K C f/\oz P w K mg base CX0 k f fd ps sp/\Binds K fd ps []
theorem Hk{x:Str}{k:Nat}(T:MkF K mg x C qual st)(S:aB N ps (au st))(len:∀vs H Q E,sp vs H Q E->vs.length=ps.length)(body:∀(f:Addr)(cdv:Value)(A:Around)(outer:List Env)(s:Shared)(H:Hp)(vs:List V)(Q:VK)(E:XK),dP k (A.deeper (envOfC qual (au st) s.heap.objs.size f cdv))->sp vs H Q E->
   ∃t,Lr (cN CX0 P w K mg base N qual (au st) f cdv A outer s H E).nox (bA st) t/\t {nx:=λ_ H'=>Q .non H',rt:=Q} (start N vs) H)
  (bd:∀(kV doc pm:Value)(an:Option Addr)(cdv ct:Value)(us:List Value),us.length=ps.length->bindArgs (PySem.W.fnOf "__init__" qual (fT st) (bA st) (au st) .none kV doc pm an cdv ct) ⟨us,[]⟩=pure (ps.zip us):=by intro _ _ _ _ _ _;first | exact L2.ar1 λ_=>rfl | exact L2.ar2 λ_ _=>rfl | exact L2.ar3 λ_ _ _=>rfl | exact L2.ar4 λ_ _ _ _=>rfl | exact L2.ar0 rfl | exact L2.ar5 λ_ _ _ _ _=>rfl) :
  tO P w K mg base x C (k+1) ps sp:=by
 obtain⟨f,fd,hm,G⟩:=T.ex;exact⟨T.mg_,f,fd,hm,G.ok S len (body f),G.binds bd⟩
section
variable{X:Cx}{x:Str}{C:Addr}{k:Nat}{ps:List Str}{sp:Sp}{e:Expr}{es:List Expr}{t:TA}{p pos:Pos}
theorem sv(M:tO X.prog X.w X.K X.mg X.base x C k ps sp)(ha:PA X (e::es) t)(hr:dP (k+1) X.A:=by exact dP.mono (by assumption) (by first | decide | omega))(hg:Gl X x:=by rfl)(hdb:(x==("__debug__":Str))=false:=by decide)(he:starEach (e::es) X.env=(false,eval e X.env)::starEach es X.env:=by rfl)(hpl:(backTo pos (starEach es X.env)).any (·.1)=false:=by rfl) :
  PE X (.Call (.Name x p) (e::es) [] pos) (PF C sp [] E0 t):=by
 obtain⟨f,fd,hm,G,hb⟩:=M.ex;exact Ou hm G hr hg M.mg_ hb .nil yk ha hdb he hpl
end
end L2
namespace Mine
open PySem L2
variable{a dz:Addr}{c:CCs}{H:Hp}{w u:W5}{t':Tr}{o:HO}{z:Int}{Q:VK}{i:Nat}
noncomputable def CCs.of(c:CCs):Tr->Addr
 | .never=>c.ne
 | .always=>c.al
 | .lp=>c.le
 | .lq=>c.le
 | .no _=>c.no
 | .fold w _ _=>c.fold w
theorem lL(x:V):(og x).lookup ("name":Str)=some x:=by unfold og;rw[C6,F0]
theorem Ec(x:V):(sX x).lookup ("part":Str)=some x:=by unfold sX;rw[C6,F0]
theorem Hq(x y:V):(uf x y).lookup ("one":Str)=some x:=by unfold uf;rw[C6,F0]
theorem Az(x y:V):(uf x y).lookup ("other":Str)=some y:=by
 unfold uf;rw[C6,show(("other":Str)==("one":Str))=false by decide+kernel];show List.lookup ("other":Str) [("other",y)]=some y;rw[C6,F0]
abbrev NoF(m:Str):Prop:=m≠"name"/\m≠"part"/\m≠"one"/\m≠"other"
theorem jB{m a:Str}{x:V}{r:List (Str×V)}(h:m≠a)(k:r.lookup m=none):((a,x)::r).lookup m=none:=by
 rw[C6,F6.mpr h];exact k
theorem Ob.cls{t:Tr}(h:Ob c H a t):∃dx fs,H a=some (.ins (c.of t) dx fs)/\∀m,NoF m->fs.lookup m=none:=by
 cases h with
 | never h=>exact⟨_,_,h,λm _=>rfl⟩
 | always h=>exact⟨_,_,h,λm _=>rfl⟩
 | lp h=>exact⟨_,_,h,λm n=>jB n.1 rfl⟩
 | lq h=>exact⟨_,_,h,λm n=>jB n.1 rfl⟩
 | no h _=>exact⟨_,_,h,λm n=>jB n.2.1 rfl⟩
 | fold h _ _=>exact⟨_,_,h,λm n=>jB n.2.2.1 (jB n.2.2.2 rfl)⟩
structure Fx(K:W.Frag)(c:CCs):Prop where
 cl:∀t,Cls K (c.of t)
 ha:∀t,PySem.W.findIn K (.ref (c.of t)) "__class__"=some (some (.builtin "object.__class__"))
 hm:∀t,PySem.W.mroIn K (c.of t) (.type "object")=some true
 ks:∀t,PySem.W.kitOne K (.ref (c.of t)) (.type "str")=some false
 hn:PySem.W.specialIn K (.builtin "object.__class__") "__get__"=some (some (.builtin "getset_descriptor.__get__"))
 tk:PySem.W.takesIn K (.builtin "object.__class__")=some true
 nName:fX K c.le "name"
 nPart:fX K c.no "part"
 nOne:∀w,fX K (c.fold w) "one"
 nOther:∀w,fX K (c.fold w) "other"
theorem Fx.ty{K:W.Frag}(T:Fx K c){t:Tr}(h:Ob c H a t):jX K H (.ref a) (.ref (c.of t)):=by
 obtain⟨dx,fs,e,_⟩:=h.cls;exact .ins e (T.cl t) (T.ha t) T.hn T.tk (T.hm t)
noncomputable def Tr.word:Tr->Str
 | .never=>"never"
 | .always=>"always"
 | .lp=>"p"
 | .lq=>"q"
 | .no _=>"not"
 | .fold u _ _=>u.str
def vH(c:CCs)(t:Tr):Sp:=λvs H Q _=>∃a,vs=[.ref a]/\Ob c H a t/\∀l us,H l=none->cH (MQ c H) us t.kids->Q (.ref l) (upd H l (.lst us))
def gZ(c:CCs)(t:Tr):Sp:=λvs H Q _=>∃a:Addr,vs=[.ref a]/\Ob c H a t/\Q (.str t.word) H
def iD(w:W5):Sp:=λvs H Q _=>∃(a:Addr)(n x y:Int),vs=[.ref a,.int n,.int x,.int y]/\Q (.int (w.worth n x y)) H
def jG(c:CCs)(t:Tr):Sp:=λvs H Q _=>∃(a l:Addr)(n x y:Int)(R R':List Int),vs=[.ref a,.ref l,.int n,.int x,.int y]/\Ob c H a t/\H l=some (.lst (R.reverse.map V.int))/\R.length<=1000/\(iB n x y).step R t=some R' /\
 ∀H',SB (.ref l) H H'->H' l=some (.lst (R'.reverse.map V.int))->Q .non H'
def qZ(c:CCs)(t:Tr):Sp:=λvs H Q _=>∃a,vs=[.ref a]/\Ob c H a t/\t.size<=1000/\∀l us H',aJ H H'->H l=none->H' l=some (.lst us)->cH (MQ c H') us t.post->Q (.ref l) H'
def Fu(c:CCs)(t:Tr):Sp:=λvs H Q _=>∃(a:Addr)(n x y:Int),vs=[.ref a,.int n,.int x,.int y]/\Ob c H a t/\t.size<=1000/\∀H',aJ H H'->Q (.int (t.worth n x y)) H'
def lB(C:Addr)(fl:V->List (Str×V)):Sp:=λvs H Q _=>∃(a dx:Addr)(x:V),vs=[.ref a,x]/\H a=some (.ins C dx [])/\Q .non (upd H a (.ins C dx (fl x)))
def vL(C:Addr):Sp:=λvs H Q _=>∃(a dx:Addr)(x y:V),vs=[.ref a,x,y]/\H a=some (.ins C dx [])/\Q .non (upd H a (.ins C dx (uf x y)))
theorem Gj(x y:V):jO "other" y (jO "one" x [])=uf x y:=by
 show(if("one":Str)="other" then[(("one":Str),y)] else(("one":Str),x)::jO "other" y [])=_;rw[d9 (by decide+kernel)];rfl
noncomputable def W5.cls:W5->Str
 | .more=>"More" | .less=>"Less" | .greater=>"Greater" | .lesser=>"Lesser" | .leads=>"Leads"
theorem U1:decide (V.str "p"=V.str "p")=true:=e9 rfl
theorem U0:decide (V.str "q"=V.str "p")=false:=B7 (λz=>absurd (V.str.inj z) (by decide+kernel))
theorem fL(a:Int)(R:List Int):R.reverse.map V.int++[V.int a]=(a::R).reverse.map V.int:=by rw[B9,l8];rfl
theorem nF{R:List Int}(h:R.length<=1000):(R.reverse.map V.int).length<sizeLine:=by
 rw[i7,C7];exact d8 h (by decide)
theorem jm{α:Type}{G:Alg α}{R R':List α}{t:Tr}(h:G.step R t=some R')(k:t.kids=[]):R'=G.leaf t::R:=by
 cases t with
 | no t=>cases k
 | fold w a b=>cases k
 | _=>cases R with
  | nil=>exact(j8 h).symm
  | cons a R=>cases R<;>exact(j8 h).symm
theorem Bz{α:Type}{G:Alg α}{R R':List α}{t:Tr}(h:G.step R (.no t)=some R'):∃b R1,R=b::R1/\R'=G.no b::R1:=by
 cases R with
 | nil=>cases h
 | cons b R1=>cases R1<;>exact⟨b,_,rfl,(j8 h).symm⟩
theorem uH{α:Type}{G:Alg α}{R R':List α}{t:Tr}(h:G.step R (.fold w t t')=some R'):∃b2 b1 R1,R=b2::b1::R1/\R'=G.fold w b1 b2::R1:=by
 cases R with
 | nil=>cases h
 | cons b R1=>cases R1 with
  | nil=>cases h
  | cons b' R1=>exact⟨b,b',R1,rfl,(j8 h).symm⟩
theorem ku{l p:Addr}(h:upd H l o p=none):H p=none:=by
 by_cases e:p=l
 .subst e;rw[ae]at h;cases h
 .rw[az e]at h;exact h
theorem lD{C z:Addr}{fs:List (Str×V)}(hz:H z=none)(hd:H dz=none)(ne:dz≠z):aJ H (upd (upd (upd H dz (.own z)) z (.ins C dz [])) z (.ins C dz fs)):=λb o h=>by
 rw[az (aE h hz),az (aE h hz),az (aE h hd)];exact h
theorem Eb{z b d:Addr}{t:Tr}(hz:H z=none)(hd:H dz=none)(ne:dz≠z)(o:Ob c H b t)(o':Ob c H d t')(q:∀e H',aJ H H'->Ob c H' e (.fold u t t')->Q (.ref e) H') :
  Q (.ref z) (upd (upd (upd H dz (.own z)) z (.ins (c.fold u) dz [])) z (.ins (c.fold u) dz (uf (.ref b) (.ref d)))):=by
 have sm:=lD (C:=c.fold u) (fs:=uf (.ref b) (.ref d)) hz hd ne;exact q z _ sm (.fold ae (o.to (Kp.of sm)) (o'.to (Kp.of sm)))
theorem yQ:∀ts:List Tr,(ts.flatMap λx=>x.post.reverse).length=bZ ts
 | []=>rfl
 | t::r=>by
  rw[List.flatMap_cons,c7,C7,fN,yQ r];simp[bZ]
theorem Dl(ts:List Tr):bZ ts.reverse=bZ ts:=by simp[bZ]
theorem va:∀ts:List Tr,ts.length<=bZ ts
 | []=>c5 _
 | t::r=>by
  have h:=va r;have p:=t.size_pos;have e:bZ (t::r)=t.size+bZ r:=by simp[bZ]
  rw[e,j9];omega
theorem kU(t:Tr):t.kids.length<=2:=by cases t<;>simp[Tr.kids]
theorem Fp{α:Type}{G:Alg α}{R R':List α}{t:Tr}(h:G.step R t=some R'):R'.length<=R.length+1:=by
 cases t with
 | no t=>obtain⟨b,R1,rfl,rfl⟩:=Bz h;simp
 | fold w x y=>obtain⟨b,b',R1,rfl,rfl⟩:=uH h;simp
 | _=>rw[jm h rfl];simp
theorem FR{α:Type}{G:Alg α}{R Z:List α}{t:Tr}{r:List Tr}(h:G.run R (t::r)=some Z):∃R',G.step R t=some R'/\G.run R' r=some Z:=by
 unfold Alg.run at h;cases e:G.step R t with
 | none=>rw[e]at h;cases h
 | some R'=>rw[e]at h;exact⟨R',rfl,h⟩
theorem CD{α:Type}{xs:List α}{x:α}(h:xs[i]?=some x):xs.drop i=x::xs.drop (i+1):=by
 obtain⟨hi,e⟩:=d6.mp h;rw[C2 hi,e]
theorem ite_yes{a:Str}{A B:Prop}(h:a=b)(k:A):if decide (V.str a=V.str b)=true then A else B:=by
 rw[e9 (x9 V.str h),d7 rfl];exact k
theorem ite_no{a:Str}{A B:Prop}(h:a≠b)(k:B):if decide (V.str a=V.str b)=true then A else B:=by
 rw[B7 (λz=>h (V.str.inj z)),d9 k8];exact k
theorem kW{A B:Prop}(h:Mf x xs=true)(k:A):if(if false=true then !Mf x xs else Mf x xs)=true then A else B:=by
 rw[d9 k8,h,d7 rfl];exact k
theorem kX{A B:Prop}(h:Mf x xs=false)(k:B):if(if false=true then !Mf x xs else Mf x xs)=true then A else B:=by
 rw[d9 k8,h,d9 k8];exact k
def Me(m:Int):Prop:=0<=m/\Builtin.Int.intBits m<=1048576
theorem ZF:Me 0:=⟨D5 _,by decide⟩
theorem ID(z:Int):Builtin.Int.intBits (if z<0 then -z else z)=Builtin.Int.intBits z:=by
 unfold Builtin.Int.intBits
 by_cases h:z<0
 .rw[d7 h];simp
 .rw[d9 h]
theorem Pe(h:Builtin.Int.intBits z<=1048576):Me (if z<0 then -z else z):=⟨by split<;>omega,by rw[ID];exact h⟩
theorem pG(h0:0<=z)(h:z<2^64):Me z:=⟨h0,l7 (intBits_le_64 (by omega) h) (by decide)⟩
theorem NI.to(h:NI K H a ns)(e:aJ H H'):NI K H' a ns:=h.ts e.ts
def BE(K:W.Frag):Sp:=λvs H Q _=>∃(a:Addr)(ns:List Int)(k:Int),vs=[.ref a,.int k]/\NI K H a ns/\0<=k/\k<=100/\∀(D:Addr)(ms:List Int)(H':Hp),aJ H H'->H D=none->H' D=some (.lst (ms.map V.int))->(∀m∈ms,Me m)->Q (.ref D) H'
def vG:Sp:=λvs H Q _=>∃(l:Addr)(ms:List Int),vs=[.ref l]/\H l=some (.lst (ms.map V.int))/\(∀m∈ms,Me m)/\∀(i:Int)(Mb:List Int)(H':Hp),Me i->(∀m∈Mb,Me m)->SB (.ref l) H H'->H' l=some (.lst (Mb.map V.int))->Q (.int i) H'
def xD(n:Nat):Sp:=λvs H Q _=>∃(l:Addr)(ms:List Int)(r:Int)(b:Bool),vs=[.ref l,.int r,.bl b]/\H l=some (.lst (ms.map V.int))/\(∀m∈ms,Me m)/\1<=r/\r<=n/\
 ∀(a:Addr)(t:Tr)(Mb:List Int)(H':Hp),(t.size:Int)<=r->(∀m∈Mb,Me m)->SB (.ref l) H H'->H' l=some (.lst (Mb.map V.int))->Tu H' a t->Q (.ref a) H'
def BF:Sp:=λvs H Q _=>∃(u:W5)(n x y:Int),vs=[.str u.str,.int n,.int x,.int y]/\Q (.int (u.worth n x y)) H
def vD(k:Nat):Sp:=λvs H Q _=>∃(a:Addr)(t:Tr)(n x y:Int),vs=[.ref a,.int n,.int x,.int y]/\Tu H a t/\t.size<=k/\∀H',aJ H H'->Q (.int (t.worth n x y)) H'
def xC:Sp:=λvs H Q _=>∃i:Int,vs=[.int i]/\Q (.bl true) H
end Mine
namespace L2
open PySem PySem.Spec PyProof.Rows
variable{items:Array Value}{lo hi:Option Int}{Q:Value->Shared->Prop}
namespace HT
variable{prog:Program}{w:World}{A:Around}{E:Value->Shared->Prop}{s:Shared}
theorem AD{t sl:Addr}{vl vu:Value}(ht:IsTup s.heap t items)(hs:s.heap.IsSliceOf sl vl vu .none)(pl:IsPart vl lo)(pu:IsPart vu hi)
  (h0:_root_.HT.sIx items.size 0 lo=0)(h1:_root_.HT.sIx items.size items.size hi=items.size)(h:Q (.ref t) s):wpAny (model prog w) A (getItem (.ref t) (.ref sl)) Q E s:=by
 obtain⟨os,RV,W0,RY⟩:=id hs;have Y5:s.TypeIs (.ref sl) "slice":=⟨os,RV,W0⟩;unfold getItem
 try with_reducible refine wpAny_holding ?_
 first | refine b6 (n9 ?_) | skip
 refine b6 (wpAny_sequenceKey ht.typeIs (by decide) ?_)
 refine b6 (C9 (name:=Str.ofString "__getitem__") ht.typeIs B3
  (IW B3 ht.typeIs PyProof.Rows.entry_tuple_getitem ?_ (PyProof.Rows.args_tuple_getitem _ _)))
 show wpAny _ _ (Builtin.Tuple.tupleItemsOf (.ref t) >>= _) _ _ s;refine b6 (PyProof.Rows.tupleItemsOf_ ht ?_);refine b6 (wpAny_typeOf Y5 ?_);rw[d7 (by decide)];refine b6 (_root_.HT.jo hs pl pu ?_);have yes:(((_root_.HT.sIx items.size 0 lo:Nat):Int)==0 && (1:Int)==1 && (_root_.HT.sIx items.size items.size hi-_root_.HT.sIx items.size 0 lo)==items.size)=true:=by rw[h0,h1];simp
 show wpAny _ _ (if(((_root_.HT.sIx items.size 0 lo:Nat):Int)==0 && (1:Int)==1 && (_root_.HT.sIx items.size items.size hi-_root_.HT.sIx items.size 0 lo)==items.size)=true then _ else _) _ _ s;rw[d7 yes];unfold Builtin.Tuple.tupleIsExact;refine b6 (b6 (wpAny_typeOf ht.typeIs (n9 ?_)));rw[d7 (by decide)];exact b6 (wpAny_rule (n9 ⟨_,rfl,n9 h⟩))
end HT
section
variable{X:Cx}
def Q9(K:W.Frag):V->Option Int->Option Int->Hp->VK->Prop:=λx lo hi H Q=>∃a xs,x=.ref a/\K6 K H a xs/\(_root_.HT.sIx xs.length 0 lo=0->_root_.HT.sIx xs.length xs.length hi=xs.length->Q (.ref a) H)/\
 (¬(_root_.HT.sIx xs.length 0 lo=0/\_root_.HT.sIx xs.length xs.length hi=xs.length)->∀p,H p=none->Q (.ref p) (upd H p (.tup (jV xs lo hi))))
theorem qD:Xn X (Q9 X.K):=by
 intro K5 s σ H x v vl vu lo hi sl Q I rx hs pl pu h;obtain⟨a,xs,rfl,hx,q1,q2⟩:=h
 by_cases hw:_root_.HT.sIx xs.length 0 lo=0/\_root_.HT.sIx xs.length xs.length hi=xs.length
 .cases rx
  obtain⟨its,r,ht,hz⟩:=I.tuple hx;have hlen:its.toArray.size=xs.length:=by rw[j7];exact r.length.symm
  refine⟨"tuple",_,B3.lookup,ht.typeIs,?_⟩;exact HT.AD ht hs pl pu (by rw[hlen];exact hw.1) (by rw[hlen];exact hw.2) ⟨.ref a,H,I,rfl,q1 hw.1 hw.2⟩
 .exact Q1 K5 s σ H (.ref a) v vl vu lo hi sl Q I rx hs pl pu ⟨a,xs,rfl,hx,hw,q2 hw⟩
end
end L2
namespace Mine
open PySem L2
variable{b:Int}{H:Hp}{σ:St}{A B:Hp->Prop}
theorem O9(ms:List Int)(lo hi:Option Int):∃Mb:List Int,jV (ms.map V.int) lo hi=Mb.map V.int/\∀m∈Mb,m∈ms:=by
 refine⟨(ms.drop (_root_.HT.sIx (ms.map V.int).length 0 lo)).take (_root_.HT.sIx (ms.map V.int).length (ms.map V.int).length hi-_root_.HT.sIx (ms.map V.int).length 0 lo),?_,λm h=>List.mem_of_mem_drop (Jv h)⟩;unfold jV;rw[List.map_take,List.map_drop]
theorem fP{a:Int}(h:Builtin.Int.intBits b<=64):IntMulOk a b:=.of_right h
theorem sI{a:Int}(h:Builtin.Int.intBits a<=64):IntMulOk a b:=.of_left h
noncomputable abbrev rS:List Str:=["_law_cells","_law_room","_law_two","_law_cell","_law_turn","_law_left","_law_one","_law_word"]
theorem N3(m:Int)(h0:0<=m)(h:m<5):∃u:W5,Mi [V.str "more",.str "less",.str "greater",.str "lesser",.str "leads"] m=some (.str u.str):=by
 have hm:m=0\/m=1\/m=2\/m=3\/m=4:=by omega
 rcases hm with rfl | rfl | rfl | rfl | rfl
 .exact⟨.more,rfl⟩
 .exact⟨.less,rfl⟩
 .exact⟨.greater,rfl⟩
 .exact⟨.lesser,rfl⟩
 .exact⟨.leads,rfl⟩
theorem two_at{x y:V}(m:Int)(h:m=0\/m=1):∃z,Mi [x,y] m=some z/\(z=x\/z=y):=by
 rcases h with rfl | rfl
 .exact⟨x,rfl,.inl rfl⟩
 .exact⟨y,rfl,.inr rfl⟩
theorem Rz{l:Addr}{xs:List V}(e:H l=some (.lst xs)):∀a o,V.ref l=.ref a->H a=some o->O0 o=false:=λa o z1 z2=>by cases z1;rw[e]at z2;cases z2;rfl
theorem UH:Mf (.str "p") [V.str "p",.str "q"]=true:=by decide+kernel
theorem UG:Mf (.str "q") [V.str "p",.str "q"]=true:=by decide+kernel
theorem Gn:Mf (.str "not") [V.str "p",.str "q"]=false:=by decide+kernel
theorem UE(u:W5):Mf (.str u.str) [V.str "p",.str "q"]=false:=by cases u<;>decide+kernel
theorem UU:Mf (.str "never") [V.str "never",.str "always"]=true:=by decide+kernel
theorem UW:Mf (.str "always") [V.str "never",.str "always"]=true:=by decide+kernel
theorem Yl:Mf (.str "p") [V.str "never",.str "always"]=false:=by decide+kernel
theorem Yk:Mf (.str "q") [V.str "never",.str "always"]=false:=by decide+kernel
theorem Rt:Mf (.str "not") [V.str "never",.str "always"]=false:=by decide+kernel
theorem Yj(u:W5):Mf (.str u.str) [V.str "never",.str "always"]=false:=by cases u<;>decide+kernel
theorem Xt(u:W5):u.str≠"never":=by cases u<;>decide+kernel
theorem Xu(u:W5):u.str≠"always":=by cases u<;>decide+kernel
theorem rT(hz:H z=none)(hd:H dz=none):aJ H (upd (upd H dz (.own z)) z (.ins C dz [])):=λb o h=>by
 rw[az (aE h hz),az (aE h hd)];exact h
abbrev SX(H:Hp)(v:V)(t:Tr):Prop:=∃a,v=.ref a/\Tu H a t
theorem SX.to(e:Kp H H')(v:V)(t:Tr)(h:SX H v t):SX H' v t:=by
 obtain⟨a,r,o⟩:=h;exact⟨a,r,o.to e⟩
theorem Tu.parts(h:Tu H a t):∃us,H a=some (.tup (.str t.word::us))/\cH (SX H) us t.kids:=by
 cases h with
 | never e=>exact⟨[],e,.nil⟩
 | always e=>exact⟨[],e,.nil⟩
 | lp e=>exact⟨[],e,.nil⟩
 | lq e=>exact⟨[],e,.nil⟩
 | no e h=>exact⟨_,e,.cons ⟨_,rfl,h⟩ .nil⟩
 | fold e h h'=>exact⟨_,e,.cons ⟨_,rfl,h⟩ (.cons ⟨_,rfl,h'⟩ .nil)⟩
theorem gU(h:A H):ke σ H λb H4=>if b=true then A H4 else B H4:=by
 show if true=true then A H else B H
 rw[d7 rfl];exact h
theorem nX{t x:Tr}(h:x∈t.kids):x.size<t.size:=by
 cases t with
 | no t =>
  have e:x=t:=by simpa [Tr.kids] using h
  subst e;exact IV _
 | fold w a b =>
  have e:x=a\/x=b:=by simpa [Tr.kids] using h
  show x.size<a.size+b.size+1;rcases e with rfl | rfl<;>omega
 | _=>simp[Tr.kids]at h
end Mine
namespace L2
open PySem PySem.Spec PyProof.Rows
end L2
namespace Mine
open PySem L2
variable{wi:TI}{te:TE}{js:List Nat}{σ:St}{H:Hp}{Q:VK}
def spLaw(K:W.Frag):Sp:=λvs H Q _=>∃a ns,vs=[.ref a]/\NI K H a ns/\∀H',Q (.bl true) H'
theorem ix(h:wi σ H λJ H1=>iS (λ_ H R=>R J H) tc te js σ H1 Q):iS wi tc te js σ H Q:=h
theorem vn(Src:Addr->Hp->Prop)(Nl:∀R:It->Hp->Prop,(∀l H,Src l H->R (MR K l) H)->wi σ H0 R)(Lv:∀l H,Src l H->H l=some (.lst xs))(hx:xs.length<=1000)
  (Pv:Addr->Addr->Nat->List V->Hp->Prop)(h0:∀l H D,Src l H->H D=none->Pv l D 0 [] (upd H D (.lst [])))
  (hs:∀l D i v ys H',xs[i]?=some v->l≠D->H' l=some (.lst xs)->H' D=some (.lst ys)->Pv l D i ys H'->∀N:VK,(∀y La,La l=some (.lst xs)->La D=some (.lst ys)->Pv l D (i+1) (ys++[y]) (upd La D (.lst (ys++[y])))->N y La)->te (some v::bQ js σ) H' N)
  (hd:∀l D ys H',H' l=some (.lst xs)->H' D=some (.lst ys)->Pv l D xs.length ys H'->Q (.ref D) H'):iS wi ke te js σ H0 Q:=by
 refine Nl _ λl H src=>?_;intro D hD;have e:=Lv l H src;have nl:l≠D:=aE e hD;refine⟨λi m H'=>m=xs.length-i/\i<=xs.length/\H' l=some (.lst xs)/\∃ys,ys.length=i/\H' D=some (.lst ys)/\Pv l D i ys H',⟨xs.length,rfl,x4 _,by rw[az nl];exact e,[],rfl,ae,h0 l H D src hD⟩,?_⟩;rintro i m H2 ⟨rfl,hi,e2,ys,hy,eD,p⟩
 by_cases Le:i<xs.length
 .refine .inr ⟨⟨xs,xs[i],K7.of e2,by simp[Le]⟩,λv H3 y=>?_⟩;obtain⟨eh,y⟩:=y;subst eh;refine gU ?_;refine hs l D i v ys _ (y xs (K7.of e2)) nl e2 eD p _ λy H5 z1 z2 z3=>?_;exact⟨ys,z2,d8 (show ys.length<=1000 by omega) (by decide),xs.length-(i+1),by omega,rfl,Le,by rw[az nl];exact z1,ys++[y],by rw[c7,hy];rfl,ae,z3⟩
 .have ei:i=xs.length:=by omega
  subst ei;exact .inl ⟨⟨xs,K7.of e2,c5 _⟩,hd l D ys H2 e2 eD p⟩
theorem yU(Src:Addr->Hp->Prop)(Nl:∀R:It->Hp->Prop,(∀l H,Src l H->R (NJ K l) H)->wi σ H0 R)(Lv:∀l H,Src l H->H l=some (.tup xs))(hx:xs.length<=1000)
  (Pv:Addr->Addr->Nat->List V->Hp->Prop)(h0:∀l H D,Src l H->H D=none->Pv l D 0 [] (upd H D (.lst [])))
  (hs:∀l D i v ys H',xs[i]?=some v->l≠D->H' l=some (.tup xs)->H' D=some (.lst ys)->Pv l D i ys H'->∀N:VK,(∀y La,La l=some (.tup xs)->La D=some (.lst ys)->Pv l D (i+1) (ys++[y]) (upd La D (.lst (ys++[y])))->N y La)->te (some v::bQ js σ) H' N)
  (hd:∀l D ys H',H' l=some (.tup xs)->H' D=some (.lst ys)->Pv l D xs.length ys H'->Q (.ref D) H'):iS wi ke te js σ H0 Q:=by
 refine Nl _ λl H src=>?_;intro D hD;have e:=Lv l H src;have nl:l≠D:=aE e hD;refine⟨λi m H'=>m=xs.length-i/\i<=xs.length/\H' l=some (.tup xs)/\∃ys,ys.length=i/\H' D=some (.lst ys)/\Pv l D i ys H',⟨xs.length,rfl,x4 _,by rw[az nl];exact e,[],rfl,ae,h0 l H D src hD⟩,?_⟩;rintro i m H2 ⟨rfl,hi,e2,ys,hy,eD,p⟩
 by_cases Le:i<xs.length
 .refine .inr ⟨⟨xs,xs[i],K6.of e2,by simp[Le]⟩,λv H3 y=>?_⟩;obtain⟨eh,y⟩:=y;subst eh;refine gU ?_;refine hs l D i v ys _ (y xs (K6.of e2)) nl e2 eD p _ λy H5 z1 z2 z3=>?_;exact⟨ys,z2,d8 (show ys.length<=1000 by omega) (by decide),xs.length-(i+1),by omega,rfl,Le,by rw[az nl];exact z1,ys++[y],by rw[c7,hy];rfl,ae,z3⟩
 .have ei:i=xs.length:=by omega
  subst ei;exact .inl ⟨⟨xs,K6.of e2,c5 _⟩,hd l D ys H2 e2 eD p⟩
theorem comp_map{α:Type}{K:W.Frag}{xs:List V}{ts:List α}{R:Hp->V->α->Prop}(g:α->V)(hR:∀H H' v t,aJ H H'->R H v t->R H' v t)(Src:Addr->Hp->Prop)
  (Nl:∀R:It->Hp->Prop,(∀l H,Src l H->R (MR K l) H)->wi σ H R)(Lv:∀l H',Src l H'->H' l=some (.lst xs)/\aJ H H')(hx:xs.length<=1000)(o:cH (R H) xs ts)
  (hs:∀v t H' N,t∈ts->R H' v t->(∀La,aJ H' La->N (g t) La)->te (some v::bQ js σ) H' N)(hd:∀D H',aJ H H'->H D=none->H' D=some (.lst (ts.map g))->Q (.ref D) H'):iS wi ke te js σ H Q:=by
 refine vn Src Nl (λl H src=>(Lv l H src).1) hx (λl D i ys H'=>H D=none/\aJ H H'/\ys=(ts.take i).map g) (λl H' D src hD=>⟨(Lv l H' src).2.free hD,(Lv l H' src).2.trans (ak hD _),rfl⟩) (λl D i v ys H' hv nl el eD h N hN=>?_) (λl D ys H' el eD h=>?_)
 .obtain⟨hD,sm,rfl⟩:=h;obtain⟨t,ht,hr⟩:=o.get i v hv;refine hs v t H' N (p8 ht) (hR _ _ _ _ sm hr) λLa s2=>hN _ _ (s2 _ _ el) (s2 _ _ eD) ⟨hD,λd u z=>?_,?_⟩
  .rw[az (aE z hD)];exact s2 _ _ (sm _ _ z)
  .rw[A2,ht,l8];rfl
 .obtain⟨hD,sm,rfl⟩:=h;refine hd D H' sm hD ?_;rw[o.len,z9]at eD;exact eD
theorem Er{α:Type}{K:W.Frag}{xs:List V}{ts:List α}{R:Hp->V->α->Prop}(g:α->V)(hR:∀H H' v t,aJ H H'->R H v t->R H' v t)(Src:Addr->Hp->Prop)
  (Nl:∀R:It->Hp->Prop,(∀l H,Src l H->R (NJ K l) H)->wi σ H R)(Lv:∀l H',Src l H'->H' l=some (.tup xs)/\aJ H H')(hx:xs.length<=1000)(o:cH (R H) xs ts)
  (hs:∀v t H' N,t∈ts->R H' v t->(∀La,aJ H' La->N (g t) La)->te (some v::bQ js σ) H' N)(hd:∀D H',aJ H H'->H D=none->H' D=some (.lst (ts.map g))->Q (.ref D) H'):iS wi ke te js σ H Q:=by
 refine yU Src Nl (λl H src=>(Lv l H src).1) hx (λl D i ys H'=>H D=none/\aJ H H'/\ys=(ts.take i).map g) (λl H' D src hD=>⟨(Lv l H' src).2.free hD,(Lv l H' src).2.trans (ak hD _),rfl⟩) (λl D i v ys H' hv nl el eD h N hN=>?_) (λl D ys H' el eD h=>?_)
 .obtain⟨hD,sm,rfl⟩:=h;obtain⟨t,ht,hr⟩:=o.get i v hv;refine hs v t H' N (p8 ht) (hR _ _ _ _ sm hr) λLa s2=>hN _ _ (s2 _ _ el) (s2 _ _ eD) ⟨hD,λd u z=>?_,?_⟩
  .rw[az (aE z hD)];exact s2 _ _ (sm _ _ z)
  .rw[A2,ht,l8];rfl
 .obtain⟨hD,sm,rfl⟩:=h;refine hd D H' sm hD ?_;rw[o.len,z9]at eD;exact eD
theorem w_not(u:W5):u.str≠"not":=by cases u<;>decide+kernel
noncomputable abbrev Rw:=List Key
noncomputable def fc(x:Str)(is:List Nat):Rw:=.inr x::is.map λi:Nat=>.inl (i:Int)
noncomputable def idx(rs:List Rw)(r:Rw):Option Nat:=match rs with
 | []=>none
 | x::t=>if x=r then some 0 else(idx t r).map (·+1)
noncomputable def bc(rs:List Rw)(r:Rw):List Rw×Nat:=match idx rs r with
 | some i=>(rs,i)
 | none=>(rs++[r],rs.length)
theorem RL:∀{rs:List Rw}{r:Rw}{i:Nat},idx rs r=some i->i<rs.length
 | [],_,_,h=>by cases h
 | x::t,r,i,h=>by
  unfold idx at h;split at h
  .cases h;simp
  .cases e:idx t r with
   | none=>rw[e]at h;cases h
   | some j=>rw[e]at h;cases h;have:=RL e;simp;omega
theorem AG:∀{rs:List Rw}{r:Rw}{i:Nat},idx rs r=some i->rs[i]?=some r
 | [],_,_,h=>by cases h
 | x::t,r,i,h=>by
  unfold idx at h;split at h
  .rename_i z;cases h;simp[z]
  .cases e:idx t r with
   | none=>rw[e]at h;cases h
   | some j=>rw[e]at h;cases h;have:=AG e;simpa using this
theorem yN:∀{rs:List Rw}{r:Rw},idx rs r=none->r ∉ rs
 | [],r,_=>by simp
 | x::t,r,h=>by
  unfold idx at h
  by_cases z:x=r
  .rw[d7 z]at h;cases h
  .rw[d9 z]at h;cases e:idx t r with
   | none =>
        intro m; rcases j4.mp m with m | m; · exact z m.symm
        .exact yN e m
   | some j=>rw[e]at h;cases h
theorem OQ:idx (rs++[r]) s=match idx rs s with | some i=>some i | none=>if r=s then some rs.length else none:=by
 induction rs with
 | nil =>
  show(if r=s then some 0 else(idx [] s).map (·+1))=if r=s then some 0 else none
  rfl
 | cons x t ih =>
  show(if x=s then some 0 else(idx (t++[r]) s).map (·+1))=_
  by_cases z:x=s
  .rw[d7 z];show _=match (if x=s then some 0 else(idx t s).map (·+1)) with | some i=>some i | none=>_
   rw[d7 z]
  .rw[d9 z,ih];show _=match (if x=s then some 0 else(idx t s).map (·+1)) with | some i=>some i | none=>if r=s then some (t.length+1) else none
   rw[d9 z];cases idx t s with
   | some i=>rfl
   | none =>
    show(if r=s then some t.length else none).map (·+1)=if r=s then some (t.length+1) else none
    split<;>rfl
theorem jx(rs:List Rw)(r:Rw):(bc rs r).1.length<=rs.length+1:=by
 unfold bc;cases idx rs r<;>simp
noncomputable def Tr.putR:Tr->List Rw->List Rw×Nat
 | .no t,rs=>bc (t.putR rs).1 (fc "not" [(t.putR rs).2])
 | .fold w a b,rs=>bc (b.putR (a.putR rs).1).1 (fc w.str [(a.putR rs).2,(b.putR (a.putR rs).1).2])
 | .never,rs=>bc rs (fc "never" [])
 | .always,rs=>bc rs (fc "always" [])
 | .lp,rs=>bc rs (fc "p" [])
 | .lq,rs=>bc rs (fc "q" [])
noncomputable def Tr.rows(t:Tr):List Rw:=(t.putR []).1
theorem jw:∀(t:Tr)(rs:List Rw),(t.putR rs).1.length<=rs.length+t.size
 | .no t,rs=>by
  have:=jw t rs;have:=jx (t.putR rs).1 (fc "not" [(t.putR rs).2]);simp only[Tr.putR,Tr.size];omega
 | .fold w a b,rs=>by
  have:=jw a rs;have:=jw b (a.putR rs).1;have:=jx (b.putR (a.putR rs).1).1 (fc w.str [(a.putR rs).2,(b.putR (a.putR rs).1).2]);simp only[Tr.putR,Tr.size];omega
 | .never,rs=>jx _ _
 | .always,rs=>jx _ _
 | .lp,rs=>jx _ _
 | .lq,rs=>jx _ _
noncomputable def ya(s:List Rw×List Nat)(x:Tr):Option (List Rw×List Nat):=
 if s.2.length<x.kids.length then none else
  some ((bc s.1 (fc x.word (s.2.take x.kids.length).reverse)).1,(bc s.1 (fc x.word (s.2.take x.kids.length).reverse)).2::s.2.drop x.kids.length)
noncomputable def tW:List Rw×List Nat->List Tr->Option (List Rw×List Nat)
 | s,[]=>some s
 | s,t::r=>(ya s t).bind λs'=>tW s' r
theorem lF:∀(t:Tr)(rs:List Rw)(st:List Nat)(r:List Tr),tW (rs,st) (t.post++r)=tW ((t.putR rs).1,(t.putR rs).2::st) r
 | .no t,rs,st,r=>by
  show tW (rs,st) (t.post++[.no t]++r)=_;rw[m6,lF t rs st];rfl
 | .fold w a b,rs,st,r=>by
  show tW (rs,st) (a.post++b.post++[.fold w a b]++r)=_;rw[m6,m6,lF a rs st,lF b _ _];rfl
 | .never,rs,st,r=>rfl
 | .always,rs,st,r=>rfl
 | .lp,rs,st,r=>rfl
 | .lq,rs,st,r=>rfl
theorem FU(t:Tr):tW ([],[]) t.post=some (t.rows,[(t.putR []).2]):=by
 have h:=lF t [] [] [];rw[A4]at h;rw[h];rfl
theorem Ds(h:tW s (t::r)=some Z):∃s',ya s t=some s'/\tW s' r=some Z:=by
 unfold tW at h;cases e:ya s t with
 | none=>rw[e]at h;cases h
 | some s'=>rw[e]at h;exact⟨s',rfl,h⟩
theorem FT(h:ya s x=some s'):x.kids.length<=s.2.length/\s'=((bc s.1 (fc x.word (s.2.take x.kids.length).reverse)).1,(bc s.1 (fc x.word (s.2.take x.kids.length).reverse)).2::s.2.drop x.kids.length):=by
 unfold ya at h;split at h
 .cases h
 .exact⟨by omega,(j8 h).symm⟩
theorem yY(ea:H a=some (.tup xs))(eb:H b=some (.tup ys))(nx:xs≠[])(hz:xs.length+ys.length<=sizeLine)(h:∀p H',aJ H H'->H' p=some (.tup (xs++ys))->Q (.ref p) H'):P2 K (.ref a) (.ref b) H Q:=by
 refine⟨a,b,xs,ys,rfl,rfl,K6.of ea,K6.of eb,nx,hz,λz=>?_,λ_ p hp=>h p _ (ak hp _) ae⟩;refine h a H (aJ.refl _) ?_;rw[z,A4];exact ea
abbrev Ly(H:Hp)(v:V)(r:Rw):Prop:=∃a,v=.ref a/\H a=some (.tup (r.map kV))
theorem Ly.to(e:Kp H H')(v:V)(r:Rw)(h:Ly H v r):Ly H' v r:=by
 obtain⟨a,z,o⟩:=h;exact⟨a,z,e _ _ o rfl⟩
theorem vZ(x:Str)(is:List Nat):(fc x is).map kV=V.str x::is.map λi:Nat=>V.int (i:Int):=by
 unfold fc;rw[z7,JM];rfl
def S0(K8:List (Rw×V))(rs:List Rw):Prop:=K8.length=rs.length/\∀k,fq K8 k=(idx rs k).map λi:Nat=>V.int (i:Int)
theorem S0.nil:S0 [] []:=⟨rfl,λ_=>rfl⟩
theorem S0.put(h:S0 K8 rs)(n:idx rs r=none):S0 (putK K8 r (.int (rs.length:Int))) (rs++[r]):=by
 have hv:fq K8 r=none:=by rw[h.2 r,n];rfl
 refine⟨by rw[Gi _ hv,c7,c7,h.1];rfl,λk=>?_⟩;rw[jj,OQ]
 by_cases e:k=r
 .subst e;rw[d7 rfl,n];show _=(if k=k then some rs.length else none).map _;rw[d7 rfl];rfl
 .rw[d9 e,h.2 k];cases idx rs k with
  | some i=>rfl
  | none =>
   show _=(if r=k then some rs.length else none).map _;rw[d9 λz=>e z.symm]
def qW(c:CCs):Sp:=λvs H Q _=>∃a t,vs=[.ref a]/\Ob c H a t/\t.size<=1000/\∀l us H',aJ H H'->H l=none->H' l=some (.lst us)->cH (Ly H') us t.rows->Q (.ref l) H'
end Mine
namespace L2
open PySem PySem.Spec PyProof.Rows
variable{t' kk n i:Nat}{fp:List Addr}{a I₀ b i1 i2:Addr}{X:Cx}{Lh:List Expr}{LQ p pos:Pos}{Mid:Nat->Addr->Heap->Prop}{K5:List (Addr×Obj)}{s:Shared}{H:Hp}{E:Value->Shared->Prop}{gop:Nat->Hp->Prop}{h:Heap}{its ys xs:Array Value}{T:String}{P:Program}{w:World}{e:Expr}{te:TE}{g:TG}{tb:TS}{D:Ends}{σ:St}
section
variable{X:Cx}{K5:List (Addr×Obj)}{σ:St}{H H':Hp}{s s':Shared}{h':Heap}
theorem Inv.turnedL{t':Nat}(I:Inv X K5 σ H s)(kp:∀b o,b ∉ fp->s.heap.get? b=some o->h'.get? b=some o)(hf:∀b∈fp,jE X K5 H b):Inv X K5 σ H {s with heap:=h',toks:=t' }:=by
 have far:∀b u,H b=some u->b ∉ fp:=λb u e z=>by
  have:=(hf b z).1;rw[e]at this;cases this
 refine I.step (ch:=fp) (g':=s.gens) (d':=s.drawn) (λb hb=>⟨(hf b hb).2.2.2.1,(hf b hb).2.1,(hf b hb).2.2.2.2.1,(hf b hb).2.2.2.2.2⟩) (λb o _ _ hc e _=>kp b o hc e) (λb o _ _ hc e _=>⟨o.slots,kp b o hc e⟩) (λ_ _ _ _ n=>n)
  (λb o hc e=>⟨o,kp b o hc e⟩) (λ_ _ e=>e) (λ_ _ _ e=>e) (λb ps e=>⟨#[],by rw[e];simp⟩) (λm hm=>?_) (λb u e=>?_) I.bare
 .obtain⟨o,es,ep,ho,r⟩:=hm;exact⟨o,es,ep,kp _ o (λz=>(hf _ z).2.1 rfl) ho,r⟩
 .exact(I.hok b u e).stay (λc v hc q=>kp c v (hc.elim (λz=>by rw[z];exact far b u e) λz=>far c _ z) q) (λ_ q=>q) λ_ _ q=>q
theorem Inv.trackO(I:Inv X K5 σ H s)(n:H a=none)(new:X.s₀.heap.get? a=none)(hL:a≠X.env.locals)(hc:∀x c,X.env.cells.lookup x=some c->c≠a)(hp:∀p∈X.pn++K5,p.1≠a)
  (p:cP X.prog X.w (upd H a o) s.heap a o):Inv X K5 σ (upd H a o) s:=
 ⟨I.ok,I.os,I.bare,⟨I.base.keep,I.base.slot,λb o e z hx=>by rw[az (λq=>by rw[q,new]at e;cases e)];exact I.base.free b o e z hx,I.base.there,
   λb xs e=>by have q:=I.base.tups b xs e;rw[az (aE q n)];exact q,λb o u e=>by have q:=I.base.frzs b o u e;rw[az (aE q n)];exact q,
   λb ps e=>by obtain⟨m,q⟩:=I.base.tbls b ps e;exact⟨m,by rw[az (aE q n)];exact q⟩⟩,
  I.loc,I.cell,by rw[az (G5 hL)];exact I.free,λx c e=>by rw[az (hc x c e)];exact I.freeC x c e,
  λq hq=>by obtain⟨a1,a2,a3⟩:=I.pin q hq;exact⟨a1,by rw[az (hp q hq)];exact a2,a3⟩,
  λb u e=>by
   by_cases hb:b=a
   .subst hb;rw[ae]at e;cases e
    exact p
   .rw[az hb]at e;exact(I.hok b u e).stay (λ_ _ _ z=>z) (λc z=>by rw[az (aE z n)];exact z) λc xs z=>by rw[az (aE z n)];exact z,
  I.len⟩
end
def Xp(go:Nat->Hp->Prop)(src:Nat->Hp->List V->Prop)(n:Nat->Hp->Prop):It:=
 ⟨go,λi H v H'=>∃T vs,H T=none/\v=.ref T/\H'=upd H T (.tup vs)/\src i H vs,n⟩
theorem oB{fp' wr:List Addr}{Pt:Nat->Array Value->Prop}{St:Nat->Heap->Prop}(W:WalksT X.prog X.w X.A I₀ fp' wr n Pt St Mid){σ:L2.St}{vs:List V}{src:Nat->Hp->List V->Prop}{tn:Nat->Heap->Prop}(I:Inv X K5 σ H s)(hf:∀b∈fp,jE X K5 H b)(hob:∀b∈fp,∃o,s.heap.get? b=some o)(hw:∀b∈wr,b∈fp)(hi:i<n)(st:St i s.heap)
  (hv:∀Lu,Pt i Lu->Vals vs Lu.toList)(hz:vs.length<=sizeLine)(Lv:src i H vs)(htn:∀h,St (i+1) h->tn (i+1) h){stp:Nat->Hp->Prop} :
  wpAny (model X.prog X.w) X.A (pyNext (.ref I₀)) (λr s1=>∃u,r=some u/\
   wpAny (model X.prog X.w) X.A (letOwnedTupleGo (.Tuple Lh kk LQ) (.ref I₀) u) (λ_ s2=>∃x H',Inv X K5 σ H' s2/\RelV x u/\(Xp gop src stp).yld i H x H'/\tn (i+1) s2.heap/\∀b∈fp,H' b=none) E s1) E s:=by
 refine W.item i s _ _ hi st λT Lu h1 tk hP hT Y4 hM kp=>?_;refine⟨.ref T,rfl,W.go Lh kk LQ i T {s with heap:=h1,toks:=tk} _ _ hM λh2 RP kp2=>?_⟩
 have I1:Inv X K5 σ H {s with heap:=h2,toks:=tk}:=I.turnedL (λb o hb e=>kp2 b o (λz=>hb (hw b z)) (kp b o (λz=>hb (hw b z)) e)) hf
 have nT:H T=none:=I.hok.fresh hT
 have tup:h2.IsTuple T Lu:=by
  obtain⟨o,e,r⟩:=Y4;exact⟨o,kp2 T o (W.apart i T h1 hM) e,r⟩
 have new:X.s₀.heap.get? T=none:=by
  cases z:X.s₀.heap.get? T with
  | none=>rfl
  | some o=>exact absurd (i5 (l6 z) (l7 I.sz hT)) (B2 _)
 refine⟨.ref T,upd H T (.tup vs),I1.trackO nT new (JI (i5 I.lt hT)) (λx c e z=>?_) (λp hp z=>?_) ⟨hz,Lu.toList,hv Lu hP,(by rw[Array.toArray_toList];exact tup)⟩,rfl,⟨T,vs,nT,rfl,rfl,Lv⟩,htn _ RP,λb hb=>?_⟩
 .obtain⟨v,o,ho,_⟩:=I.cell x c e;exact absurd (i5 (l6 ho) (by rw[z];exact hT)) (B2 _)
 .exact absurd (i5 (l6 (I.pin p hp).1) (by rw[z];exact hT)) (B2 _)
 .have e0:=(hf b hb).1;obtain⟨o,ho⟩:=hob b hb;have bT:b≠T:=λz=>absurd (i5 (l6 ho) (by rw[z];exact hT)) (B2 _);rw[az bT];exact e0
def Uj(K:W.Frag)(a:Addr):Nat->Hp->List V->Prop:=λi H vs=>∃x,vs=[.int i,x]/\∀xs,K7 K H a xs->xs[i]?=some x
def TR(K:W.Frag)(a:Addr):It:=Xp (λi H=>∃xs x,K7 K H a xs/\xs[i]?=some x) (Uj K a) λi H=>∃xs,K7 K H a xs/\xs.length<=i
theorem dR{o:Obj}(l:h.IsList a its)(e:h.get? b=some o)(c:o.cls=.type T)(n:T≠"list"):a≠b:=λz=>by
 obtain⟨o',e',c',_⟩:=l;rw[z,e]at e';cases e'
 rw[c]at c';exact n (Value.type.inj c')
theorem Dc{w:World}{K:W.Frag}(a e it:Addr)(hei:e≠it) :
  Turn P w K (.Tuple Lh kk LQ) (TR K a) [e,it] e (λi h=>(∃old,IsEnum h e it i old)/\h.IsListIter it a i) where
 mem:=by simp
 obj:=λi h st b hb=>by
  obtain⟨⟨old,he⟩,o,ho,_,hd⟩:=st;rcases j4.mp hb with rfl | hb
  .exact⟨_,he,λv z=>by cases z⟩
  .rw[c9.mp hb];exact⟨o,ho,λv z=>by rw[hd]at z;cases z⟩
 keep:=λi h h' st k=>by
  obtain⟨⟨old,he⟩,l⟩:=st;exact⟨⟨old,k e (by simp) _ he⟩,l.at λo z=>k it (by simp) o z⟩
 item:=by
  intro X hP hw hK hc i K5 s σ H E I hf st hg;subst hP hw hK;obtain⟨xs,x,hq,hx⟩:=hg;obtain⟨its,rv,p,hz⟩:=I.list hq;obtain⟨u,hu,ru⟩:=rv.get hx;obtain⟨⟨old,he⟩,hit⟩:=st;have hL:=p.isList;have ne1:a≠e:=dR hL he rfl (by decide)
  have ne2:a≠it:=by
   obtain⟨o,ho,L6,_⟩:=id hit;exact dR hL ho L6 (by decide)
  have W:=WalksT.enumerateD (A:=X.A) (Draws.list (prog:=X.prog) (w:=X.w) (A:=X.A.in1) (I.ok.hd hc) it a ne2 its.toArray) e hei (by simp;exact⟨hei,G5 ne1⟩) (by simp);refine oB (fp:=[e,it]) (vs:=[.int i,x]) (src:=Uj X.K a) (tn:=λi h=>(∃old,IsEnum h e it i old)/\h.IsListIter it a i) W I hf (λb hb=>?_) (λb hb=>hb) (by have:=(d6.mp hu).1;simpa using this) ⟨⟨old,he⟩,hit,hL⟩ (λLu hP=>?_) (by show 2<=sizeLine;decide) ⟨x,rfl,λys hy=>by rw[I.list_inj hy hq];exact hx⟩ λh st=>⟨?_,st.2.1⟩
  .rcases j4.mp hb with rfl | hb
   .exact⟨_,he⟩
   .rw[c9.mp hb];obtain⟨o,ho,_⟩:=id hit;exact⟨o,ho⟩
  .obtain⟨t,y,hy,rfl⟩:=hP
   have ey:y=u:=by
    have:its[i]?=some y:=by simpa using hy
    rw[hu]at this;exact(j8 this).symm
   subst ey;exact .cons ⟨t,rfl⟩ (.cons ru .nil)
  .obtain⟨Ya,z⟩:=st.1;exact⟨Ya,z⟩
 done:=by
  intro X hP hw hK hc i K5 s σ H E I hf st hg;subst hP hw hK;obtain⟨xs,hq,hx⟩:=hg;obtain⟨its,rv,p,hz⟩:=I.list hq;obtain⟨⟨old,he⟩,hit⟩:=st;have hl:=rv.length;obtain⟨f0,f1,f2,f3,f4,f5⟩:=hf it (by simp);exact wpAny_pyNext_enum_end (I.ok.hd hc) he hit p.isList (by simp;omega) λh' eb=>⟨rfl,I.turned (t':=s.toks) (λb o hb e=>eb b o hb e) f0 f1 f3 f4 f5⟩
 self:=λ_ _ _ _ _ st h=>by
  obtain⟨⟨old,he⟩,_⟩:=st;exact wpAny_pyIter_enum he h
section
variable{X:Cx}
def U6(K:W.Frag)(tl:TE):TI:=λσ H R=>tl σ H λx H1=>∃a,x=.ref a/\(∃xs,K7 K H1 a xs)/\R (TR K a) H1
theorem wo(hg:Gl X "enumerate")(hm:X.mg "enumerate"=none)(he:PE X e te)
  (hs:starEach [e] X.env=[(false,eval e X.env)]:=by rfl):PI X (.Tuple Lh kk LQ) (.Call (.Name "enumerate" p) [e] [] pos) (U6 X.K te):=by
 intro K5 s σ H R I h;have b1:bootBuiltins "enumerate"=some (.type "enumerate"):=by decide+kernel
 refine D0 (kT I hg hm b1 ?_ (by decide) (by decide));refine C8 ?_ hs (by rfl);rw[hs];refine IY (Lb (he K5 s σ H _ I h) λu s1 zz=>?_);obtain⟨y,H1,I1,ry,a,ey,⟨xs,hq⟩,q⟩:=zz;subst ey;have eu:u=Value.ref a:=ry;subst eu;refine JJ ?_;obtain⟨its,rv,pl,hz⟩:=I1.list hq;refine call_enumerate_list pl.isList λh' e1 e2 e3 kp=>?_;have I2:Inv X K5 σ H1 {s1 with heap:=h' }:=I1.kept (t':=s1.toks) kp
 refine wpAny_pyIter_enum (s:={s1 with heap:=h' }) e1 ?_
 refine⟨_,[s1.heap.objs.size+1,s1.heap.objs.size],_,TR X.K a,H1,rfl,I2,Dc a _ _ (JI (IV _)),⟨⟨_,e1⟩,e2⟩,λb hb=>?_,q⟩
 have nb:s1.heap.objs.size<=b:=by
  rcases j4.mp hb with rfl | hb
  .exact K1 _
  .rw[c9.mp hb];exact c5 _
 exact I1.fpOk nb (I1.hok.fresh nb)
end
theorem sS{K:W.Frag}{xs:List V}(Pv:Nat->St->Hp->Prop)(h0:Pv 0 σ H)(hl:∀i σ H,i<=xs.length->Pv i σ H->K7 K H a xs)
  (hs:∀i x T σ H,xs[i]?=some x->Pv i σ H->H T=none->g (.ref T) σ (upd H T (.tup [.int i,x])) λσ2 H2=>tb {D with nx:=Pv (i+1),ct:=Pv (i+1),bk:=D.nx} σ2 H2)(hd:∀σ H,Pv xs.length σ H->D.nx σ H) :
  ∃W:Nat->Nat->St->Hp->Prop,(∃m,W 0 m σ H)/\∀i m σ H,W i m σ H->
   ((TR K a).stop i H/\D.nx σ H)\/((TR K a).go i H/\∃N:St->Hp->Prop,(∀σ' H',N σ' H'->∃m',m'<m/\W (i+1) m' σ' H')/\∀x H',(TR K a).yld i H x H'->g x σ H' λσ2 H2=>tb {D with nx:=N,ct:=N,bk:=D.nx} σ2 H2):=by
 refine⟨λi m σ H=>m=xs.length-i/\i<=xs.length/\Pv i σ H,⟨xs.length,by simp,x4 _,h0⟩,?_⟩;rintro i m σ H ⟨rfl,hi,p⟩
 have q:=hl i σ H hi p
 by_cases Le:i<xs.length
 .refine .inr ⟨⟨xs,xs[i],q,by simp[Le]⟩,Pv (i+1),λσ' H' p'=>⟨xs.length-(i+1),by omega,rfl,Le,p'⟩,λx H' y=>?_⟩;obtain⟨T,vs,nT,rfl,rfl,x,rfl,hx⟩:=y;exact hs i x T σ H (hx xs q) p nT
 .have e:i=xs.length:=by omega
  subst e;exact .inl ⟨⟨xs,q,c5 _⟩,hd σ H p⟩
open PySem.AutoSeq1
noncomputable abbrev zG (t:Addr):Obj:={cls:=.type "tuple_iterator",data:=.fields #[.ref t,.int 0 0] }
section
variable{prog:Program}{w:World}{A:Around}{E:Value->Shared->Prop}{s:Shared}
theorem sF{x:Value}(st:s.heap.IsTupleIter it t i)(tp:s.heap.IsTuple t ys)(e:ys[i]?=some x)
  (k:∀h',h'.IsTupleIter it t (i+1)->Heap.SameBut it s.heap h'->Q x {s with heap:=h' }):wpAny (model prog w) A (Builtin.SmallTypes.nextOf (.ref it)) Q E s:=by
 obtain⟨ob,gb,cb,db⟩:=id st;obtain⟨ot,gt,_,nt,dt⟩:=tp;unfold Builtin.SmallTypes.nextOf;refine b6 (C9 (name:=Str.ofString "__next__") st.typeIs IZ (IW IZ st.typeIs F.entry_tuple_iterator_next ?_ (F.args_tuple_iterator_next_1 _)));show wpAny _ _ (field (.ref it) 0 >>= _) _ _ s;refine b6 (E2 gb db (x:=.ref t) rfl ?_);show wpAny _ _ (if(Value.ref t==Value.none)=true then _ else _) _ _ s;rw[d9 (show ¬((Value.ref t==Value.none)=true) from k8)];show wpAny _ _ (field (.ref it) 1 >>= _) _ _ s;refine b6 (E2 gb db (x:=.int i 0) rfl ?_);show wpAny _ _ (seqItems? (.ref t) >>= _) _ _ s;refine b6 (Jh gt dt ?_);simp only[Kx,e];refine b6 (wpAny_setField gb db (by simp) (n9 ⟨x,rfl,n9 (k _ ?_ (Heap.SameBut.update ..))⟩));exact⟨_,Heap.get?_update_self _ gb (Obj.isFreed_of_fields (Obj.data_mapFields db _)),(Obj.cls_mapFields ..).trans cb,by rw[Obj.data_mapFields db];simp[rawInt]⟩
theorem tY(hd:A.handled=none)(st:s.heap.IsTupleIter it t i)(tp:s.heap.IsTuple t ys)(e:ys[i]?=none)
  (k:∀h' x,Heap.ExtBut it s.heap h'->(∃o,h'.get? x=some o/\o.cls=.type "StopIteration")->E (.ref x) {s with heap:=h' }):wpAny (model prog w) A (Builtin.SmallTypes.nextOf (.ref it)) Q E s:=by
 obtain⟨ob,gb,cb,db⟩:=id st;obtain⟨ot,gt,_,nt,dt⟩:=tp;unfold Builtin.SmallTypes.nextOf;refine b6 (C9 (name:=Str.ofString "__next__") st.typeIs IZ (IW IZ st.typeIs F.entry_tuple_iterator_next ?_ (F.args_tuple_iterator_next_1 _)));show wpAny _ _ (field (.ref it) 0 >>= _) _ _ s;refine b6 (E2 gb db (x:=.ref t) rfl ?_);show wpAny _ _ (if(Value.ref t==Value.none)=true then _ else _) _ _ s;rw[d9 (show ¬((Value.ref t==Value.none)=true) from k8)];show wpAny _ _ (field (.ref it) 1 >>= _) _ _ s;refine b6 (E2 gb db (x:=.int i 0) rfl ?_);show wpAny _ _ (seqItems? (.ref t) >>= _) _ _ s;refine b6 (Jh gt dt ?_);simp only[Kx,e];refine b6 (wpAny_rule (b6 (wpAny_setField gb db (by simp) ?_)));show wpAny _ _ (newExc (.type "StopIteration") [] >>= _) _ _ _;refine b6 ?_;simp only[newExc,newTuple];refine b6 (F5 ?_ (by size_fits));refine b6 (m:=firstArgMember _ _) (wpAny_of_eq (a:=Value.none) (by first | rfl | (simp only[firstArgMember];rfl)) ?_);refine F5 ?_ (by size_fits);simp only[raiseNew];refine b6 (wpAny_handled ?_);first | rw[show A.in1.handled=none from hd] | rw[hd]
 refine b6 (n9 (wpAny_throw ?_));exact k _ _ (((Heap.SameBut.update ..).extBut.push _).push _) ⟨_,r8 _ rfl,rfl⟩
end
section
variable{X:Cx}
end
def Ui(K:W.Frag)(a b:Addr):Nat->Hp->List V->Prop:=λi H vs=>∃x y,vs=[x,y]/\(∀xs,K7 K H a xs->xs[i]?=some x)/\∀ys,K7 K H b ys->ys[i]?=some y
def Xo(K:W.Frag)(a b:Addr):It:=Xp (λi H=>∃xs ys x y,K7 K H a xs/\K7 K H b ys/\xs[i]?=some x/\ys[i]?=some y) (Ui K a b) λi H=>∃xs ys,K7 K H a xs/\K7 K H b ys/\(xs.length<=i\/ys.length<=i)
structure Pj(z TI TO i1 i2:Addr):Prop where
 a1:TI≠z
 a2:TO≠z
 a3:i1≠z
 a4:i2≠z
 a5:TI≠TO
 a6:TI≠i1
 a7:TI≠i2
 a8:TO≠i1
 a9:TO≠i2
 a10:i1≠i2
def WA(a b z TI TO i1 i2:Addr)(i:Nat)(h:Heap):Prop:=IsZip h z TI TO .none/\IsPair h TI (.ref i1) (.ref i2)/\(∃u v,IsPair h TO u v)/\h.IsListIter i1 a i/\h.IsListIter i2 b i
theorem ET{z TI TO:Addr}(o:Pj z TI TO i1 i2)(st:WA a b z TI TO i1 i2 i h)(la:h.IsList a xs)(lb:h.IsList b ys):ZipApart z TI TO i1 i2 a b:=by
 obtain⟨hz,Qh,⟨u,v,NR⟩,h1,h2⟩:=st;obtain⟨o1,g1,c1,_⟩:=h1;obtain⟨o2,g2,c2,_⟩:=h2;refine⟨o.a1,o.a2,o.a3,o.a4,o.a5,o.a6,o.a7,o.a8,o.a9,o.a10,?_,?_,?_,?_,?_,?_,?_,?_⟩
 all_goals first
  | exact dR la hz rfl (by decide)
  | exact dR la NR rfl (by decide)
  | exact dR la g1 c1 (by decide)
  | exact dR la g2 c2 (by decide)
  | exact dR lb hz rfl (by decide)
  | exact dR lb NR rfl (by decide)
  | exact dR lb g1 c1 (by decide)
  | exact dR lb g2 c2 (by decide)
theorem TU{z TI TO:Addr}(st:WA a b z TI TO i1 i2 i h):∀c∈[z,TI,TO,i1,i2],∃o,h.get? c=some o/\∀v,o.data≠.cell v:=by
 intro c hc;obtain⟨hz,Qh,⟨u,v,NR⟩,⟨o1,g1,_,d1⟩,⟨o2,g2,_,d2⟩⟩:=st;simp only[j4,A3,G4]at hc;rcases hc with rfl | rfl | rfl | rfl | rfl
 .exact⟨_,hz,λv z=>by cases z⟩
 .exact⟨_,Qh,λv z=>by cases z⟩
 .exact⟨_,NR,λv z=>by cases z⟩
 .exact⟨_,g1,λv z=>by rw[d1]at z;cases z⟩
 .exact⟨_,g2,λv z=>by rw[d2]at z;cases z⟩
theorem EY{w:World}{K:W.Frag}(a b z TI TO i1 i2:Addr)(own:Pj z TI TO i1 i2) :
  Turn P w K (.Tuple Lh kk LQ) (Xo K a b) [z,TI,TO,i1,i2] z (WA a b z TI TO i1 i2) where
 mem:=by simp
 obj:=λi h st c hc=>TU st c hc
 keep:=λi h h' st k=>by
  obtain⟨hz,Qh,⟨u,v,NR⟩,l1,l2⟩:=st;exact⟨k z (by simp) _ hz,k TI (by simp) _ Qh,⟨u,v,k TO (by simp) _ NR⟩,l1.at λo q=>k i1 (by simp) o q,l2.at λo q=>k i2 (by simp) o q⟩
 item:=by
  intro X hP hw hK hc i K5 s σ H E I hf st hg;subst hP hw hK;obtain⟨xs,ys,x,y,hq,LX,hx,hy⟩:=hg;obtain⟨its,rv,p,hz⟩:=I.list hq;obtain⟨Lj,NN,p2,Tp⟩:=I.list LX;obtain⟨u,hu,ru⟩:=rv.get hx;obtain⟨u2,WT,XR⟩:=NN.get hy;have D:=ET own st p.isList p2.isList;have W:=WalksT.zip2 (prog:=X.prog) (w:=X.w) (A:=X.A) (I.ok.hd hc) z TI TO i1 i2 a b D its.toArray Lj.toArray;have l1:=(d6.mp hu).1;have l2:=(d6.mp WT).1;obtain⟨s1,s2,s3,s4,s5⟩:=id st
  refine oB (fp:=[z,TI,TO,i1,i2]) (vs:=[x,y]) (src:=Ui X.K a b) (tn:=WA a b z TI TO i1 i2) W I hf (λc hc=>let ⟨o,q,_⟩:=TU st c hc;⟨o,q⟩) (λc hc=>?_) (by simp only[j7];omega) ⟨s1,s2,s3,s4,s5,p.isList,p2.isList⟩ (λLu hP=>?_) (by show 2<=sizeLine;decide)
   ⟨x,y,rfl,λzs RM=>by rw[I.list_inj RM hq];exact hx,λzs RM=>by rw[I.list_inj RM LX];exact hy⟩ λh st=>⟨st.1,st.2.1,st.2.2.1,st.2.2.2.1,st.2.2.2.2.1⟩
  .simp only[j4,A3,G4]at hc ⊢;rcases hc with q | q | q | q<;>simp[q]
  .obtain⟨v1,v2,e1,e2,rfl⟩:=hP
   have f1:v1=u:=by
    have q:its[i]?=some v1:=by simpa using e1
    rw[hu]at q;exact(j8 q).symm
   have f2:v2=u2:=by
    have q:Lj[i]?=some v2:=by simpa using e2
    rw[WT]at q;exact(j8 q).symm
   subst f1 f2;exact .cons ru (.cons XR .nil)
 done:=by
  intro X hP hw hK hc i K5 s σ H E I hf st hg;subst hP hw hK;obtain⟨xs,ys,hq,LX,Vi⟩:=hg;obtain⟨its,rv,p,hz⟩:=I.list hq;obtain⟨Lj,NN,p2,Tp⟩:=I.list LX;have D:=ET own st p.isList p2.isList;obtain⟨s1,s2,⟨u,v,s3⟩,s4,s5⟩:=id st;have e1:=rv.length;have e2:=NN.length
  refine wpAny_pyNext_zip_end (I.ok.hd hc) D s1 s2 s3 s4 s5 p.isList p2.isList (by
   rcases Vi with q | q
   .exact .inl (by simp;omega)
   .exact .inr (by simp;omega)) λh' kp=>⟨rfl,I.turnedL (t':=s.toks) (λc o hc q=>kp c o (λe=>hc (by simp[e])) (λe=>hc (by simp[e])) (λe=>hc (by simp[e])) (λe=>hc (by simp[e])) q) hf⟩
 self:=λ_ _ _ _ _ st h=>Jy st.1 h
section
variable{X:Cx}
def Yu(K:W.Frag)(ta tb:TE):TI:=λσ H R=>ta σ H λx H1=>tb σ H1 λy H2=>∃a b,x=.ref a/\y=.ref b/\(∃xs,K7 K H2 a xs)/\(∃ys,K7 K H2 b ys)/\R (Xo K a b) H2
theorem Ri{f:Expr}{tf:TE}(hg:Gl X "zip")(hm:X.mg "zip"=none)(he:PE X e te)(hf:PE X f tf)
  (hs:starEach [e,f] X.env=[(false,eval e X.env),(false,eval f X.env)]:=by rfl)(Nn:starEach [f] X.env=[(false,eval f X.env)]:=by rfl):PI X (.Tuple Lh kk LQ) (.Call (.Name "zip" p) [e,f] [] pos) (Yu X.K te tf):=by
 intro K5 s σ H R I h;have b1:bootBuiltins "zip"=some (.type "zip"):=by decide+kernel
 refine D0 (kT I hg hm b1 ?_ (by decide) (by decide));refine C8 ?_ (by rw[hs,Nn]) (by rw[Nn];rfl);rw[hs];refine IY (Lb (he K5 s σ H _ I h) λu s1 zz=>?_);obtain⟨x,H1,I1,rx,q1⟩:=zz;refine IY (Lb (hf K5 s1 σ H1 _ I1 q1) λu2 s2 zz=>?_);obtain⟨y,H2,I2,ry,a,b,ex,ey,⟨xs,hq⟩,⟨ys,LX⟩,q⟩:=zz;subst ex ey;have eu:u=Value.ref a:=rx;have Zi:u2=Value.ref b:=ry;subst eu Zi;refine JJ ?_;obtain⟨its,rv,pl,hz⟩:=I2.list hq;obtain⟨Lj,NN,X8,Tp⟩:=I2.list LX;refine call_zip_2 pl.isList X8.isList λh' z TI TO i1 i2 sz kp=>?_;have I3:Inv X K5 σ H2 {s2 with heap:=h' }:=I2.kept (t':=s2.toks) kp
 refine Jy (s:={s2 with heap:=h' }) z ?_
 have ne:∀i j:Nat,i≠j->s2.heap.objs.size+i≠s2.heap.objs.size+j:=λi j WY e=>WY (Nat.add_left_cancel e)
 refine⟨_,[s2.heap.objs.size+4,s2.heap.objs.size+2,s2.heap.objs.size+3,s2.heap.objs.size,s2.heap.objs.size+1],_,Xo X.K a b,H2,rfl,I3,
  EY a b _ _ _ _ _ ⟨ne 2 4 (by decide),ne 3 4 (by decide),ne 0 4 (by decide),ne 1 4 (by decide),ne 2 3 (by decide),ne 2 0 (by decide),ne 2 1 (by decide),ne 3 0 (by decide),ne 3 1 (by decide),ne 0 1 (by decide)⟩,
  ⟨z,TI,⟨_,_,TO⟩,i1,i2⟩,λc hc=>?_,q⟩
 have nb:s2.heap.objs.size<=c:=by
  simp only[j4,A3,G4]at hc;rcases hc with rfl | rfl | rfl | rfl | rfl
  .exact D9 _ _
  .exact D9 _ _
  .exact D9 _ _
  .exact c5 _
  .exact D9 _ _
 exact I2.fpOk nb (I2.hok.fresh nb)
end
section
variable{X:Cx}
end
section
variable{X:Cx}
def UC(K:W.Frag)(no:Bool):R2:=λx y H Q=>∃d ds a ys,Bl K H d x/\y=.ref a/\K7 K H a ys/\DatAll K H ds ys/\PyData.canLayAll0 ds=true/\d.canLay0=true/\PyData.depthAll ds<=60/\Q (.bl (Bool.xor no (ds.any λe=>PyData.eqv e d))) H
theorem X9(hu:X.A.units+64<cLine):Lm X (compareOp .In) (UC X.K false):=by
 intro K5 s σ H x y u v Q I rx ry h;obtain⟨d,ds,a,ys,hx,rfl,hl,hd,c1,c2,c3,q⟩:=h;obtain⟨bs,r1⟩:=hx.reads I rx;obtain⟨as,r2⟩:=Bl.reads I (d:=.list ds) (v:=.ref a) (.inr ⟨ds,a,ys,rfl,rfl,hl,hd⟩) ry;refine PySem.SeqAt.in_list_reads r2 r1 c1 c2 (by have:=K0 (PyData.depthAll ds) d.depth;omega) ⟨_,H,I,?_,q⟩;exact x9 Value.bool (Bool.false_xor _).symm
theorem Dw(hu:X.A.units+64<cLine):Lm X (compareOp .NotIn) (UC X.K true):=by
 intro K5 s σ H x y u v Q I rx ry h;obtain⟨d,ds,a,ys,hx,rfl,hl,hd,c1,c2,c3,q⟩:=h;obtain⟨bs,r1⟩:=hx.reads I rx;obtain⟨as,r2⟩:=Bl.reads I (d:=.list ds) (v:=.ref a) (.inr ⟨ds,a,ys,rfl,rfl,hl,hd⟩) ry;refine PySem.SeqAt.notIn_list_reads r2 r1 c1 c2 (by have:=K0 (PyData.depthAll ds) d.depth;omega) ⟨_,H,I,?_,q⟩;exact x9 Value.bool (Bool.true_xor _).symm
end
section
variable{X:Cx}
def BX(K:W.Frag):V->List V->Hp->VK->Prop:=λx vs H Q=>∃(l:Addr)(ys:List V)(y:V)(ds:List PyData)(d:PyData)(j:Nat)(e0:PyData),x=.ref l/\vs=[y]/\H l=some (.lst ys)/\DatAll K H ds ys/\Dat K H d y/\PyData.canLayAll0 ds=true/\d.canLay0=true/\PyData.depthAll ds<=60/\
 ds[j]?=some e0/\PyData.eqv e0 d=true/\(∀m e,m<j->ds[m]?=some e->PyData.eqv e d=false)/\Q (.int (j:Int)) H
theorem DZ(hu:X.A.units+64<cLine):TN X "list.index" (BX X.K):=by
 intro K5 s σ H x vs v us Q I rx rv h;obtain⟨l,ys,y,ds,d,j,e0,rfl,rfl,hH,RY,hd,c1,c2,c3,hj,hit,YO,q⟩:=h;cases rx
 obtain⟨u,rfl,ru⟩:=vals1 rv;obtain⟨z,its,n,r,hl,e⟩:=I.lstM hH;obtain⟨as,ra⟩:=DatAll.reads I ds RY r;obtain⟨bs,rd⟩:=Dat.reads I d hd ru;have Vf:=PySem.SeqAt.readsAll_map ds its as c1 ra;have hlen:its.length=ds.length:=by rw[<- Vf,i7]
 have hjl:j<ds.length:=(d6.mp hj).1
 have at_:∀m (hm:m<its.length),ds[m]?=some (PySem.SeqAt.readOf s.heap its[m]):=λm hm=>by
  rw[<- Vf,w6,c6 hm];rfl
 refine Kd F.slot_list_index ⟨_,e,rfl⟩ F.entry_list_index (F.args_list_index_2 _ _)
  (PySem.SeqAt.list_indexAt l its.toArray n _ _ u (λy=>PyData.eqv (PySem.SeqAt.readOf s.heap y) d) j (by rw[j7];omega) ?_ ?_ ?_) ⟨e,PySem.SeqAt.items_eqAt (as:=as) (by simpa using ra) rd c1 c2 (by have:=K0 (PyData.depthAll ds) d.depth;omega),⟨.int (j:Int),H,I.tok _,⟨_,rfl⟩,q⟩⟩
 .have:its.length<=sizeLine:=by omega
  have:sizeLine<2^62:=by decide
  omega
 .have h1:=at_ j (by omega);rw[hj]at h1;show PyData.eqv (PySem.SeqAt.readOf s.heap its[j]) d=true;rw[<- j8 h1];exact hit
 .intro m hm Le;have RW:m<its.length:=by simpa using hm
  exact YO m _ Le (at_ m RW)
end
end L2
namespace Mine
open PySem L2
variable{i:Nat}{e:List Tr}{g:Gr}{gs:List Gr}
noncomputable def kD:Key->PyData
 | .inl i=>.int i
 | .inr x=>.str x
noncomputable def L0(r:Rw):PyData:=.tuple (r.map kD)
theorem RH(a b:Key):PyData.eqv (kD a) (kD b)=decide (a=b):=by
 cases a<;>cases b<;>simp[kD,PyData.eqv]<;>(rw[JE];simp)
theorem vX(a b:Rw):PyData.eqv (L0 a) (L0 b)=decide (a=b):=by
 simp only[L0,PyData.eqv];exact Cz RH a b
theorem RI(k:Key):Dat K H (kD k) (kV k):=by cases k<;>rfl
theorem Hv:∀r:Rw,DatAll K H (r.map kD) (r.map kV)
 | []=>rfl
 | k::r=>⟨_,_,rfl,RI k,Hv r⟩
theorem Ly.dat(h:Ly H v r):Dat K H (L0 r) v:=by
 obtain⟨a,rfl,e⟩:=h;exact⟨a,_,rfl,K6.of e,Hv r⟩
theorem Ly.all(h:cH (Ly H) vs rs):DatAll K H (rs.map L0) vs:=by
 induction h with
 | nil=>rfl
 | cons r _ ih=>exact⟨_,_,rfl,r.dat,ih⟩
def KOk:Key->Prop
 | .inl _=>True
 | .inr x=>PyData.strOk x=true
def pK(r:Rw):Prop:=∀k∈r,KOk k
theorem RG(h:KOk k):(kD k).canLay0=true:=by
 cases k with
 | inl _=>rfl
 | inr x=>simp only[kD,PyData.canLay0];exact h
theorem Ct:∀{r:Rw},pK r->PyData.canLayAll0 (r.map kD)=true
 | [],_=>rfl
 | k::r,h=>by simp[PyData.canLayAll0,RG (h k (by simp)),Ct (r:=r) λx hx=>h x (x6 _ hx)]
theorem jN(h:PyData.strOk x=true):pK (fc x is):=λk hk=>by
 rcases j4.mp hk with rfl | hk
 .exact h
 .obtain⟨i,_,rfl⟩:=x8.mp hk;exact True.intro
theorem jP(h:∀x∈rs,pK x)(hr:pK r):∀x∈(bc rs r).1,pK x:=by
 unfold bc;cases idx rs r with
 | some i=>exact h
 | none =>
  intro x hx;rcases j6.mp hx with hx | hx
  .exact h x hx
  .rw[c9.mp hx];exact hr
theorem Py(w:W5):PyData.strOk w.str=true:=by cases w<;>decide+kernel
theorem N0(t:Tr):PyData.strOk t.word=true:=by
 cases t with
 | fold w a b=>exact Py w
 | never=>show PyData.strOk "never"=true;decide+kernel
 | always=>show PyData.strOk "always"=true;decide+kernel
 | lp=>show PyData.strOk "p"=true;decide+kernel
 | lq=>show PyData.strOk "q"=true;decide+kernel
 | no t=>show PyData.strOk "not"=true;decide+kernel
theorem qE:∀(t:Tr)(rs:List Rw),(∀x∈rs,pK x)->∀x∈(t.putR rs).1,pK x
 | .no t,rs,h=>jP (qE t rs h) (jN (by decide+kernel))
 | .fold w a b,rs,h=>jP (qE b _ (qE a rs h)) (jN (Py w))
 | .never,rs,h=>jP h (jN (by decide+kernel))
 | .always,rs,h=>jP h (jN (by decide+kernel))
 | .lp,rs,h=>jP h (jN (by decide+kernel))
 | .lq,rs,h=>jP h (jN (by decide+kernel))
theorem vh:∀r:Rw,PyData.depthAll (r.map kD)=0
 | []=>rfl
 | k::r=>by
  rw[z7];show max (kD k).depth (PyData.depthAll (r.map kD))=0;rw[vh r];cases k<;>rfl
theorem zZ(h:pK r):(L0 r).canLay0=true:=by simp only[L0,PyData.canLay0];exact Ct h
theorem vW:∀{rs:List Rw},(∀x∈rs,pK x)->PyData.canLayAll0 (rs.map L0)=true
 | [],_=>rfl
 | r::rs,h=>by simp[PyData.canLayAll0,zZ (h r (by simp)),vW (rs:=rs) λx hx=>h x (x6 _ hx)]
theorem FN(r:Rw):(L0 r).depth<=1:=by
 show PyData.depthAll (r.map kD)+1<=1;rw[vh];exact c5 _
theorem oY:∀rs:List Rw,PyData.depthAll (rs.map L0)<=1
 | []=>x4 _
 | r::rs=>by
  rw[z7];show max (L0 r).depth (PyData.depthAll (rs.map L0))<=1;exact Nat.max_le.mpr ⟨FN r,oY rs⟩
theorem Of(rs:List Rw)(r:Rw):((rs.map L0).any λy=>PyData.eqv y (L0 r))=(idx rs r).isSome:=by
 induction rs with
 | nil=>rfl
 | cons x t ih =>
  rw[z7,JB,ih,vX];show _=(if x=r then some 0 else(idx t r).map (·+1)).isSome
  by_cases z:x=r
  .rw[d7 z,e9 z];rfl
  .rw[d9 z,B7 z];cases idx t r<;>rfl
theorem vj:∀{rs:List Rw}{r:Rw}{i:Nat},idx rs r=some i->∀m x,m<i->rs[m]?=some x->x≠r
 | [],_,_,h=>by cases h
 | y::t,r,i,h=>by
  intro m x hm hx;unfold idx at h;split at h
  .cases h;omega
  .rename_i z;cases e:idx t r with
   | none=>rw[e]at h;cases h
   | some j =>
    rw[e]at h;have h':j+1=i:=j8 h;subst h';cases m with
    | zero=>cases hx;exact z
    | succ m=>exact vj e m x (by omega) hx
inductive Gr where
 | ne | al | p | q
 | no (i:Nat)
 | fold (u:W5) (i j:Nat)
noncomputable def Gr.word:Gr->Str
 | .ne=>"never" | .al=>"always" | .p=>"p" | .q=>"q" | .no _=>"not" | .fold u _ _=>u.str
noncomputable def Gr.nums:Gr->List Nat
 | .no i=>[i]
 | .fold _ i j=>[i,j]
 | _=>[]
noncomputable def Gr.rw(g:Gr):Rw:=fc g.word g.nums
def S7(k:Nat)(g:Gr):Prop:=∀i∈g.nums,i<k
def Wo(gs:List Gr):Prop:=∀k g,gs[k]?=some g->S7 k g
def MZ(ts:List Tr):Gr->Tr->Prop
 | .ne,.never=>True
 | .al,.always=>True
 | .p,.lp=>True
 | .q,.lq=>True
 | .no i,.no t=>ts[i]?=some t
 | .fold u i j,.fold v a b=>u=v/\ts[i]?=some a/\ts[j]?=some b
 | _,_=>False
theorem oi{α:Type}{ts e:List α}{t:α}(h:ts[i]?=some t):(ts++e)[i]?=some t:=by
 rw[B0 (d6.mp h).1];exact h
theorem MZ.more{ts:List Tr}{t:Tr}(h:MZ ts g t):MZ (ts++e) g t:=by
 cases g<;>cases t<;>first | exact h | exact oi h | exact⟨h.1,oi h.2.1,oi h.2.2⟩
theorem oI{α:Type}{o:Option α}{a b:α}(h:o=some a)(k:o=some b):a=b:=by rw[h]at k;exact j8 k
theorem MZ.uniq{ts:List Tr}{t t':Tr}(h:MZ ts g t)(k:MZ ts g t'):t=t':=by
 cases g with
 | no i =>
  cases t<;>first | exact h.elim | skip
  cases t'<;>first | exact k.elim | skip
  exact x9 Tr.no (oI h k)
 | fold u i j =>
  cases t<;>first | exact h.elim | skip
  cases t'<;>first | exact k.elim | skip
  obtain⟨rfl,h1,h2⟩:=h;obtain⟨rfl,k1,k2⟩:=k;rw[oI h1 k1,oI h2 k2]
 | ne=>cases t<;>first | exact h.elim | (cases t'<;>first | exact k.elim | rfl)
 | al=>cases t<;>first | exact h.elim | (cases t'<;>first | exact k.elim | rfl)
 | p=>cases t<;>first | exact h.elim | (cases t'<;>first | exact k.elim | rfl)
 | q=>cases t<;>first | exact h.elim | (cases t'<;>first | exact k.elim | rfl)
theorem QD{u v:W5}(h:u.str=v.str):u=v:=by
 cases u<;>cases v<;>first | rfl | exact absurd h (by decide+kernel)
theorem yr:∀{a b:List Nat},(a.map λi:Nat=>(Sum.inl (i:Int):Key))=b.map (λi:Nat=>(Sum.inl (i:Int):Key))->a=b
 | [],[],_=>rfl
 | [],_::_,h=>nomatch h
 | _::_,[],h=>nomatch h
 | x::a,y::b,h=>by
  have e1:=(Js h).1;have e2:=yr (Js h).2;have:(x:Int)=(y:Int):=Sum.inl.inj e1;rw[e2,show x=y by omega]
theorem Q6{k:Gr}(h:g.rw=k.rw):g=k:=by
 have e1:g.word=k.word:=Sum.inr.inj (Js h).1;have e2:g.nums=k.nums:=yr (Js h).2;cases g with
 | no i =>
  cases k with
  | no j=>rw[show i=j from(Js e2).1]
  | fold u a b=>exact absurd (x9 List.length e2) (by show 1≠2;decide)
  | _=>exact nomatch e2
 | fold u a b =>
  cases k with
  | no j=>exact absurd (x9 List.length e2) (by show 2≠1;decide)
  | fold v c d =>
   have z:=Js e2;rw[QD e1,z.1,(Js z.2).1]
  | _=>exact nomatch e2
 | ne=>cases k<;>first | rfl | exact absurd e1 (by decide+kernel) | exact absurd (x9 List.length e2) (by show 0≠1;decide) | exact absurd (x9 List.length e2) (by show 0≠2;decide)
 | al=>cases k<;>first | rfl | exact absurd e1 (by decide+kernel) | exact absurd (x9 List.length e2) (by show 0≠1;decide) | exact absurd (x9 List.length e2) (by show 0≠2;decide)
 | p=>cases k<;>first | rfl | exact absurd e1 (by decide+kernel) | exact absurd (x9 List.length e2) (by show 0≠1;decide) | exact absurd (x9 List.length e2) (by show 0≠2;decide)
 | q=>cases k<;>first | rfl | exact absurd e1 (by decide+kernel) | exact absurd (x9 List.length e2) (by show 0≠1;decide) | exact absurd (x9 List.length e2) (by show 0≠2;decide)
inductive Tab:List Gr->List Tr->Prop where
 | nil:Tab [] []
 | snoc {gs:List Gr} {ts:List Tr} {g:Gr} {t:Tr}:Tab gs ts->MZ ts g t->Tab (gs++[g]) (ts++[t])
theorem Tab.len{ts:List Tr}(h:Tab gs ts):gs.length=ts.length:=by
 induction h with
 | nil=>rfl
 | snoc _ _ ih=>rw[c7,c7,ih];rfl
theorem Tab.at{ts:List Tr}(h:Tab gs ts):∀{i:Nat}{g:Gr},gs[i]?=some g->∃t,ts[i]?=some t/\MZ ts g t:=by
 induction h with
 | nil=>intro i g e;cases e
 | @snoc gs ts g0 t0 h0 r ih =>
  intro i g e
  by_cases z:i<gs.length
  .rw[B0 z]at e;obtain⟨t,e1,e2⟩:=ih e;exact⟨t,oi e1,e2.more⟩
  .have z0:i=gs.length:=by
    have:=(d6.mp e).1;rw[c7]at this;simp at this;omega
   subst z0;rw[G6]at e;cases e
   refine⟨t0,?_,r.more⟩;rw[h0.len,G6]
theorem Tab.push{ts:List Tr}{t:Tr}(h:Tab gs ts)(r:MZ ts g t):∃Nw T5,(bc (gs.map Gr.rw) g.rw).1=Nw.map Gr.rw/\Tab Nw T5/\T5[(bc (gs.map Gr.rw) g.rw).2]?=some t/\((t∈ts/\T5=ts)\/T5=ts++[t]):=by
 unfold bc;cases z:idx (gs.map Gr.rw) g.rw with
 | some i =>
  have e:=AG z;rw[w6]at e;cases y:gs[i]? with
  | none=>rw[y]at e;cases e
  | some k =>
   rw[y]at e;have ek:k=g:=Q6 (j8 e);subst ek;obtain⟨t',e1,e2⟩:=h.at y;have et:=e2.uniq r;subst et;exact⟨gs,ts,rfl,h,e1,.inl ⟨p8 e1,rfl⟩⟩
 | none =>
  refine⟨gs++[g],ts++[t],by rw[l8];rfl,.snoc h r,?_,.inr rfl⟩;show(ts++[t])[(gs.map Gr.rw).length]?=some t;rw[i7,h.len,G6]
theorem MZ.ok{ts:List Tr}{t:Tr}(h:MZ ts g t):S7 ts.length g:=by
 intro k hk;cases g with
 | no i =>
  cases t<;>first | exact h.elim | skip
  rw[show k=i by simpa [Gr.nums] using hk];exact(d6.mp h).1
 | fold u i j =>
  cases t<;>first | exact h.elim | skip
  obtain⟨_,h1,h2⟩:=h;have z:k=i\/k=j:=by simpa [Gr.nums] using hk
  rcases z with rfl | rfl
  .exact(d6.mp h1).1
  .exact(d6.mp h2).1
 | ne=>exact nomatch hk
 | al=>exact nomatch hk
 | p=>exact nomatch hk
 | q=>exact nomatch hk
theorem Tab.ok{ts:List Tr}(h:Tab gs ts):Wo gs:=by
 induction h with
 | nil=>intro k g e;cases e
 | @snoc gs ts g0 t0 h0 r ih =>
  intro k g e
  by_cases z:k<gs.length
  .rw[B0 z]at e;exact ih k g e
  .have z0:k=gs.length:=by
    have:=(d6.mp e).1;rw[c7]at this;simp at this;omega
   subst z0;rw[G6]at e;cases e
   rw[h0.len];exact r.ok
theorem pe(t:Tr):t∈t.post:=by cases t<;>simp[Tr.post]
theorem gx:∀(t x:Tr),x∈t.post->x.size<=t.size
 | .no t,x,h=>by
  rcases j6.mp (show x∈t.post++[.no t] from h) with h | h
  .exact Nat.le_succ_of_le (gx t x h)
  .rw[c9.mp h];exact c5 _
 | .fold u a b,x,h=>by
  rcases j6.mp (show x∈a.post++b.post++[.fold u a b] from h) with h | h
  .rcases j6.mp h with h | h
   .have:=gx a x h;show _<=a.size+b.size+1;omega
   .have:=gx b x h;show _<=a.size+b.size+1;omega
  .rw[c9.mp h];exact c5 _
 | .never,x,h=>by rw[c9.mp h];exact c5 _
 | .always,x,h=>by rw[c9.mp h];exact c5 _
 | .lp,x,h=>by rw[c9.mp h];exact c5 _
 | .lq,x,h=>by rw[c9.mp h];exact c5 _
theorem Gh:∀t {gs:List Gr} {ts:List Tr},Tab gs ts->∃Nw e,(t.putR (gs.map Gr.rw)).1=Nw.map Gr.rw/\Tab Nw (ts++e)/\(ts++e)[(t.putR (gs.map Gr.rw)).2]?=some t/\(∀x∈e,x∈t.post)/\(t ∉ ts->∃e',e=e'++[t]):=by
 have leaf:∀t g {gs:List Gr} {ts:List Tr},Tab gs ts->MZ ts g t->∃Nw e,(bc (gs.map Gr.rw) g.rw).1=Nw.map Gr.rw/\Tab Nw (ts++e)/\(ts++e)[(bc (gs.map Gr.rw) g.rw).2]?=some t/\(∀x∈e,x∈t.post)/\(t ∉ ts->∃e',e=e'++[t]):=by
  intro t g gs ts h r;obtain⟨Nw,T5,e1,e2,e3,e4⟩:=h.push r;rcases e4 with⟨m,rfl⟩ | rfl
  .exact⟨Nw,[],e1,by rw[A4];exact e2,by rw[A4];exact e3,(λ_ z=>by cases z),λz=>absurd m z⟩
  .exact⟨Nw,[t],e1,e2,e3,λx z=>by rw[c9.mp z];exact pe t,λ_=>⟨[],rfl⟩⟩
 intro t
 induction t with
 | never=>intro gs ts h;exact leaf .never .ne h trivial
 | always=>intro gs ts h;exact leaf .always .al h trivial
 | lp=>intro gs ts h;exact leaf .lp .p h trivial
 | lq=>intro gs ts h;exact leaf .lq .q h trivial
 | no t ih =>
  intro gs ts h;obtain⟨W7,e,a1,a2,a3,a4,_⟩:=ih h;obtain⟨W6,ts2,b1,b2,b3,b4⟩:=a2.push (g:=.no (t.putR (gs.map Gr.rw)).2) (t:=.no t) a3;have key:(Tr.no t).putR (gs.map Gr.rw)=bc (W7.map Gr.rw) (Gr.rw (.no (t.putR (gs.map Gr.rw)).2)):=by rw[<- a1];rfl
  rw[key];have up:∀x∈t.post,x∈(Tr.no t).post:=λx z=>j6.mpr (.inl z);rcases b4 with⟨m,rfl⟩ | rfl
  .refine⟨W6,e,b1,b2,b3,λx z=>up x (a4 x z),λz=>?_⟩;rcases j6.mp m with m | m
   .exact absurd m z
   .exact absurd (gx _ _ (a4 _ m)) (by show ¬t.size+1<=t.size;omega)
  .refine⟨W6,e++[.no t],b1,by rw[<- m6];exact b2,by rw[<- m6];exact b3,λx z=>?_,λ_=>⟨e,rfl⟩⟩;rcases j6.mp z with z | z
   .exact up x (a4 x z)
   .rw[c9.mp z];exact pe _
 | fold u a b iha ihb =>
  intro gs ts h;obtain⟨W7,e,a1,a2,a3,a4,_⟩:=iha h;obtain⟨W6,f,c1,c2,c3,c4,_⟩:=ihb a2;have a3':=oi (e:=f) a3;obtain⟨gs3,ts3,b1,b2,b3,b4⟩:=c2.push (g:=.fold u (a.putR (gs.map Gr.rw)).2 (b.putR (W7.map Gr.rw)).2) (t:=.fold u a b) ⟨rfl,a3',c3⟩
  have key:(Tr.fold u a b).putR (gs.map Gr.rw)=bc (W6.map Gr.rw) (Gr.rw (.fold u (a.putR (gs.map Gr.rw)).2 (b.putR (W7.map Gr.rw)).2)):=by
   show bc (b.putR (a.putR (gs.map Gr.rw)).1).1 (fc u.str [(a.putR (gs.map Gr.rw)).2,(b.putR (a.putR (gs.map Gr.rw)).1).2])=_;rw[a1,c1];rfl
  rw[key];have ua:∀x∈a.post,x∈(Tr.fold u a b).post:=λx z=>j6.mpr (.inl (j6.mpr (.inl z)));have ub:∀x∈b.post,x∈(Tr.fold u a b).post:=λx z=>j6.mpr (.inl (j6.mpr (.inr z)))
  have sz:∀x∈e++f,x.size<=a.size+b.size/\x∈(Tr.fold u a b).post:=λx z=>by
   rcases j6.mp z with z | z
   .exact⟨l7 (gx _ _ (a4 x z)) (D9 _ _),ua x (a4 x z)⟩
   .exact⟨l7 (gx _ _ (c4 x z)) (KZ _ _),ub x (c4 x z)⟩
  rw[m6]at b4;rcases b4 with⟨m,rfl⟩ | rfl
  .refine⟨gs3,e++f,b1,b2,b3,λx z=>(sz x z).2,λz=>?_⟩;rcases j6.mp m with m | m
   .exact absurd m z
   .exact absurd (sz _ m).1 (by show ¬a.size+b.size+1<=a.size+b.size;omega)
  .refine⟨gs3,e++f++[.fold u a b],b1,by rw[<- m6];exact b2,by rw[<- m6];exact b3,λx z=>?_,λ_=>⟨e++f,rfl⟩⟩;rcases j6.mp z with z | z
   .exact(sz x z).2
   .rw[c9.mp z];exact pe _
theorem FV(t:Tr):∃gs ts,t.rows=gs.map Gr.rw/\Tab gs (ts++[t])/\(∀x∈ts++[t],x∈t.post)/\gs.length<=t.size:=by
 obtain⟨gs,e,a1,a2,a3,a4,a5⟩:=Gh t (gs:=[]) (ts:=[]) .nil;obtain⟨e',rfl⟩:=a5 (λz=>nomatch z);have hl:=jw t [];rw[show(t.putR []).1=gs.map Gr.rw from a1,i7]at hl;exact⟨gs,e',a1,by simpa using a2,a4,by simpa using hl⟩
end Mine
namespace L2
open PySem PySem.Spec PyProof.Rows
variable{name:Str}{o e:Expr}{tk i k1 kk j1 j2 j3:Nat}{use:Option (Value->Sem Unit)}{Qv Q:Value->Shared->Prop}{K5:List (Addr×Obj)}{s:Shared}{σ:St}{H:Hp}{h h':Heap}{ys xs:Array Value}{z i1 i2 l1 l2 a b:Addr}{w:World}{X:Cx}{P:Program}{Lh:List Expr}{LQ:Pos}{c:Int}
variable{X:Cx}
theorem Oy{K:W.Frag}{T id:String}{r:V->List V->Hp->VK->Prop}{to:TE}{apos Ll:Pos}(eK:X.K=K)(pa:PlainAttrs T)(slot:Slot T name id)(U9:typeOf (.builtin id)=pure (.type "method_descriptor"))(hm:ZM X id r)(ho:PE X o to)
  (Mp:attributeBase o name X.env (eval o X.env)=eval o X.env:=by rfl)(Mn:(apos.endLine==Ll.line)=true:=by rfl):PE X (.Call (.Attribute o name apos) [] [] Ll) (Ue K T r to):=eK ▸ jg pa slot U9 hm ho Mp Mn
noncomputable def cB(X:Cx)(xs:List Str)(js:List Nat):List Str:=xs++js.map λj=>X.N.getD j ""
section
variable{X:Cx}{K5:List (Addr×Obj)}{σ:St}{H:Hp}{s:Shared}{scope:Scope}{cl:List (Str×Addr)}{xs:List Str}{js:List Nat}{fp:List Addr}{N:List Str}
theorem Iw(I:Inv X K5 σ H s)(hk:scope.kind=.function)(Lc:∀y∈scope.names,y.2≠.cell)
  (Lf:∀y c,cl.lookup y=some c->X.env.cells.lookup y=some c)(Li:∀y,(y,NameKind.free)∈scope.names->∃c,cl.lookup y=some c)
  (hf:∀b∈fp,jE X K5 H b)(Le:∀b∈fp,b<s.heap.objs.size):(bI X scope cl N s H fp).Ok where
 mod:=I.ok.mod
 kind:=hk
 glob:=I.ok.glob
 blt:=I.ok.blt
 above:=c5 _
 inj:=λy z c h1 h2=>I.ok.inj y z c (Lf y c h1) (Lf z c h2)
 has:=λy hy=>by
  have OR:(relabel scope X.env).names.lookup y=some .cell\/(relabel scope X.env).names.lookup y=some .free:=hy;rcases OR with h | h
  .obtain⟨k',m,q⟩:=dF h;rcases q with q | ⟨_,q⟩
   .exact absurd q (Lc _ m)
   .subst q;exact Li y m
  .obtain⟨k',m,q⟩:=dF h;rcases q with q | ⟨q,_⟩
   .subst q;exact Li y m
   .cases q
 cab:=λy c h _=>by cases h
 hd:=I.ok.hd
 frames:=I.ok.frames
 stk:=.inl rfl
 exf:=λb hb=>⟨z6 (Le b hb),λy c h=>(hf b hb).2.2.2.2.1 y c (Lf y c h)⟩
 bs:=I.bs
 bsz:=l7 I.ok.bsz I.sz
 noex:=λb o e hb=>by
  rcases(hf b hb).2.2.2.1 with z | z
  .exact I.ok.noex b o e z
  .exact absurd (i5 (l6 e) (l7 I.ok.bsz z)) (B2 _)
 exfs:=λb hb hz=>(j4.mp (I.stkSub b hz)).elim (hf b hb).2.1 (hf b hb).2.2.1
 funs:=I.stack
 frf:=I.stkFree
theorem yV{tk:Nat}(I:Inv X K5 σ H s)(hk:scope.kind=.function)(Lc:∀y∈scope.names,y.2≠.cell)
  (Lf:∀y c,cl.lookup y=some c->X.env.cells.lookup y=some c)(Li:∀y,(y,NameKind.free)∈scope.names->∃c,cl.lookup y=some c)(L4:fY X scope js)
  (hf:∀b∈fp,jE X K5 H b)(Le:∀b∈fp,b<s.heap.objs.size)(hn:h₁.Ns s.heap.objs.size m)(LB:∀b o,s.heap.get? b=some o->h₁.get? b=some o) :
  Inv (bI X scope cl (cB X xs js) s H fp) [] (List.replicate xs.length none++bQ js σ) H {s with heap:=h₁,toks:=tk} where
 ok:=Iw I hk Lc Lf Li hf Le
 os:=rfl
 bare:=I.bare
 base:=Un.kept LB
 loc:=by
  refine⟨m,hn,λi y v h1 h2 h3=>?_⟩
  by_cases hik:i<xs.length
  .rw[B0 (by simpa using hik),List.getElem?_replicate_of_lt hik]at h2;cases h2
  .generalize hkk:i-xs.length=k
   have M5:(js.map λj=>X.N.getD j "")[k]?=some y:=by
    have q:(xs++js.map λj=>X.N.getD j "")[i]?=some y:=h1;rw[F4 (by omega),hkk]at q;exact q
   have Mh:(js.map λj=>(σ[j]?).getD none)[k]?=some (some v):=by
    rw[F4 (by simp;omega),Jt,hkk]at h2;exact h2
   rw[w6]at M5 Mh;cases hj:js[k]? with
   | none=>rw[hj]at M5;cases M5
   | some j =>
    rw[hj]at M5 Mh;have e1:X.N.getD j ""=y:=j8 M5;have e2:(σ[j]?).getD none=some v:=j8 Mh;obtain⟨y',n1,n2,n3,n4⟩:=L4.all j (p8 hj);have e3:y'=y:=by rw[<- e1,z5,n1];rfl
    subst e3
    have e4:σ[j]?=some (some v):=by
     cases q:σ[j]? with
     | none=>rw[q]at e2;cases e2
     | some a=>rw[q]at e2;exact x9 some e2
    obtain⟨m0,_,hl⟩:=I.loc;obtain⟨u,r,l⟩:=hl j y' v n1 e4 (n2.elim (λz=>Or.inr (Or.inl z)) λz=>Or.inr (Or.inr z));refine⟨u,r,.inr ⟨n4,?_⟩⟩;rcases l with⟨l,_⟩ | ⟨_,c,hc,hi⟩
    .exfalso;rcases n2 with z | z<;>(rw[z]at l;cases l)
    .obtain⟨c',L6⟩:=Li y' n3;have e5:=Lf y' c' L6;rw[hc]at e5;have e6:=j8 e5;subst e6;obtain⟨o,ho,hd⟩:=hi;exact⟨c,L6,o,LB c o ho,hd⟩
 cell:=λy c h=>by
  obtain⟨v,o,ho,hd⟩:=I.cell y c (Lf y c h);exact⟨v,o,LB c o ho,hd⟩
 free:=I.hok.fresh (c5 _)
 freeC:=λy c h=>I.freeC y c (Lf y c h)
 pin:=λp hp=>absurd (show p∈([]:List (Addr×Obj)) from hp) (by simp)
 hok:=I.hok.kept LB
 len:=by
  show(List.replicate xs.length none++bQ js σ).length=(cB X xs js).length;simp[bQ,cB]
end
def mj(n:Nat)(wi:TI)(g:TG)(te:TE)(js:List Nat):TE:=λσ H Q=>wi σ H λJ H1=>∀D,H1 D=none->
 ∃W:Nat->Nat->Hp->Prop,(∃m,W 0 m (upd H1 D (.lst [])))/\∀i m H2,W i m H2->(J.stop i H2/\Q (.ref D) H2)\/
  (J.go i H2/\∀o:St,o.length=n->∀v H3,J.yld i H2 v H3->g v (o++bQ js σ) H3 λσ4 H4=>∃o',o'.length=n/\σ4=o'++bQ js σ/\te (o'++bQ js σ) H4 λy H5 =>
   ∃ys,H5 D=some (.lst ys)/\ys.length<sizeLine/\∃m',m'<m/\W (i+1) m' (upd H5 D (.lst (ys++[y]))))
section
variable{X:Cx}{elt Ld:Expr}{xs:List Str}{Lh:List Expr}{kk:Nat}{tp pos:Pos}{scope:Scope}{cl:List (Str×Addr)}{wi:TI}{g:TG}{te:TE}{js:List Nat}
theorem tH{Q:VK}
  (hc:X.calm=true)(hi:PI X (.Tuple Lh kk tp) Ld wi)(hk:scope.kind=.function)(Lc:∀y∈scope.names,y.2≠.cell)
  (Lf:∀y c,cl.lookup y=some c->X.env.cells.lookup y=some c)(Li:∀y,(y,NameKind.free)∈scope.names->∃c,cl.lookup y=some c)(L4:fY X scope js)(Mt:(cB X xs js).Nodup)
  (hg:∀s' H' fp,PG (bI X scope cl (cB X xs js) s' H' fp) (.Tuple Lh kk tp) g)(he:∀s' H' fp,PE (bI X scope cl (cB X xs js) s' H' fp) elt te)
  (I:Inv X K5 σ H s)(h:mj xs.length wi g te js σ H Q)
  (fin:∀(D C:Addr)(H':Hp)(s':Shared),Inv X K5 σ H' s'->jE X K5 H' C->(∃m,s'.heap.Ns C m)->Q (.ref D) H'->compPost (model X.prog X.w) X.A X.xe use Qv (.ref D) C (.ok .next) s') :
  wpAny (model X.prog X.w) X.A (eval Ld X.env) (λxv s₁=>wpAny (model X.prog X.w) X.A (pyIter xv) (λit s₂=>wpAny (model X.prog X.w) X.A (newList []) (λacc s₃ =>
   wpAny (model X.prog X.w) X.A (newFunctionEnv scope X.env.globals cl [] X.env.qual none .none (some X.env)) (λNF s₄ =>
    codeAny (model X.prog X.w) X.A (.compStart (.ListComp elt [⟨.Tuple Lh kk tp,Ld,[],0⟩] scope pos) 0 it acc {NF with scope:=relabel scope X.env})
     (compPost (model X.prog X.w) X.A X.xe use Qv acc NF.locals) s₄) X.xe s₃) X.xe s₂) X.xe s₁) X.xe s:=by
 refine Lb (hi K5 s σ H _ I h) λv s1 h1=>Lb h1 λWR s2 h2=>?_;obtain⟨it,fp,tn,J,H2,e,I2,T,PK,f2,hW⟩:=h2;subst e;obtain⟨W,⟨m0,w0⟩,turn⟩:=hW s2.heap.objs.size (I2.hok.fresh (c5 _));have Nq:∀b∈fp,b<s2.heap.objs.size:=λb hb=>let ⟨_,e,_⟩:=T.obj _ _ PK b hb;l6 e
 have I3:Inv X K5 σ (upd H2 s2.heap.objs.size (.lst [])) {s2 with heap:=s2.heap.push {cls:=.type "list",data:=.seq ([]:List Value).toArray} }:=
  I2.lnew (t':=s2.toks) (its:=[]) .nil (x4 _)
 refine F5 ?_;have Ys:∀b o,s2.heap.get? b=some o->(s2.heap.push {cls:=.type "list",data:=.seq ([]:List Value).toArray}).get? b=some o:=λb o e=>i6 _ e;have XE:(s2.heap.push {cls:=.type "list",data:=.seq ([]:List Value).toArray}).objs.size=s2.heap.objs.size+1:=E4 ..;generalize YF:({s2 with heap:=s2.heap.push {cls:=.type "list",data:=.seq ([]:List Value).toArray} }:Shared)=s3 at I3
 have Nm:s3.heap=s2.heap.push {cls:=.type "list",data:=.seq ([]:List Value).toArray}:=by rw[<- YF]
 have Np:∀b∈fp,b<s3.heap.objs.size:=λb hb=>by rw[Nm,XE];exact JK (Nq b hb)
 have f3:∀b∈fp,jE X K5 (upd H2 s2.heap.objs.size (.lst [])) b:=λb hb=>⟨by rw[az (z6 (Nq b hb))];exact(f2 b hb).1,(f2 b hb).2⟩;refine wpAny_newFunctionEnv Lc (by intro y hy;simp at hy) (λh₁ Tv YE=>?_) hk;have UZ:∀b o,s3.heap.get? b=some o->h₁.get? b=some o:=λb o e=>YE.extBut b o (z6 (l6 e)) (i6 _ e);have I4:=yV (xs:=xs) (js:=js) (tk:=s3.toks+([]:List (Str×Value)).length) I3 hk Lc Lf Li L4 f3 Np Tv UZ;have Uh:tn 0 h₁:=T.keep 0 _ _ PK λb hb o e=>UZ b o (by rw[Nm];exact Ys b o e)
 have LR:∀{H':Hp},(∀b∈fp,H' b=none)->∀b∈fp,jE (bI X scope cl (cB X xs js) s3 (upd H2 s2.heap.objs.size (.lst [])) fp) [] H' b:=λhn b hb =>
  ⟨hn b hb,z6 (Np b hb),λhz=>(j4.mp (I3.stkSub b hz)).elim (f2 b hb).2.1 (f2 b hb).2.2.1,.inl hb,λy c q=>(f2 b hb).2.2.2.2.1 y c (Lf y c q),λp hp=>absurd (show p∈([]:List (Addr×Obj)) from hp) (by simp)⟩
 have back:∀{σ':St}{H':Hp}{s':Shared},Inv (bI X scope cl (cB X xs js) s3 (upd H2 s2.heap.objs.size (.lst [])) fp) [] σ' H' s'->Inv X K5 σ H' s':=λ{σ' H' s'} J' =>
  I3.call' (ch:=fp) J'.os J'.base J'.hok J'.bare λb hb=>⟨(f2 b hb).2.2.2.1,(f2 b hb).2.1,(f2 b hb).2.2.2.2.1,(f2 b hb).2.2.2.2.2⟩
 have loop:codeAny (model X.prog X.w) X.A (.compLoop (.ListComp elt [⟨.Tuple Lh kk tp,Ld,[],0⟩] scope pos) 0 (.ref it) (.ref s2.heap.objs.size) (compEnvC scope cl s3.heap.objs.size X.env))
   (compPost (model X.prog X.w) X.A X.xe use Qv (.ref s2.heap.objs.size) s3.heap.objs.size) {s3 with heap:=h₁,toks:=s3.toks+([]:List (Str×Value)).length}:=by
  refine PyProof.Rows.LCp.codeAny_compLoop_pair (λn s'=>∃(i:Nat)(o:St)(H':Hp),o.length=xs.length/\Inv (bI X scope cl (cB X xs js) s3 (upd H2 s2.heap.objs.size (.lst [])) fp) [] (o++bQ js σ) H' s'/\tn i s'.heap/\(∀b∈fp,H' b=none)/\W i n H') ?_ m0
   ⟨0,_,_,Jt,I4,Uh,λb hb=>(f3 b hb).1,w0⟩
  rintro n s5 ⟨i,o,H5,ho,I5,Oa,Sk,w5⟩
  rcases turn i n H5 w5 with⟨stop,q⟩ | ⟨go,step⟩
  .refine Lb (T.done (bI X scope cl (cB X xs js) s3 (upd H2 s2.heap.objs.size (.lst [])) fp) rfl rfl rfl hc i [] s5 _ H5 _ I5 (LR Sk) Oa stop) λr s6 zz=>?_;obtain⟨hr,I6⟩:=zz;subst hr;exact fin _ _ H5 s6 (back I6) (I3.fpOk (c5 _) I6.free) (let ⟨m,hm,_⟩:=I6.loc;⟨m,hm⟩) q
  .refine Lb (T.item (bI X scope cl (cB X xs js) s3 (upd H2 s2.heap.objs.size (.lst [])) fp) rfl rfl rfl hc i [] s5 _ H5 _ I5 (LR Sk) Oa go) λr s6 zz=>?_;obtain⟨u,hr,h6⟩:=zz;subst hr;refine E7 h6 (λ_ s6' q6=>?_) (λ_ _ f=>f);obtain⟨v,H6,I6,r6,y6,QQ,Zg⟩:=q6;have ZP:=I6.pinned (LR Zg) (T.obj _ _ QQ);refine E7 (hg s3 _ fp _ s6' _ H6 v u _ ZP r6 (step o ho v H6 y6)) (λ_ s7 q7=>?_) (λ_ _ f=>False.elim f);obtain⟨σ7,H7,I7,o7,ho7,e7,q7⟩:=q7;subst e7;refine E7 (he s3 _ fp _ s7 _ H7 _ I7 q7) (λy s9 q9=>?_) (λ_ _ f=>False.elim f);obtain⟨yv,H9,I9,r9,ys,hD,hl,m',hm,w9⟩:=q9;refine E7 (bf (X:=bI X scope cl (cB X xs js) s3 (upd H2 s2.heap.objs.size (.lst [])) fp) _ s9 _ H9 (.ref s2.heap.objs.size) [yv] (.ref s2.heap.objs.size) [y] (λ_ H'=>H'=upd H9 s2.heap.objs.size (.lst (ys++[yv]))) I9 rfl (.cons r9 .nil) ⟨_,ys,yv,rfl,rfl,hD,hl,rfl⟩) (λ_ s10 X5=>?_) (λ_ _ f=>False.elim f);obtain⟨_,H10,Wm,_,Zr⟩:=X5;subst Zr;refine⟨m',hm,i+1,o7,_,ho7,Wm.unpinned,T.keep _ _ _ QQ λb hb o e=>(Wm.pin (b,o) (l9 _ (l9 _ (gD hb e)))).1,λb hb=>?_,w9⟩;obtain⟨o,e,d⟩:=T.obj _ _ QQ b hb;exact(Wm.pin (b,o) (l9 _ (l9 _ (gD hb e)))).2.1
 exact codeAny_compStart_list loop (T.self _ 0 _ _ _ Uh loop)
theorem Gy(hc:X.calm=true)(hi:PI X (.Tuple Lh kk tp) Ld wi)(hk:scope.kind=.function)(Lc:∀y∈scope.names,y.2≠.cell)(Lg:∀y∈scope.names,y.2=.local->scope.names.lookup y.1=some .local)
  (Mo:closureFor scope X.env=pure cl)(Lf:∀y c,cl.lookup y=some c->X.env.cells.lookup y=some c)(Li:∀y,(y,NameKind.free)∈scope.names->∃c,cl.lookup y=some c)(L4:fY X scope js)(Mt:(cB X xs js).Nodup)
  (hg:∀s' H' fp,PG (bI X scope cl (cB X xs js) s' H' fp) (.Tuple Lh kk tp) g)(he:∀s' H' fp,PE (bI X scope cl (cB X xs js) s' H' fp) elt te)
  (hs:∀x,foldedSetIterable Ld X.env x=pure x:=by intro _;rfl):PE X (.ListComp elt [⟨.Tuple Lh kk tp,Ld,[],0⟩] scope pos) (mj xs.length wi g te js):=by
 intro K5 s σ H Q I h;rw[eval_ListComp];refine Je (use:=none) rfl hs Mo hk Lg (tH hc hi hk Lc Lf Li L4 Mt hg he I h λD C H' s' I' fC hC q=>?_);obtain⟨m,hm⟩:=hC;refine⟨m,hm,λh' sb=>?_⟩;obtain⟨f0,f1,f2,f3,f4,f5⟩:=fC;exact⟨.ref D,H',I'.turned (t':=s'.toks) (λb o hb e=>(sb.2 b hb).trans e) f0 f1 f3 f4 f5,rfl,q⟩
theorem lJ(hi:PI X (.Tuple Lh kk tp) Ld wi)(L4:fY X scope js)(hg:∀cl s' H' fp,PG (bI X scope cl (cB X xs js) s' H' fp) (.Tuple Lh kk tp) g)(he:∀cl s' H' fp,PE (bI X scope cl (cB X xs js) s' H' fp) elt te)(hc:X.calm=true:=by rfl)(hk:scope.kind=.function:=by rfl)(Lc:∀y∈scope.names,y.2≠.cell:=by decide+kernel)(Lg:∀y∈scope.names,y.2=.local->scope.names.lookup y.1=some .local:=by decide+kernel)(hf:∀p∈scope.names,p.2=.free->X.env.kindOf p.1=some .cell\/X.env.kindOf p.1=some .free:=by exact c8 (by kernel_rfl))(Mt:(cB X xs js).Nodup:=by exact c8 (by kernel_rfl))(hs:∀x,foldedSetIterable Ld X.env x=pure x:=by intro _;rfl):PE X (.ListComp elt [⟨.Tuple Lh kk tp,Ld,[],0⟩] scope pos) (mj xs.length wi g te js):=by
 intro K5 s σ H Q I h;obtain⟨cl,e,p1,p2⟩:=wW (qK (js:=js) I λy hy=>hf (y,.free) hy rfl);exact Gy hc hi hk Lc Lg e p1 p2 L4 Mt (hg cl) (he cl) hs K5 s σ H Q I h
end
open PySem.AutoSeq1
theorem gq{it t:Addr}(z:h.IsTupleIter it t i)(k:∀o,h.get? it=some o->h'.get? it=some o):h'.IsTupleIter it t i:=let ⟨o,e,r⟩:=z;⟨o,k o e,r⟩
theorem jb{t:Addr}(z:h.IsTuple t ys)(k:∀o,h.get? t=some o->h'.get? t=some o):h'.IsTuple t ys:=let ⟨o,e,r⟩:=z;⟨o,k o e,r⟩
section
variable{prog:Program}{w:World}{A:Around}{E:Value->Shared->Prop}{s:Shared}
theorem CU{TI TO:Addr}{k2:Nat}{x y a b:Value}(D:ZipApart z TI TO i1 i2 l1 l2)
  (gz:IsZip s.heap z TI TO .none)(gI:IsPair s.heap TI (.ref i1) (.ref i2))(gO:IsPair s.heap TO a b)(t1:s.heap.IsTupleIter i1 l1 k1)(t2:s.heap.IsTupleIter i2 l2 k2)(p1:s.heap.IsTuple l1 xs)(p2:s.heap.IsTuple l2 ys)(ex:xs[k1]?=some x)(ey:ys[k2]?=some y)
  (k:∀h',IsZip h' z TI TO (rawInt s.heap.objs.size)->IsPair h' TO x y->h'.IsTupleIter i1 l1 (k1+1)->h'.IsTupleIter i2 l2 (k2+1)->IsPair h' s.heap.objs.size x y->(∀c o,c≠z->c≠TO->c≠i1->c≠i2->s.heap.get? c=some o->h'.get? c=some o)->Q (.ref s.heap.objs.size) {s with heap:=h' }) :
  wpAny (model prog w) A (Builtin.«zip.__next__» ⟨[.ref z],[]⟩) (λfin s'=>∃v,fin=.done (.ret v)/\Q v s') E s:=by
 show wpAny _ _ (field (.ref z) 2 >>= _) _ _ _;refine b6 (E2 gz rfl (x:=.bool false) rfl ?_);show wpAny _ _ (field (.ref z) 3 >>= _) _ _ _;refine b6 (E2 gz rfl (x:=.ref TI) rfl ?_);refine b6 (Jh gI rfl ?_);show wpAny _ _ (Builtin.SmallTypes.ownedTupleIsFree (.ref z) >>= _) _ _ _;refine b6 ?_;unfold Builtin.SmallTypes.ownedTupleIsFree;refine b6 (E2 gz rfl (x:=.none) rfl (n9 ?_));simp only[KS];refine b6 (wpAny_rule ?_);refine b6 (E2 gz rfl (x:=.ref TO) rfl ?_);refine b6 (Jj gz (by simp) λm1 R4 b1=>?_);replace R4:IsZip m1 z TI TO .ellipsis:=R4;refine b6 ?_;simp only[List.zipIdx_cons,List.zipIdx_nil,JZ,List.forIn_nil];refine b6 (b6 (wpAny_onRaise ?_));show wpAny _ _ (Builtin.SmallTypes.nextOf (.ref i1) >>= _) _ _ _;refine b6 (sF (gq t1 λo e=>b1.extBut _ _ D.i1z e) (jb p1 λo e=>b1.extBut _ _ D.l1z e) ex λm2 u2 b2=>n9 ?_);have gO2:IsPair m2 TO a b:=b2.extBut _ _ D.TOi1 (b1.extBut _ _ D.TOz gO);refine b6 (Jh gO2 rfl ?_);refine b6 (wpAny_updateSeq_pair gO2 λm3 Zd b3=>?_);replace Zd:IsPair m3 TO x b:=Zd;refine b6 (wpAny_letGo (n9 ?_));refine b6 (b6 (wpAny_onRaise ?_));show wpAny _ _ (Builtin.SmallTypes.nextOf (.ref i2) >>= _) _ _ _;have e3:∀c o,c≠z->c≠TO->c≠i1->s.heap.get? c=some o->m3.get? c=some o:=λc o n1 n2 n3 e=>b3.extBut _ _ n2 (b2.extBut _ _ n3 (b1.extBut _ _ n1 e));refine b6 (sF (gq t2 λo e=>e3 _ o D.i2z D.TOi2.symm D.i12.symm e) (jb p2 λo e=>e3 _ o D.l2z D.l2TO D.l2i1 e) ey λm4 u4 b4=>n9 ?_);have gO4:IsPair m4 TO x b:=b4.extBut _ _ D.TOi2 Zd;refine b6 (Jh gO4 rfl ?_);refine b6 (wpAny_updateSeq_pair gO4 λm5 W8 b5=>?_);replace W8:IsPair m5 TO x y:=W8;refine b6 (wpAny_letGo (n9 (n9 ?_)));refine b6 (Jh W8 rfl ?_);refine b6 (wpAny_newTuple ?_);have Z0:m5.objs.size=s.heap.objs.size:=by rw[b5.1,b4.1,b3.1,b2.1,b1.1]
 have e5:∀c o,c≠TO->c≠i2->m3.get? c=some o->m5.get? c=some o:=λc o n1 n2 e=>b5.extBut _ _ n1 (b4.extBut _ _ n2 e);have gz5:IsZip m5 z TI TO .ellipsis:=e5 _ _ D.TOz.symm D.i2z.symm (b3.extBut _ _ D.TOz.symm (b2.extBut _ _ D.i1z.symm R4));have u5:m5.IsTupleIter i1 l1 (k1+1):=gq u2 λo e=>e5 _ o D.TOi1.symm D.i12 (b3.extBut _ _ D.TOi1.symm e);have v5:m5.IsTupleIter i2 l2 (k2+1):=gq u4 λo e=>b5.extBut _ _ D.TOi2.symm e;have zl:z<m5.objs.size:=l6 gz5;show wpAny _ _ (Builtin.SmallTypes.ownedTupleHandOut (.ref z) (.ref m5.objs.size) >>= _) _ _ _;refine b6 ?_;unfold Builtin.SmallTypes.ownedTupleHandOut;have gz6:IsZip (m5.push {cls:=.type "tuple",data:=.seq #[x,y] }) z TI TO .ellipsis:=i6 _ gz5;refine b6 (Jj gz6 (by simp) λm7 Za b7=>?_);replace Za:IsZip m7 z TI TO (rawInt m5.objs.size):=Za;refine Jj Za (by simp) λm8 W4 b8=>?_;replace W4:IsZip m8 z TI TO (rawInt m5.objs.size):=W4;have e8:∀c o,c≠z->m5.get? c=some o->m8.get? c=some o:=λc o n1 e=>b8.extBut _ _ n1 (b7.extBut _ _ n1 (i6 _ e));have gT:IsPair m8 m5.objs.size x y:=b8.extBut _ _ (JI zl) (b7.extBut _ _ (JI zl) (r8 _ rfl));rw[Z0]at W4 gT;refine n9 ⟨_,rfl,?_⟩;show Q (.ref m5.objs.size) _;rw[Z0];exact k m8 W4 (e8 _ _ D.TOz W8) (gq u5 λo e=>e8 _ o D.i1z e) (gq v5 λo e=>e8 _ o D.i2z e) gT λc o n1 n2 n3 n4 e=>e8 c o n1 (e5 c o n2 n4 (e3 c o n1 n2 n3 e))
theorem xo{TI TO:Addr}{a b:Value}{Q:Fin->Shared->Prop}(hd:A.handled=none)(D:ZipApart z TI TO i1 i2 l1 l2)
  (gz:IsZip s.heap z TI TO .none)(gI:IsPair s.heap TI (.ref i1) (.ref i2))(gO:IsPair s.heap TO a b)(t1:s.heap.IsTupleIter i1 l1 k1)(p1:s.heap.IsTuple l1 xs)(ex:xs[k1]?=none)
  (k:∀h' e,(∀c o,c≠z->c≠TO->c≠i1->c≠i2->s.heap.get? c=some o->h'.get? c=some o)->(∃o,h'.get? e=some o/\o.cls=.type "StopIteration")->E (.ref e) {s with heap:=h' }) :
  wpAny (model prog w) A (Builtin.«zip.__next__» ⟨[.ref z],[]⟩) Q E s:=by
 show wpAny _ _ (field (.ref z) 2 >>= _) _ _ _;refine b6 (E2 gz rfl (x:=.bool false) rfl ?_);show wpAny _ _ (field (.ref z) 3 >>= _) _ _ _;refine b6 (E2 gz rfl (x:=.ref TI) rfl ?_);refine b6 (Jh gI rfl ?_);show wpAny _ _ (Builtin.SmallTypes.ownedTupleIsFree (.ref z) >>= _) _ _ _;refine b6 ?_;unfold Builtin.SmallTypes.ownedTupleIsFree;refine b6 (E2 gz rfl (x:=.none) rfl (n9 ?_));simp only[KS];refine b6 (wpAny_rule ?_);refine b6 (E2 gz rfl (x:=.ref TO) rfl ?_);refine b6 (Jj gz (by simp) λm1 R4 b1=>?_);replace R4:IsZip m1 z TI TO .ellipsis:=R4;refine b6 ?_;simp only[List.zipIdx_cons,List.zipIdx_nil,JZ,List.forIn_nil];refine b6 (b6 (wpAny_onRaise ?_));show wpAny _ _ (Builtin.SmallTypes.nextOf (.ref i1) >>= _) _ _ _;refine b6 (tY hd (gq t1 λo e=>b1.extBut _ _ D.i1z e) (jb p1 λo e=>b1.extBut _ _ D.l1z e) ex λm2 e b2 he=>?_);obtain⟨oe,ge,ce⟩:=he;have gz2:IsZip m2 z TI TO .ellipsis:=b2 _ _ D.i1z.symm R4;have ne:e≠z:=λq=>by subst q;rw[gz2]at ge;cases ge;simp at ce
 refine Jj gz2 (by simp) λm3 _ b3=>k m3 e (λc o n1 _ n3 _ q=>b3.extBut _ _ n1 (b2 _ _ n3 (b1.extBut _ _ n1 q))) ⟨oe,b3.extBut _ _ ne ge,ce⟩
theorem CW(hd:A.handled=none)(z TI TO i1 i2 l1 l2:Addr)(D:ZipApart z TI TO i1 i2 l1 l2)(xs ys:Array Value)(hle:xs.size<=ys.size) :
  WalksT prog w A z [z,TI,TO,i1,i2,l1,l2] [z,TO,i1,i2] xs.size (λi Lu=>∃x y,xs[i]?=some x/\ys[i]?=some y/\Lu=#[x,y])
   (λi h=>IsZip h z TI TO .none/\IsPair h TI (.ref i1) (.ref i2)/\(∃a b,IsPair h TO a b)/\h.IsTupleIter i1 l1 i/\h.IsTupleIter i2 l2 i/\h.IsTuple l1 xs/\h.IsTuple l2 ys)
   (λi T h=>IsZip h z TI TO (rawInt T)/\IsPair h TI (.ref i1) (.ref i2)/\(∃a b,IsPair h TO a b)/\h.IsTupleIter i1 l1 (i+1)/\h.IsTupleIter i2 l2 (i+1)/\h.IsTuple l1 xs/\h.IsTuple l2 ys/\T≠z/\T≠TO/\T≠i1/\T≠i2) where
 sub:=λc hc=>by
  simp only[j4,A3,G4]at hc ⊢;rcases hc with q | q | q | q<;>simp[q]
 frame:=λi h h' st kp=>by
  obtain⟨q1,q2,⟨a,b,q3⟩,q4,q5,q6,q7⟩:=st;exact⟨kp z (by simp) _ q1,kp TI (by simp) _ q2,⟨a,b,kp TO (by simp) _ q3⟩,gq q4 λo e=>kp i1 (by simp) o e,gq q5 λo e=>kp i2 (by simp) o e,jb q6 λo e=>kp l1 (by simp) o e,jb q7 λo e=>kp l2 (by simp) o e⟩
 item:=λi s Q E hi st k=>by
  obtain⟨q1,q2,⟨a,b,q3⟩,q4,q5,q6,q7⟩:=st;have hx:xs[i]?=some xs[i]:=Km hi;have hy:ys[i]?=some (ys[i]'(by omega)):=Km (by omega);have hT:s.TypeIs (.ref z) "zip":=⟨_,q1,rfl⟩;have lt:∀{c o},s.heap.get? c=some o->s.heap.objs.size≠c:=λe=>JI (l6 e);unfold pyNext;refine b6 (wpAny_attempt (C9 (name:=Str.ofString "__next__") hT Jq (IW Jq hT KO (CU D q1 q2 q3 q4 q5 q6 q7 hx hy λh' a1 a2 a3 a4 a5 kp=>n9 ?_) (Ky _))))
  exact k s.heap.objs.size #[xs[i],ys[i]'(by omega)] h' s.toks ⟨_,_,hx,hy,rfl⟩ (c5 _) ⟨_,a5,rfl,_,rfl⟩
   ⟨a1,kp _ _ D.TIz D.TITO D.TIi1 D.TIi2 q2,⟨_,_,a2⟩,a3,a4,jb q6 λo e=>kp _ o D.l1z D.l1TO D.l1i1 D.l1i2 e,jb q7 λo e=>kp _ o D.l2z D.l2TO D.l2i1 D.l2i2 e,lt q1,lt q3,(by obtain⟨_,e,_⟩:=q4;exact lt e),(by obtain⟨_,e,_⟩:=q5;exact lt e)⟩
   λc o hc e=>kp c o (λq=>hc (by simp[q])) (λq=>hc (by simp[q])) (λq=>hc (by simp[q])) (λq=>hc (by simp[q])) e
 go:=λLh kk pos i T s Q E hm k=>by
  obtain⟨q1,q2,⟨a,b,q3⟩,q4,q5,q6,q7,_⟩:=hm;refine wpAny_letOwnedTupleGo_zip q1 λh' gz' b'=>k h' ⟨gz',b'.extBut _ _ D.TIz q2,⟨a,b,b'.extBut _ _ D.TOz q3⟩,gq q4 λo e=>b'.extBut _ _ D.i1z e,gq q5 λo e=>b'.extBut _ _ D.i2z e,jb q6 λo e=>b'.extBut _ _ D.l1z e,jb q7 λo e=>b'.extBut _ _ D.l2z e⟩ λc o hc e=>b'.extBut _ _ (λq=>hc (by simp[q])) e
 apart:=λi T h hm hT=>by
  obtain⟨_,_,_,_,_,_,_,n1,n2,n3,n4⟩:=hm;simp only[j4,A3,G4]at hT;rcases hT with q | q | q | q
  .exact n1 q
  .exact n2 q
  .exact n3 q
  .exact n4 q
 done:=λs Q E st k=>by
  obtain⟨q1,q2,⟨a,b,q3⟩,q4,q5,q6,q7⟩:=st;have hT:s.TypeIs (.ref z) "zip":=⟨_,q1,rfl⟩;unfold pyNext;refine b6 (wpAny_attempt (C9 (name:=Str.ofString "__next__") hT Jq (IW Jq hT KO (xo hd D q1 q2 q3 q4 q6 (Array.getElem?_eq_none (c5 _)) λh' e kp ge=>?_) (Ky _))));obtain⟨o,ho,hc⟩:=ge;refine b6 (wpAny_isInstance (T:="StopIteration") (b:=true) ⟨o,ho,hc⟩ isSubtype_stop ?_);exact n9 (k h' s.toks λc o hc e=>kp c o (λq=>hc (by simp[q])) (λq=>hc (by simp[q])) (λq=>hc (by simp[q])) (λq=>hc (by simp[q])) e)
 self:=λi s Q E st k=>Jy st.1 k
end
noncomputable abbrev Wy (h:Heap) (a:Addr):Heap:=h.push (zG a)
noncomputable abbrev Wx (h:Heap) (a b:Addr):Heap:=(Wy h a).push (zG b)
noncomputable abbrev Ww (h:Heap) (a b:Addr):Heap:=(Wx h a b).push {cls:=.type "tuple",data:=.seq #[.ref h.objs.size,.ref (Wy h a).objs.size] }
noncomputable abbrev Wv (h:Heap) (a b:Addr):Heap:=(Ww h a b).push {cls:=.type "tuple",data:=.seq #[.none,.none] }
noncomputable abbrev S9 (h:Heap) (a b:Addr):Heap:=(Wv h a b).push {cls:=.type "zip",data:=.fields #[.none,.bool false,.bool false,.ref (Wx h a b).objs.size,.ref (Ww h a b).objs.size] }
theorem ES(a b:Addr)(xs ys:Array Value):Meets (Builtin.«zip.__new__» ⟨[.type "zip",.ref a,.ref b],[]⟩) (λ_ R s=>s.heap.IsTuple a xs/\s.heap.IsTuple b ys/\R (.ok (.ret (.ref (Wv s.heap a b).objs.size))) {s with heap:=S9 s.heap a b}):=
 .of_wp λprog w A R s h=>by
  obtain⟨hp,g,d,tk,os⟩:=s;obtain⟨q1,q2,h⟩:=h;have su:=sub_zip;have t1:Heap.IsTuple (Shared.heap ⟨hp,g,d,tk,os⟩) a xs:=q1;have t2:Heap.IsTuple (Shared.heap ⟨hp.push (zG a),g,d,tk,os⟩) b ys:=jb q2 λo e=>i6 _ e
  wp_walk using Ji t1,Ji t2
  exact⟨_,rfl,h⟩
theorem Es(q1:s.heap.IsTuple a xs)(q2:s.heap.IsTuple b ys)
  (k:∀h',IsZip h' (s.heap.objs.size+4) (s.heap.objs.size+2) (s.heap.objs.size+3) .none->IsPair h' (s.heap.objs.size+2) (.ref s.heap.objs.size) (.ref (s.heap.objs.size+1))->IsPair h' (s.heap.objs.size+3) .none .none->
   h'.IsTupleIter s.heap.objs.size a 0->h'.IsTupleIter (s.heap.objs.size+1) b 0->(∀c o,s.heap.get? c=some o->h'.get? c=some o)->Q (.ref (s.heap.objs.size+4)) {s with heap:=h' }):wpAny (model prog w) A (call (.type "zip") [.ref a,.ref b]) Q E s:=by
 refine callType_new F.called_zip (by decide) (F.typeCall_zip_2 _ _) (F.newCall_zip_2 _ _) (λobj=>F.args_object_init_3 obj _ _) F.entry_zip_new (ES a b xs ys) ⟨q1,q2,?_⟩;have z1:(Wy s.heap a).objs.size=s.heap.objs.size+1:=E4 ..;have z2:(Wx s.heap a b).objs.size=s.heap.objs.size+2:=by rw[E4,z1]
 have z3:(Ww s.heap a b).objs.size=s.heap.objs.size+3:=by rw[E4,z2]
 have z4:(Wv s.heap a b).objs.size=s.heap.objs.size+4:=by rw[E4,z3]
 have up:∀{h:Heap}{o:Obj}{c:Addr}{q:Obj},h.get? c=some q->(h.push o).get? c=some q:=λe=>i6 _ e;have g5:(S9 s.heap a b).get? (Wv s.heap a b).objs.size=some _:=r8 _ rfl;have g4:(S9 s.heap a b).get? (Ww s.heap a b).objs.size=some _:=up (r8 _ rfl);have g3:(S9 s.heap a b).get? (Wx s.heap a b).objs.size=some _:=up (up (r8 _ rfl));have g2:(S9 s.heap a b).get? (Wy s.heap a).objs.size=some _:=up (up (up (r8 _ rfl)));have g1:(S9 s.heap a b).get? s.heap.objs.size=some _:=up (up (up (up (r8 _ rfl))));show _/\_;rw[z2,z3,z4]at g5;rw[z1,z2]at g3;rw[z3]at g4;rw[z1]at g2;rw[z4];exact⟨⟨_,g5,rfl⟩,k _ g5 g3 g4 ⟨_,g1,rfl,rfl⟩ ⟨_,g2,rfl,rfl⟩ λc o e=>up (up (up (up (up e))))⟩
def PM(K:W.Frag)(a b:Addr):Nat->Hp->List V->Prop:=λi H vs=>∃x y,vs=[x,y]/\(∀xs,K6 K H a xs->xs[i]?=some x)/\∀ys,K6 K H b ys->ys[i]?=some y
def ER(K:W.Frag)(a b:Addr):It:=Xp (λi H=>∃xs ys,K6 K H a xs/\K6 K H b ys/\i<xs.length/\xs.length<=ys.length) (PM K a b) λi H=>∃xs ys,K6 K H a xs/\K6 K H b ys/\xs.length<=i/\xs.length<=ys.length
def QG(a b z TI TO i1 i2:Addr)(i:Nat)(h:Heap):Prop:=IsZip h z TI TO .none/\IsPair h TI (.ref i1) (.ref i2)/\(∃u v,IsPair h TO u v)/\h.IsTupleIter i1 a i/\h.IsTupleIter i2 b i
theorem kB{xs:List V}(I:Inv X K5 σ H s)(h:K6 X.K H a xs)(f:jE X K5 H b):a≠b:=by
 intro e;subst e;obtain⟨f0,_,_,f3,_⟩:=f;rcases h with(h | ⟨o,h⟩) | ⟨o,its,n,hk,_⟩
 .rw[f0]at h;cases h
 .rw[f0]at h;cases h
 .have g:=I.ok.mod.kin a o hk;rcases f3 with z | z
  .exact I.ok.noex a o g z
  .exact absurd (i5 (l6 g) (l7 I.ok.bsz z)) (B2 _)
theorem Bt{TI TO:Addr}{xs ys:List V}(I:Inv X K5 σ H s)(o:Pj z TI TO i1 i2)(hf:∀c∈[z,TI,TO,i1,i2],jE X K5 H c)(la:K6 X.K H a xs)(lb:K6 X.K H b ys):ZipApart z TI TO i1 i2 a b:=
 ⟨o.a1,o.a2,o.a3,o.a4,o.a5,o.a6,o.a7,o.a8,o.a9,o.a10,kB I la (hf z (by simp)),kB I la (hf TO (by simp)),kB I la (hf i1 (by simp)),kB I la (hf i2 (by simp)),kB I lb (hf z (by simp)),kB I lb (hf TO (by simp)),kB I lb (hf i1 (by simp)),kB I lb (hf i2 (by simp))⟩
theorem Px{TI TO:Addr}(st:QG a b z TI TO i1 i2 i h):∀c∈[z,TI,TO,i1,i2],∃o,h.get? c=some o/\∀v,o.data≠.cell v:=by
 intro c hc;obtain⟨hz,Qh,⟨u,v,NR⟩,⟨o1,g1,_,d1⟩,⟨o2,g2,_,d2⟩⟩:=st;simp only[j4,A3,G4]at hc;rcases hc with rfl | rfl | rfl | rfl | rfl
 .exact⟨_,hz,λv z=>by cases z⟩
 .exact⟨_,Qh,λv z=>by cases z⟩
 .exact⟨_,NR,λv z=>by cases z⟩
 .exact⟨_,g1,λv z=>by rw[d1]at z;cases z⟩
 .exact⟨_,g2,λv z=>by rw[d2]at z;cases z⟩
theorem CY{w:World}{K:W.Frag}(a b z TI TO i1 i2:Addr)(own:Pj z TI TO i1 i2) :
  Turn P w K (.Tuple Lh kk LQ) (ER K a b) [z,TI,TO,i1,i2] z (QG a b z TI TO i1 i2) where
 mem:=by simp
 obj:=λi h st c hc=>Px st c hc
 keep:=λi h h' st k=>by
  obtain⟨hz,Qh,⟨u,v,NR⟩,l1,l2⟩:=st;exact⟨k z (by simp) _ hz,k TI (by simp) _ Qh,⟨u,v,k TO (by simp) _ NR⟩,gq l1 λo q=>k i1 (by simp) o q,gq l2 λo q=>k i2 (by simp) o q⟩
 item:=by
  intro X hP hw hK hc i K5 s σ H E I hf st hg;subst hP hw hK;obtain⟨xs,ys,hq,LX,hi,hle⟩:=hg;obtain⟨its,rv,p,hz⟩:=I.tuple hq;obtain⟨Lj,NN,p2,Tp⟩:=I.tuple LX;have hx:xs[i]?=some xs[i]:=c6 hi;have hy:ys[i]?=some (ys[i]'(by omega)):=c6 (by omega);obtain⟨u,hu,ru⟩:=rv.get hx;obtain⟨u2,WT,XR⟩:=NN.get hy;have e1:=rv.length;have e2:=NN.length;have D:=Bt I own hf hq LX;have W:=CW (prog:=X.prog) (w:=X.w) (A:=X.A) (I.ok.hd hc) z TI TO i1 i2 a b D its.toArray Lj.toArray (by simp only[j7];omega);obtain⟨s1,s2,s3,s4,s5⟩:=id st
  refine oB (fp:=[z,TI,TO,i1,i2]) (vs:=[xs[i],ys[i]'(by omega)]) (src:=PM X.K a b) (tn:=QG a b z TI TO i1 i2) W I hf (λc hc=>let ⟨o,q,_⟩:=Px st c hc;⟨o,q⟩) (λc hc=>?_) (by simp only[j7];omega) ⟨s1,s2,s3,s4,s5,p,p2⟩ (λLu hP=>?_) (by show 2<=sizeLine;decide)
   ⟨_,_,rfl,λzs RM=>by rw[I.tuple_inj RM hq];exact hx,λzs RM=>by rw[I.tuple_inj RM LX];exact hy⟩ λh st=>⟨st.1,st.2.1,st.2.2.1,st.2.2.2.1,st.2.2.2.2.1⟩
  .simp only[j4,A3,G4]at hc ⊢;rcases hc with q | q | q | q<;>simp[q]
  .obtain⟨v1,v2,e1,e2,rfl⟩:=hP
   have f1:v1=u:=by
    have q:its[i]?=some v1:=by simpa using e1
    rw[hu]at q;exact(j8 q).symm
   have f2:v2=u2:=by
    have q:Lj[i]?=some v2:=by simpa using e2
    rw[WT]at q;exact(j8 q).symm
   subst f1 f2;exact .cons ru (.cons XR .nil)
 done:=by
  intro X hP hw hK hc i K5 s σ H E I hf st hg;subst hP hw hK;obtain⟨xs,ys,hq,LX,Vi,hle⟩:=hg;obtain⟨its,rv,p,hz⟩:=I.tuple hq;have D:=Bt I own hf hq LX;obtain⟨s1,s2,⟨u,v,s3⟩,s4,s5⟩:=id st;have e1:=rv.length;have hT:s.TypeIs (.ref z) "zip":=⟨_,s1,rfl⟩;have pT:s.heap.IsTuple a its.toArray:=p;unfold pyNext;refine b6 (wpAny_attempt (C9 (name:=Str.ofString "__next__") hT Jq (IW Jq hT KO (xo (I.ok.hd hc) D s1 s2 s3 s4 pT (by simp;omega) λh' e kp ge=>?_) (Ky _))));obtain⟨o,ho,hcl⟩:=ge;refine b6 (wpAny_isInstance (T:="StopIteration") (b:=true) ⟨o,ho,hcl⟩ isSubtype_stop ?_);exact n9 ⟨rfl,I.turnedL (t':=s.toks) (λc o hc q=>kp c o (λe=>hc (by simp[e])) (λe=>hc (by simp[e])) (λe=>hc (by simp[e])) (λe=>hc (by simp[e])) q) hf⟩
 self:=λ_ _ _ _ _ st h=>Jy st.1 h
section
variable{X:Cx}
def U2(K:W.Frag)(ta tb:TE):TI:=λσ H R=>ta σ H λx H1=>tb σ H1 λy H2=>∃a b xs ys,x=.ref a/\y=.ref b/\K6 K H2 a xs/\K6 K H2 b ys/\R (ER K a b) H2
theorem nU{p pos:Pos}{f:Expr}{te tf:TE}(hg:Gl X "zip")(hm:X.mg "zip"=none)(he:PE X e te)(hf:PE X f tf)
  (hs:starEach [e,f] X.env=[(false,eval e X.env),(false,eval f X.env)]:=by rfl)(Nn:starEach [f] X.env=[(false,eval f X.env)]:=by rfl):PI X (.Tuple Lh kk LQ) (.Call (.Name "zip" p) [e,f] [] pos) (U2 X.K te tf):=by
 intro K5 s σ H R I h;have b1:bootBuiltins "zip"=some (.type "zip"):=by decide+kernel
 refine D0 (kT I hg hm b1 ?_ (by decide) (by decide));refine C8 ?_ (by rw[hs,Nn]) (by rw[Nn];rfl);rw[hs];refine IY (Lb (he K5 s σ H _ I h) λu s1 zz=>?_);obtain⟨x,H1,I1,rx,q1⟩:=zz;refine IY (Lb (hf K5 s1 σ H1 _ I1 q1) λu2 s2 zz=>?_);obtain⟨y,H2,I2,ry,a,b,xs,ys,ex,ey,hq,LX,q⟩:=zz;subst ex ey;have eu:u=Value.ref a:=rx;have Zi:u2=Value.ref b:=ry;subst eu Zi;refine JJ ?_;obtain⟨its,rv,pl,hz⟩:=I2.tuple hq;obtain⟨Lj,NN,X8,Tp⟩:=I2.tuple LX;refine Es (show s2.heap.IsTuple a its.toArray from pl) (show s2.heap.IsTuple b Lj.toArray from X8) λh' z TI TO i1 i2 kp=>?_;have I3:Inv X K5 σ H2 {s2 with heap:=h' }:=I2.kept (t':=s2.toks) kp
 refine Jy (s:={s2 with heap:=h' }) z ?_
 have ne:∀i j:Nat,i≠j->s2.heap.objs.size+i≠s2.heap.objs.size+j:=λi j WY e=>WY (Nat.add_left_cancel e)
 refine⟨_,[s2.heap.objs.size+4,s2.heap.objs.size+2,s2.heap.objs.size+3,s2.heap.objs.size,s2.heap.objs.size+1],_,ER X.K a b,H2,rfl,I3,
  CY a b _ _ _ _ _ ⟨ne 2 4 (by decide),ne 3 4 (by decide),ne 0 4 (by decide),ne 1 4 (by decide),ne 2 3 (by decide),ne 2 0 (by decide),ne 2 1 (by decide),ne 3 0 (by decide),ne 3 1 (by decide),ne 0 1 (by decide)⟩,
  ⟨z,TI,⟨_,_,TO⟩,i1,i2⟩,λc hc=>?_,q⟩
 have nb:s2.heap.objs.size<=c:=by
  simp only[j4,A3,G4]at hc;rcases hc with rfl | rfl | rfl | rfl | rfl
  .exact D9 _ _
  .exact D9 _ _
  .exact D9 _ _
  .exact c5 _
  .exact D9 _ _
 exact I2.fpOk nb (I2.hok.fresh nb)
end
section
variable{X:Cx}{tg:Expr}
end
section
variable{X:Cx}
theorem iy(hc:X.calm=true):gi X (.builtin "min") (λxs H Q=>∃(l:Addr)(ns:List Int),xs=[.ref l]/\K7 X.K H l (ns.map V.int)/\0<ns.length/\∀M,M∈ns->(∀a∈ns,M<=a)->Q (.int M) H):=by
 intro K5 s σ H xs us Q I r h;obtain⟨l,ns,rfl,hq,LA,q⟩:=h;obtain⟨u,rfl,rx⟩:=vals1 r;cases rx
 obtain⟨its,rv,pl,_⟩:=I.list hq;have hi:IntsAre its ns:=intsAre_of rv;have hl:=pl.isList;obtain⟨ys,e⟩:=hi.allInts.items;have en:ns=ys.toList.map (·.1):=by rw[<- hi.numsOf,<- JT,<- e]
 have sz:ns.length=ys.size:=by rw[en,i7,A9]
 rw[e]at hl;refine min_intList (I.ok.hd hc) hl (by omega) λv h' tk hv hk=>?_;obtain⟨t,rfl⟩:=JW hv;obtain⟨h1,h2⟩:=argBest_lt (numAt ys) (ys.size-1);refine⟨.int _,H,I.kept hk,⟨t,rfl⟩,q _ ?_ λa ha=>?_⟩
 .rw[Kf,<- en];exact Kg (by omega)
 .rw[en]at ha;obtain⟨j,hj,rfl⟩:=mem_getD ha;rw[<- Kf];exact h2 j (by rw[i7,A9]at hj;omega)
theorem jC(hc:X.calm=true):gi X (.builtin "max") (λxs H Q=>∃(l:Addr)(ns:List Int),xs=[.ref l]/\K7 X.K H l (ns.map V.int)/\0<ns.length/\∀M,M∈ns->(∀a∈ns,a<=M)->Q (.int M) H):=by
 intro K5 s σ H xs us Q I r h;obtain⟨l,ns,rfl,hq,LA,q⟩:=h;obtain⟨u,rfl,rx⟩:=vals1 r;cases rx
 obtain⟨its,rv,pl,_⟩:=I.list hq;have hi:IntsAre its ns:=intsAre_of rv;have hl:=pl.isList;obtain⟨ys,e⟩:=hi.allInts.items;have en:ns=ys.toList.map (·.1):=by rw[<- hi.numsOf,<- JT,<- e]
 have sz:ns.length=ys.size:=by rw[en,i7,A9]
 rw[e]at hl;refine max_intList (I.ok.hd hc) hl (by omega) λv h' tk hv hk=>?_;obtain⟨t,rfl⟩:=JW hv;obtain⟨h1,h2⟩:=argBest_gt (numAt ys) (ys.size-1);refine⟨.int _,H,I.kept hk,⟨t,rfl⟩,q _ ?_ λa ha=>?_⟩
 .rw[Kf,<- en];exact Kg (by omega)
 .rw[en]at ha;obtain⟨j,hj,rfl⟩:=mem_getD ha;rw[<- Kf];exact h2 j (by rw[i7,A9]at hj;omega)
end
section
variable{X:Cx}{n:Nat}{x:Str}{sp:Sp}{p pos:Pos}
theorem Ca(D:Def X.prog X.w X.K X.mg X.base n x [] sp)(hr:dP n X.A)(hg:Gl X x)(hdb:(x==("__debug__":Str))=false:=by decide):PE X (.Call (.Name x p) [] [] pos) (qS sp [] E0 lQ):=by
 obtain⟨f,fd,F,b,kp,m⟩:=D.ex;exact Gz F hr hg m kp b .nil yk hdb
end
open PySem.W
section
variable{X:Cx}{elt Ld:Expr}{xs:List Str}{Lh:List Expr}{kk:Nat}{tp pos:Pos}{scope:Scope}{cl:List (Str×Addr)}{wi:TI}{g:TG}{te:TE}{js:List Nat}
theorem yg(hi:PI X (.Tuple Lh kk tp) Ld wi)(L4:fY X scope js)(hg:∀cl s' H' fp,PG (bI X scope cl (cB X xs js) s' H' fp) (.Tuple Lh kk tp) g)(he:∀cl s' H' fp,PE (bI X scope cl (cB X xs js) s' H' fp) elt te)(hN:X.N.Nodup:=by assumption)(hy:X.N[i]?=some y:=by rfl)(U7:Loc X.env.scope y:=by first | exact Or.inl rfl | exact Or.inr rfl)(U8:X.fn y=true\/X.env.scope.names.lookup y=some .local:=by first | exact .inl rfl | exact .inr rfl)(Vb:swapsWith (.ListComp elt [⟨.Tuple Lh kk tp,Ld,[],0⟩] scope pos) (some (.Name y py)) MT.line X.env=pure true:=by rfl)(hc:X.calm=true:=by rfl)(hk:scope.kind=.function:=by rfl)(Lc:∀y∈scope.names,y.2≠.cell:=by decide+kernel)(Lg:∀y∈scope.names,y.2=.local->scope.names.lookup y.1=some .local:=by decide+kernel)(hf:∀p∈scope.names,p.2=.free->X.env.kindOf p.1=some .cell\/X.env.kindOf p.1=some .free:=by exact c8 (by kernel_rfl))(Mt:(cB X xs js).Nodup:=by exact c8 (by kernel_rfl))(hs:∀x,foldedSetIterable Ld X.env x=pure x:=by intro _;rfl) :
  PS X (.Assign [.Name y py] (.ListComp elt [⟨.Tuple Lh kk tp,Ld,[],0⟩] scope pos) MT) (pR i (mj xs.length wi g te js)):=by
 intro K5 s σ H D I h;obtain⟨cl,e,p1,p2⟩:=wW (qK (js:=js) I λy hy=>hf (y,.free) hy rfl);rw[exec_Assign_Name_used _ _ _ _ Vb];refine b6 (wpAny_standAt (b6 ?_));show wpAny _ _ (do let _ <- comprehension (.ListComp elt [⟨.Tuple Lh kk tp,Ld,[],0⟩] scope pos) scope X.env _ (newList []) false (eval Ld X.env) (some (assign (.Name y py) X.env))) _ _ s
 refine b6 (E7 (Je (use:=some (assign (.Name y py) X.env)) (Q:=λ_ s'=>SP X K5 D .next s') rfl hs e hk Lg
  (tH hc hi hk Lc p1 p2 L4 Mt (hg cl) (he cl) I h λD' C H' s' I' fC hC q=>?_)) (λ_ s' hq=>n9 (n9 hq)) λ_ _ e=>e)
 obtain⟨m,o,es,ep,ho,hd,hr⟩:=hC;obtain⟨f0,f1,f2,f3,f4,f5⟩:=fC
 have Ip:Inv X (K5++[(C,o)]) σ H' s':=I'.pins_of λp hp=>(j6.mp hp).elim (λz=>I'.pin p (l9 _ z)) λz=>by
  have e:p=(C,o):=by simpa using z
  subst e;exact⟨ho,f0,f1,f2,λv z=>by rw[hd]at z;cases z⟩
 have hg:PG X (.Name y py) (kY i):=aO hN hy U7 U8;refine Lb (hg _ s' σ H' (.ref D') (.ref D') (λσ' La=>σ'=σ.set i (some (.ref D'))/\La=H') Ip rfl ⟨rfl,rfl⟩) λ_ Ni X6=>?_;obtain⟨σ'',La,Wn,e1,e2⟩:=X6;subst e1 e2;have hp:=(Wn.pin (C,o) (by simp)).1;refine⟨m,⟨o,es,ep,hp,hd,hr⟩,λh' sb=>?_⟩;exact⟨_,_,(Wn.unpinned).turned (t':=Ni.toks) (λb o hb e=>(sb.2 b hb).trans e) f0 f1 f3 f4 f5,q⟩
end
section
variable{X:Cx}{es fs:List Expr}{t:TA}{te:TE}{k j:Nat}{p:Pos}{i:Int}
theorem fi(hr:PA X es t):PA X (.Constant (.int i) j p::es) (dZ (tC (.int i)) t):=aa aq hr
theorem P5(ha:PE X (.Tuple fs k p) te)(hr:PA X es t):PA X (.Tuple fs k p::es) (dZ te t):=aa ha hr
def QN(a b c:Int):TE:=N5 (dZ (tC (.int a)) (dZ (tC (.int b)) (dZ (tC (.int c)) lQ)))
noncomputable def VQ(a b c:Int)(j1 j2 j3 k:Nat)(p1 p2 p3 p:Pos):Expr:=.Tuple [.Constant (.int a) j1 p1,.Constant (.int b) j2 p2,.Constant (.int c) j3 p3] k p
theorem UJ{a b:Int}:PE X (.Tuple [.Constant (.int a) j1 p1,.Constant (.int b) j2 p2,.Constant (.int c) j3 p3] k p) (QN a b c):=by
 unfold QN;refine bj ?_;refine fi ?_;refine fi ?_;refine fi ?_;exact af
theorem wq{a b:Int}:PE X (VQ a b c j1 j2 j3 k p1 p2 p3 p) (QN a b c):=UJ
def ZZ:TE:=N6 (dZ (QN 1 0 0) (dZ (QN 1 1 0) (dZ (QN 1 1 1) (dZ (QN 1 0 1) lQ))))
structure Wl(e:Expr):Prop where
 ex:∃a1 a2 a3 a4 q1 q2 q3 q4 b1 b2 b3 b4 r1 r2 r3 r4 c1 c2 c3 c4 s1 s2 s3 s4 d1 d2 d3 d4 t1 t2 t3 t4 p,e=.List [VQ 1 0 0 a1 a2 a3 a4 q1 q2 q3 q4,VQ 1 1 0 b1 b2 b3 b4 r1 r2 r3 r4,VQ 1 1 1 c1 c2 c3 c4 s1 s2 s3 s4,VQ 1 0 1 d1 d2 d3 d4 t1 t2 t3 t4] p
theorem UI(h:Wl e):PE X e ZZ:=by
 obtain⟨a1,a2,a3,a4,q1,q2,q3,q4,b1,b2,b3,b4,r1,r2,r3,r4,c1,c2,c3,c4,s1,s2,s3,s4,d1,d2,d3,d4,t1,t2,t3,t4,p,rfl⟩:=h.ex;unfold ZZ;refine cf ?_;refine aa wq ?_ rfl;refine aa wq ?_ rfl;refine aa wq ?_ rfl;refine aa wq ?_ rfl;exact af
end
mutual
def IQ(K:W.Frag)(H:Hp):PyData->V->Prop
 | .none,v=>v=.non
 | .bool b,v=>v=.bl b
 | .int i,v=>v=.int i
 | .str x,v=>v=.str x
 | .tuple ds,v=>∃a xs,v=.ref a/\K6 K H a xs/\il K H ds xs
 | .list ds,v=>∃a xs,v=.ref a/\K7 K H a xs/\il K H ds xs
 | .dict _,_=>False
def il(K:W.Frag)(H:Hp):List PyData->List V->Prop
 | [],xs=>xs=[]
 | d::ds,xs=>∃x r,xs=x::r/\IQ K H d x/\il K H ds r
end
mutual
theorem Dat.m{K:W.Frag}:∀{d:PyData}{v:V},Dat K H d v->IQ K H d v
 | .none,_,h=>h
 | .bool _,_,h=>h
 | .int _,_,h=>h
 | .str _,_,h=>h
 | .tuple _,_,⟨a,xs,h1,h2,h3⟩=>⟨a,xs,h1,h2,DatAll.m h3⟩
 | .list _,_,h=>False.elim h
 | .dict _,_,h=>h
theorem DatAll.m{K:W.Frag}:∀{ds:List PyData}{xs:List V},DatAll K H ds xs->il K H ds xs
 | [],_,h=>h
 | _::_,_,⟨x,r,h1,h2,h3⟩=>⟨x,r,h1,Dat.m h2,DatAll.m h3⟩
end
mutual
theorem IQ.reads(I:Inv X K5 σ H s):∀d {v:V} {u:Value},IQ X.K H d v->RelV v u->∃as,Reads s.heap u d as
 | .none,_,_,h,r=>Dat.reads I .none h r
 | .bool b,_,_,h,r=>Dat.reads I (.bool b) h r
 | .int i,_,_,h,r=>Dat.reads I (.int i) h r
 | .str x,_,_,h,r=>Dat.reads I (.str x) h r
 | .tuple ds,_,_,⟨a,xs,h1,h2,h3⟩,r=>by
  cases h1
  cases(show _=Value.ref a from r)
  obtain⟨its,rv,⟨o,ho,hc,n,hd⟩,_⟩:=I.tuple h2;obtain⟨as,ra⟩:=il.reads I ds h3 rv;exact⟨as,.tuple ho hc hd (by simpa using ra)⟩
 | .list ds,_,_,⟨a,xs,h1,h2,h3⟩,r=>by
  cases h1
  cases(show _=Value.ref a from r)
  obtain⟨its,rv,⟨o,n,ho,hc,_,hd⟩,_⟩:=I.list h2;obtain⟨as,ra⟩:=il.reads I ds h3 rv;exact⟨a::as,.list ho hc hd (by simpa using ra)⟩
 | .dict _,_,_,h,_=>False.elim h
theorem il.reads(I:Inv X K5 σ H s):∀ds {xs:List V} {us:List Value},il X.K H ds xs->Vals xs us->∃as,ReadsAll s.heap us ds as
 | [],_,_,h,r=>by
  cases(show _=([]:List V) from h)
  cases r
  exact⟨[],.nil⟩
 | d::ds,_,_,⟨x,t,h1,h2,h3⟩,r=>by
  cases h1
  cases r with
  | cons r1 r2 =>
   obtain⟨as,a1⟩:=IQ.reads I d h2 r1;obtain⟨bs,b1⟩:=il.reads I ds h3 r2;exact⟨as++bs,.cons a1 b1⟩
end
section
variable{X:Cx}
end
end L2
namespace Mine
variable{j n b bb:Nat}{U W u d:Int}
structure T3 where
 u:Int
 v:Int
 w:Int
deriving DecidableEq
namespace Hu
noncomputable def tl(r p:T3):Int:=r.u*p.v+r.v*p.w+r.w*p.u
noncomputable def det(p q r:T3):Int:=p.u*(q.v*r.w-q.w*r.v)-p.v*(q.u*r.w-q.w*r.u)+p.w*(q.u*r.v-q.v*r.u)
theorem bO(p q r:T3):det p q r=det r p q:=by simp only[det];grind
theorem AN(p r:T3):det p p r=0:=by simp only[det];grind
theorem AM(p r:T3):det r p p=0:=by simp only[det];grind
theorem Io(p r:T3):det p r p=0:=by simp only[det];grind
structure Co(p q X:T3):Prop where
 ex:∃g a b:Int,0<g/\0<=a/\0<=b/\g*X.u=a*p.u+b*q.u/\g*X.v=a*p.v+b*q.v/\g*X.w=a*p.w+b*q.w
theorem SE(p q:T3):Co p q p:=⟨1,1,0,by decide,by decide,by decide,by omega,by omega,by omega⟩
theorem mP{g x:Int}(hg:0<g)(h:0<=g*x):0<=x:=by
 rcases A0 x 0 with z | z
 .have:=C3 hg z;omega
 .exact z
theorem V2(h:Co p q X)(h1:0<=det p Y Z)(h2:0<=det q Y Z):0<=det X Y Z:=by
 obtain⟨g,a,b,hg,ha,hb,e1,e2,e3⟩:=h.ex;refine mP hg ?_;have e:g*det X Y Z=a*det p Y Z+b*det q Y Z:=by simp only[det];grind
 rw[e];have:=y8 ha h1;have:=y8 hb h2;omega
theorem ZE(h:Co p q Y)(h1:0<=det X p Z)(h2:0<=det X q Z):0<=det X Y Z:=by
 rw[bO,bO];rw[bO,bO]at h1 h2;exact V2 h h1 h2
theorem SF(h:Co p q Z)(h1:0<=det X Y p)(h2:0<=det X Y q):0<=det X Y Z:=by
 rw[bO];rw[bO]at h1 h2;exact V2 h h1 h2
def Wd(L:List T3):Prop:=∀p q r,[p,q,r].Sublist L->0<=det p q r
theorem oE{α:Type}{L:List α}{i k:Nat}(h1:i<j)(h2:j<k)(h3:k<L.length):[L[i]'(by omega),L[j]'(by omega),L[k]].Sublist L:=by
 have a3:[L[k]].Sublist (L.drop (j+1)):=by
  rw[G7];rw[D7];exact⟨k-(j+1),by simp;omega,by simp[show j+1+(k-(j+1))=k by omega]⟩
 have a2:[L[j]'(by omega),L[k]].Sublist (L.drop (i+1)):=by
  have:[L[j]'(by omega),L[k]].Sublist (L.drop j):=by
   rw[C2 (show j<L.length by omega)];exact List.Sublist.cons₂ _ a3
  refine this.trans ?_;have e:L.drop j=(L.drop (i+1)).drop (j-(i+1)):=by rw[List.drop_drop];congr 1;omega
  rw[e];exact Kz _ _
 refine List.Sublist.trans ?_ (Kz i L);rw[C2 (show i<L.length by omega)];exact List.Sublist.cons₂ _ a2
section
variable{α:Type}{f:Nat->List α}
noncomputable def fl(f:Nat->List α)(n:Nat):List α:=(List.range n).flatMap f
theorem qM:fl f 0=[]:=rfl
theorem bz(n:Nat):fl f (n+1)=fl f n++f n:=by simp[fl,List.range_succ]
theorem sub_one:∀{n:Nat},p∈fl f n->∃i,i<n/\p∈f i
 | 0,h=>by simp[fl]at h
 | n+1,h=>by
  rw[bz]at h;rcases j6.mp h with h | h
  .obtain⟨i,hi,z⟩:=sub_one h;exact⟨i,by omega,z⟩
  .exact⟨n,by omega,h⟩
theorem Bw:∀{n:Nat},[p,q].Sublist (fl f n)->(∃i j,i<j/\j<n/\p∈f i/\q∈f j)\/∃i,i<n/\[p,q].Sublist (f i)
 | 0,h=>by have:=h.length_le;simp[fl]at this
 | n+1,h=>by
  rw[bz]at h;obtain⟨l1,l2,e,h1,h2⟩:=List.sublist_append_iff.mp h
  match l1,e with
  | [],e=>subst e;exact .inr ⟨n,by omega,h2⟩
  | [_],e =>
   simp at e;obtain⟨rfl,rfl⟩:=e;obtain⟨i,hi,z⟩:=sub_one (G7.mp h1);exact .inl ⟨i,n,hi,by omega,z,G7.mp h2⟩
  | [_,_],e =>
   simp at e;obtain⟨rfl,rfl,rfl⟩:=e;rcases Bw h1 with⟨i,j,a,b,c,d⟩ | ⟨i,a,b⟩
   .exact .inl ⟨i,j,a,by omega,c,d⟩
   .exact .inr ⟨i,by omega,b⟩
  | _::_::_::_,e=>simp at e
theorem uC:∀{n:Nat},[p,q,r].Sublist (fl f n)->(∃i j k,i<j/\j<k/\k<n/\p∈f i/\q∈f j/\r∈f k)\/(∃i k,i<k/\k<n/\[p,q].Sublist (f i)/\r∈f k)\/(∃i k,i<k/\k<n/\p∈f i/\[q,r].Sublist (f k))\/∃i,i<n/\[p,q,r].Sublist (f i)
 | 0,h=>by have:=h.length_le;simp[fl]at this
 | n+1,h=>by
  rw[bz]at h;obtain⟨l1,l2,e,h1,h2⟩:=List.sublist_append_iff.mp h
  match l1,e with
  | [],e=>subst e;exact .inr (.inr (.inr ⟨n,by omega,h2⟩))
  | [_],e =>
   simp at e;obtain⟨rfl,rfl⟩:=e;obtain⟨i,hi,z⟩:=sub_one (G7.mp h1);exact .inr (.inr (.inl ⟨i,n,hi,by omega,z,h2⟩))
  | [_,_],e =>
   simp at e;obtain⟨rfl,rfl,rfl⟩:=e;have Mh:=G7.mp h2;rcases Bw h1 with⟨i,j,a,b,c,d⟩ | ⟨i,a,b⟩
   .exact .inl ⟨i,j,n,a,b,by omega,c,d,Mh⟩
   .exact .inr (.inl ⟨i,n,a,by omega,b,Mh⟩)
  | [_,_,_],e =>
   simp at e;obtain⟨rfl,rfl,rfl,rfl⟩:=e;rcases uC h1 with⟨i,j,k,a,b,c,d⟩ | ⟨i,k,a,b,c⟩ | ⟨i,k,a,b,c⟩ | ⟨i,a,b⟩
   .exact .inl ⟨i,j,k,a,b,by omega,d⟩
   .exact .inr (.inl ⟨i,k,a,by omega,c⟩)
   .exact .inr (.inr (.inl ⟨i,k,a,by omega,c⟩))
   .exact .inr (.inr (.inr ⟨i,by omega,b⟩))
  | _::_::_::_::_,e=>simp at e
theorem sU{c:Nat}(h:∀i,(f i).length<=c):∀n:Nat,(fl f n).length<=n*c
 | 0=>by simp[fl]
 | n+1=>by
  rw[bz,c7];have:=sU h n;have:=h n;rw[Nat.add_mul];omega
theorem Ia{i:Nat}(hi:i<n)(h:p∈f i):p∈fl f n:=by
 unfold fl;exact List.mem_flatMap.mpr ⟨i,J9.mpr hi,h⟩
end
noncomputable def z3:T3:=⟨1,0,0⟩
noncomputable def cor(h:List T3)(i:Nat):T3:=h.getD (i%h.length) z3
theorem cK{i:Nat}(hi:i<h.length):cor h i=h[i]:=by
 unfold cor;rw[KP hi,z5,c6 hi];rfl
theorem cG(h:List T3):cor h h.length=cor h 0:=by
 unfold cor;rw[Nat.mod_self,Nat.zero_mod]
theorem cF(h0:0<h.length)(i:Nat):cor h i∈h:=by
 have:i%h.length<h.length:=KU _ h0;unfold cor;rw[z5,c6 this];exact IX this
theorem FY{h:List T3}(T:Wd h){i k:Nat}(h1:i<=j)(h2:j<=k)(h3:k<h.length):0<=det (cor h i) (cor h j) (cor h k):=by
 rcases A7 i j with a | a
 .rcases A7 j k with b | b
  .rw[cK (show i<h.length by omega),cK (show j<h.length by omega),cK h3];exact T _ _ _ (oE a b h3)
  .rw[show j=k by omega,AM];exact D5 0
 .rw[show i=j by omega,AN];exact D5 0
theorem wa(T:Wd h){i k:Nat}(h1:i<=j)(h2:j<=k)(h3:k<=h.length):0<=det (cor h i) (cor h j) (cor h k):=by
 rcases A7 k h.length with c | c
 .exact FY T h1 h2 c
 .rw[show k=h.length by omega,cG,bO];rcases A7 j h.length with d | d
  .exact FY T (x4 _) h1 d
  .rw[show j=h.length by omega,cG,Io];exact D5 0
structure Part(h:List T3)(f:Nat->List T3):Prop where
 co:∀i,i<h.length->∀p∈f i,Co (cor h i) (cor h (i+1)) p
 two:∀i,i<h.length->∀p q,[p,q].Sublist (f i)->p=cor h i
 len:∀i,(f i).length<=2
end Hu
namespace Hu
noncomputable def nm(p q s t:Int):Int:=(t.natAbs:Int)*p+(s.natAbs:Int)*q
noncomputable def gg(U V W:Int):Int:=Lo.gc (Lo.gc U V) W
noncomputable def mid(p q:T3)(s t:Int):T3:=
 ⟨(nm p.u q.u s t).fdiv (gg (nm p.u q.u s t) (nm p.v q.v s t) (nm p.w q.w s t)),(nm p.v q.v s t).fdiv (gg (nm p.u q.u s t) (nm p.v q.v s t) (nm p.w q.w s t)),(nm p.w q.w s t).fdiv (gg (nm p.u q.u s t) (nm p.v q.v s t) (nm p.w q.w s t))⟩
theorem Ci(p q:T3)(s t:Int):mid p q (-s) (-t)=mid p q s t:=by simp only[mid,nm,Int.natAbs_neg]
theorem yP(U V W:Int):gg U V W∣U:=Int.dvd_trans (Lo.eJ _ _) (Lo.eJ _ _)
theorem HN(U V W:Int):gg U V W∣V:=Int.dvd_trans (Lo.eJ _ _) (Lo.fS _ _)
theorem HM(U V W:Int):gg U V W∣W:=Lo.fS _ _
theorem Ek(U V W:Int):0<=gg U V W:=Lo.pF _ _
theorem mW{V:Int}(h:0<U):0<gg U V W:=by
 rcases Int.lt_or_eq_of_le (Ek U V W) with z | z
 .exact z
 .have:=yP U V W;rw[<- z]at this;have:=Int.zero_dvd.mp this;omega
theorem gg_le{V:Int}(h:0<U):gg U V W<=U:=Int.le_of_dvd h (yP U V W)
theorem div_eq{g x:Int}(h:g∣x):g*x.fdiv g=x:=by
 rw[JH h];exact JU h
structure P3(b:Nat)(p:T3):Prop where
 n0:0<p.u
 x0:0<=p.v
 y0:0<=p.w
 n1:p.u<2^b
 x1:p.v<2^b
 y1:p.w<2^b
theorem P3.mono{c:Nat}(h:P3 b p)(z:b<=c):P3 c p:=by
 have e:(2:Int)^b<=2^c:=by
  have:=F1 (n:=2) (by decide) z
  exact_mod_cast this
 exact⟨h.n0,h.x0,h.y0,Kh h.n1 e,Kh h.x1 e,Kh h.y1 e⟩
theorem mS{a c:Int}{m:Nat}(h1:a.natAbs<2^m)(h2:c.natAbs<2^n):(a*c).natAbs<2^(m+n):=by
 rw[K2,Nat.pow_add];rcases G1 c.natAbs with z | z
 .rw[z,Nat.mul_zero];exact Nat.mul_pos (Nat.pow_pos (by decide)) (Nat.pow_pos (by decide))
 .exact i5 (Nat.mul_lt_mul_of_pos_right h1 z) (Nat.mul_le_mul_left _ (Jx h2))
theorem yz{x:Int}(h0:0<=x)(h:x<2^b):x.natAbs<2^b:=by
 have e:((2^b:Nat):Int)=(2:Int)^b:=by norm_cast
 omega
theorem nm_b{e:Nat}{p q s t:Int}(p0:0<=p)(q0:0<=q)(p1:p<2^b)(q1:q<2^b)(hs:s.natAbs<2^e)(ht:t.natAbs<2^e):0<=nm p q s t/\(nm p q s t).natAbs<2^(e+b+1):=by
 have a1:=mS (a:=(t.natAbs:Int)) (c:=p) (m:=e) (n:=b) (by simpa using ht) (yz p0 p1);have a2:=mS (a:=(s.natAbs:Int)) (c:=q) (m:=e) (n:=b) (by simpa using hs) (yz q0 q1);have b1:0<=(t.natAbs:Int)*p:=y8 (by omega) p0;have b2:0<=(s.natAbs:Int)*q:=y8 (by omega) q0;have e1:2^(e+b+1)=2^(e+b)+2^(e+b):=by rw[G3];omega
 unfold nm;rw[e1];exact⟨by omega,by omega⟩
section
variable{b e:Nat}{p q:T3}{s t:Int}
theorem iY(hp:P3 b p)(hq:P3 b q)(h:s*t<0):0<nm p.u q.u s t:=by
 have s0:s≠0:=λz=>by rw[z]at h;simp at h
 have t0:t≠0:=λz=>by rw[z]at h;simp at h
 have a1:0<(t.natAbs:Int)*p.u:=F7 (by omega) hp.n0;have a2:0<(s.natAbs:Int)*q.u:=F7 (by omega) hq.n0;unfold nm;omega
theorem pC(hp:P3 b p)(hq:P3 b q)(h:s*t<0):Co p q (mid p q s t):=by
 have g0:=mW (V:=nm p.v q.v s t) (W:=nm p.w q.w s t) (iY hp hq h);exact⟨gg (nm p.u q.u s t) (nm p.v q.v s t) (nm p.w q.w s t),t.natAbs,s.natAbs,g0,by omega,by omega,div_eq (yP _ _ _),div_eq (HN _ _ _),div_eq (HM _ _ _)⟩
end
structure xh(b l:Nat)(h:List T3):Prop where
 tri:Wd h
 ok:∀p∈h,P3 b p
 pos:0<h.length
 few:h.length<=l
noncomputable def stp(h:List T3)(t:Nat->Int)(i:Nat):List T3:=(if t i<=0 then[cor h i] else[])++(if t i*t (i+1)<0 then[mid (cor h i) (cor h (i+1)) (t i) (t (i+1))] else[])
noncomputable def tv(r:T3)(h:List T3)(i:Nat):Int:=tl r (cor h i)
noncomputable def tn(r:T3)(h:List T3)(i:Nat):Int:=- tl r (cor h i)
noncomputable def low(r:T3)(h:List T3):List T3:=fl (stp h (tv r h)) h.length
noncomputable def high(r:T3)(h:List T3):List T3:=fl (stp h (tn r h)) h.length
theorem nB{l:Nat}(H:xh b l h)(t:Nat->Int):Part h (stp h t) where
 co:=λi hi p hp=>by
  unfold stp at hp;rcases j6.mp hp with z | z
  .split at z
   .rw[c9.mp z];exact SE _ _
   .cases z
  .split at z
   .rename_i c;rw[c9.mp z];exact pC (H.ok _ (cF H.pos i)) (H.ok _ (cF H.pos (i+1))) c
   .cases z
 two:=λi hi p q s=>by
  unfold stp at s
  by_cases c1:t i<=0<;>by_cases c2:t i*t (i+1)<0
  .rw[d7 c1,d7 c2]at s;have:=s.eq_of_length (by simp);simp at this;exact this.1
  .rw[d7 c1,d9 c2]at s;have:=s.length_le;simp at this
  .rw[d9 c1,d7 c2]at s;have:=s.length_le;simp at this
  .rw[d9 c1,d9 c2]at s;have:=s.length_le;simp at this
 len:=λi=>by
  unfold stp;rw[c7];split<;>split<;>simp
structure R3(c:Nat)(r:T3):Prop where
 a:r.u.natAbs<2^c
 b:r.v.natAbs<2^c
 c:r.w.natAbs<2^c
theorem P3.r(h:P3 b p):R3 b p:=⟨yz (y9 h.n0) h.n1,yz h.x0 h.x1,yz h.y0 h.y1⟩
theorem tl_b{c:Nat}(hr:R3 c r)(hp:R3 b p):(tl r p).natAbs<2^(c+b+2):=by
 have a1:=mS hr.a hp.b;have a2:=mS hr.b hp.c;have a3:=mS hr.c hp.a;have e1:2^(c+b+2)=4*2^(c+b):=by rw[Nat.pow_add];omega
 unfold tl;rw[e1];omega
def gX(r:T3)(h:List T3):Prop:=(∀p∈h,0<=tl r p)\/∀p∈h,tl r p<=0
theorem R3.mono{c:Nat}(h:R3 b p)(z:b<=c):R3 c p:=by
 have e:=F1 (n:=2) (by decide) z;exact⟨i5 h.a e,i5 h.b e,i5 h.c e⟩
end Hu
namespace Hu
theorem xB(r:T3)(h:List T3)(i:Nat):stp h (tn r h) i=(if 0<=tv r h i then[cor h i] else[])++(if tv r h i*tv r h (i+1)<0 then[mid (cor h i) (cor h (i+1)) (tv r h i) (tv r h (i+1))] else[]):=by
 unfold stp tn tv;rw[Ci,Int.neg_mul_neg];congr 1
 by_cases c:0<=tl r (cor h i)
 .rw[d7 c,d7 (by omega)]
 .rw[d9 c,d9 (by omega)]
theorem zA(r:T3)(h:List T3)(i:Nat):tv r h (i%h.length)=tv r h i:=by unfold tv cor;rw[Nat.mod_mod]
theorem oh(h:List T3)(i:Nat):cor h (i%h.length)=cor h i:=by unfold cor;rw[Nat.mod_mod]
theorem jW{i:Nat}(hi:i<h.length):h[i]?=some (cor h i):=by rw[c6 hi,cK hi]
theorem sT(i n:Nat):((i:Int)+1).fmod (n:Int)=(((i+1)%n:Nat):Int):=by
 rw[Kb _ (by omega),Int.natCast_emod,Int.natCast_add];rfl
end Hu
namespace Hu
noncomputable def sqH:List T3:=[⟨1,0,0⟩,⟨1,1,0⟩,⟨1,1,1⟩,⟨1,0,1⟩]
theorem QR:Wd sqH:=by
 intro p q r h;simp only[sqH,List.sublist_cons_iff,List.sublist_nil,Jr,reduceCtorEq,false_or,G4]at h;simp only[List.nil_eq,exists_eq_right_right',and_assoc]at h;grind [det]
theorem Oc:xh 1 4 sqH:=⟨QR,λp hp=>by
 simp only[sqH,j4,A3,G4]at hp;rcases hp with rfl | rfl | rfl | rfl<;>exact⟨by decide,by decide,by decide,by decide,by decide,by decide⟩,by decide,by decide⟩
theorem xh.mono{b' l l':Nat}(H:xh b l h)(h1:b<=b')(h2:l<=l'):xh b' l' h:=⟨H.tri,λp hp=>(H.ok p hp).mono h1,H.pos,l7 H.few h2⟩
end Hu
namespace Hu
noncomputable def cx(p q:T3):Rat:=((p.v:Rat)*q.w-(q.v:Rat)*p.w)/((p.u:Rat)*q.u)
theorem O8(p:T3):cx p p=0:=by unfold cx;grind
theorem sZ(p q:T3):cx q p = - cx p q:=by unfold cx;grind
theorem pj{n:Int}(h:0<n):(n:Rat)≠0:=by
 intro z;have:n=0:=by exact_mod_cast z
 omega
theorem O6(p q r:T3):((det p q r:Int):Rat)=(p.u:Rat)*(q.v*r.w-q.w*r.v)-p.v*(q.u*r.w-q.w*r.u)+p.w*(q.u*r.v-q.v*r.u):=by
 unfold det;simp only[Rat.intCast_add,Rat.intCast_sub,Rat.intCast_mul]
theorem yT(hp:0<p.u)(hq:0<q.u)(hr:0<r.u):cx p q+cx q r+cx r p=((det p q r:Int):Rat)/((p.u:Rat)*q.u*r.u):=by
 rw[O6];have h1:=pj hp;have h2:=pj hq;have h3:=pj hr;unfold cx;grind
theorem wV(hp:0<p.u)(hq:0<q.u)(hr:0<r.u)(h:det p q r=0):cx p q+cx q r=cx p r:=by
 have e:=yT hp hq hr;rw[h,sZ p r]at e;have z:((0:Int):Rat)/((p.u:Rat)*q.u*r.u)=0:=by grind
 rw[z]at e;grind
theorem sY(hm:m.u≠0\/m.v≠0\/m.w≠0)(h1:tl m p=0)(h2:tl m q=0)(h3:tl m r=0):det p q r=0:=by
 unfold tl at h1 h2 h3;have a:m.u*det p q r=0:=by unfold det;grind
 have b:m.v*det p q r=0:=by unfold det;grind
 have c:m.w*det p q r=0:=by unfold det;grind
 rcases hm with z | z | z
 .exact(D8.mp a).resolve_left z
 .exact(D8.mp b).resolve_left z
 .exact(D8.mp c).resolve_left z
noncomputable def sm:List T3->Rat
 | []=>0
 | [_]=>0
 | a::b::r=>cx a b+sm (b::r)
theorem eX:∀L a b,sm (L++[a,b])=sm (L++[a])+cx a b
 | [],a,b=>by simp only[sm,w8];grind
 | [x],a,b=>by simp only[sm,y7,w8];grind
 | x::y::r,a,b=>by
  have:=eX (y::r) a b;simp only[sm,y7]at *;rw[this];grind
noncomputable def mX(L:List T3):Rat:=match L with
 | []=>0
 | a::r=>sm (a::r++[a])
noncomputable def su(f:Nat->Rat):Nat->Rat
 | 0=>0
 | k+1=>su f k+f k
theorem zL(f g:Nat->Rat):∀k,su (λi=>f i+g i) k=su f k+su g k
 | 0=>by simp only[su];grind
 | k+1=>by simp only[su];rw[zL f g k];grind
theorem Bx(f:Nat->Rat):∀k,su (λi=>f i-f (i+1)) k=f 0-f k
 | 0=>by simp only[su];grind
 | k+1=>by simp only[su];rw[Bx f k];grind
theorem xA:∀{k},(∀i,i<k->f i=g i)->su f k=su g k
 | 0,_=>rfl
 | k+1,h=>by simp only[su];rw[xA λi hi=>h i (by omega),h k (by omega)]
section
variable{h:List T3}{t:Nat->Int}{m X:T3}
noncomputable def md(h:List T3)(t:Nat->Int)(i:Nat):T3:=mid (cor h i) (cor h (i+1)) (t i) (t (i+1))
noncomputable def gL(h:List T3)(t:Nat->Int)(X:T3)(i:Nat):Rat:=
 if t i<=0 then(if t (i+1)<=0 then cx (cor h i) (cor h (i+1)) else if t i<0 then cx (cor h i) (md h t i)+cx (md h t i) X else cx (cor h i) X)
 else(if t (i+1)<0 then cx X (md h t i)+cx (md h t i) (cor h (i+1)) else if t (i+1)=0 then cx X (cor h (i+1)) else 0)
structure Wk(h:List T3)(t:Nat->Int)(m X:T3):Prop where
 m0:m.u≠0\/m.v≠0\/m.w≠0
 xu:0<X.u
 xl:tl m X=0
 cu:∀i,0<(cor h i).u
 cz:∀i,t i=0->tl m (cor h i)=0
 mu:∀i,t i*t (i+1)<0->0<(md h t i).u
 ml:∀i,t i*t (i+1)<0->tl m (md h t i)=0
noncomputable def MA(t:Nat->Int)(X:T3):List T3:=if t 0<=0 then[] else[X]
noncomputable def pp(h:List T3)(t:Nat->Int)(X:T3)(k:Nat):T3:=if t k<=0 then cor h k else X
def On(m:T3)(e:T3):Prop:=tl m e=0/\0<e.u
theorem Wk.three(W:Wk h t m X){b:T3}(ha:On m a)(hb:On m b):cx a X+cx X b=cx a b:=wV ha.2 W.xu hb.2 (sY W.m0 ha.1 W.xl hb.1)
theorem kA{i:Nat}(h1:t i<=0)(h2:¬t i*t (i+1)<0):stp h t i=[cor h i]:=by unfold stp;rw[d7 h1,d9 h2];rfl
theorem nC{i:Nat}(h1:t i<=0)(h2:t i*t (i+1)<0):stp h t i=[cor h i,md h t i]:=by unfold stp md;rw[d7 h1,d7 h2];rfl
theorem iC{i:Nat}(h1:¬t i<=0)(h2:t i*t (i+1)<0):stp h t i=[md h t i]:=by unfold stp md;rw[d9 h1,d7 h2];rfl
theorem kz{i:Nat}(h1:¬t i<=0)(h2:¬t i*t (i+1)<0):stp h t i=[]:=by unfold stp;rw[d9 h1,d9 h2];rfl
theorem walk(W:Wk h t m X):∀k,su (gL h t X) k=sm (MA t X++fl (stp h t) k++[pp h t X k])/\(¬t k<=0->∃L e,MA t X++fl (stp h t) k=L++[e]/\On m e)
 | 0=>by
  refine⟨?_,λz=>⟨[],X,?_,W.xl,W.xu⟩⟩
  .show 0=sm (MA t X++[]++[pp h t X 0]);unfold MA pp;split
   .rfl
   .simp only[sm,A4,y7,w8];rw[O8];grind
  .unfold MA;rw[d9 z];rfl
 | k+1=>by
  obtain⟨e,o⟩:=walk W k;show su (gL h t X) k+gL h t X k=_/\_;rw[e,bz]
  by_cases a:t k<=0
  .have pk:pp h t X k=cor h k:=by unfold pp;rw[d7 a]
   rw[pk]
   by_cases b:t (k+1)<=0
   .have n:¬t k*t (k+1)<0:=by
     have:=C4 a b;omega
    have NO:pp h t X (k+1)=cor h (k+1):=by unfold pp;rw[d7 b]
    rw[kA a n,NO,show gL h t X k=cx (cor h k) (cor h (k+1)) by unfold gL;rw[d7 a,d7 b]];refine⟨?_,λz=>absurd b z⟩;have:=eX (MA t X++fl (stp h t) k) (cor h k) (cor h (k+1));rw[<- this];simp only[m6,y7,w8]
   .have NO:pp h t X (k+1)=X:=by unfold pp;rw[d9 b]
    by_cases c:t k<0
    .have n:t k*t (k+1)<0:=F8 c (by omega);rw[nC a n,NO,show gL h t X k=cx (cor h k) (md h t k)+cx (md h t k) X by unfold gL;rw[d7 a,d9 b,d7 c]];refine⟨?_,λ_=>⟨MA t X++fl (stp h t) k++[cor h k],md h t k,by simp only[m6,y7,w8],W.ml k n,W.mu k n⟩⟩;have s1:=eX (MA t X++fl (stp h t) k) (cor h k) (md h t k);have s2:=eX (MA t X++fl (stp h t) k++[cor h k]) (md h t k) X;simp only[m6,y7,w8]at s1 s2 ⊢;rw[s2,s1];grind
    .have z:t k=0:=by omega
     have n:¬t k*t (k+1)<0:=by rw[z];omega
     rw[kA a n,NO,show gL h t X k=cx (cor h k) X by unfold gL;rw[d7 a,d9 b,d9 c]];refine⟨?_,λ_=>⟨MA t X++fl (stp h t) k,cor h k,by simp only[m6],W.cz k z,W.cu k⟩⟩;have:=eX (MA t X++fl (stp h t) k) (cor h k) X;rw[<- this];simp only[m6,y7,w8]
  .obtain⟨L,e1,eL,oe⟩:=o a;have pk:pp h t X k=X:=by unfold pp;rw[d9 a]
   rw[pk,eL];have s0:=eX L e1 X
   by_cases b:t (k+1)<0
   .have n:t k*t (k+1)<0:=C3 (by omega) b;have NO:pp h t X (k+1)=cor h (k+1):=by unfold pp;rw[d7 (by omega)]
    rw[iC a n,NO,show gL h t X k=cx X (md h t k)+cx (md h t k) (cor h (k+1)) by unfold gL;rw[d9 a,d7 b],<- m6,eL];refine⟨?_,λz=>absurd (show t (k+1)<=0 by omega) z⟩;have s1:=eX L e1 (md h t k);have s2:=eX (L++[e1]) (md h t k) (cor h (k+1));have l3:=W.three oe ⟨W.ml k n,W.mu k n⟩;simp only[m6,y7,w8]at s0 s1 s2 ⊢;rw[s2,s1,s0];grind
   .have n:¬t k*t (k+1)<0:=by
     have:=y8 (show 0<=t k by omega) (show 0<=t (k+1) by omega);omega
    rw[kz a n,A4,eL]
    by_cases c:t (k+1)=0
    .have NO:pp h t X (k+1)=cor h (k+1):=by unfold pp;rw[d7 (by omega)]
     rw[NO,show gL h t X k=cx X (cor h (k+1)) by unfold gL;rw[d9 a,d9 b,d7 c]];refine⟨?_,λz=>absurd (show t (k+1)<=0 by omega) z⟩;have s1:=eX L e1 (cor h (k+1));have l3:=W.three oe ⟨W.cz (k+1) c,W.cu (k+1)⟩;simp only[m6,y7,w8]at s0 s1 ⊢;rw[s1,s0];grind
    .have NO:pp h t X (k+1)=X:=by unfold pp;rw[d9 (by omega)]
     rw[NO,show gL h t X k=0 by unfold gL;rw[d9 a,d9 b,d9 c]];refine⟨by grind,λ_=>⟨L,e1,rfl,oe⟩⟩
end
section
variable{h:List T3}{t:Nat->Int}{m X:T3}
theorem OZ(k:Nat):fl f (k+1)=[]->fl f k=[]/\f k=[]:=λz=>by rw[bz]at z;exact List.append_eq_nil_iff.mp z
theorem Ce(a:¬t 0<=0):∀k,fl (stp h t) k=[]->0<=t k
 | 0,_=>by omega
 | k+1,z=>by
  obtain⟨z1,z2⟩:=OZ k z;have tk:=Ce a k z1
  by_cases b:t k<=0
  .unfold stp at z2;rw[d7 b]at z2;exact absurd z2 (by simp)
  .by_cases c:t k*t (k+1)<0
   .rw[iC b c]at z2;exact absurd z2 (by simp)
   .rcases A0 (t (k+1)) 0 with y | y
    .exact absurd (C3 (show 0<t k by omega) y) c
    .exact y
theorem nZ(W:Wk h t m X)(a:¬t 0<=0):∀k x r,fl (stp h t) k=x::r->On m x
 | 0,x,r,z=>by cases z
 | k+1,x,r,z=>by
  rw[bz]at z;cases e:fl (stp h t) k with
  | cons y r' =>
   rw[e]at z;simp only[y7,Jr]at z;rw[<- z.1];exact nZ W a k y r' e
  | nil =>
   rw[e,w8]at z;have tk:=Ce (h:=h) a k e
   by_cases b:t k<=0
   .have t0:t k=0:=by omega
    rw[kA b (by rw[t0];omega)]at z;simp only[Jr]at z;rw[<- z.1];exact⟨W.cz k t0,W.cu k⟩
   .by_cases c:t k*t (k+1)<0
    .rw[iC b c]at z;simp only[Jr]at z;rw[<- z.1];exact⟨W.ml k c,W.mu k c⟩
    .rw[kz b c]at z;cases z
theorem vz(W:Wk h t m X)(n0:0<h.length)(tn:t h.length=t 0)(ne:fl (stp h t) h.length≠[]):su (gL h t X) h.length=mX (fl (stp h t) h.length):=by
 obtain⟨e,o⟩:=walk W h.length;rw[e]
 by_cases a:t 0<=0
 .have p0:pp h t X h.length=cor h 0:=by unfold pp;rw[tn,d7 a,cG]
  have s0:MA t X=[]:=by unfold MA;rw[d7 a]
  rw[p0,s0,w8]
  have hd:∃r,fl (stp h t) h.length=cor h 0::r:=by
   obtain⟨n,en⟩:∃n,h.length=n+1:=⟨h.length-1,by omega⟩;rw[en];clear en e o p0 ne n0 tn
   induction n with
   | zero =>
    rw[bz,qM,w8];unfold stp;rw[d7 a];exact⟨_,rfl⟩
   | succ n ih =>
    obtain⟨r,er⟩:=ih;rw[bz,er];exact⟨_,rfl⟩
  obtain⟨r,er⟩:=hd;rw[er];rfl
 .have p0:pp h t X h.length=X:=by unfold pp;rw[tn,d9 a]
  have s0:MA t X=[X]:=by unfold MA;rw[d9 a]
  obtain⟨L,e1,eL,oe⟩:=o (by rw[tn];exact a);rw[p0];cases ef:fl (stp h t) h.length with
  | nil=>exact absurd ef ne
  | cons x r =>
   have ox:=nZ W a _ x r ef;rw[s0,ef]at eL;rw[s0];have l3:=W.three oe ox;cases L with
   | nil=>simp at eL
   | cons y L1 =>
    simp only[y7,w8,Jr]at eL;obtain⟨ey,eL⟩:=eL;show sm (X::(x::r++[X]))=sm (x::r++[x]);rw[eL];have g1:=eX L1 e1 X;have g2:=eX L1 e1 x
    have g3:sm (X::(L1++[e1]++[X]))=cx X x+sm (L1++[e1]++[X]):=by
     have:L1++[e1]++[X]=x::(r++[X]):=by rw[<- eL];rfl
     rw[this];rfl
    rw[g3];simp only[m6,y7,w8]at g1 g2 ⊢;rw[g1,g2];grind
theorem xy:∀k,su (λi=>cx (cor h i) (cor h (i+1))) k=sm ((List.range k).map (cor h)++[cor h k])
 | 0=>rfl
 | k+1=>by
  show su _ k+cx (cor h k) (cor h (k+1))=_;rw[xy k,List.range_succ,l8,<- eX];simp only[z7,J7,m6,y7,w8]
theorem Pb:(List.range h.length).map (cor h)=h:=by
 apply List.ext_getElem
 .simp
 .intro i h1 h2;simp only[List.getElem_map,List.getElem_range];exact cK h2
theorem IE(n0:0<h.length):su (λi=>cx (cor h i) (cor h (i+1))) h.length=mX h:=by
 rw[xy,Pb,cG];cases h with
 | nil=>exact absurd n0 (by decide)
 | cons a r=>rfl
theorem Sy{s:Int}(hp:P3 b p)(hq:P3 b q)(hs:s*u<0):cx p (mid p q s u)+cx (mid p q s u) q=cx p q:=by
 obtain⟨g,x,y,g0,_,_,e1,e2,e3⟩:=(pC hp hq hs).ex
 have d:det p (mid p q s u) q=0:=by
  have z:g*det p (mid p q s u) q=0:=by unfold det;grind
  exact(D8.mp z).resolve_left (by omega)
 have mu:0<(mid p q s u).u:=by
  have n0:=iY hp hq hs;have gg0:=mW (V:=nm p.v q.v s u) (W:=nm p.w q.w s u) n0;have e:=div_eq (yP (nm p.u q.u s u) (nm p.v q.v s u) (nm p.w q.w s u));rcases A0 0 (mid p q s u).u with z | z
  .exact z
  .have:=E8 (show 0<=gg (nm p.u q.u s u) (nm p.v q.v s u) (nm p.w q.w s u) by omega) z;have e':gg (nm p.u q.u s u) (nm p.v q.v s u) (nm p.w q.w s u)*(mid p q s u).u=nm p.u q.u s u:=e;omega
 exact wV hp.n0 mu hq.n0 d
end
section
variable{h:List T3}{r X:T3}{b:Nat}
theorem Av(i:Nat):md h (tn r h) i=md h (tv r h) i:=by
 unfold md tn;exact Ci _ _ _ _
theorem wI(hp:P3 b p)(hq:P3 b q)(hs:tl r p*tl r q<0):tl r (mid p q (tl r p) (tl r q))=0/\0<(mid p q (tl r p) (tl r q)).u:=by
 have n0:=iY hp hq hs;have g0:=mW (V:=nm p.v q.v (tl r p) (tl r q)) (W:=nm p.w q.w (tl r p) (tl r q)) n0;have d1:gg (nm p.u q.u (tl r p) (tl r q)) (nm p.v q.v (tl r p) (tl r q)) (nm p.w q.w (tl r p) (tl r q))*(mid p q (tl r p) (tl r q)).u=nm p.u q.u (tl r p) (tl r q):=div_eq (yP _ _ _);have d2:gg (nm p.u q.u (tl r p) (tl r q)) (nm p.v q.v (tl r p) (tl r q)) (nm p.w q.w (tl r p) (tl r q))*(mid p q (tl r p) (tl r q)).v=nm p.v q.v (tl r p) (tl r q):=div_eq (HN _ _ _);have d3:gg (nm p.u q.u (tl r p) (tl r q)) (nm p.v q.v (tl r p) (tl r q)) (nm p.w q.w (tl r p) (tl r q))*(mid p q (tl r p) (tl r q)).w=nm p.w q.w (tl r p) (tl r q):=div_eq (HM _ _ _);generalize gg (nm p.u q.u (tl r p) (tl r q)) (nm p.v q.v (tl r p) (tl r q)) (nm p.w q.w (tl r p) (tl r q))=g at g0 d1 d2 d3;generalize mid p q (tl r p) (tl r q)=k at d1 d2 d3 ⊢;refine⟨?_,?_⟩
 .have z:g*tl r k=((tl r q).natAbs:Int)*tl r p+((tl r p).natAbs:Int)*tl r q:=by
   have e:g*tl r k=r.u*(g*k.v)+r.v*(g*k.w)+r.w*(g*k.u):=by simp only[tl];grind
   rw[e,d1,d2,d3];simp only[nm,tl];grind
  have y:((tl r q).natAbs:Int)*tl r p+((tl r p).natAbs:Int)*tl r q=0:=by
   generalize tl r p=a at hs ⊢;generalize tl r q=c at hs ⊢;rcases E3 a 0 with x | x | x
   .rcases E3 c 0 with w | w | w
    .have:=Kn x w;omega
    .rw[w]at hs;omega
    .rw[show(c.natAbs:Int)=c by omega,show(a.natAbs:Int) = -a by omega];grind
   .rw[x]at hs;omega
   .rcases E3 c 0 with w | w | w
    .rw[show(c.natAbs:Int) = -c by omega,show(a.natAbs:Int)=a by omega];grind
    .rw[w]at hs;omega
    .have:=F7 x w;omega
  rw[y]at z;exact(D8.mp z).resolve_left (by omega)
 .rcases A0 0 k.u with z | z
  .exact z
  .have:=E8 (show 0<=g by omega) z;omega
theorem Vp(ok:∀i,P3 b (cor h i))(hr:r.u≠0\/r.v≠0\/r.w≠0)(xu:0<X.u)(xl:tl r X=0)(i:Nat) :
  gL h (tv r h) X i+gL h (tn r h) X i=cx (cor h i) (cor h (i+1))+((if tv r h i=0 then cx (cor h i) X else 0)-(if tv r h (i+1)=0 then cx (cor h (i+1)) X else 0)):=by
 have em:=Av (h:=h) (r:=r) i;have mm:∀(_:tv r h i*tv r h (i+1)<0),cx (cor h i) (md h (tv r h) i)+cx (md h (tv r h) i) (cor h (i+1))=cx (cor h i) (cor h (i+1)):=λz=>Sy (ok i) (ok (i+1)) z;have nn:=sZ X (cor h (i+1));have nm':=sZ X (md h (tv r h) i);have t1:tn r h i = - tv r h i:=rfl;have t2:tn r h (i+1) = - tv r h (i+1):=rfl;have zz:tv r h i=0->tv r h (i+1)=0->cx (cor h i) X+cx X (cor h (i+1))=cx (cor h i) (cor h (i+1)):=λz1 z2=>wV (ok i).n0 xu (ok (i+1)).n0 (sY hr z1 xl z2);unfold gL;rw[em,t1,t2];generalize tv r h i=a at *;generalize tv r h (i+1)=c at *;rcases E3 a 0 with x | x | x
 .rcases E3 c 0 with w | w | w
  .rw[d7 (show a<=0 by omega),d7 (show c<=0 by omega),d9 (show ¬ -a<=0 by omega),d9 (show ¬ -c<0 by omega),d9 (show ¬ -c=0 by omega),d9 (show ¬a=0 by omega),d9 (show ¬c=0 by omega)];grind
  .rw[d7 (show a<=0 by omega),d7 (show c<=0 by omega),d9 (show ¬ -a<=0 by omega),d9 (show ¬ -c<0 by omega),d7 (show -c=0 by omega),d9 (show ¬a=0 by omega),d7 w];grind
  .have k:=mm (F8 x w);rw[d7 (show a<=0 by omega),d9 (show ¬c<=0 by omega),d7 x,d9 (show ¬ -a<=0 by omega),d7 (show -c<0 by omega),d9 (show ¬a=0 by omega),d9 (show ¬c=0 by omega)];grind
 .rcases E3 c 0 with w | w | w
  .rw[d7 (show a<=0 by omega),d7 (show c<=0 by omega),d7 (show -a<=0 by omega),d9 (show ¬ -c<=0 by omega),d9 (show ¬ -a<0 by omega),d7 x,d9 (show ¬c=0 by omega)];grind
  .have k:=zz x w;rw[d7 (show a<=0 by omega),d7 (show c<=0 by omega),d7 (show -a<=0 by omega),d7 (show -c<=0 by omega),d7 x,d7 w];grind
  .rw[d7 (show a<=0 by omega),d9 (show ¬c<=0 by omega),d9 (show ¬a<0 by omega),d7 (show -a<=0 by omega),d7 (show -c<=0 by omega),d7 x,d9 (show ¬c=0 by omega)];grind
 .rcases E3 c 0 with w | w | w
  .have k:=mm (C3 x w);rw[d9 (show ¬a<=0 by omega),d7 w,d7 (show -a<=0 by omega),d9 (show ¬ -c<=0 by omega),d7 (show -a<0 by omega),d9 (show ¬a=0 by omega),d9 (show ¬c=0 by omega)];grind
  .rw[d9 (show ¬a<=0 by omega),d9 (show ¬c<0 by omega),d7 w,d7 (show -a<=0 by omega),d7 (show -c<=0 by omega),d9 (show ¬a=0 by omega),d7 w];grind
  .rw[d9 (show ¬a<=0 by omega),d9 (show ¬c<0 by omega),d9 (show ¬c=0 by omega),d7 (show -a<=0 by omega),d7 (show -c<=0 by omega),d9 (show ¬a=0 by omega)];grind
theorem EU(ok:∀i,P3 b (cor h i))(hr:r.u≠0\/r.v≠0\/r.w≠0)(xu:0<X.u)(xl:tl r X=0):Wk h (tv r h) r X/\Wk h (tn r h) r X:=by
 have neg:∀i,tn r h i*tn r h (i+1)=tv r h i*tv r h (i+1):=λi=>by show -tv r h i*-tv r h (i+1)=_;grind
 refine⟨⟨hr,xu,xl,λi=>(ok i).n0,λi z=>z,λi z=>(wI (ok i) (ok (i+1)) z).2,λi z=>(wI (ok i) (ok (i+1)) z).1⟩,
  ⟨hr,xu,xl,λi=>(ok i).n0,λi z=>by have z':- tl r (cor h i)=0:=z;omega,λi z=>?_,λi z=>?_⟩⟩
 .rw[Av];rw[neg]at z;exact(wI (ok i) (ok (i+1)) z).2
 .rw[Av];rw[neg]at z;exact(wI (ok i) (ok (i+1)) z).1
theorem Ez{l:Nat}(H:xh b l h)(hp:p∈h)(hq:q∈h)(p0:tl r p<0)(q0:0<tl r q):mX (low r h)+mX (high r h)=mX h:=by
 have ok:∀i,P3 b (cor h i):=λi=>H.ok _ (cF H.pos i)
 have hr:r.u≠0\/r.v≠0\/r.w≠0:=by
  rcases JN (r.u=0) with z1 | z1
  .rcases JN (r.v=0) with z2 | z2
   .refine .inr (.inr λz3=>?_);unfold tl at p0;rw[z1,z2,z3]at p0;omega
   .exact .inr (.inl z2)
  .exact .inl z1
 have xs:∃X:T3,0<X.u/\tl r X=0:=by
  refine⟨⟨tl r q*p.u + -(tl r p)*q.u,tl r q*p.v + -(tl r p)*q.v,tl r q*p.w + -(tl r p)*q.w⟩,?_,?_⟩
  .show 0<tl r q*p.u + -(tl r p)*q.u;have:=F7 q0 (H.ok p hp).n0;have:=F7 (show 0 < -(tl r p) by omega) (H.ok q hq).n0;omega
  .show r.u*(tl r q*p.v + -(tl r p)*q.v)+r.v*(tl r q*p.w + -(tl r p)*q.w)+r.w*(tl r q*p.u + -(tl r p)*q.u)=0;simp only[tl];grind
 obtain⟨X,xu,xl⟩:=xs;obtain⟨W1,W2⟩:=EU ok hr xu xl
 have at_:∀{x:T3},x∈h->∃i,i<h.length/\cor h i=x:=λhx=>by
  obtain⟨i,hi,e⟩:=D7.mp hx;exact⟨i,hi,(cK hi).trans e⟩
 have e1:low r h≠[]:=λz=>by
  obtain⟨i,hi,e⟩:=at_ hp;have:cor h i∈low r h:=Ia hi (by unfold stp;rw[d7 (show tv r h i<=0 by unfold tv;rw[e];omega)];simp);rw[z]at this;cases this
 have e2:high r h≠[]:=λz=>by
  obtain⟨i,hi,e⟩:=at_ hq;have:cor h i∈high r h:=Ia hi (by unfold stp;rw[d7 (show tn r h i<=0 by unfold tn;rw[e];omega)];simp);rw[z]at this;cases this
 have T6:tv r h h.length=tv r h 0:=by unfold tv;rw[cG]
 have WB:tn r h h.length=tn r h 0:=by unfold tn;rw[cG]
 have a1:=vz W1 H.pos T6 e1;have a2:=vz W2 H.pos WB e2;have a3:=IE (h:=h) H.pos;show mX (fl (stp h (tv r h)) h.length)+mX (fl (stp h (tn r h)) h.length)=mX h;rw[<- a1,<- a2,<- a3,<- zL,xA (λi _=>Vp ok hr xu xl i),zL,Bx (λi=>if tv r h i=0 then cx (cor h i) X else 0)];rw[T6,cG];grind
end
end Hu
namespace Hu
def oj(L:List T3):Prop:=∀p q r,[p,q,r].Sublist L->0<det p q r
theorem oj.tri(T:oj L):Wd L:=λp q r s=>y9 (T p q r s)
structure Cs(p q X:T3)(b0:Bool):Prop where
 ex:∃g a b:Int,0<g/\0<a/\0<=b/\(b0=true->0<b)/\g*X.u=a*p.u+b*q.u/\g*X.v=a*p.v+b*q.v/\g*X.w=a*p.w+b*q.w
theorem Cs.co(h:Cs p q X b0):Co p q X:=by
 obtain⟨g,a,b,h1,h2,h3,_,e⟩:=h.ex;exact⟨g,a,b,h1,by omega,h3,e⟩
theorem BY{g x:Int}(hg:0<g)(h:0<g*x):0<x:=by
 rcases A0 0 x with z | z
 .exact z
 .have:=E8 (show 0<=g by omega) z;omega
theorem Pa(h:Cs p q X b0)(h1:0<det p Y Z)(h2:0<=det q Y Z):0<det X Y Z:=by
 obtain⟨g,a,b,hg,ha,hb,_,e1,e2,e3⟩:=h.ex;refine BY hg ?_;have e:g*det X Y Z=a*det p Y Z+b*det q Y Z:=by simp only[det];grind
 rw[e];have:=F7 ha h1;have:=y8 hb h2;omega
theorem Qu(h:Cs p q X true)(h1:0<=det p Y Z)(h2:0<det q Y Z):0<det X Y Z:=by
 obtain⟨g,a,b,hg,ha,hb,hb',e1,e2,e3⟩:=h.ex;refine BY hg ?_;have e:g*det X Y Z=a*det p Y Z+b*det q Y Z:=by simp only[det];grind
 rw[e];have:=y8 (show 0<=a by omega) h1;have:=F7 (hb' rfl) h2;omega
theorem V1(h:Cs p q Y b0)(h1:0<det X p Z)(h2:0<=det X q Z):0<det X Y Z:=by
 rw[bO,bO];rw[bO,bO]at h1 h2;exact Pa h h1 h2
theorem Qt(h:Cs p q Y true)(h1:0<=det X p Z)(h2:0<det X q Z):0<det X Y Z:=by
 rw[bO,bO];rw[bO,bO]at h1 h2;exact Qu h h1 h2
theorem V0(h:Cs p q Z b0)(h1:0<det X Y p)(h2:0<=det X Y q):0<det X Y Z:=by
 rw[bO];rw[bO]at h1 h2;exact Pa h h1 h2
theorem Qs(h:Cs p q Z true)(h1:0<=det X Y p)(h2:0<det X Y q):0<det X Y Z:=by
 rw[bO];rw[bO]at h1 h2;exact Qu h h1 h2
theorem SD(p q:T3):Cs p q p false:=⟨1,1,0,by decide,by decide,by decide,(λz=>nomatch z),by omega,by omega,by omega⟩
theorem eW(T:oj h){i k:Nat}(h1:i<j)(h2:j<k)(h3:k<h.length):0<det (cor h i) (cor h j) (cor h k):=by
 rw[cK (show i<h.length by omega),cK (show j<h.length by omega),cK h3];exact T _ _ _ (oE h1 h2 h3)
section
variable{b l:Nat}{h:List T3}{t:Nat->Int}
theorem vC(ok:∀i,P3 b (cor h i)){i:Nat}(hx:x∈stp h t i):(t i<=0/\x=cor h i)\/(t i*t (i+1)<0/\x=md h t i/\Cs (cor h i) (cor h (i+1)) x true):=by
 unfold stp at hx;rcases j6.mp hx with z | z
 .split at z
  .rename_i c;exact .inl ⟨c,c9.mp z⟩
  .cases z
 .split at z
  .rename_i c;have e:=c9.mp z;refine .inr ⟨c,e,?_⟩;have n0:=iY (ok i) (ok (i+1)) c;have g0:=mW (V:=nm (cor h i).v (cor h (i+1)).v (t i) (t (i+1))) (W:=nm (cor h i).w (cor h (i+1)).w (t i) (t (i+1))) n0;have s0:t i≠0:=λz=>by rw[z]at c;omega
   have t0:t (i+1)≠0:=λz=>by rw[z]at c;omega
   rw[e];exact⟨_,(t (i+1)).natAbs,(t i).natAbs,g0,by omega,by omega,(λ_=>by omega),div_eq (yP _ _ _),div_eq (HN _ _ _),div_eq (HM _ _ _)⟩
  .cases z
theorem P9(ok:∀i,P3 b (cor h i)){i:Nat}(c:t i*t (i+1)<0):Cs (cor h i) (cor h (i+1)) (md h t i) true:=by
 have n0:=iY (ok i) (ok (i+1)) c;have g0:=mW (V:=nm (cor h i).v (cor h (i+1)).v (t i) (t (i+1))) (W:=nm (cor h i).w (cor h (i+1)).w (t i) (t (i+1))) n0;have s0:t i≠0:=λz=>by rw[z]at c;omega
 have t0:t (i+1)≠0:=λz=>by rw[z]at c;omega
 exact⟨_,(t (i+1)).natAbs,(t i).natAbs,g0,by omega,by omega,(λ_=>by omega),div_eq (yP _ _ _),div_eq (HN _ _ _),div_eq (HM _ _ _)⟩
theorem nE(ok:∀i,P3 b (cor h i)){i:Nat}(hx:x∈stp h t i):∃b0,Cs (cor h i) (cor h (i+1)) x b0:=by
 rcases vC ok hx with⟨_,e⟩ | ⟨_,_,c⟩
 .exact⟨false,e ▸ SD _ _⟩
 .exact⟨true,c⟩
theorem By{i:Nat}(s:[x,y].Sublist (stp h t i)):x=cor h i/\y=md h t i/\t i<=0/\t i*t (i+1)<0:=by
 by_cases a:t i<=0
 .by_cases c:t i*t (i+1)<0
  .rw[nC a c]at s;have e:=s.eq_of_length (by simp);simp at e;exact⟨e.1,e.2,a,c⟩
  .rw[kA a c]at s;have:=s.length_le;simp at this
 .by_cases c:t i*t (i+1)<0
  .rw[iC a c]at s;have:=s.length_le;simp at this
  .rw[kz a c]at s;have:=s.length_le;simp at this
theorem tq(ok:∀i,P3 b (cor h i))(T:oj h)(n3:3<=h.length)(tn:t h.length=t 0):oj (fl (stp h t) h.length):=by
 have R:=T.tri;intro p q r s;rcases uC s with⟨i,j,k,a,c,d,hp,hq,hr⟩ | ⟨i,k,a,d,hpq,hr⟩ | ⟨i,k,a,d,hp,hqr⟩ | ⟨i,a,d⟩
 .obtain⟨b1,h1⟩:=nE ok hp;obtain⟨b2,h2⟩:=nE ok hq;obtain⟨b3,h3⟩:=nE ok hr;refine Pa h1 (V1 h2 (V0 h3 (eW T a c d) ?_) (SF h3.co ?_ ?_)) (ZE h2.co (SF h3.co ?_ ?_) (SF h3.co ?_ ?_))<;>exact wa R (by omega) (by omega) (by omega)
 ·
  obtain⟨rfl,rfl,ti,tc⟩:=By hpq;have cm:=P9 ok tc
  have ti0:t i<0:=by
   rcases A0 (t i) 0 with z | z
   .exact z
   .have:t i=0:=by omega
    rw[this]at tc;omega
  have ti1:0<t (i+1):=by
   rcases A0 0 (t (i+1)) with z | z
   .exact z
   .have:=C4 (show t i<=0 by omega) z;omega
  obtain⟨b3,h3⟩:=nE ok hr;refine Qt cm (by rw[AN];exact D5 0) ?_;rcases A7 (i+1) k with z | z
  .exact V0 h3 (eW T (by omega) z d) (wa R (by omega) (by omega) (by omega))
  .have ek:k=i+1:=by omega
   subst ek;rcases vC ok hr with⟨y,_⟩ | ⟨_,_,cr⟩
   .omega
   .refine Qs cr (by rw[AM];exact D5 0) ?_;rcases A7 (i+1+1) h.length with y | y
    .exact eW T (by omega) (by omega) y
    .rw[show i+1+1=h.length by omega,cG,bO];exact eW T (by omega) (by omega) (by omega)
 ·
  obtain⟨rfl,rfl,tk,tc⟩:=By hqr;have cm:=P9 ok tc
  have tk0:t k<0:=by
   rcases A0 (t k) 0 with z | z
   .exact z
   .have:t k=0:=by omega
    rw[this]at tc;omega
  have tk1:0<t (k+1):=by
   rcases A0 0 (t (k+1)) with z | z
   .exact z
   .have:=C4 (show t k<=0 by omega) z;omega
  refine Qs cm (by rw[AM];exact D5 0) ?_;rcases A7 (k+1) h.length with z | z
  .obtain⟨b1,h1⟩:=nE ok hp;exact Pa h1 (eW T a (by omega) z) (wa R (by omega) (by omega) (by omega))
  .have ek:k+1=h.length:=by omega
   rw[ek,cG];rcases vC ok hp with⟨y,e⟩ | ⟨_,_,cp⟩
   .rcases G1 i with i0 | i0
    .subst i0;rw[ek,tn]at tk1;omega
    .rw[e,bO];exact eW T i0 a (by omega)
   .rw[bO];rcases G1 i with i0 | i0
    .subst i0;refine Qt cp (by rw[AN];exact D5 0) ?_;exact eW T (by omega) (by omega) (by omega)
    .exact V1 cp (eW T i0 a (by omega)) (wa R (by omega) (by omega) (by omega))
 .have l1:3<=(stp h t i).length:=d.length_le;have:(stp h t i).length<=2:=by unfold stp;split<;>split<;>simp
  omega
end
theorem Oh{n:Int}(hn:0<n)(hd:0<d):0<(n:Rat)/(d:Rat):=by
 have h1:(0:Rat)<n:=by exact_mod_cast hn
 have h2:(0:Rat)<d:=by exact_mod_cast hd
 rw[Rat.div_def];exact Rat.mul_pos h1 (Rat.inv_pos.mpr h2)
theorem fan:∀L a,(∀p∈a::L,0<p.u)->oj (a::L)->(L.length<=1->sm (L++[a])+(match L with | []=>0 | x::_=>cx a x)=0)/\(2<=L.length->0<sm (L++[a])+(match L with | []=>0 | x::_=>cx a x))
 | [],a,_,_=>⟨λ_=>by simp only[sm,w8];grind,λz=>absurd z (by simp)⟩
 | [x],a,_,_=>⟨λ_=>by simp only[sm,y7,w8];rw[sZ a x];grind,λz=>absurd z (by simp)⟩
 | x::y::r,a,u,T=>by
  refine⟨λz=>absurd z (by simp),λ_=>?_⟩;have sub:oj (a::y::r):=λp q s h=>T p q s (h.trans (List.Sublist.cons₂ _ (List.Sublist.cons _ (List.Sublist.refl _))))
  have u2:∀p∈a::y::r,0<p.u:=λp hp=>by
   rcases j4.mp hp with z | z
   .exact u p (j4.mpr (.inl z))
   .exact u p (x6 _ (x6 _ z))
  obtain⟨f1,f2⟩:=fan (y::r) a u2 sub;have ua:=u a (by simp);have ux:=u x (by simp);have uy:=u y (by simp);have d:=T a x y (List.Sublist.cons₂ _ (List.Sublist.cons₂ _ (List.Sublist.cons₂ _ (List.nil_sublist _))));have c3:=yT ua ux uy
  have pos:0<cx a x+cx x y+cx y a:=by
   rw[c3];have:=Oh d (F7 (F7 ua ux) uy);simp only[Rat.intCast_mul]at this;exact this
  rw[sZ a y]at pos;have e:sm (x::y::r++[a])=cx x y+sm (y::r++[a]):=rfl;show 0<sm (x::y::r++[a])+cx a x;rw[e];rcases A7 r.length 1 with z | z
  .have:=f1 (by rw[j9];omega);dsimp only at this;grind
  .have:=f2 (by rw[j9];omega);dsimp only at this;grind
theorem zc(u:∀p∈L,0<p.u)(T:oj L)(n3:3<=L.length):0<mX L:=by
 match L,n3 with
 | a::x::r,n3 =>
  have:=(fan (x::r) a u T).2 (by simp at n3 ⊢;omega);have e:mX (a::x::r)=cx a x+sm (x::r++[a]):=rfl;rw[e];dsimp only at this;grind
end Hu
namespace Hu
theorem Ij{a k b c:Int}(h1:a∣k*b)(h2:a∣k*c):a∣k*Lo.gc b c:=by
 have h:=Int.dvd_coe_gcd h1 h2;rw[Int.gcd_mul_left]at h;have e:((k.natAbs*Int.gcd b c:Nat):Int)=(k.natAbs:Int)*Lo.gc b c:=by unfold Lo.gc;rw[Int.natCast_mul]
 rw[e]at h;rcases Int.natAbs_eq k with z | z
 .rw[z];exact h
 .rw[z,Int.neg_mul];exact Int.dvd_neg.mpr h
theorem HQ{g v w:Int}(hg:0<g)(h:gg (g*u) (g*v) (g*w)=g):gg u v w=1:=by
 unfold gg at *;rw[Lo.AK]at h;have e:((g.natAbs:Nat):Int)=g:=by omega
 rw[e,Lo.AK,e]at h;exact Ja (show g≠0 by omega) (h.trans (Ku g).symm)
theorem Hn{s t:Int}(hp:P3 b p)(hq:P3 b q)(h:s*t<0):gg (mid p q s t).u (mid p q s t).v (mid p q s t).w=1:=by
 have n0:=iY hp hq h;have g0:=mW (V:=nm p.v q.v s t) (W:=nm p.w q.w s t) n0;refine HQ g0 ?_;have e1:=div_eq (yP (nm p.u q.u s t) (nm p.v q.v s t) (nm p.w q.w s t));have e2:=div_eq (HN (nm p.u q.u s t) (nm p.v q.v s t) (nm p.w q.w s t));have e3:=div_eq (HM (nm p.u q.u s t) (nm p.v q.v s t) (nm p.w q.w s t));show gg (_*(nm p.u q.u s t).fdiv _) (_*(nm p.v q.v s t).fdiv _) (_*(nm p.w q.w s t).fdiv _)=_;rw[e1,e2,e3]
def Nz(m:T3):Prop:=m.u≠0\/m.v≠0\/m.w≠0
theorem Rk(hm:0<m.u)(pr:gg m.u m.v m.w=1)(h1:tl l m=0)(h2:tl r m=0)(nl:Nz l)(p1:tl l p=0)(p2:tl r p≠0) :
  m.u.natAbs<=(l.u*r.v-l.v*r.u).natAbs/\m.v.natAbs<=(l.v*r.w-l.w*r.v).natAbs/\m.w.natAbs<=(l.w*r.u-l.u*r.w).natAbs:=by
 have e1:(l.u*r.v-l.v*r.u)*m.v=m.u*(l.v*r.w-l.w*r.v):=by simp only[tl]at h1 h2;grind
 have e2:(l.u*r.v-l.v*r.u)*m.w=m.u*(l.w*r.u-l.u*r.w):=by simp only[tl]at h1 h2;grind
 have x0:l.u*r.v-l.v*r.u≠0:=λz=>by
  rw[z,J8]at e1 e2;have z1:l.v*r.w-l.w*r.v=0:=(D8.mp e1.symm).resolve_left (by omega);have z2:l.w*r.u-l.u*r.w=0:=(D8.mp e2.symm).resolve_left (by omega);have a1:l.u*tl r p=0:=by simp only[tl]at p1 ⊢;grind
  have a2:l.v*tl r p=0:=by simp only[tl]at p1 ⊢;grind
  have a3:l.w*tl r p=0:=by simp only[tl]at p1 ⊢;grind
  rcases nl with y | y | y
  .exact(D8.mp a1).elim y p2
  .exact(D8.mp a2).elim y p2
  .exact(D8.mp a3).elim y p2
 have d:m.u∣l.u*r.v-l.v*r.u:=by
  have d1:m.u∣(l.u*r.v-l.v*r.u)*m.u:=Int.dvd_mul_left _ _;have d2:m.u∣(l.u*r.v-l.v*r.u)*m.v:=by rw[e1];exact Int.dvd_mul_right _ _
  have d3:m.u∣(l.u*r.v-l.v*r.u)*m.w:=by rw[e2];exact Int.dvd_mul_right _ _
  have d4:=Ij (Ij d1 d2) d3;have pr':Lo.gc (Lo.gc m.u m.v) m.w=1:=pr;rw[pr',Ku]at d4;exact d4
 obtain⟨q,eq⟩:=d;have q0:q≠0:=λz=>by rw[z,Int.mul_zero]at eq;exact x0 eq
 have f1:l.v*r.w-l.w*r.v=q*m.v:=by
  rw[eq,KJ]at e1;exact(Ja (show m.u≠0 by omega) e1).symm
 have f2:l.w*r.u-l.u*r.w=q*m.w:=by
  rw[eq,KJ]at e2;exact(Ja (show m.u≠0 by omega) e2).symm
 have big:∀x:Int,x.natAbs<=(q*x).natAbs:=λx=>by
  rw[K2];exact Nat.le_mul_of_pos_left _ (by omega)
 refine⟨?_,?_,?_⟩
 .rw[eq,G8];exact big _
 .rw[f1];exact big _
 .rw[f2];exact big _
theorem wH{a b c:Int}(h1:a.natAbs<2^bb)(h2:b.natAbs<2^bb)(h3:c.natAbs<2^bb)(h4:d.natAbs<2^bb):(a*b-c*d).natAbs<2^(2*bb+2):=by
 have y1:=mS (m:=bb) (n:=bb) h1 h2;have y2:=mS (m:=bb) (n:=bb) h3 h4;rw[show 2*bb+2=(bb+bb)+2 by omega,Nat.pow_add];generalize 2^(bb+bb)=z at *;omega
def M8(bb:Nat)(p q:T3):Prop:=∃m:T3,R3 bb m/\Nz m/\tl m p=0/\tl m q=0
def Nb(bb:Nat):List T3->Prop
 | []=>True
 | [_]=>True
 | a::b::r=>M8 bb a b/\Nb bb (b::r)
theorem wC:∀{L:List T3}{a b:T3},Nb bb (L++[a])->M8 bb a b->Nb bb (L++[a,b])
 | [],_,_,_,h=>⟨h,trivial⟩
 | [x],_,_,n,h=>⟨n.1,h,trivial⟩
 | x::y::r,_,_,n,h=>⟨n.1,wC (L:=y::r) n.2 h⟩
theorem P8:∀{L:List T3}{i:Nat}{a b:T3},Nb bb L->L[i]?=some a->L[i+1]?=some b->M8 bb a b
 | [],_,_,_,_,h,_=>by cases h
 | [_],i,_,_,_,_,h=>by cases i<;>cases h
 | _::_::_,0,_,_,n,h,g=>by cases h;cases g;exact n.1
 | _::y::r,i+1,_,_,n,h,g=>P8 (L:=y::r) (i:=i) n.2 h g
theorem GG{s t:Int}(hp:P3 b p)(hq:P3 b q)(h:s*t<0)(h1:tl m p=0)(h2:tl m q=0):tl m (mid p q s t)=0:=by
 obtain⟨g,x,y,g0,_,_,e1,e2,e3⟩:=(pC hp hq h).ex
 have z:g*tl m (mid p q s t)=0:=by
  have e:g*tl m (mid p q s t)=m.u*(g*(mid p q s t).v)+m.v*(g*(mid p q s t).w)+m.w*(g*(mid p q s t).u):=by simp only[tl];grind
  rw[e,e1,e2,e3];simp only[tl]at h1 h2;grind
 exact(D8.mp z).resolve_left (by omega)
structure Mj(bb:Nat)(h:List T3):Prop where
 tri:oj h
 n3:3<=h.length
 ok:∀p∈h,P3 (2*bb+2) p
 pr:∀p∈h,gg p.u p.v p.w=1
 sh:∀i,i<h.length->M8 bb (cor h i) (cor h (i+1))
theorem Mj.cok(H:Mj bb h):∀i,P3 (2*bb+2) (cor h i):=λi=>H.ok _ (cF (by have:=H.n3;omega) i)
section
variable{bb:Nat}{h:List T3}{r X:T3}{t:Nat->Int}
theorem UX(H:Mj bb h)(hr:R3 bb r)(et:∀i,t i=tl r (cor h i)\/t i = - tl r (cor h i))(W:Wk h t r X){i:Nat}(hi:i<h.length)(c:t i*t (i+1)<0):P3 (2*bb+2) (md h t i)/\gg (md h t i).u (md h t i).v (md h t i).w=1:=by
 have ok:=H.cok;have pr:=Hn (ok i) (ok (i+1)) c;refine⟨?_,pr⟩;obtain⟨m,m5,mz,m1,m2⟩:=H.sh i hi;have o1:=GG (ok i) (ok (i+1)) c m1 m2;have o2:=W.ml i c;have u0:=W.mu i c
 have tp:tl r (cor h i)≠0:=λz=>by
  have:t i=0:=by rcases et i with e | e<;>rw[e,z]<;>rfl
  rw[this]at c;omega
 obtain⟨b1,b2,b3⟩:=Rk (m:=md h t i) u0 pr o1 o2 mz m1 tp;have k1:=wH m5.a hr.b m5.b hr.a;have k2:=wH m5.b hr.c m5.c hr.b;have k3:=wH m5.c hr.a m5.a hr.c;obtain⟨g,x,y,g0,x0,y0,e1,e2,e3⟩:=(pC (ok i) (ok (i+1)) c).ex
 have v0:0<=(md h t i).v:=mP g0 (by
  have e:g*(md h t i).v=x*(cor h i).v+y*(cor h (i+1)).v:=e2;rw[e];have:=y8 x0 (ok i).x0;have:=y8 y0 (ok (i+1)).x0;omega)
 have w0:0<=(md h t i).w:=mP g0 (by
  have e:g*(md h t i).w=x*(cor h i).w+y*(cor h (i+1)).w:=e3;rw[e];have:=y8 x0 (ok i).y0;have:=y8 y0 (ok (i+1)).y0;omega)
 have ep:((2^(2*bb+2):Nat):Int)=(2:Int)^(2*bb+2):=by push_cast;rfl
 exact⟨u0,v0,w0,by omega,by omega,by omega⟩
theorem Cg(H:Mj bb h)(hr:R3 bb r)(W:Wk h t r X):∀k,k<=h.length->Nb bb (fl (stp h t) k)/\∀L e,fl (stp h t) k=L++[e]->(t k<=0->M8 bb e (cor h k))/\(¬t k<=0->tl r e=0)
 | 0,_=>⟨trivial,λL e z=>by rw[qM]at z;exact absurd z (by simp)⟩
 | k+1,hk=>by
  obtain⟨n,o⟩:=Cg H hr W k (by omega);have ok:=H.cok;have Ma:∀{a b:T3},tl r a=0->tl r b=0->M8 bb a b:=λh1 h2=>⟨r,hr,W.m0,h1,h2⟩
  have sd:t k*t (k+1)<0->M8 bb (cor h k) (md h t k)/\M8 bb (md h t k) (cor h (k+1)):=λc=>by
   obtain⟨m,m5,mz,m1,m2⟩:=H.sh k (by omega);have o1:=GG (ok k) (ok (k+1)) c m1 m2;exact⟨⟨m,m5,mz,m1,o1⟩,⟨m,m5,mz,o1,m2⟩⟩
  have add:∀x,(∀L e,fl (stp h t) k=L++[e]->M8 bb e x)->Nb bb (fl (stp h t) k++[x]):=λx hx=>by
   rcases JQ (fl (stp h t) k) with z | ⟨L,e,z⟩
   .rw[z];exact trivial
   .rw[JR]at z;have n':=n;rw[z]at n' ⊢;have:=wC n' (hx L e z);simpa using this
  have Lz:∀{A:List T3}{x:T3}{L:List T3}{e:T3},A++[x]=L++[e]->e=x:=λz=>by
   have:=x9 List.getLast? z;simp at this;exact this.symm
  rw[bz]
  by_cases a:t k<=0
  .have nk:=add (cor h k) λL e z=>(o L e z).1 a
   by_cases b:t (k+1)<=0
   .have c:¬t k*t (k+1)<0:=by
     have:=C4 a b;omega
    rw[kA a c];refine⟨nk,λL e z=>?_⟩;rw[Lz z];exact⟨λ_=>H.sh k (by omega),λy=>absurd b y⟩
   .by_cases d:t k<0
    .have c:t k*t (k+1)<0:=F8 d (by omega);rw[nC a c];refine⟨wC nk (sd c).1,λL e z=>?_⟩;have z':(fl (stp h t) k++[cor h k])++[md h t k]=L++[e]:=by rw[<- z];simp
     rw[Lz z'];exact⟨λy=>absurd y b,λ_=>W.ml k c⟩
    .have t0:t k=0:=by omega
     rw[kA a (by rw[t0];omega)];refine⟨nk,λL e z=>?_⟩;rw[Lz z];exact⟨λy=>absurd y b,λ_=>W.cz k t0⟩
  .by_cases b:t (k+1)<0
   .have c:t k*t (k+1)<0:=C3 (by omega) b;rw[iC a c];refine⟨add _ λL e z=>Ma ((o L e z).2 a) (W.ml k c),λL e z=>?_⟩;rw[Lz z];exact⟨λ_=>(sd c).2,λy=>absurd (show t (k+1)<=0 by omega) y⟩
   .have c:¬t k*t (k+1)<0:=by
     have:=y8 (show 0<=t k by omega) (show 0<=t (k+1) by omega);omega
    rw[kz a c,A4];refine⟨n,λL e z=>?_⟩;have q:=(o L e z).2 a;refine⟨λy=>?_,λ_=>q⟩;exact Ma q (W.cz (k+1) (by omega))
theorem sV(a:t 0<=0):∀n,∃s,fl (stp h t) (n+1)=cor h 0::s
 | 0=>by
  rw[bz,qM,w8];unfold stp;rw[d7 a];exact⟨_,rfl⟩
 | n+1=>by
  obtain⟨s,e⟩:=sV a n;rw[bz,e];exact⟨_,rfl⟩
theorem yy(e:L=x::s)(n:Nb bb L)(c:∀A z,L=A++[z]->M8 bb z x):∀i,i<L.length->M8 bb (cor L i) (cor L (i+1)):=λi hi=>by
 rcases A7 (i+1) L.length with z | z
 .rw[cK hi,cK z];exact P8 (i:=i) n (c6 hi) (c6 z)
 .have ei:i+1=L.length:=by omega
  rw[ei,cG,cK hi,cK (show 0<L.length by omega)];have LA:L≠[]:=by rw[e];simp
  have q:=c L.dropLast (L.getLast LA) (J0 LA).symm;have g1:L[i]=L.getLast LA:=by rw[List.getLast_eq_getElem];congr 1;omega
  have g0:L[0]'(by omega)=x:=by simp only[e,List.getElem_cons_zero]
  rw[g1,g0];exact q
theorem Sz(H:Mj bb h)(hr:R3 bb r)(W:Wk h t r X)(tn:t h.length=t 0)(ne:fl (stp h t) h.length≠[]):∀i,i<(fl (stp h t) h.length).length->M8 bb (cor (fl (stp h t) h.length) i) (cor (fl (stp h t) h.length) (i+1)):=by
 obtain⟨n,o⟩:=Cg H hr W h.length (c5 _)
 by_cases a:t 0<=0
 .obtain⟨m,em⟩:∃m,h.length=m+1:=⟨h.length-1,by have:=H.n3;omega⟩;obtain⟨s,es⟩:=sV (h:=h) a m;rw[<- em]at es;refine yy es n λA z e=>?_;have:=(o A z e).1 (by rw[tn];exact a);rw[cG]at this;exact this
 .cases e:fl (stp h t) h.length with
  | nil=>exact absurd e ne
  | cons x s =>
   rw[<- e];have ox:=nZ W a _ x s e;refine yy e n λA z ez=>?_;exact⟨r,hr,W.m0,(o A z ez).2 (by rw[tn];exact a),ox.1⟩
noncomputable def ca(h:List T3)(t:Nat->Int)(i:Nat):List T3:=if t i<=0 then[cor h i] else[]
noncomputable def cb(h:List T3)(t:Nat->Int)(i:Nat):List T3:=if t i*t (i+1)<0 then[md h t i] else[]
theorem Fo(i:Nat):stp h t i=ca h t i++cb h t i:=rfl
theorem Cr:∀n,(fl (stp h t) n).length=(fl (ca h t) n).length+(fl (cb h t) n).length
 | 0=>rfl
 | n+1=>by
  rw[bz,bz,bz,c7,c7,c7,Cr n,Fo,c7];omega
theorem IC(tj:0<t j):∀n,(fl (ca h t) n).length<=n/\(j<n->(fl (ca h t) n).length+1<=n)
 | 0=>⟨c5 _,λz=>absurd z (Nat.not_lt_zero _)⟩
 | n+1=>by
  obtain⟨a,b⟩:=IC tj n;rw[bz,c7];have c:(ca h t n).length<=1:=by unfold ca;split<;>simp
  refine⟨by omega,λz=>?_⟩;rcases A7 j n with y | y
  .have:=b y;omega
  .have ej:j=n:=by omega
   subst ej;have:ca h t j=[]:=by unfold ca;rw[d9 (by omega)]
   rw[this];simp;omega
theorem Iz:∀n,(fl (cb h t) n).Sublist (fl (stp h t) n)
 | 0=>List.Sublist.refl _
 | n+1=>by
  rw[bz,bz,Fo];exact(Iz n).append (List.sublist_append_right _ _)
theorem IA(W:Wk h t r X)(hx:x∈fl (cb h t) n):tl r x=0:=by
 obtain⟨i,_,hi⟩:=sub_one hx;unfold cb at hi;split at hi
 .rename_i c;rw[c9.mp hi];exact W.ml i c
 .cases hi
theorem CL(H:Mj bb h)(W:Wk h t r X)(tn:t h.length=t 0)(hj:j<h.length)(tj:0<t j):(fl (stp h t) h.length).length<=h.length+1:=by
 have S:=tq H.cok H.tri H.n3 tn;have a:=(IC (h:=h) tj h.length).2 hj
 have b:(fl (cb h t) h.length).length<=2:=by
  rcases A7 2 (fl (cb h t) h.length).length with z | z
  .exfalso;have s3:=oE (L:=fl (cb h t) h.length) (show 0<1 by omega) (show 1<2 by omega) z;have d:=S _ _ _ (s3.trans (Iz h.length));have d0:=sY W.m0 (IA W (n:=h.length) (IX (show 0<(fl (cb h t) h.length).length by omega))) (IA W (n:=h.length) (IX (show 1<(fl (cb h t) h.length).length by omega))) (IA W (n:=h.length) (IX z));omega
  .exact z
 rw[Cr];omega
theorem gS{f:Nat->List T3}{i:Nat}:∀d,(fl f i).length<=(fl f (i+d)).length
 | 0=>c5 _
 | d+1=>by
  rw[<- Nat.add_assoc,bz,c7];have:=gS (f:=f) (i:=i) d;omega
theorem Cb{i:Nat}(WY:i<j)(ti:t i<0)(tj:0<t j):(fl (stp h t) i).length+2<=(fl (stp h t) j).length:=by
 have s1:1<=(stp h t i).length:=by unfold stp;rw[d7 (by omega)];simp
 rcases A0 0 (t (i+1)) with z | z
 .have c:t i*t (i+1)<0:=F8 ti z;have m:=gS (f:=stp h t) (i:=i+1) (j-(i+1));rw[show i+1+(j-(i+1))=j by omega,bz,c7,nC (by omega) c]at m;simpa using m
 .have ij:i+1<j:=by
   rcases A7 (i+1) j with y | y
   .exact y
   .rw[show j=i+1 by omega]at tj;omega
  have s2:1<=(stp h t (i+1)).length:=by unfold stp;rw[d7 z];simp
  have m:=gS (f:=stp h t) (i:=i+1+1) (j-(i+1+1));rw[show i+1+1+(j-(i+1+1))=j by omega,bz,bz,c7,c7]at m;omega
theorem wN:∀(d:Nat){j:Nat},0<t j->t (j+d)<0->(fl (stp h t) j).length+1<=(fl (stp h t) (j+d)).length
 | 0,j,tj,ti=>by rw[Nat.add_zero]at ti;omega
 | d+1,j,tj,ti=>by
  have e:j+(d+1)=j+1+d:=by omega
  rw[e]at ti ⊢;have m:=gS (f:=stp h t) (i:=j+1) d;rcases E3 (t (j+1)) 0 with z | z | z
  .have c:t j*t (j+1)<0:=C3 tj z;rw[bz,c7,iC (by omega) c]at m;simp at m;omega
  .cases d with
   | zero=>rw[Nat.add_zero]at ti;omega
   | succ d =>
    have s2:1<=(stp h t (j+1)).length:=by unfold stp;rw[d7 (by omega)];simp
    have m2:=gS (f:=stp h t) (i:=j+1+1) d;rw[show j+1+1+d=j+1+(d+1) by omega,bz (j+1),c7,bz j,c7]at m2;omega
  .have:=wN d z ti;rw[bz,c7]at this;omega
theorem Eo{i j:Nat}(hi:i<n)(hj:j<n)(tn:t n=t 0)(ti:t i<0)(tj:0<t j):3<=(fl (stp h t) n).length:=by
 rcases A7 i j with z | z
 .have o:=Cb (h:=h) z ti tj;rcases E3 (t 0) 0 with y | y | y
  .have k:=wN (h:=h) (n-j) tj (by rw[show j+(n-j)=n by omega,tn];exact y);rw[show j+(n-j)=n by omega]at k;omega
  .have m:=gS (f:=stp h t) (i:=j) (n-j);rw[show j+(n-j)=n by omega]at m
   have i0:0<i:=by
    rcases G1 i with x | x
    .rw[x]at ti;omega
    .exact x
   have m2:=gS (f:=stp h t) (i:=1) (i-1);rw[show 1+(i-1)=i by omega,bz,c7]at m2;have s2:1<=(stp h t 0).length:=by unfold stp;rw[d7 (by omega)];simp
   omega
  .have k:=wN (h:=h) (t:=t) i (j:=0) y (by rw[Nat.zero_add];exact ti);rw[Nat.zero_add]at k;have m:=gS (f:=stp h t) (i:=j) (n-j);rw[show j+(n-j)=n by omega]at m;omega
 .have ij:j<i:=by
   rcases A7 j i with y | y
   .exact y
   .rw[show i=j by omega]at ti;omega
  have k:=wN (h:=h) (i-j) tj (by rw[show j+(i-j)=i by omega];exact ti);rw[show j+(i-j)=i by omega]at k;rcases A0 0 (t 0) with y | y
  .have o:=Cb (h:=h) hi ti (by rw[tn];exact y);omega
  ·
   have s2:1<=(stp h t 0).length:=by unfold stp;rw[d7 y];simp
   have s3:1<=(stp h t i).length:=by unfold stp;rw[d7 (by omega)];simp
   have j0:0<j:=by
    rcases G1 j with x | x
    .rw[x]at tj;omega
    .exact x
   have m2:=gS (f:=stp h t) (i:=1) (j-1);rw[show 1+(j-1)=j by omega,bz,c7]at m2;have m3:=gS (f:=stp h t) (i:=i+1) (n-(i+1));rw[show i+1+(n-(i+1))=n by omega,bz,c7]at m3;omega
theorem Ir(H:Mj bb h)(hr:R3 bb r)(et:∀i,t i=tl r (cor h i)\/t i = - tl r (cor h i))(W:Wk h t r X)(tn:t h.length=t 0){i:Nat}(hi:i<h.length)(hj:j<h.length)(ti:t i<0)(tj:0<t j):Mj bb (fl (stp h t) h.length):=by
 have n3:=Eo (h:=h) hi hj tn ti tj
 have mem:∀x∈fl (stp h t) h.length,P3 (2*bb+2) x/\gg x.u x.v x.w=1:=λx hx=>by
  obtain⟨k,hk,hx⟩:=sub_one hx;rcases vC H.cok hx with⟨_,e⟩ | ⟨c,e,_⟩
  .rw[e];have:=cF (h:=h) (by omega) k;exact⟨H.ok _ this,H.pr _ this⟩
  .rw[e];exact UX H hr et W hk c
 exact⟨tq H.cok H.tri H.n3 tn,n3,λx hx=>(mem x hx).1,λx hx=>(mem x hx).2,Sz H hr W tn (λz=>by rw[z]at n3;exact absurd n3 (by decide))⟩
end
section
variable{bb:Nat}{h:List T3}{r:T3}
structure Cut(bb:Nat)(h:List T3)(r:T3):Prop where
 lo:Mj bb (low r h)
 hi:Mj bb (high r h)
 ll:(low r h).length<=h.length+1
 lh:(high r h).length<=h.length+1
 pl:0<mX (low r h)
 ph:0<mX (high r h)
 ad:mX (low r h)+mX (high r h)=mX h
theorem Mj.hull(H:Mj bb h):xh (2*bb+2) h.length h:=⟨H.tri.tri,H.ok,by have:=H.n3;omega,c5 _⟩
theorem CM(H:Mj bb h)(hr:R3 bb r)(hp:p∈h)(hq:q∈h)(p0:tl r p<0)(q0:0<tl r q)   : Cut bb h r:=by
 have ok:=H.cok
 have nz:r.u≠0\/r.v≠0\/r.w≠0:=by
  rcases JN (r.u=0) with z1 | z1
  .rcases JN (r.v=0) with z2 | z2
   .refine .inr (.inr λz3=>?_);unfold tl at p0;rw[z1,z2,z3]at p0;omega
   .exact .inr (.inl z2)
  .exact .inl z1
 have xs:∃X:T3,0<X.u/\tl r X=0:=by
  refine⟨⟨tl r q*p.u + -(tl r p)*q.u,tl r q*p.v + -(tl r p)*q.v,tl r q*p.w + -(tl r p)*q.w⟩,?_,?_⟩
  .show 0<tl r q*p.u + -(tl r p)*q.u;have:=F7 q0 (H.ok p hp).n0;have:=F7 (show 0 < -(tl r p) by omega) (H.ok q hq).n0;omega
  .show r.u*(tl r q*p.v + -(tl r p)*q.v)+r.v*(tl r q*p.w + -(tl r p)*q.w)+r.w*(tl r q*p.u + -(tl r p)*q.u)=0;simp only[tl];grind
 obtain⟨X,xu,xl⟩:=xs;obtain⟨W1,W2⟩:=EU ok nz xu xl;obtain⟨i,hi,ei⟩:=D7.mp hp;obtain⟨j,hj,ej⟩:=D7.mp hq;have ei':cor h i=p:=(cK hi).trans ei;have ej':cor h j=q:=(cK hj).trans ej;have T6:tv r h h.length=tv r h 0:=by unfold tv;rw[cG]
 have WB:tn r h h.length=tn r h 0:=by unfold tn;rw[cG]
 have a1:tv r h i<0:=by unfold tv;rw[ei'];exact p0
 have a2:0<tv r h j:=by unfold tv;rw[ej'];exact q0
 have b1:0<tn r h i:=by unfold tn;rw[ei'];omega
 have b2:tn r h j<0:=by unfold tn;rw[ej'];omega
 have L:=Ir H hr (λk=>.inl rfl) W1 T6 hi hj a1 a2;have G:=Ir H hr (λk=>.inr rfl) W2 WB hj hi b2 b1;exact⟨L,G,CL H W1 T6 hj a2,CL H W2 WB hi b1,zc (λx hx=>(L.ok x hx).n0) L.tri L.n3,zc (λx hx=>(G.ok x hx).n0) G.tri G.n3,Ez H.hull hp hq p0 q0⟩
theorem qU(hb:1<=bb):Mj bb sqH:=by
 have p2:1<2^bb:=Nat.one_lt_two_pow (by omega);refine⟨λp q r s=>?_,by decide,λp hp=>?_,λp hp=>?_,λi hi=>?_⟩
 .simp only[sqH,List.sublist_cons_iff,List.sublist_nil,Jr,reduceCtorEq,false_or,G4]at s;simp only[List.nil_eq,exists_eq_right_right',and_assoc]at s;grind [det]
 .have:=(Oc.ok p hp).mono (show 1<=2*bb+2 by omega);exact this
 .simp only[sqH,j4,A3,G4]at hp;rcases hp with e | e | e | e<;>rw[e]<;>decide
 .have LP:i<4:=hi;rcases(by omega:i=0\/i=1\/i=2\/i=3) with e | e | e | e<;>rw[e]
  .exact⟨⟨0,1,0⟩,⟨d8 (by decide) p2,d8 (by decide) p2,d8 (by decide) p2⟩,.inr (.inl (by decide)),by decide,by decide⟩
  .exact⟨⟨1,0,-1⟩,⟨d8 (by decide) p2,d8 (by decide) p2,d8 (by decide) p2⟩,.inl (by decide),by decide,by decide⟩
  .exact⟨⟨0,1,-1⟩,⟨d8 (by decide) p2,d8 (by decide) p2,d8 (by decide) p2⟩,.inr (.inl (by decide)),by decide,by decide⟩
  .exact⟨⟨1,0,0⟩,⟨d8 (by decide) p2,d8 (by decide) p2,d8 (by decide) p2⟩,.inl (by decide),by decide,by decide⟩
abbrev HK(h:List T3):Prop:=Mj 64 h
theorem iT:HK sqH:=qU (by decide)
end
end Hu
namespace Hu
def Nc(Rl:T3->T3->Prop):List T3->Prop
 | []=>True
 | [_]=>True
 | a::b::r=>Rl a b/\Nc Rl (b::r)
theorem wB:∀{L:List T3}{a b:T3},Nc Rl (L++[a])->Rl a b->Nc Rl (L++[a,b])
 | [],_,_,_,h=>⟨h,trivial⟩
 | [x],_,_,n,h=>⟨n.1,h,trivial⟩
 | x::y::r,_,_,n,h=>⟨n.1,wB (L:=y::r) n.2 h⟩
theorem P7:∀{L:List T3}{i:Nat}{a b:T3},Nc Rl L->L[i]?=some a->L[i+1]?=some b->Rl a b
 | [],_,_,_,_,h,_=>by cases h
 | [_],i,_,_,_,_,h=>by cases i<;>cases h
 | _::_::_,0,_,_,n,h,g=>by cases h;cases g;exact n.1
 | _::y::r,i+1,_,_,n,h,g=>P7 (L:=y::r) (i:=i) n.2 h g
section
variable{h:List T3}{r X:T3}{t:Nat->Int}{Rl:T3->T3->Prop}
theorem Cf(H:HK h)(Ma:∀{a b:T3},tl r a=0->tl r b=0->Rl a b)(hs:∀k,k<h.length->Rl (cor h k) (cor h (k+1)))(hm:∀k,k<h.length->t k*t (k+1)<0->Rl (cor h k) (md h t k)/\Rl (md h t k) (cor h (k+1)))(W:Wk h t r X):∀k,k<=h.length->Nc Rl (fl (stp h t) k)/\∀L e,fl (stp h t) k=L++[e]->(t k<=0->Rl e (cor h k))/\(¬t k<=0->tl r e=0)
 | 0,_=>⟨trivial,λL e z=>by rw[qM]at z;exact absurd z (by simp)⟩
 | k+1,hk=>by
  obtain⟨n,o⟩:=Cf H Ma hs hm W k (by omega);have ok:=H.cok;have sd:t k*t (k+1)<0->Rl (cor h k) (md h t k)/\Rl (md h t k) (cor h (k+1)):=λc=>hm k (by omega) c
  have add:∀x,(∀L e,fl (stp h t) k=L++[e]->Rl e x)->Nc Rl (fl (stp h t) k++[x]):=λx hx=>by
   rcases JQ (fl (stp h t) k) with z | ⟨L,e,z⟩
   .rw[z];exact trivial
   .rw[JR]at z;have n':=n;rw[z]at n' ⊢;have:=wB n' (hx L e z);simpa using this
  have Lz:∀{A:List T3}{x:T3}{L:List T3}{e:T3},A++[x]=L++[e]->e=x:=λz=>by
   have:=x9 List.getLast? z;simp at this;exact this.symm
  rw[bz]
  by_cases a:t k<=0
  .have nk:=add (cor h k) λL e z=>(o L e z).1 a
   by_cases b:t (k+1)<=0
   .have c:¬t k*t (k+1)<0:=by
     have:=C4 a b;omega
    rw[kA a c];refine⟨nk,λL e z=>?_⟩;rw[Lz z];exact⟨λ_=>hs k (by omega),λy=>absurd b y⟩
   .by_cases d:t k<0
    .have c:t k*t (k+1)<0:=F8 d (by omega);rw[nC a c];refine⟨wB nk (sd c).1,λL e z=>?_⟩;have z':(fl (stp h t) k++[cor h k])++[md h t k]=L++[e]:=by rw[<- z];simp
     rw[Lz z'];exact⟨λy=>absurd y b,λ_=>W.ml k c⟩
    .have t0:t k=0:=by omega
     rw[kA a (by rw[t0];omega)];refine⟨nk,λL e z=>?_⟩;rw[Lz z];exact⟨λy=>absurd y b,λ_=>W.cz k t0⟩
  .by_cases b:t (k+1)<0
   .have c:t k*t (k+1)<0:=C3 (by omega) b;rw[iC a c];refine⟨add _ λL e z=>Ma ((o L e z).2 a) (W.ml k c),λL e z=>?_⟩;rw[Lz z];exact⟨λ_=>(sd c).2,λy=>absurd (show t (k+1)<=0 by omega) y⟩
   .have c:¬t k*t (k+1)<0:=by
     have:=y8 (show 0<=t k by omega) (show 0<=t (k+1) by omega);omega
    rw[kz a c,A4];refine⟨n,λL e z=>?_⟩;have q:=(o L e z).2 a;refine⟨λy=>?_,λ_=>q⟩;exact Ma q (W.cz (k+1) (by omega))
theorem yx(e:L=x::s)(n:Nc Rl L)(c:∀A z,L=A++[z]->Rl z x):∀i,i<L.length->Rl (cor L i) (cor L (i+1)):=λi hi=>by
 rcases A7 (i+1) L.length with z | z
 .rw[cK hi,cK z];exact P7 (i:=i) n (c6 hi) (c6 z)
 .have ei:i+1=L.length:=by omega
  rw[ei,cG,cK hi,cK (show 0<L.length by omega)];have LA:L≠[]:=by rw[e];simp
  have q:=c L.dropLast (L.getLast LA) (J0 LA).symm;have g1:L[i]=L.getLast LA:=by rw[List.getLast_eq_getElem];congr 1;omega
  have g0:L[0]'(by omega)=x:=by simp only[e,List.getElem_cons_zero]
  rw[g1,g0];exact q
theorem SA(H:HK h)(Ma:∀{a b:T3},tl r a=0->tl r b=0->Rl a b)(hs:∀k,k<h.length->Rl (cor h k) (cor h (k+1)))(hm:∀k,k<h.length->t k*t (k+1)<0->Rl (cor h k) (md h t k)/\Rl (md h t k) (cor h (k+1)))(W:Wk h t r X)(tn:t h.length=t 0)(ne:fl (stp h t) h.length≠[]):∀i,i<(fl (stp h t) h.length).length->Rl (cor (fl (stp h t) h.length) i) (cor (fl (stp h t) h.length) (i+1)):=by
 obtain⟨n,o⟩:=Cf H Ma hs hm W h.length (c5 _)
 by_cases a:t 0<=0
 .obtain⟨m,em⟩:∃m,h.length=m+1:=⟨h.length-1,by have:=H.n3;omega⟩;obtain⟨s,es⟩:=sV (h:=h) a m;rw[<- em]at es;refine yx es n λA z e=>?_;have:=(o A z e).1 (by rw[tn];exact a);rw[cG]at this;exact this
 .cases e:fl (stp h t) h.length with
  | nil=>exact absurd e ne
  | cons x s =>
   rw[<- e];have ox:=nZ W a _ x s e;refine yx e n λA z ez=>?_;exact Ma ((o A z ez).2 (by rw[tn];exact a)) ox.1
end
def Ins(h:List T3)(p:T3):Prop:=∀i,i<h.length->0<=det (cor h i) (cor h (i+1)) p
theorem Iu(a b z p r:T3):det a b z*tl r p=tl r a*det p b z+tl r b*det a p z+tl r z*det a b p:=by simp only[tl,det];grind
theorem sideS(T:oj L)(n3:3<=L.length){i:Nat}(hi:i<L.length)(hj:j<L.length)(n1:j≠i)(n2:j≠(i+1)%L.length):0<det (cor L i) (cor L (i+1)) (cor L j):=by
 rcases A7 (i+1) L.length with z | z
 .rw[KP z]at n2;rcases A7 j i with y | y
  .rw[bO];exact eW T y (by omega) z
  .exact eW T (by omega) (show i+1<j by omega) hj
 .have e:i+1=L.length:=by omega
  rw[e,Nat.mod_self]at n2;rw[e,cG,bO,bO];exact eW T (show 0<j by omega) (show j<i by omega) hi
theorem yM(H:HK h)(W:Wk h t r X)(tn:t h.length=t 0){s:Int}(hs:s=1\/s = -1)(et:∀i,t i=s*tl r (cor h i))(L3:3<=(fl (stp h t) h.length).length)(LT:oj (fl (stp h t) h.length))(hz:z∈fl (stp h t) h.length)(z0:s*tl r z<0)(P:Ins h p)(p0:s*tl r p<=0):Ins (fl (stp h t) h.length) p:=by
 have ok:=H.cok;have key:=SA (Rl:=λa b=>0<=det a b p\/(tl r a=0/\tl r b=0)) H (λh1 h2=>.inr ⟨h1,h2⟩) (λk hk=>.inl (P k hk)) (λk hk c=>?_) W tn (by intro e;rw[e]at L3;simp at L3)
 .intro i hi;rcases key i hi with y | ⟨y1,y2⟩
  .exact y
  .obtain⟨j,hj,ej⟩:=D7.mp hz;have cj:cor (fl (stp h t) h.length) j=z:=(cK hj).trans ej;have n1:j≠i:=λe=>by rw[e]at cj;rw[cj]at y1;rw[y1]at z0;omega
   have n2:j≠(i+1)%(fl (stp h t) h.length).length:=λe=>by
    rw[e,oh]at cj;rw[cj]at y2;rw[y2]at z0;omega
   have d:=sideS LT L3 hi hj n1 n2;rw[cj]at d;have e:=Iu (cor (fl (stp h t) h.length) i) (cor (fl (stp h t) h.length) (i+1)) z p r;rw[y1,y2,J8,J8,Int.zero_add,Int.zero_add]at e;generalize det (cor (fl (stp h t) h.length) i) (cor (fl (stp h t) h.length) (i+1)) z=D at d e;generalize det (cor (fl (stp h t) h.length) i) (cor (fl (stp h t) h.length) (i+1)) p=B at e ⊢;refine A6 λnb=>?_;have nb':B<0:=by omega
   have q1:0<(s*tl r z)*B:=Kn z0 nb';have q2:(s*tl r p)*D<=0:=Int.mul_nonpos_of_nonpos_of_nonneg p0 (y9 d)
   have q3:(s*tl r z)*B=(s*tl r p)*D:=by
    rw[KJ,KJ,<- e,G8 D]
   omega
 .obtain⟨g,x,y,g0,x0,y0,e1,e2,e3⟩:=(pC (ok k) (ok (k+1)) c).ex;have pk:=P k hk
  have i1:g*det (cor h k) (md h t k) p=y*det (cor h k) (cor h (k+1)) p:=by
   have:g*det (cor h k) (md h t k) p=(cor h k).u*((g*(md h t k).v)*p.w-(g*(md h t k).w)*p.v)-(cor h k).v*((g*(md h t k).u)*p.w-(g*(md h t k).w)*p.u)+(cor h k).w*((g*(md h t k).u)*p.v-(g*(md h t k).v)*p.u):=by simp only[det];grind
   rw[this,show g*(md h t k).u=_ from e1,show g*(md h t k).v=_ from e2,show g*(md h t k).w=_ from e3];simp only[det];grind
  have i2:g*det (md h t k) (cor h (k+1)) p=x*det (cor h k) (cor h (k+1)) p:=by
   have:g*det (md h t k) (cor h (k+1)) p=(g*(md h t k).u)*((cor h (k+1)).v*p.w-(cor h (k+1)).w*p.v)-(g*(md h t k).v)*((cor h (k+1)).u*p.w-(cor h (k+1)).w*p.u)+(g*(md h t k).w)*((cor h (k+1)).u*p.v-(cor h (k+1)).v*p.u):=by simp only[det];grind
   rw[this,show g*(md h t k).u=_ from e1,show g*(md h t k).v=_ from e2,show g*(md h t k).w=_ from e3];simp only[det];grind
  exact⟨.inl (mP g0 (by rw[i1];exact y8 y0 pk)),.inl (mP g0 (by rw[i2];exact y8 x0 pk))⟩
end Hu
namespace Hu
def eS(h:List T3)(p:T3):Prop:=∀f:T3,(∀c∈h,0<=tl f c)->0<=tl f p
theorem Fc(f p:T3):tl ⟨-f.u,-f.v,-f.w⟩ p = - tl f p:=by simp only[tl];grind
theorem eS.le(C:eS h p)(hf:∀c∈h,tl f c<=0):tl f p<=0:=by
 have z:=C ⟨-f.u,-f.v,-f.w⟩ λc hc=>by rw[Fc];have:=hf c hc;omega
 rw[Fc]at z;omega
theorem eO(hc:c∈h):eS h c:=λf hf=>hf c hc
theorem eS.sub(s:∀c∈g,eS h c)(C:eS g p):eS h p:=λf hf=>C f λc hc=>s c hc f hf
theorem ivt(D:Nat->Int):∀(d a:Nat),0<=D a->D (a+d+1)<=0->∃i,a<=i/\i<=a+d/\0<=D i/\D (i+1)<=0
 | 0,a,h1,h2=>⟨a,c5 _,c5 _,h1,h2⟩
 | d+1,a,h1,h2=>by
  rcases A0 0 (D (a+1)) with z | z
  .obtain⟨i,q1,q2,q3,q4⟩:=ivt D d (a+1) (y9 z) (by rw[show a+1+d+1=a+(d+1)+1 by omega];exact h2);exact⟨i,by omega,by omega,q3,q4⟩
  .exact⟨a,c5 _,by omega,h1,z⟩
theorem Sv(a b p:T3):det a b p = - det b a p:=by simp only[det];grind
theorem O5(a b p:T3):det a b p = - det a p b:=by simp only[det];grind
theorem sO(T:oj h)(n3:3<=h.length)(P:Ins h p):eS h p:=by
 intro f hf;have s0:=P 0 (by omega);have s9:=P (h.length-1) (by omega);rw[show h.length-1+1=h.length by omega,cG,Sv]at s9
 obtain⟨i,i1,i2,i3,i4⟩:=ivt (λi=>det (cor h 0) (cor h i) p) (h.length-3) 1 s0 (by
  show det (cor h 0) (cor h (1+(h.length-3)+1)) p<=0;rw[show 1+(h.length-3)+1=h.length-1 by omega];omega)
 have d:=eW T (show 0<i by omega) (show i<i+1 by omega) (show i+1<h.length by omega);have e:=Iu (cor h 0) (cor h i) (cor h (i+1)) p f;have c0:=hf _ (cF (by omega) 0);have c1:=hf _ (cF (show 0<h.length by omega) i);have c2:=hf _ (cF (show 0<h.length by omega) (i+1))
 have t1:0<=det p (cor h i) (cor h (i+1)):=by
  rw[<- bO];exact P i (by omega)
 have t2:0<=det (cor h 0) p (cor h (i+1)):=by
  rw[O5];have:det (cor h 0) (cor h (i+1)) p<=0:=i4;omega
 have m1:=y8 c0 t1;have m2:=y8 c1 t2;have m3:=y8 c2 i3;exact mP d (by rw[e];omega)
inductive Row where
 | lf (k:Nat)
 | nt (i:Nat)
 | fd (k i j:Nat)
noncomputable def z0:T3:=⟨0,0,0⟩
noncomputable def fld(k:Nat)(n a b:Int):Int:=
 if k=0 then(if a+b<n then a+b else n) else if k=1 then(if a+b-n>0 then a+b-n else 0) else if k=2 then(if b>a then b else a) else if k=3 then(if b<a then b else a) else(if n-a+b<n then n-a+b else n)
noncomputable def Yp(k:Nat)(p:T3):Int:=if k=0 then 0 else if k=1 then p.u else if k=2 then p.v else p.w
noncomputable def Xs(ws:List Int)(p:T3):Row->Int
 | .lf k=>Yp k p
 | .nt i=>p.u-ws.getD i 0
 | .fd k i j=>fld k p.u (ws.getD i 0) (ws.getD j 0)
noncomputable def lft(k:Nat):T3:=if k=0 then⟨0,0,0⟩ else if k=1 then⟨0,0,1⟩ else if k=2 then⟨1,0,0⟩ else⟨0,1,0⟩
noncomputable def pl(a b:T3):T3:=⟨a.u+b.u,a.v+b.v,a.w+b.w⟩
noncomputable def mi(a b:T3):T3:=⟨a.u-b.u,a.v-b.v,a.w-b.w⟩
noncomputable def al:T3:=⟨0,0,1⟩
theorem xw(a b p:T3):tl (pl a b) p=tl a p+tl b p:=by simp only[tl,pl];grind
theorem lU(a b p:T3):tl (mi a b) p=tl a p-tl b p:=by simp only[tl,mi];grind
theorem nv(p:T3):tl al p=p.u:=by simp only[tl,al];grind
theorem pQ(p:T3):tl z0 p=0:=by simp only[tl,z0];grind
theorem oC(k:Nat)(p:T3):tl (lft k) p=Yp k p:=by
 unfold lft Yp tl;split
 .simp
 .split
  .simp
  .split<;>simp
noncomputable def fch(k:Nat)(a b:T3):T3×T3×T3:=
 if k=0 then(mi (pl a b) al,pl a b,al) else if k=1 then(mi (pl a b) al,z0,mi (pl a b) al) else if k=2 then(mi a b,b,a) else if k=3 then(mi a b,a,b) else(mi b a,pl al (mi b a),al)
noncomputable def choice(rs:List T3):Row->T3×T3×T3
 | .lf k=>(z0,lft k,lft k)
 | .nt i=>(z0,mi al (rs.getD i z0),mi al (rs.getD i z0))
 | .fd k i j=>fch k (rs.getD i z0) (rs.getD j z0)
open Classical in
noncomputable def bg(h:List T3)(c:T3×T3×T3):Option T3:=if ∀q∈h,tl c.1 q<=0 then some c.2.1 else if ∀q∈h,0<=tl c.1 q then some c.2.2 else none
inductive Out where
 | rules (rs:List T3)
 | mixed (k:Nat) (t:T3)
noncomputable def run(h:List T3):List Row->List T3->Out
 | [],rs=>.rules rs
 | r::rest,rs=>match bg h (choice rs r) with
  | some x=>run h rest (rs++[x])
  | none=>.mixed rs.length (choice rs r).1
noncomputable def Mw(rs:List T3)(p:T3):List Int:=rs.map λr=>tl r p
theorem qP(rs:List T3)(p:T3)(i:Nat):(Mw rs p).getD i 0=tl (rs.getD i z0) p:=by
 unfold Mw;rw[z5,z5,w6];cases rs[i]? with
 | none=>exact(pQ p).symm
 | some r=>rfl
noncomputable def zD(ws:List Int)(p:T3):Row->Int
 | .lf _=>0
 | .nt _=>0
 | .fd k i j=>if k=0 then ws.getD i 0+ws.getD j 0-p.u else if k=1 then ws.getD i 0+ws.getD j 0-p.u else if k=2 then ws.getD i 0-ws.getD j 0 else if k=3 then ws.getD i 0-ws.getD j 0 else ws.getD j 0-ws.getD i 0
theorem gu(rs:List T3)(p:T3)(r:Row):tl (choice rs r).1 p=zD (Mw rs p) p r:=by
 cases r with
 | lf k=>exact pQ p
 | nt i=>exact pQ p
 | fd k i j =>
  show tl (fch k _ _).1 p=zD _ p (.fd k i j);unfold fch zD;simp only[qP];split
  .show tl (mi (pl _ _) al) p=_;rw[lU,xw,nv]
  .split
   .show tl (mi (pl _ _) al) p=_;rw[lU,xw,nv]
   .split
    .show tl (mi _ _) p=_;rw[lU]
    .split
     .show tl (mi _ _) p=_;rw[lU]
     .show tl (mi _ _) p=_;rw[lU]
theorem Hr(rs:List T3)(p:T3)(r:Row)(h:zD (Mw rs p) p r<=0):tl (choice rs r).2.1 p=Xs (Mw rs p) p r:=by
 cases r with
 | lf k=>exact oC k p
 | nt i =>
  show tl (mi al _) p=p.u-_;rw[lU,nv,qP]
 | fd k i j =>
  show tl (fch k _ _).2.1 p=fld k p.u _ _;unfold zD at h;unfold fch fld;simp only[qP]at h ⊢;split at h<;>rename_i c0
  .rw[d7 c0,d7 c0];show tl (pl _ _) p=_;rw[xw];split<;>omega
  .rw[d9 c0,d9 c0];split at h<;>rename_i c1
   .rw[d7 c1,d7 c1];show tl z0 p=_;rw[pQ];split<;>omega
   .rw[d9 c1,d9 c1];split at h<;>rename_i c2
    .rw[d7 c2,d7 c2];show tl (rs.getD j z0) p=_;split<;>omega
    .rw[d9 c2,d9 c2];split at h<;>rename_i c3
     .rw[d7 c3,d7 c3];show tl (rs.getD i z0) p=_;split<;>omega
     .rw[d9 c3,d9 c3];show tl (pl al (mi _ _)) p=_;rw[xw,nv,lU];split<;>omega
theorem HD(rs:List T3)(p:T3)(r:Row)(h:0<=zD (Mw rs p) p r):tl (choice rs r).2.2 p=Xs (Mw rs p) p r:=by
 cases r with
 | lf k=>exact oC k p
 | nt i =>
  show tl (mi al _) p=p.u-_;rw[lU,nv,qP]
 | fd k i j =>
  show tl (fch k _ _).2.2 p=fld k p.u _ _;unfold zD at h;unfold fch fld;simp only[qP]at h ⊢;split at h<;>rename_i c0
  .rw[d7 c0,d7 c0];show tl al p=_;rw[nv];split<;>omega
  .rw[d9 c0,d9 c0];split at h<;>rename_i c1
   .rw[d7 c1,d7 c1];show tl (mi (pl _ _) al) p=_;rw[lU,xw,nv];split<;>omega
   .rw[d9 c1,d9 c1];split at h<;>rename_i c2
    .rw[d7 c2,d7 c2];show tl (rs.getD i z0) p=_;split<;>omega
    .rw[d9 c2,d9 c2];split at h<;>rename_i c3
     .rw[d7 c3,d7 c3];show tl (rs.getD j z0) p=_;split<;>omega
     .rw[d9 c3,d9 c3];show tl al p=_;rw[nv];split<;>omega
theorem fU(e:bg h (choice rs r)=some x)(C:eS h p):tl x p=Xs (Mw rs p) p r:=by
 unfold bg at e;split at e
 .rename_i c;cases e
  exact Hr rs p r (by rw[<- gu];exact C.le c)
 .split at e
  .rename_i c;cases e
   exact HD rs p r (by rw[<- gu];exact C _ c)
  .cases e
theorem nu(rs:List T3)(x p:T3):Mw (rs++[x]) p=Mw rs p++[tl x p]:=by unfold Mw;rw[l8];rfl
theorem ja(e:bg h c=none):(∃q∈h,0<tl c.1 q)/\∃q∈h,tl c.1 q<0:=by
 unfold bg at e;split at e
 .cases e
 .rename_i c1;split at e
  .cases e
  .rename_i c2;constructor
   .refine A6 λz=>c1 λq hq=>?_;refine A6 λy=>z ⟨q,hq,by omega⟩
   .refine A6 λz=>c2 λq hq=>?_;refine A6 λy=>z ⟨q,hq,by omega⟩
theorem xZ(s:∀c∈g,eS h c):∀rows rs LM,rs.length=LM.length->(∀p,eS g p->Mw rs p=Mw LM p)->∀k t,run h rows rs=.mixed k t->
  ((∀c∈g,tl t c<=0)\/∀c∈g,0<=tl t c)->∀k' t',run g rows LM=.mixed k' t'->k<k'
 | [],rs,LM,_,_,k,t,e,_,_,_,_=>by cases e
 | r::rest,rs,LM,el,et,k,t,e,hs,k',t',e'=>by
  have tt:∀c∈g,tl (choice rs r).1 c=tl (choice LM r).1 c:=λc hc=>by rw[gu,gu,et c (eO hc)]
  have ex:((∀c∈g,tl (choice rs r).1 c<=0)\/∀c∈g,0<=tl (choice rs r).1 c)->∃x,bg g (choice LM r)=some x:=λhh=>by
   cases q:bg g (choice LM r) with
   | some x=>exact⟨x,rfl⟩
   | none =>
    exfalso;obtain⟨⟨a,ha,a0⟩,b,hb,b0⟩:=ja q;rw[<- tt a ha]at a0;rw[<- tt b hb]at b0;rcases hh with z | z
    .have:=z a ha;omega
    .have:=z b hb;omega
  unfold run at e;cases q:bg h (choice rs r) with
  | none =>
   rw[q]at e;injection e with e1 e2
   subst e2;obtain⟨x,qx⟩:=ex hs;unfold run at e';rw[qx]at e'
   have ge:∀rows rs (k:Nat) t,run g rows rs=.mixed k t->rs.length<=k:=by
    intro rows
    induction rows with
    | nil=>intro rs k t z;cases z
    | cons r rest ih =>
     intro rs k t z;unfold run at z;cases y:bg g (choice rs r) with
     | none=>rw[y]at z;injection z with z1 z2;omega
     | some x =>
      rw[y]at z;have:=ih _ _ _ z;rw[c7,F9]at this;omega
   have:=ge _ _ _ _ e';rw[c7,F9]at this;omega
  | some y =>
   rw[q]at e
   have us:(∀c∈g,tl (choice rs r).1 c<=0)\/∀c∈g,0<=tl (choice rs r).1 c:=by
    unfold bg at q;split at q
    .rename_i c;exact .inl λc' hc=>(s c' hc).le c
    .split at q
     .rename_i c;exact .inr λc' hc=>s c' hc _ c
     .cases q
   obtain⟨x,qx⟩:=ex us;unfold run at e';rw[qx]at e';refine xZ s rest _ _ (by simp[el]) (λp hp=>?_) k t e hs k' t' e';rw[nu,nu,fU q (hp.sub s),fU qx hp,et p hp]
def Rb(rs:List T3):Prop:=∀i x,rs[i]?=some x->R3 (i+1) x
theorem UD{m:Nat}{b:T3}(ha:R3 m a)(hb:R3 m b):R3 (m+1) (pl a b):=by
 have e:2^(m+1)=2*2^m:=by rw[G3];omega
 have:=ha.a;have:=ha.b;have:=ha.c;have:=hb.a;have:=hb.b;have:=hb.c;refine⟨?_,?_,?_⟩<;>(simp only[pl];rw[e];omega)
theorem uU{m:Nat}{b:T3}(ha:R3 m a)(hb:R3 m b):R3 (m+1) (mi a b):=by
 have e:2^(m+1)=2*2^m:=by rw[G3];omega
 have:=ha.a;have:=ha.b;have:=ha.c;have:=hb.a;have:=hb.b;have:=hb.c;refine⟨?_,?_,?_⟩<;>(simp only[mi];rw[e];omega)
theorem Aa{m:Nat}{b:T3}(ha:R3 m a)(hb:R3 m b):R3 (m+1) (mi (pl a b) al):=by
 have e:2^(m+1)=2*2^m:=by rw[G3];omega
 have:=ha.a;have:=ha.b;have:=ha.c;have:=hb.a;have:=hb.b;have:=hb.c;refine⟨?_,?_,?_⟩<;>(simp only[pl,mi,al];rw[e];omega)
theorem Rc{m:Nat}{b:T3}(ha:R3 m a)(hb:R3 m b):R3 (m+1) (pl al (mi b a)):=by
 have e:2^(m+1)=2*2^m:=by rw[G3];omega
 have:=ha.a;have:=ha.b;have:=ha.c;have:=hb.a;have:=hb.b;have:=hb.c;refine⟨?_,?_,?_⟩<;>(simp only[pl,mi,al];rw[e];omega)
theorem wj(m:Nat):R3 (m+1) al:=by
 have:=Jk (n:=m);have e:2^(m+1)=2*2^m:=by rw[G3];omega
 refine⟨?_,?_,?_⟩<;>(simp only[al];rw[e];omega)
theorem Gf(m:Nat):R3 (m+1) z0:=by
 have:=Jk (n:=m);have e:2^(m+1)=2*2^m:=by rw[G3];omega
 refine⟨?_,?_,?_⟩<;>(simp only[z0];rw[e];omega)
theorem Gg(k m:Nat):R3 (m+1) (lft k):=by
 have:=Jk (n:=m);have e:2^(m+1)=2*2^m:=by rw[G3];omega
 unfold lft;split
 .refine⟨?_,?_,?_⟩<;>(simp only[];rw[e];omega)
 .split
  .refine⟨?_,?_,?_⟩<;>(simp only[];rw[e];omega)
  .split<;>(refine⟨?_,?_,?_⟩<;>(simp only[];rw[e];omega))
def Row.Ok(n:Nat):Row->Prop
 | .lf k=>k<4
 | .nt i=>i<n
 | .fd k i j=>k<5/\i<n/\j<n
theorem qe(h:Rb rs){i:Nat}(hi:i<rs.length):R3 rs.length (rs.getD i z0):=by
 have e:rs[i]?=some (rs.getD i z0):=by rw[z5,c6 hi];rfl
 exact(h i _ e).mono (by omega)
theorem lg(h:Rb rs)(ok:r.Ok rs.length):R3 (rs.length+1) (choice rs r).1/\R3 (rs.length+1) (choice rs r).2.1/\R3 (rs.length+1) (choice rs r).2.2:=by
 cases r with
 | lf k=>exact⟨Gf _,Gg k _,Gg k _⟩
 | nt i =>
  have a:=qe h ok;have l0:∃m,rs.length=m+1:=⟨rs.length-1,by have:i<rs.length:=ok;omega⟩;obtain⟨m,em⟩:=l0;have o:R3 rs.length al:=by rw[em];exact wj m
  exact⟨Gf _,uU o a,uU o a⟩
 | fd k i j =>
  obtain⟨_,hi,hj⟩:=ok;have a:=qe h hi;have b:=qe h hj;show R3 _ (fch k _ _).1/\R3 _ (fch k _ _).2.1/\R3 _ (fch k _ _).2.2;unfold fch;split
  .exact⟨Aa a b,UD a b,wj _⟩
  .split
   .exact⟨Aa a b,Gf _,Aa a b⟩
   .split
    .exact⟨uU a b,b.mono (by omega),a.mono (by omega)⟩
    .split
     .exact⟨uU a b,a.mono (by omega),b.mono (by omega)⟩
     .exact⟨uU b a,Rc a b,wj _⟩
theorem we(h:Rb rs)(hx:R3 (rs.length+1) x):Rb (rs++[x]):=λi y e=>by
 rcases A7 i rs.length with z | z
 .rw[B0 z]at e;exact h i y e
 .rw[F4 z]at e
  have:i-rs.length=0:=by
   rcases G1 (i-rs.length) with q | q
   .exact q
   .rw[List.getElem?_eq_none (by simp;omega)]at e;cases e
  rw[this]at e;cases e
  rw[show i=rs.length by omega];exact hx
theorem tK(hb:Rb rs)(ok:r.Ok rs.length)(e:bg h (choice rs r)=some x):R3 (rs.length+1) x:=by
 obtain⟨_,b1,b2⟩:=lg hb ok;unfold bg at e;split at e
 .cases e;exact b1
 .split at e
  .cases e;exact b2
  .cases e
end Hu
end Mine
set_option maxHeartbeats 1000000
namespace Mine
variable{s:Int}{j bb d:Nat}{Ls:List (List Row)}
namespace Hu
theorem fh(H:HK h):∀c∈fl (stp h t) h.length,eS h c:=λc hc=>by
 have ok:=H.cok;have n3:=H.n3;obtain⟨i,hi,hx⟩:=sub_one hc;unfold stp at hx;rcases j6.mp hx with z | z
 .split at z
  .rw[c9.mp z];exact eO (cF (by omega) i)
  .cases z
 .split at z
  .rename_i c0;rw[c9.mp z];intro f hf;obtain⟨g,x,y,g0,x0,y0,e1,e2,e3⟩:=(pC (ok i) (ok (i+1)) c0).ex;have a1:=hf _ (cF (show 0<h.length by omega) i);have a2:=hf _ (cF (show 0<h.length by omega) (i+1))
   have e:g*tl f (mid (cor h i) (cor h (i+1)) (t i) (t (i+1)))=x*tl f (cor h i)+y*tl f (cor h (i+1)):=by
    have:g*tl f (mid (cor h i) (cor h (i+1)) (t i) (t (i+1)))=f.u*(g*(mid (cor h i) (cor h (i+1)) (t i) (t (i+1))).v)+f.v*(g*(mid (cor h i) (cor h (i+1)) (t i) (t (i+1))).w)+f.w*(g*(mid (cor h i) (cor h (i+1)) (t i) (t (i+1))).u):=by simp only[tl];grind
    rw[this,e1,e2,e3];simp only[tl];grind
   have m1:=y8 x0 a1;have m2:=y8 y0 a2;exact mP g0 (by rw[e];omega)
  .cases z
theorem uX(W:Wk h t r X)(et:∀i,t i=s*tl r (cor h i)):∀c∈fl (stp h t) h.length,s*tl r c<=0:=λc hc=>by
 obtain⟨i,hi,hx⟩:=sub_one hc;unfold stp at hx;rcases j6.mp hx with z | z
 .split at z
  .rename_i c0;rw[c9.mp z,<- et i];exact c0
  .cases z
 .split at z
  .rename_i c0;rw[c9.mp z];have:=W.ml i c0;have e:tl r (mid (cor h i) (cor h (i+1)) (t i) (t (i+1)))=0:=this;rw[e];omega
  .cases z
theorem EV(H:HK h)(hp:p∈h)(hq:q∈h)(p0:tl r p<0)(q0:0<tl r q):∃X,Wk h (tv r h) r X/\Wk h (tn r h) r X:=by
 have ok:=H.cok
 have nz:r.u≠0\/r.v≠0\/r.w≠0:=by
  rcases JN (r.u=0) with z1 | z1
  .rcases JN (r.v=0) with z2 | z2
   .refine .inr (.inr λz3=>?_);unfold tl at p0;rw[z1,z2,z3]at p0;omega
   .exact .inr (.inl z2)
  .exact .inl z1
 have xs:∃X:T3,0<X.u/\tl r X=0:=by
  refine⟨⟨tl r q*p.u + -(tl r p)*q.u,tl r q*p.v + -(tl r p)*q.v,tl r q*p.w + -(tl r p)*q.w⟩,?_,?_⟩
  .show 0<tl r q*p.u + -(tl r p)*q.u;have:=F7 q0 (H.ok p hp).n0;have:=F7 (show 0 < -(tl r p) by omega) (H.ok q hq).n0;omega
  .show r.u*(tl r q*p.v + -(tl r p)*q.v)+r.v*(tl r q*p.w + -(tl r p)*q.w)+r.w*(tl r q*p.u + -(tl r p)*q.u)=0;simp only[tl];grind
 obtain⟨X,xu,xl⟩:=xs;obtain⟨W1,W2⟩:=EU ok nz xu xl;exact⟨X,W1,W2⟩
theorem oZ:∀rows rs (k:Nat) t,run h rows rs=.mixed k t->(∃q∈h,0<tl t q)/\∃q∈h,tl t q<0
 | [],rs,k,t,e=>by cases e
 | r::rest,rs,k,t,e=>by
  unfold run at e;cases q:bg h (choice rs r) with
  | some x=>rw[q]at e;exact oZ rest _ k t e
  | none =>
   rw[q]at e;injection e with e1 e2
   rw[<- e2];exact ja q
theorem pA{k:Nat}(e:run h rows []=.mixed k t):¬gX t h:=λz=>by
 obtain⟨⟨a,ha,a0⟩,b,hb,b0⟩:=oZ rows [] k t e;rcases z with z | z
 .have:=z b hb;omega
 .have:=z a ha;omega
noncomputable def RJ:Row->Bool
 | .fd _ _ _=>true
 | _=>false
noncomputable def fds(rows:List Row):Nat:=rows.countP RJ
theorem sL{h:List T3}:∀rows rs (k:Nat) t,run h rows rs=.mixed k t->∃i r,rows[i]?=some r/\k=rs.length+i/\RJ r=true
 | [],rs,k,t,e=>by cases e
 | r::rest,rs,k,t,e=>by
  unfold run at e;cases q:bg h (choice rs r) with
  | some x =>
   rw[q]at e;obtain⟨i,r',h1,h2,h3⟩:=sL rest _ k t e;exact⟨i+1,r',by simpa using h1,by rw[h2,c7,F9];omega,h3⟩
  | none =>
   rw[q]at e;injection e with e1 e2
   refine⟨0,r,rfl,by omega,?_⟩;cases r with
   | fd _ _ _=>rfl
   | lf k' =>
    obtain⟨⟨a,_,a0⟩,_⟩:=ja q;have:tl z0 a=0:=pQ a;have a0':0<tl z0 a:=a0;omega
   | nt i =>
    obtain⟨⟨a,_,a0⟩,_⟩:=ja q;have:tl z0 a=0:=pQ a;have a0':0<tl z0 a:=a0;omega
theorem Ic{rows:List Row}{k:Nat}{r:Row}(h:rows[k]?=some r)(f:RJ r=true):fds (rows.drop k)=fds (rows.drop (k+1))+1:=by
 have hk:k<rows.length:=(d6.mp h).1
 have e:rows.drop k=r::rows.drop (k+1):=by
  rw[C2 hk];rw[c6 hk]at h;cases h
  rfl
 rw[e];unfold fds;rw[List.countP_cons_of_pos f]
theorem sW{rows:List Row}{i:Nat}(h:i<=j):fds (rows.drop j)<=fds (rows.drop i):=by
 have e:rows.drop j=(rows.drop i).drop (j-i):=by rw[List.drop_drop];congr 1;omega
 rw[e];exact(Kz _ _).countP_le
theorem PY{h:List T3}:∀rows rs,Rb rs->(∀(i:Nat) r,rows[i]?=some r->r.Ok (rs.length+i))->(∀k t,run h rows rs=.mixed k t->R3 (k+1) t)/\∀out,run h rows rs=.rules out->Rb out/\out.length=rs.length+rows.length
 | [],rs,hb,_=>⟨λk t e=>(by cases e),λout e=>(by cases e;exact⟨hb,by simp⟩)⟩
 | r::rest,rs,hb,ok=>by
  have o0:r.Ok rs.length:=by have:=ok 0 r rfl;rwa [Nat.add_zero]at this
  have cb:=lg hb o0;cases q:bg h (choice rs r) with
  | none =>
   refine⟨λk t e=>?_,λout e=>?_⟩
   .unfold run at e;rw[q]at e;injection e with e1 e2
    rw[<- e2,<- e1];exact cb.1
   .unfold run at e;rw[q]at e;cases e
  | some x =>
   have hx:=tK hb o0 q;obtain⟨i1,i2⟩:=PY (h:=h) rest (rs++[x]) (we hb hx) (λi r' hr=>by have:=ok (i+1) r' (by simpa using hr);rw[c7,F9];rwa [show rs.length+1+i=rs.length+(i+1) by omega]);refine⟨λk t e=>?_,λout e=>?_⟩
   .unfold run at e;rw[q]at e;exact i1 k t e
   .unfold run at e;rw[q]at e;obtain⟨j1,j2⟩:=i2 out e;exact⟨j1,by rw[j2,c7,F9,j9];omega⟩
inductive Tc where
 | leaf
 | cut (r:T3) (l g:Tc)
noncomputable def Tc.iR:Tc->Nat
 | .leaf=>0
 | .cut _ l g=>1+l.iR+g.iR
end Hu
namespace Hu
theorem iR(H:Mj bb h)(hr:R3 bb r)(n:¬gX r h):Cut bb h r:=by
 have a:∃p∈h,tl r p<0:=Ko λz=>n (.inl λp hp=>by
  rcases A0 (tl r p) 0 with y | y
  .exact absurd ⟨p,hp,y⟩ z
  .exact y)
 have b:∃p∈h,0<tl r p:=Ko λz=>n (.inr λp hp=>by
  rcases A0 0 (tl r p) with y | y
  .exact absurd ⟨p,hp,y⟩ z
  .exact y)
 obtain⟨p,hp,p0⟩:=a;obtain⟨q,hq,q0⟩:=b;exact CM H hr hp hq p0 q0
namespace Tc
noncomputable def deep:Tc->Nat
 | leaf=>0
 | cut _ l g=>max l.deep g.deep+1
noncomputable def size:Tc->Nat
 | leaf=>1
 | cut _ l g=>l.size+g.size+1
def Sm(b:Nat):Tc->Prop
 | leaf=>True
 | cut r l g=>R3 b r/\l.Sm b/\g.Sm b
theorem Sm.mono{a b:Nat}(h:a<=b):∀{t:Tc},t.Sm a->t.Sm b
 | leaf,_=>trivial
 | cut r l g,⟨x,y,z⟩=>⟨x.mono h,Sm.mono h y,Sm.mono h z⟩
theorem size_pos:∀t:Tc,0<t.size
 | leaf=>by decide
 | cut _ l g=>by simp only[size];omega
theorem size_le:∀{t:Tc}{d:Nat},t.deep<=d->t.size+1<=2^(d+1)
 | leaf,d,_=>by
  have:=Jk (n:=d);simp only[size];rw[G3];omega
 | cut r l g,0,h=>by simp only[deep]at h;omega
 | cut r l g,d+1,h=>by
  simp only[deep]at h;have a:=size_le (t:=l) (d:=d) (by omega);have b:=size_le (t:=g) (d:=d) (by omega);simp only[size];rw[G3];omega
open Classical in
noncomputable def told:Tc->List T3->Option (List (List T3))
 | leaf,h=>some [h]
 | cut r l g,h=>if gX r h then none else match l.told (low r h),g.told (high r h) with
  | some a,some b=>some (a++b)
  | _,_=>none
theorem gG:∀{t:Tc}{h:List T3}{L:List (List T3)},Mj bb h->t.Sm bb->t.told h=some L->∀g∈L,Mj bb g/\g.length<=h.length+t.deep
 | leaf,h,L,H,_,e,g,hg=>by
  cases e
  rw[c9.mp hg];exact⟨H,D9 _ _⟩
 | cut r l g,h,L,H,sm,e,x,hx=>by
  unfold told at e;split at e
  .cases e
  .rename_i nc;have c:=Hu.iR H sm.1 nc;cases ea:l.told (low r h) with
   | none=>rw[ea]at e;cases e
   | some a=>cases eb:g.told (high r h) with
    | none=>rw[ea,eb]at e;cases e
    | some b =>
     rw[ea,eb]at e;cases e
     have l1:=c.ll;have l2:=c.lh;rcases j6.mp hx with z | z
     .have:=gG c.lo sm.2.1 ea x z;exact⟨this.1,by simp only[deep];have:=this.2;omega⟩
     .have:=gG c.hi sm.2.2 eb x z;exact⟨this.1,by simp only[deep];have:=this.2;omega⟩
noncomputable def eU:List (Tc×List T3)->Option (List (List T3))
 | []=>some []
 | (t,h)::r=>match t.told h,eU r with
  | some a,some b=>some (a++b)
  | _,_=>none
theorem zF(h:List T3)(r:List (Tc×List T3)):eU ((leaf,h)::r)=(eU r).map (h::·):=by
 simp only[eU,told];cases eU r<;>rfl
theorem EZ(n:gX q h)(r:List (Tc×List T3)):eU ((cut q l g,h)::r)=none:=by
 simp only[eU,told,d7 n]
theorem Dg(n:¬gX q h)(r:List (Tc×List T3)):eU ((cut q l g,h)::r)=eU ((l,low q h)::(g,high q h)::r):=by
 simp only[eU,told,d9 n];cases l.told (low q h) with
 | none=>rfl
 | some a=>cases g.told (high q h) with
  | none=>cases eU r<;>rfl
  | some b=>cases eU r with
   | none=>rfl
   | some c=>simp only[m6]
end Tc
theorem FQ:∀rows rs (k:Nat) t,run h rows rs=.mixed k t->rs.length<=k
 | [],rs,k,t,e=>by cases e
 | r::rest,rs,k,t,e=>by
  unfold run at e;cases q:bg h (choice rs r) with
  | some x =>
   rw[q]at e;have:=FQ rest _ k t e;rw[c7]at this;exact Nat.le_of_succ_le this
  | none=>rw[q]at e;injection e with e1 _;omega
theorem AR(h:(∀q∈g,tl c.1 q<=0)\/∀q∈g,0<=tl c.1 q):∃x,bg g c=some x:=by
 unfold bg;split
 .exact⟨_,rfl⟩
 .rename_i n;rcases h with z | z
  .exact absurd z n
  .rw[d7 z];exact⟨_,rfl⟩
theorem yW(e:bg h c=some x):(∀q∈h,tl c.1 q<=0)\/∀q∈h,0<=tl c.1 q:=by
 unfold bg at e;split at e
 .rename_i z;exact .inl z
 .split at e
  .rename_i z;exact .inr z
  .cases e
theorem BS(s:∀c∈g,eS h c):∀rows rs LM,rs.length=LM.length->(∀p,eS g p->Mw rs p=Mw LM p)->∀k' t',run g rows LM=.mixed k' t'->∃k t,run h rows rs=.mixed k t/\k<=k'
 | [],rs,LM,_,_,k',t',e'=>by cases e'
 | r::rest,rs,LM,el,et,k',t',e'=>by
  have tt:∀c∈g,tl (choice rs r).1 c=tl (choice LM r).1 c:=λc hc=>by rw[gu,gu,et c (eO hc)]
  cases q:bg h (choice rs r) with
  | none =>
   refine⟨rs.length,(choice rs r).1,by unfold run;rw[q],?_⟩;rw[el];exact FQ _ _ _ _ e'
  | some x =>
   have sg:(∀c∈g,tl (choice LM r).1 c<=0)\/∀c∈g,0<=tl (choice LM r).1 c:=by
    rcases yW q with z | z
    .exact .inl λc hc=>by rw[<- tt c hc];exact(s c hc).le z
    .exact .inr λc hc=>by rw[<- tt c hc];exact(s c hc) _ z
   obtain⟨x',q'⟩:=AR sg;unfold run at e';rw[q']at e';obtain⟨k,t,e,l⟩:=BS s rest (rs++[x]) (LM++[x']) (by simp[el]) (λp C=>by rw[nu,nu,et p C,fU q (C.sub s),fU q' C,et p C]) k' t' e';exact⟨k,t,by unfold run;rw[q];exact e,l⟩
noncomputable def need(h:List T3)(rows:List Row):Nat:=match run h rows []with
 | .rules _=>0
 | .mixed k _=>fds (rows.drop k)
theorem need_le(h:List T3)(rows:List Row):need h rows<=fds rows:=by
 unfold need;split
 .exact x4 _
 .rename_i k t _;have:=sW (rows:=rows) (x4 k);simpa using this
theorem yu(s:∀c∈g,eS h c)(rows:List Row):need g rows<=need h rows:=by
 unfold need;cases e:run g rows []with
 | rules rs=>exact x4 _
 | mixed k' t' =>
  obtain⟨k,t,e2,l⟩:=BS s rows [] [] rfl (λ_ _=>rfl) k' t' e;rw[e2];exact sW l
theorem yw(s:∀c∈g,eS h c){rows:List Row}{k:Nat}(e:run h rows []=.mixed k t)(hs:(∀c∈g,tl t c<=0)\/∀c∈g,0<=tl t c):need g rows+1<=need h rows:=by
 obtain⟨i,r,hr,ek,fr⟩:=sL rows [] k t e;have ek:k=i:=by rw[ek];simp
 subst ek;have fk:=Ic hr fr;unfold need;rw[e];cases e':run g rows []with
 | rules rs=>show 0+1<=fds (rows.drop k);omega
 | mixed k' t' =>
  have:=xZ s rows [] [] rfl (λ_ _=>rfl) k t e hs k' t' e';have:=sW (rows:=rows) (show k+1<=k' by omega);show fds (rows.drop k')+1<=fds (rows.drop k);omega
structure TnL(Ls:List (List Row))(d:Nat)(h:List T3):Prop where
 hk:HK h
 ln:h.length+d<=20
 nd:(Ls.map (need h)).sum<=d
theorem zK{α:Type}{f g:α->Nat}:∀(l:List α),(∀x∈l,f x<=g x)->(l.map f).sum<=(l.map g).sum
 | [],_=>c5 _
 | a::l,h=>by
  have:=h a v8;have:=zK l λx hx=>h x (x6 _ hx);simp only[z7,List.sum_cons];omega
theorem zJ{α:Type}{f g:α->Nat}:∀(l:List α){x:α},(∀x∈l,f x<=g x)->x∈l->f x+1<=g x->(l.map f).sum+1<=(l.map g).sum
 | a::l,x,h,hx,k=>by
  have h1:=h a v8;have h2:=λx hx=>h x (x6 a hx);simp only[z7,List.sum_cons];rcases j4.mp hx with rfl | z
  .have:=zK l h2;omega
  .have:=zJ l h2 z k;omega
theorem TnL.cut{h:List T3}(T:TnL Ls d h){rows:List Row}(hm:rows∈Ls)(ok:∀(i:Nat)(r:Row),rows[i]?=some r->r.Ok i)(few:rows.length<=60){k:Nat}{t:T3}(e:run h rows []=.mixed k t):R3 61 t/\∃d',d=d'+1/\TnL Ls d' (low t h)/\TnL Ls d' (high t h):=by
 obtain⟨i,r,hr,ek,fr⟩:=sL rows [] k t e;have ek:k=i:=by rw[ek];simp
 subst ek;have hk:k<rows.length:=(d6.mp hr).1;have bt:R3 61 t:=((PY (h:=h) rows [] (λ_ _ z=>by simp at z) (λi r hr=>by simpa using ok i r hr)).1 k t e).mono (by omega);obtain⟨⟨p2,Lk,Qm⟩,p1,LO,Tz⟩:=oZ rows [] k t e;have cut:=CM T.hk (bt.mono (by decide)) LO Lk Tz Qm;obtain⟨X,W1,W2⟩:=EV T.hk LO Lk Tz Qm;have e1:∀i,tv t h i=1*tl t (cor h i):=λi=>(K3 _).symm;have e2:∀i,tn t h i = -1*tl t (cor h i):=λi=>by show-tl t _=_;omega
 have t1:=uX W1 e1;have t2:=uX W2 e2;have c1:∀c∈low t h,eS h c:=fh T.hk;have c2:∀c∈high t h,eS h c:=fh T.hk;have l1:=cut.ll;have l2:=cut.lh;have ln:=T.ln;have nd:=T.nd;have n1:=zJ (f:=need (low t h)) (g:=need h) Ls (λx _=>yu c1 x) hm (yw c1 e (.inl λc hc=>by have:=t1 c hc;omega));have n2:=zJ (f:=need (high t h)) (g:=need h) Ls (λx _=>yu c2 x) hm (yw c2 e (.inr λc hc=>by have:=t2 c hc;omega));exact⟨bt,d-1,by omega,⟨cut.lo,by omega,by omega⟩,⟨cut.hi,by omega,by omega⟩⟩
end Hu
namespace Hu
theorem wQ(hx:x∈f j):∀{n:Nat},j<n->x∈fl f n
 | 0,h=>absurd h (Nat.not_lt_zero _)
 | n+1,h=>by
  rw[bz];rcases A7 j n with z | z
  .exact A5 _ (wQ hx z)
  .have e:j=n:=by omega
   subst e;exact l9 _ hx
theorem OK(hc:c∈h)(n:tl r c<=0):c∈low r h:=by
 obtain⟨j,hj,ej⟩:=D7.mp hc;refine wQ (j:=j) ?_ hj;have e:cor h j=c:=(cK hj).trans ej;unfold stp;rw[d7 (show tv r h j<=0 by unfold tv;rw[e];exact n),e];exact A5 _ v8
theorem Hz(hc:c∈h)(n:0<=tl r c):c∈high r h:=by
 obtain⟨j,hj,ej⟩:=D7.mp hc;refine wQ (j:=j) ?_ hj;have e:cor h j=c:=(cK hj).trans ej;unfold stp;rw[d7 (show tn r h j<=0 by unfold tn;rw[e];omega),e];exact A5 _ v8
theorem Rq(h1:¬gX r h):(∃p∈h,tl r p<0)/\∃p∈h,0<tl r p:=by
 constructor
 .refine A6 λz=>h1 (.inl λp hp=>?_);refine A6 λy=>z ⟨p,hp,by omega⟩
 .refine A6 λz=>h1 (.inr λp hp=>?_);refine A6 λy=>z ⟨p,hp,by omega⟩
theorem wM(H:HK h)(hr:R3 64 r)(n:¬gX r h)(P:Ins h p):(tl r p<=0->Ins (low r h) p)/\(0<=tl r p->Ins (high r h) p):=by
 obtain⟨⟨a,ha,a0⟩,b,hb,b0⟩:=Rq n;obtain⟨X,W1,W2⟩:=EV H ha hb a0 b0;have C:=iR H hr n;refine⟨λz=>?_,λz=>?_⟩
 .exact yM (s:=1) H W1 (by show tl r (cor h h.length)=tl r (cor h 0);rw[cG]) (.inl rfl) (λi=>(K3 _).symm) C.lo.n3 C.lo.tri (OK ha (y9 a0)) (by omega) P (by omega)
 .exact yM (s:=-1) H W2 (by show-tl r (cor h h.length) = - tl r (cor h 0);rw[cG]) (.inr rfl) (λi=>by show-tl r (cor h i) = -1*tl r (cor h i);omega) C.hi.n3 C.hi.tri (Hz hb (y9 b0)) (by omega) P (by omega)
theorem cover:∀{t:Tc}{h:List T3}{L:List (List T3)}{p:T3},HK h->t.Sm 64->t.told h=some L->Ins h p->∃g∈L,Ins g p
 | .leaf,h,L,p,_,_,e,P=>by
  cases e
  exact⟨h,v8,P⟩
 | .cut r l k,h,L,p,H,sm,e,P=>by
  unfold Tc.told at e;split at e
  .cases e
  .rename_i nc;have c:=iR H sm.1 nc;have I:=wM H sm.1 nc P;cases ea:l.told (low r h) with
   | none=>rw[ea]at e;cases e
   | some a=>cases eb:k.told (high r h) with
    | none=>rw[ea,eb]at e;cases e
    | some b =>
     rw[ea,eb]at e;cases e
     rcases Int.le_total (tl r p) 0 with z | z
     .obtain⟨g,hg,q⟩:=cover c.lo sm.2.1 ea (I.1 z);exact⟨g,A5 _ hg,q⟩
     .obtain⟨g,hg,q⟩:=cover c.hi sm.2.2 eb (I.2 z);exact⟨g,l9 _ hg,q⟩
theorem Hx(v0:0<=p.v)(v1:p.v<=p.u)(w0:0<=p.w)(w1:p.w<=p.u):Ins sqH p:=by
 intro i hi;have hi:i<4:=hi;rcases(by omega:i=0\/i=1\/i=2\/i=3) with rfl | rfl | rfl | rfl
 .show 0<=det ⟨1,0,0⟩ ⟨1,1,0⟩ p;simp only[det];omega
 .show 0<=det ⟨1,1,0⟩ ⟨1,1,1⟩ p;simp only[det];omega
 .show 0<=det ⟨1,1,1⟩ ⟨1,0,1⟩ p;simp only[det];omega
 .show 0<=det ⟨1,0,1⟩ ⟨1,0,0⟩ p;simp only[det];omega
theorem tD{a b:Int}(h:∀c∈g,a*c.u<=tl r c*b)(C:eS g p):a*p.u<=tl r p*b:=by
 have e:∀q:T3,tl ⟨r.u*b,r.v*b,r.w*b-a⟩ q=tl r q*b-a*q.u:=λq=>by simp only[tl];grind
 have z:=C ⟨r.u*b,r.v*b,r.w*b-a⟩ λc hc=>by rw[e];have:=h c hc;omega
 rw[e]at z;omega
end Hu
end Mine
set_option maxHeartbeats 4000000
namespace L2
open PySem PySem.Spec PyProof.Rows
variable{X:Cx}{s:Stmt}{n:Nat}
def Ud:TS:=λ_ _ _=>False
theorem Oo:PS X s Ud:=λ_ _ _ _ _ _ h=>h.elim
theorem Et(hc:X.calm=true):gi X (.builtin "sum") (λxs H Q=>∃(l:Addr)(ns:List Int),xs=[.ref l]/\K7 X.K H l (ns.map V.int)/\Q (.int ns.sum) H):=by
 intro K5 s σ H xs us Q I r h;obtain⟨l,ns,rfl,hq,q⟩:=h;obtain⟨u,rfl,rx⟩:=vals1 r;cases rx
 obtain⟨its,rv,pl,_⟩:=I.list hq;have hi:IntsAre its ns:=intsAre_of rv;have hl:=pl.isList;obtain⟨ys,e⟩:=hi.allInts.items;have en:ns=ys.toList.map (·.1):=by rw[<- hi.numsOf,<- JT,<- e]
 rw[e]at hl;refine sum_intListG (I.ok.hd hc) hl λh' tk t' hk=>?_;have es:preSum (numAt ys) ys.size=ns.sum:=by rw[preSum_eq,<- en,List.take_of_length_le (by rw[en];simp)]
 rw[es];exact⟨.int ns.sum,H,I.kept hk,⟨t',rfl⟩,q⟩
section
variable{X:Cx}{K5:List (Addr×Obj)}{σ:St}{H:Hp}{s:Shared}{scope:Scope}{cl:List (Str×Addr)}{x:Str}{js:List Nat}{fp:List Addr}
end
section
variable{X:Cx}{elt Ld:Expr}{x:Str}{px pos:Pos}{ifs:List Expr}{scope:Scope}{cl:List (Str×Addr)}{wi:TI}{tc:TT}{te:TE}{js:List Nat}
end
open PySem.Calls PySem.W
section
variable{P:Program}{w:World}{K:W.Frag}{mg:Str->Option Value}{base:Heap}{N:List Str}{qual:Str}{scope:Scope}{f:Addr}{cd:Value}{A:Around}{outer:List Env}{s:Shared}{H:Hp}{E:XK}
theorem GA:Passes (LZ P w) (cN (LZ P w) P w K mg base N qual scope f cd A outer s H E) E:=by
 intro K5 σ H1 s1 e s' I hq;obtain⟨ea,C,H2,rfl,⟨t,B,ho,hgn,un,hok,fl,h0,h1,TH⟩,q⟩:=hq;have LI:∀b o,s.heap.get? b=some o->∃o',s1.heap.get? b=some o':=λb o z=>I.base.there b o z (λz=>nomatch z);show wpAny (model P w) (A.deeper (envOfC qual scope s.heap.objs.size f cd)) (leaving (envOfC qual scope s.heap.objs.size f cd) (.ref ea)) _ _ _;refine wpAny_leaves_onW I.ok.frames rfl fl λg Zh up=>?_;have I2:Inv (cN (LZ P w) P w K mg base N qual scope f cd A outer s H E) K5 σ H2 {s' with heap:=g,toks:=s'.toks}:=I.caught (C:=C) (ea:=ea) (t:=ea) ho hgn un hok TH Zh.1 up
 have new:s.heap.get? ea=none:=by
  cases z:s.heap.get? ea with
  | none=>rfl
  | some o=>obtain⟨o',e'⟩:=LI ea o z;rw[h1]at e';cases e'
 refine⟨ea,C,H2,rfl,⟨t,B,I2.os,I2.bare,I2.base,I2.hok,Zh,h0,new,λb o z n hb=>?_⟩,q⟩
 have nf:b ∉ LF (envOfC qual scope s.heap.objs.size f cd::outer):=λk=>by
  rcases hb with⟨u,hu⟩ | ⟨o',Ml⟩
  .have:=I2.stkFree b k;rw[hu]at this;cases this
  .exact(j4.mp (I.stkSub b k)).elim (λy=>absurd (i5 (l6 Ml) I.ok.above) (by rw[y];exact B2 _)) n
 have key:(∃o1,s'.heap.get? b=some o1)/\((∃u,H2 b=some u)\/∃o',s1.heap.get? b=some o'):=by
  rcases hb with⟨u,hu⟩ | ⟨o',Ml⟩
  .exact⟨(hok b u hu).there,.inl ⟨u,hu⟩⟩
  .obtain⟨o2,e2⟩:=LI b o' Ml;exact⟨un.there b o2 e2 (λz=>nomatch z),.inr ⟨o2,e2⟩⟩
 obtain⟨⟨o1,e1⟩,k2⟩:=key;have e2:=TH b o1 e1 nf k2;have e3:=Zh.1 b o1 e2;have e4:some o=some o1:=z.symm.trans e3;cases e4
 exact e2
theorem Ow(D:xi P w K mg base n x ps sp)(hr:dP n (cN (LZ P w) P w K mg base N qual scope f cd A outer s H E).A)(hg:Gl (cN (LZ P w) P w K mg base N qual scope f cd A outer s H E) x)(ha:PA (cN (LZ P w) P w K mg base N qual scope f cd A outer s H E) (e::es) t)
  (hdb:(x==("__debug__":Str))=false:=by decide)(he:starEach (e::es) (envOfC qual scope s.heap.objs.size f cd)=(false,eval e (envOfC qual scope s.heap.objs.size f cd))::starEach es (envOfC qual scope s.heap.objs.size f cd):=by rfl)(hpl:(backTo pos (starEach es (envOfC qual scope s.heap.objs.size f cd))).any (·.1)=false:=by rfl) :
  PE (cN (LZ P w) P w K mg base N qual scope f cd A outer s H E) (.Call (.Name x p) (e::es) [] pos) (qS sp [] E t):=by
 obtain⟨g,fd,F,b,kp,m⟩:=D.ex;exact wx F hr hg m kp b .nil GA ha hdb he hpl
end
variable{X:Cx}
noncomputable def plainArg(e:Expr):Bool:=match e with
 | .Starred _ _=>false
 | _=>true
theorem jF(h:plainArg e=true):starEach (e::es) env=(false,eval e env)::starEach es env:=by
 cases e<;>first | rfl | cases h
theorem paS(ha:PE X e te)(hr:PA X es t)(h:plainArg e=true:=by rfl):PA X (e::es) (dZ te t):=aa ha hr (jF h)
section
variable{prog:Program}{w:World}{A:Around}{E:Value->Shared->Prop}{h:Heap}{g:Array GenState}{d:Drawn}{t:Nat}{os:OsState}
variable{C fI:Addr}{ZG:List Value}{B newId Yt:String}
end
section
variable{M:Model}{A:Around}{E:Value->Shared->Prop}{s:Shared}{base:Heap}{env:Env}{outer l:List Env}{L e:Addr}{cl fl:Value}{dc:Option Addr}{Q:Unit->Shared->Prop}
end
open PySem.Builtin PySem.Builtin.ObjectAttr
section
variable{prog:Program}{w:World}{A:Around}{s:Shared}{K:Frag}{x C:Addr}{ox:Obj}{od:Option Obj}{name:Str}{v:Value}
end
section
variable{P:Program}{w:World}{H:Hp}{h:Heap}{e C d:Addr}{dc:Option Addr}{fs:List (Str×V)}
end
section
variable{X:Cx}{K5:List (Addr×Obj)}{σ:St}{H:Hp}{s:Shared}{a C d:Addr}{fs:List (Str×V)}{f:Str}{y:V}{u:Value}{A:Around}{E:Value->Shared->Prop}{Q:Unit->Shared->Prop}
end
section
variable{X:Cx}{k:Nat}{f C:Addr}{fd:FuncData}{ps:List Str}{sp:Sp}{x:Str}{p pos:Pos}{e:Expr}{es:List Expr}{t:TA}
end
section
variable{P:Program}{w:World}{K:W.Frag}{mg:Str->Option Value}{base:Heap}{N:List Str}{qual:Str}{scope:Scope}{f:Addr}{cd:Value}{A:Around}{outer:List Env}{s:Shared}{H:Hp}{E:XK}
end
open PySem.Builtin.Getset_descriptor
section
variable{P:Program}{w:World}{K:W.Frag}{mg:Str->Option Value}{base:Heap}{N:List Str}{qual:Str}{scope:Scope}{f:Addr}{cd:Value}{A:Around}{outer:List Env}{s:Shared}{H:Hp}{E:XK}
end
section
variable{X:Cx}
end
section
variable{P:Program}{w:World}{K:W.Frag}{mg:Str->Option Value}{base:Heap}{N:List Str}{qual:Str}{scope:Scope}{f:Addr}{cd:Value}{A:Around}{outer:List Env}{s:Shared}{H:Hp}{E:XK}
end
section
variable{P:Program}{w:World}{K:W.Frag}{mg:Str->Option Value}{base:Heap}{N:List Str}{qual:Str}{scope:Scope}{f:Addr}{cd:Value}{A:Around}{outer:List Env}{s:Shared}{H:Hp}{E:XK}
end
end L2
namespace Mine
open PySem L2
variable{i n N:Nat}{H1:Hp}{D CN:Addr}{te:TE}{js:List Nat}{σ:St}{F:Int->Int->Int}
noncomputable def top(i:Nat):Stmt:=PySem.Challenge.pw_leansay_k52_fewest_steps.main.body.getD i (.Pass ⟨0,0,0,0⟩)
noncomputable abbrev cI:Stmt:=inClass (top 24) 0
noncomputable abbrev fB:Stmt:=inClass (top 24) 2
noncomputable abbrev hX:Stmt:=inClass (top 24) 4
noncomputable abbrev fD:Stmt:=inClass (top 24) 6
noncomputable abbrev cZ:Stmt:=inClass (top 25) 0
noncomputable abbrev gJ:Stmt:=inClass (top 25) 1
noncomputable abbrev cU:Stmt:=inClass (top 26) 0
noncomputable abbrev fK:Stmt:=inClass (top 26) 1
noncomputable abbrev gM:Stmt:=inClass (top 27) 0
noncomputable abbrev bU:Stmt:=inClass (top 27) 1
noncomputable abbrev dA:Stmt:=inClass (top 27) 2
noncomputable abbrev jM:Stmt:=inClass (top 28) 0
noncomputable abbrev gH:Stmt:=inClass (top 28) 1
noncomputable abbrev dW:Stmt:=inClass (top 28) 2
noncomputable abbrev iV:Stmt:=inClass (top 28) 4
noncomputable abbrev iW:Stmt:=inClass (top 29) 0
noncomputable abbrev fJ:Stmt:=inClass (top 29) 1
noncomputable abbrev ic:Stmt:=inClass (top 29) 3
noncomputable abbrev dM:Stmt:=inClass (top 30) 0
noncomputable abbrev gK:Stmt:=inClass (top 30) 1
noncomputable abbrev dN:Stmt:=inClass (top 31) 0
noncomputable abbrev gN:Stmt:=inClass (top 31) 1
noncomputable abbrev cL:Stmt:=inClass (top 32) 0
noncomputable abbrev eP:Stmt:=inClass (top 32) 1
noncomputable abbrev cT:Stmt:=inClass (top 33) 0
noncomputable abbrev eY:Stmt:=inClass (top 33) 1
noncomputable abbrev de:Stmt:=inClass (top 34) 0
noncomputable abbrev fH:Stmt:=inClass (top 34) 1
noncomputable abbrev PX:Stmt:=fB
noncomputable abbrev Us:Stmt:=hX
noncomputable abbrev hV:Stmt:=top 8
noncomputable abbrev mM:Stmt:=top 9
noncomputable abbrev zV:Stmt:=top 10
noncomputable abbrev nP:Stmt:=top 12
noncomputable abbrev oO:Stmt:=top 13
noncomputable abbrev fu:Stmt:=top 14
noncomputable abbrev gw:Stmt:=top 15
noncomputable abbrev kK:Stmt:=top 16
noncomputable abbrev mK:Stmt:=top 19
noncomputable abbrev iF:Stmt:=top 20
noncomputable abbrev hU:Stmt:=top 21
noncomputable abbrev vR:Stmt:=top 22
noncomputable abbrev ju:Stmt:=top 36
noncomputable abbrev zY:Stmt:=top 42
noncomputable abbrev oM:Stmt:=top 43
noncomputable abbrev kH:Stmt:=top 44
noncomputable abbrev jf:Stmt:=top 45
noncomputable abbrev kN:Stmt:=top 46
noncomputable abbrev kM:Stmt:=top 47
noncomputable abbrev hI:Stmt:=top 48
noncomputable abbrev mL:Stmt:=top 52
noncomputable abbrev jd:Stmt:=top 53
noncomputable abbrev oN:Stmt:=top 54
noncomputable abbrev oX:Stmt:=top 55
noncomputable abbrev je:Stmt:=top 57
noncomputable abbrev rW:Stmt:=top 58
noncomputable abbrev jK:Stmt:=top 59
noncomputable abbrev kO:Stmt:=top 60
noncomputable abbrev hJ:Stmt:=top 61
noncomputable abbrev mH:Stmt:=top 62
noncomputable abbrev mE:Stmt:=top 63
noncomputable abbrev jc:Stmt:=top 64
noncomputable abbrev jJ:Stmt:=top 65
noncomputable abbrev iG:Stmt:=top 66
noncomputable abbrev Dr:Stmt:=top 68
noncomputable abbrev vV:Stmt:=top 68
noncomputable abbrev FI:Stmt:=top 69
noncomputable abbrev PV:Stmt:=top 69
noncomputable abbrev zW:Stmt:=top 70
noncomputable abbrev lE:Stmt:=top 70
noncomputable abbrev zX:Stmt:=top 71
noncomputable abbrev BQ:Stmt:=top 71
noncomputable abbrev oV:Stmt:=top 72
noncomputable abbrev FJ:Stmt:=top 73
noncomputable abbrev FL:Stmt:=top 73
noncomputable abbrev Dq:Stmt:=top 74
noncomputable abbrev FK:Stmt:=top 74
noncomputable abbrev oP:Stmt:=top 75
noncomputable abbrev kJ:Stmt:=top 76
noncomputable abbrev oR:Stmt:=top 77
noncomputable abbrev mI:Stmt:=top 78
noncomputable abbrev fA:Stmt:=top 79
noncomputable abbrev vS:Stmt:=top 80
noncomputable abbrev kI:Stmt:=top 81
noncomputable abbrev oS:Stmt:=top 82
noncomputable abbrev oU:Stmt:=top 83
noncomputable abbrev s_l_holds : Stmt := top 84
noncomputable abbrev jL:Stmt:=top 85
noncomputable abbrev vT:Stmt:=top 86
noncomputable abbrev oT:Stmt:=top 87
noncomputable abbrev oQ:Stmt:=top 88
noncomputable abbrev mJ:Stmt:=top 89
noncomputable abbrev aV:Stmt:=top 90
noncomputable abbrev gv:Stmt:=top 91
noncomputable abbrev vU:Stmt:=top 92
noncomputable abbrev rV:Stmt:=top 93
noncomputable abbrev sLaw:Stmt:=top 93
variable{P:Program}{w:World}{K:W.Frag}{mg:Str->Option Value}{base:Heap}
theorem rP:aB ["self","name"] ["self","name"] (au gM):=L2.fsc rfl (by decide+kernel)
theorem Ak(T:MkF K mg x C "Letter.__init__" gM)(n:fX K C "name"):tO P w K mg base x C 1 ["self","name"] (lB C og):=by
 refine Hk T rP ?_ ?_
 .walk_at "i1"
 walk_at "i2";obtain⟨a,dx,y,rfl,e,q⟩:=h;have nd:=rP.nd;refine⟨_,(ao (wm (pv 0) (pv 1) rfl)),?_⟩;exact⟨_,rfl,_,rfl,a,C,dx,[],rfl,e,T.cl,n,(by show 0<1000;decide),q⟩
theorem BO:aB ["self","part"] ["self","part"] (au jM):=L2.fsc rfl (by decide+kernel)
theorem OE(T:MkF K mg x C "Not.__init__" jM)(n:fX K C "part"):tO P w K mg base x C 1 ["self","part"] (lB C sX):=by
 refine Hk T BO ?_ ?_
 .walk_at "i1"
 walk_at "i2";obtain⟨a,dx,y,rfl,e,q⟩:=h;have nd:=BO.nd;refine⟨_,(ao (wm (pv 0) (pv 1) rfl)),?_⟩;exact⟨_,rfl,_,rfl,a,C,dx,[],rfl,e,T.cl,n,(by show 0<1000;decide),q⟩
theorem xV:aB ["self","one","other"] ["self","one","other"] (au iW):=L2.fsc rfl (by decide+kernel)
theorem GX(T:MkF K mg x C "Fold.__init__" iW)(n:fX K C "one")(n':fX K C "other"):tO P w K mg base x C 1 ["self","one","other"] (vL C):=by
 refine Hk T xV ?_ ?_
 .walk_at "i1"
 walk_at "i2";obtain⟨a,dx,y,z,rfl,e,q⟩:=h;have nd:=xV.nd
 refine⟨_,(ah (wm (pv 0) (pv 1) rfl)
  (ao (wm (pv 0) (pv 2) rfl))),?_⟩
 refine⟨_,rfl,_,rfl,a,C,dx,[],rfl,e,T.cl,n,(by show 0<1000;decide),?_⟩;refine⟨_,rfl,_,rfl,a,C,dx,_,rfl,ae,T.cl,n',(by show 1<1000;decide),?_⟩;rw[Gj,qy];exact q
theorem PQ:aB ["self"] ["self"] (au cI):=L2.fsc rfl (by decide+kernel)
theorem Cd(T:bF K C "made_of" "Saying.made_of" cI)(ht:t.kids=[]):bC P w K mg base C "made_of" 1 ["self"] (vH c t):=by
 refine bM T PQ ?_ ?_
 .walk_at "i1"
 walk_at "i2";obtain⟨a,rfl,o,q⟩:=h;have nd:=PQ.nd;refine⟨_,(ao (av (cf af))),?_⟩;refine⟨(by show 0<=sizeLine;decide),λl hl=>q l [] hl ?_⟩;rw[ht];exact .nil
theorem BL:aB ["self"] ["self"] (au gH):=L2.fsc rfl (by decide+kernel)
theorem OD(T:bF K c.no "made_of" "Not.made_of" gH)(F:Fx K c):bC P w K mg base c.no "made_of" 1 ["self"] (vH c (.no t)):=by
 refine bM T BL ?_ ?_
 .walk_at "i1"
 walk_at "i2";obtain⟨a,rfl,o,q⟩:=h;have nd:=BL.nd;refine⟨_,(ao (av (cf (aa (mR (pv 0) rfl) af)))),?_⟩;cases o with
 | no e o =>
  refine⟨_,rfl,a,c.no,_,_,_,rfl,e,T.cl,F.nPart,Ec _,(by show 1<=sizeLine;decide),λl hl=>q l _ hl ?_⟩;exact .cons ⟨_,rfl,o⟩ .nil
theorem xO:aB ["self"] ["self"] (au fJ):=L2.fsc rfl (by decide+kernel)
theorem GV(T:bF K (c.fold u) "made_of" "Fold.made_of" fJ)(F:Fx K c):bC P w K mg base (c.fold u) "made_of" 1 ["self"] (vH c (.fold u t t')):=by
 refine bM T xO ?_ ?_
 .walk_at "i1"
 walk_at "i2";obtain⟨a,rfl,o,q⟩:=h;have nd:=xO.nd;refine⟨_,(ao (av (cf (aa (mR (pv 0) rfl) (aa (mR (pv 0) rfl) af))))),?_⟩;cases o with
 | fold e o o' =>
  refine⟨_,rfl,a,_,_,_,_,rfl,e,T.cl,F.nOne u,Hq _ _,_,rfl,a,_,_,_,_,rfl,e,T.cl,F.nOther u,Az _ _,(by show 2<=sizeLine;decide),λl hl=>q l _ hl ?_⟩;exact .cons ⟨_,rfl,o⟩ (.cons ⟨_,rfl,o'⟩ .nil)
theorem uL:aB ["self"] ["self"] (au cZ):=L2.fsc rfl (by decide+kernel)
theorem Dy(T:bF K C "making_word" "Never.making_word" cZ):bC P w K mg base C "making_word" 1 ["self"] (gZ c .never):=by
 refine bM T uL ?_ ?_
 .walk_at "i1"
 walk_at "i2";obtain⟨a,rfl,o,q⟩:=h;have nd:=uL.nd;refine⟨_,(ao (av aQ)),?_⟩;exact q
theorem rE:aB ["self"] ["self"] (au cU):=L2.fsc rfl (by decide+kernel)
theorem Ah(T:bF K C "making_word" "Always.making_word" cU):bC P w K mg base C "making_word" 1 ["self"] (gZ c .always):=by
 refine bM T rE ?_ ?_
 .walk_at "i1"
 walk_at "i2";obtain⟨a,rfl,o,q⟩:=h;have nd:=rE.nd;refine⟨_,(ao (av aQ)),?_⟩;exact q
theorem FF:aB ["self"] ["self"] (au bU):=L2.fsc rfl (by decide+kernel)
theorem Ro(T:bF K c.le "making_word" "Letter.making_word" bU)(F:Fx K c):bC P w K mg base c.le "making_word" 1 ["self"] (gZ c .lp):=by
 refine bM T FF ?_ ?_
 .walk_at "i1"
 walk_at "i2";obtain⟨a,rfl,o,q⟩:=h;have nd:=FF.nd;refine⟨_,(ao (av (mR (pv 0) rfl))),?_⟩;cases o with
 | lp e=>exact⟨_,rfl,a,_,_,_,_,rfl,e,T.cl,F.nName,lL _,q⟩
theorem FE:aB ["self"] ["self"] (au bU):=L2.fsc rfl (by decide+kernel)
theorem Rn(T:bF K c.le "making_word" "Letter.making_word" bU)(F:Fx K c):bC P w K mg base c.le "making_word" 1 ["self"] (gZ c .lq):=by
 refine bM T FE ?_ ?_
 .walk_at "i1"
 walk_at "i2";obtain⟨a,rfl,o,q⟩:=h;have nd:=FE.nd;refine⟨_,(ao (av (mR (pv 0) rfl))),?_⟩;cases o with
 | lq e=>exact⟨_,rfl,a,_,_,_,_,rfl,e,T.cl,F.nName,lL _,q⟩
theorem BJ:aB ["self"] ["self"] (au dW):=L2.fsc rfl (by decide+kernel)
theorem OC(T:bF K C "making_word" "Not.making_word" dW):bC P w K mg base C "making_word" 1 ["self"] (gZ c (.no t)):=by
 refine bM T BJ ?_ ?_
 .walk_at "i1"
 walk_at "i2";obtain⟨a,rfl,o,q⟩:=h;have nd:=BJ.nd;refine⟨_,(ao (av aQ)),?_⟩;exact q
theorem xJ:aB ["self"] ["self"] (au dM):=L2.fsc rfl (by decide+kernel)
theorem GK(T:bF K C "making_word" "More.making_word" dM):bC P w K mg base C "making_word" 1 ["self"] (gZ c (.fold .more t t')):=by
 refine bM T xJ ?_ ?_
 .walk_at "i1"
 walk_at "i2";obtain⟨a,rfl,o,q⟩:=h;have nd:=xJ.nd;refine⟨_,(ao (av aQ)),?_⟩;exact q
theorem xX:aB ["self","n","first","second"] ["self","n","first","second"] (au gK):=L2.fsc rfl (by decide+kernel)
theorem Ha(T:bF K C "folded" "More.folded" gK)(bR:mg "min"=none):bC P w K mg base C "folded" 1 ["self","n","first","second"] (iD .more):=by
 refine bM T xX ?_ ?_
 .walk_at "i1"
 walk_at "i2";obtain⟨a,n,i,j,rfl,q⟩:=h;have nd:=xX.nd;refine⟨_,(ao (av (aG (fo rfl) bR (aa (aM bW (pv 2) (pv 3)) (aa (pv 1) af))))),?_⟩;refine⟨_,rfl,_,rfl,_,_,rfl,rfl,_,rfl,_,_,rfl,?_⟩;rw[jS];exact q
theorem xK:aB ["self"] ["self"] (au dN):=L2.fsc rfl (by decide+kernel)
theorem GN(T:bF K C "making_word" "Less.making_word" dN):bC P w K mg base C "making_word" 1 ["self"] (gZ c (.fold .less t t')):=by
 refine bM T xK ?_ ?_
 .walk_at "i1"
 walk_at "i2";obtain⟨a,rfl,o,q⟩:=h;have nd:=xK.nd;refine⟨_,(ao (av aQ)),?_⟩;exact q
theorem xY:aB ["self","n","first","second"] ["self","n","first","second"] (au gN):=L2.fsc rfl (by decide+kernel)
theorem Hb(T:bF K C "folded" "Less.folded" gN)(cA:mg "max"=none):bC P w K mg base C "folded" 1 ["self","n","first","second"] (iD .less):=by
 refine bM T xY ?_ ?_
 .walk_at "i1"
 walk_at "i2";obtain⟨a,n,i,j,rfl,q⟩:=h;have nd:=xY.nd;refine⟨_,(ao (av (aG (iz rfl) cA (aa (aM cD (aM bW (pv 2) (pv 3)) (pv 1)) (fi af))))),?_⟩;refine⟨_,rfl,_,rfl,_,_,rfl,rfl,_,rfl,_,_,rfl,rfl,_,_,rfl,?_⟩;rw[mU];exact q
theorem pV:aB ["self"] ["self"] (au cL):=L2.fsc rfl (by decide+kernel)
theorem yn(T:bF K C "making_word" "Greater.making_word" cL):bC P w K mg base C "making_word" 1 ["self"] (gZ c (.fold .greater t t')):=by
 refine bM T pV ?_ ?_
 .walk_at "i1"
 walk_at "i2";obtain⟨a,rfl,o,q⟩:=h;have nd:=pV.nd;refine⟨_,(ao (av aQ)),?_⟩;exact q
theorem qd:aB ["self","n","first","second"] ["self","n","first","second"] (au eP):=L2.fsc rfl (by decide+kernel)
theorem yq(T:bF K C "folded" "Greater.folded" eP)(cA:mg "max"=none):bC P w K mg base C "folded" 1 ["self","n","first","second"] (iD .greater):=by
 refine bM T qd ?_ ?_
 .walk_at "i1"
 walk_at "i2";obtain⟨a,n,i,j,rfl,q⟩:=h;have nd:=qd.nd;refine⟨_,(ao (av (aG (iz rfl) cA (aa (pv 2) (aa (pv 3) af))))),?_⟩;refine⟨_,rfl,_,rfl,_,_,rfl,?_⟩;rw[mU];exact q
theorem rD:aB ["self"] ["self"] (au cT):=L2.fsc rfl (by decide+kernel)
theorem Ag(T:bF K C "making_word" "Lesser.making_word" cT):bC P w K mg base C "making_word" 1 ["self"] (gZ c (.fold .lesser t t')):=by
 refine bM T rD ?_ ?_
 .walk_at "i1"
 walk_at "i2";obtain⟨a,rfl,o,q⟩:=h;have nd:=rD.nd;refine⟨_,(ao (av aQ)),?_⟩;exact q
theorem rQ:aB ["self","n","first","second"] ["self","n","first","second"] (au eY):=L2.fsc rfl (by decide+kernel)
theorem Al(T:bF K C "folded" "Lesser.folded" eY)(bR:mg "min"=none):bC P w K mg base C "folded" 1 ["self","n","first","second"] (iD .lesser):=by
 refine bM T rQ ?_ ?_
 .walk_at "i1"
 walk_at "i2";obtain⟨a,n,i,j,rfl,q⟩:=h;have nd:=rQ.nd;refine⟨_,(ao (av (aG (fo rfl) bR (aa (pv 2) (aa (pv 3) af))))),?_⟩;refine⟨_,rfl,_,rfl,_,_,rfl,?_⟩;rw[jS];exact q
theorem uM:aB ["self"] ["self"] (au de):=L2.fsc rfl (by decide+kernel)
theorem Dz(T:bF K C "making_word" "Leads.making_word" de):bC P w K mg base C "making_word" 1 ["self"] (gZ c (.fold .leads t t')):=by
 refine bM T uM ?_ ?_
 .walk_at "i1"
 walk_at "i2";obtain⟨a,rfl,o,q⟩:=h;have nd:=uM.nd;refine⟨_,(ao (av aQ)),?_⟩;exact q
theorem uR:aB ["self","n","first","second"] ["self","n","first","second"] (au fH):=L2.fsc rfl (by decide+kernel)
theorem DK(T:bF K C "folded" "Leads.folded" fH)(bR:mg "min"=none):bC P w K mg base C "folded" 1 ["self","n","first","second"] (iD .leads):=by
 refine bM T uR ?_ ?_
 .walk_at "i1"
 walk_at "i2";obtain⟨a,n,i,j,rfl,q⟩:=h;have nd:=uR.nd;refine⟨_,(ao (av (aG (fo rfl) bR (aa (aM bW (aM cD (pv 1) (pv 2)) (pv 3)) (aa (pv 1) af))))),?_⟩;refine⟨_,rfl,_,rfl,_,_,rfl,rfl,_,rfl,_,_,rfl,rfl,_,rfl,_,_,rfl,?_⟩;rw[jS];exact q
theorem rC:aB ["self","worths","n","x","y"] ["self","worths","n","x","y"] (au gJ):=L2.fsc rfl (by decide+kernel)
theorem Af(T:bF K C "weigh" "Never.weigh" gJ):bC P w K mg base C "weigh" 2 ["self","worths","n","x","y"] (jG c .never):=by
 refine bM T rC ?_ ?_
 .walk_at "i1"
 walk_at "i2";obtain⟨a,l,n,i,j,R,R',rfl,o,e,hz,hs,q⟩:=h;have nd:=rC.nd;refine⟨_,(ao (bD (cO b9 i8 i9 bf (pv 1) (fi af)))),?_⟩;have es:R'=(iB n i j).leaf .never::R:=jm hs rfl;subst es;refine⟨_,rfl,.inl ⟨rfl,_,K7.of e⟩,l,_,_,rfl,rfl,e,nF hz,?_⟩;exact q _ (jI _ _) (by rw[ae];exact x9 _ (x9 _ (fL _ _)))
theorem pU:aB ["self","worths","n","x","y"] ["self","worths","n","x","y"] (au fK):=L2.fsc rfl (by decide+kernel)
theorem ym(T:bF K C "weigh" "Always.weigh" fK):bC P w K mg base C "weigh" 2 ["self","worths","n","x","y"] (jG c .always):=by
 refine bM T pU ?_ ?_
 .walk_at "i1"
 walk_at "i2";obtain⟨a,l,n,i,j,R,R',rfl,o,e,hz,hs,q⟩:=h;have nd:=pU.nd;refine⟨_,(ao (bD (cO b9 i8 i9 bf (pv 1) (aa (pv 2) af)))),?_⟩;have es:R'=(iB n i j).leaf .always::R:=jm hs rfl;subst es;refine⟨_,rfl,.inl ⟨rfl,_,K7.of e⟩,_,rfl,l,_,_,rfl,rfl,e,nF hz,?_⟩;exact q _ (jI _ _) (by rw[ae];exact x9 _ (x9 _ (fL _ _)))
theorem BI:aB ["self","worths","n","x","y"] ["self","worths","n","x","y"] (au dA):=L2.fsc rfl (by decide+kernel)
theorem OB(T:bF K c.le "weigh" "Letter.weigh" dA)(F:Fx K c):bC P w K mg base c.le "weigh" 2 ["self","worths","n","x","y"] (jG c .lp):=by
 refine bM T BI ?_ ?_
 .walk_at "i1"
 walk_at "i2";obtain⟨a,l,n,i,j,R,R',rfl,o,e,hz,hs,q⟩:=h;have nd:=BI.nd;refine⟨_,(ao (bD (cO b9 i8 i9 bf (pv 1) (aa (kP (aF bS (mR (pv 0) rfl) aQ (aH _)) (pv 3) (pv 4)) af)))),?_⟩;have es:R'=(iB n i j).leaf .lp::R:=jm hs rfl;subst es;cases o with
 | lp eo =>
  refine⟨_,rfl,.inl ⟨rfl,_,K7.of e⟩,_,rfl,a,_,_,_,_,rfl,eo,T.cl,F.nName,lL _,rfl,_,rfl,?_⟩;rw[U1];refine dH ⟨_,rfl,l,_,_,rfl,rfl,e,nF hz,?_⟩;exact q _ (jI _ _) (by rw[ae];exact x9 _ (x9 _ (fL _ _)))
theorem BH:aB ["self","worths","n","x","y"] ["self","worths","n","x","y"] (au dA):=L2.fsc rfl (by decide+kernel)
theorem OA(T:bF K c.le "weigh" "Letter.weigh" dA)(F:Fx K c):bC P w K mg base c.le "weigh" 2 ["self","worths","n","x","y"] (jG c .lq):=by
 refine bM T BH ?_ ?_
 .walk_at "i1"
 walk_at "i2";obtain⟨a,l,n,i,j,R,R',rfl,o,e,hz,hs,q⟩:=h;have nd:=BH.nd;refine⟨_,(ao (bD (cO b9 i8 i9 bf (pv 1) (aa (kP (aF bS (mR (pv 0) rfl) aQ (aH _)) (pv 3) (pv 4)) af)))),?_⟩;have es:R'=(iB n i j).leaf .lq::R:=jm hs rfl;subst es;cases o with
 | lq eo =>
  refine⟨_,rfl,.inl ⟨rfl,_,K7.of e⟩,_,rfl,a,_,_,_,_,rfl,eo,T.cl,F.nName,lL _,rfl,_,rfl,?_⟩;rw[U0];refine bL ⟨_,rfl,l,_,_,rfl,rfl,e,nF hz,?_⟩;exact q _ (jI _ _) (by rw[ae];exact x9 _ (x9 _ (fL _ _)))
theorem xI:aB ["self","worths","n","x","y"] ["self","worths","n","x","y"] (au iV):=L2.fsc rfl (by decide+kernel)
theorem GJ(T:bF K C "weigh" "Not.weigh" iV):bC P w K mg base C "weigh" 2 ["self","worths","n","x","y"] (jG c (.no t)):=by
 refine bM T xI ?_ ?_
 .walk_at "i1"
 walk_at "i2";obtain⟨a,l,n,i,j,R,R',rfl,o,e,hz,hs,q⟩:=h;have nd:=xI.nd;refine⟨_,(ao (bD (cO b9 i8 i9 bf (pv 1) (aa (aM cD (pv 2) (jg b9 B5 B6 kQ (pv 1))) af)))),?_⟩;obtain⟨b,R1,rfl,rfl⟩:=Bz hs;have RN:R1.length<1000:=hz;have el:H l=some (.lst (R1.reverse.map V.int++[V.int b])):=by rw[e];exact x9 _ (x9 _ (fL b R1).symm)
 refine⟨_,rfl,.inl ⟨rfl,_,K7.of el⟩,_,rfl,_,rfl,.inl ⟨rfl,_,K7.of el⟩,l,_,_,rfl,rfl,el,jn _ _,?_⟩;rw[F2];refine⟨_,_,rfl,rfl,l,_,_,rfl,rfl,ae,by rw[i7,C7];exact Nat.lt_trans RN (by decide),?_⟩;rw[qy];exact q _ (jI _ _) (by rw[ae];exact x9 _ (x9 _ (fL _ _)))
theorem uK:aB ["self","worths","n","x","y","second","first"] ["self","worths","n","x","y"] (au ic):=L2.fsc rfl (by decide+kernel)
theorem Dx(T:bF K (c.fold u) "weigh" "Fold.weigh" ic)(G:bC P w K mg base (c.fold u) "folded" 1 ["self","n","first","second"] (iD u)):bC P w K mg base (c.fold u) "weigh" 2 ["self","worths","n","x","y"] (jG c (.fold u t t')):=by
 refine bM T uK ?_ ?_
 .walk_at "i1"
 walk_at "i2";obtain⟨a,l,n,i,j,R,R',rfl,o,e,hz,hs,q⟩:=h;have nd:=uK.nd
 refine⟨_,(ah (aI (i:=5) (jg b9 B5 B6 kQ (pv 1)))
  (ah (aI (i:=6) (jg b9 B5 B6 kQ (pv 1)))
  (ao (bD (cO b9 i8 i9 bf (pv 1) (aa (sA (k:=1) (pv 0) (hr.mono (by decide)) (aa (pv 2) (aa (pv 6) (aa (pv 5) af)))) af)))))),?_⟩
 obtain⟨b2,b1,R1,rfl,rfl⟩:=uH hs;have RN:R1.length+1<1000:=hz;have el:H l=some (.lst (R1.reverse.map V.int++[V.int b1]++[V.int b2])):=by rw[e,fL,fL]
 obtain⟨dx,fs,ea,nf⟩:=o.cls;have nal:a≠l:=sG ea e (by intro z;cases z)
 refine⟨_,rfl,.inl ⟨rfl,_,K7.of el⟩,l,_,_,rfl,rfl,el,jn _ _,?_⟩;rw[F2];refine⟨_,rfl,.inl ⟨rfl,_,K7.of ae⟩,l,_,_,rfl,rfl,ae,jn _ _,?_⟩;rw[F2,qy];refine⟨_,rfl,.inl ⟨rfl,_,K7.of ae⟩,_,rfl,a,_,_,_,_,_,rfl,by rw[az nal];exact ea,nf _ (by decide+kernel),G,_,rfl,_,rfl,_,rfl,a,n,b1,b2,rfl,?_⟩;refine⟨l,_,_,rfl,rfl,ae,by rw[i7,C7];exact Nat.lt_trans (Nat.lt_of_succ_lt RN) (by decide),?_⟩;rw[qy];exact q _ (jI _ _) (by rw[ae];exact x9 _ (x9 _ (fL _ _)))
noncomputable abbrev qo:List Str:=["one","other","greater","lesser","rest"]
theorem jt:aB qo ["one","other"] (au hV):=L2.fsc rfl (by decide+kernel)
noncomputable abbrev As:List Str:=["top","bottom","factor"]
theorem qc:aB As ["top","bottom"] (au mM):=L2.fsc rfl (by decide+kernel)
noncomputable abbrev Ru:List Str:=["one","other"]
theorem BM:aB Ru ["one","other"] (au zV):=L2.fsc rfl (by decide+kernel)
noncomputable abbrev Hh:List Str:=[]
theorem Dn:aB Hh [] (au nP):=L2.fsc rfl (by decide+kernel)
noncomputable abbrev DR:List Str:=["rule","point"]
theorem rF:aB DR ["rule","point"] (au oO):=L2.fsc rfl (by decide+kernel)
noncomputable abbrev nV:List Str:=["rule","hull"]
theorem iE:aB nV ["rule","hull"] (au fu):=L2.fsc rfl (by decide+kernel)
noncomputable abbrev pw:List Str:=["one","other","at_one","at_other","numbers","factor"]
theorem iU:aB pw ["one","other","at_one","at_other"] (au gw):=L2.fsc rfl (by decide+kernel)
noncomputable abbrev yD:List Str:=["hull","rule","told","low","high","k","corner","following","between"]
theorem FH:aB yD ["hull","rule"] (au kK):=L2.fsc rfl (by decide+kernel)
noncomputable abbrev Rv:List Str:=["one","other"]
theorem BP:aB Rv ["one","other"] (au zY):=L2.fsc rfl (by decide+kernel)
noncomputable abbrev DP:List Str:=["one","other"]
theorem rB:aB DP ["one","other"] (au oM):=L2.fsc rfl (by decide+kernel)
noncomputable abbrev yA:List Str:=["word"]
theorem nJ:aB yA ["word"] (au kH):=L2.fsc rfl (by decide+kernel)
noncomputable abbrev ue:List Str:=["word","one","other"]
theorem kG:aB ue ["word","one","other"] (au jf):=L2.fsc rfl (by decide+kernel)
noncomputable abbrev yF:List Str:=["row","rules","rule"]
theorem nM:aB yF ["row","rules"] (au kN):=L2.fsc rfl (by decide+kernel)
noncomputable abbrev yE:List Str:=["hull","choice","told"]
theorem nL:aB yE ["hull","choice"] (au kM):=L2.fsc rfl (by decide+kernel)
noncomputable abbrev ql:List Str:=["rows","hull","rules","k","row","choice","rule"]
theorem jq:aB ql ["rows","hull"] (au hI):=L2.fsc rfl (by decide+kernel)
noncomputable abbrev Ar:List Str:=["tree","found","trees","hulls","branch","hull","parts"]
theorem pZ:aB Ar ["tree"] (au mL):=L2.fsc rfl (by decide+kernel)
noncomputable abbrev uc:List Str:=["folds"]
theorem kE:aB uc ["folds"] (au jd):=L2.fsc rfl (by decide+kernel)
noncomputable abbrev DQ:List Str:=["hull","rows","told","test","parts"]
theorem mr:aB DQ ["hull","rows"] (au oN):=L2.fsc rfl (by decide+kernel)
noncomputable abbrev DY:List Str:=["saying"]
theorem rR:aB DY ["saying"] (au oX):=L2.fsc rfl (by decide+kernel)
noncomputable abbrev ud:List Str:=["saying","tree","least","point","hull","corner","found"]
theorem kF:aB ud ["saying"] (au je):=L2.fsc rfl (by decide+kernel)
noncomputable abbrev Hi:List Str:=["saying","told"]
theorem uS:aB Hi ["saying"] (au rW):=L2.fsc rfl (by decide+kernel)
noncomputable abbrev wF:List Str:=["one","other","a","b","c"]
theorem lX:aB wF ["one","other"] (au jK):=L2.fsc rfl (by decide+kernel)
noncomputable abbrev yG:List Str:=["hull","rule","bounds"]
theorem nO:aB yG ["hull","rule"] (au kO):=L2.fsc rfl (by decide+kernel)
noncomputable abbrev qm:List Str:=["saying","rows","regions","hull","rule"]
theorem jr:aB qm ["saying"] (au hJ):=L2.fsc rfl (by decide+kernel)
noncomputable abbrev Ao:List Str:=["top","bottom"]
theorem pW:aB Ao ["top","bottom"] (au mH):=L2.fsc rfl (by decide+kernel)
noncomputable abbrev An:List Str:=["bounds","n","x","lowest","highest","a","b","c","least","rest"]
theorem pS:aB An ["bounds","n","x"] (au mE):=L2.fsc rfl (by decide+kernel)
noncomputable abbrev tZ:List Str:=["hull","bounds","n","first","last","x","y"]
theorem kC:aB tZ ["hull","bounds","n"] (au jc):=L2.fsc rfl (by decide+kernel)
noncomputable abbrev wD:List Str:=["regions","n","hull","bounds","point"]
theorem lW:aB wD ["regions","n"] (au jJ):=L2.fsc rfl (by decide+kernel)
noncomputable abbrev sH:List Str:=["saying","regions","n","point"]
theorem kg:aB sH ["saying"] (au iG):=L2.fsc rfl (by decide+kernel)
noncomputable abbrev DX:List Str:=["_law_tree"]
theorem my:aB DX ["_law_tree"] (au oV):=L2.fsc rfl (by decide+kernel)
noncomputable abbrev yC:List Str:=["_law_tree","_law_rows","_law_places","_law_row"]
theorem jH:aB yC ["_law_tree","_law_rows"] (au kJ):=L2.fsc rfl (by decide+kernel)
noncomputable abbrev DT:List Str:=["_law_rule_here","_law_corner"]
theorem rK:aB DT ["_law_rule_here","_law_corner"] (au oR):=L2.fsc rfl (by decide+kernel)
noncomputable abbrev Ap:List Str:=["_law_point","_law_by","_law_number"]
theorem pX:aB Ap ["_law_point"] (au mI):=L2.fsc rfl (by decide+kernel)
noncomputable abbrev nW:List Str:=["_law_hull","_law_rule_here","_law_some","_law_low","_law_high","_law_k","_law_corner","_law_here","_law_there","_law_other","_law_fresh"]
theorem xS:aB nW ["_law_hull","_law_rule_here"] (au fA):=L2.fsc rfl (by decide+kernel)
noncomputable abbrev OG:List Str:=["_law_one","_law_other","_law_by"]
theorem xQ:aB OG ["_law_one","_law_other","_law_by"] (au vS):=L2.fsc rfl (by decide+kernel)
noncomputable abbrev yB:List Str:=["_law_row","_law_rules_here","_law_hull","_law_known","_law_one","_law_other","_law_test","_law_ways","_law_some"]
theorem uP:aB yB ["_law_row","_law_rules_here","_law_hull"] (au kI):=L2.fsc rfl (by decide+kernel)
noncomputable abbrev DU:List Str:=["_law_rows","_law_hull","_law_rules_here","_law_row","_law_rule_here","_law_test"]
theorem rL:aB DU ["_law_rows","_law_hull"] (au oS):=L2.fsc rfl (by decide+kernel)
noncomputable abbrev DW:List Str:=["_law_tree","_law_hull","_law_both","_law_low","_law_high"]
theorem mw:aB DW ["_law_tree","_law_hull"] (au oU):=L2.fsc rfl (by decide+kernel)
noncomputable abbrev n_l_holds : List Str := ["_law_tree", "_law_rows", "_law_top", "_law_bottom", "_law_hulls_here", "_law_hull", "_law_rules_here", "_law_some"]
theorem sc_l_holds : aB n_l_holds ["_law_tree", "_law_rows", "_law_top", "_law_bottom"] (au s_l_holds) := L2.fsc rfl (by decide+kernel)
noncomputable abbrev wG:List Str:=["_law_found"]
theorem lY:aB wG ["_law_found"] (au jL):=L2.fsc rfl (by decide+kernel)
noncomputable abbrev OH:List Str:=["_law_cells","_law_room","_law_most","_law_tree"]
theorem xR:aB OH ["_law_cells","_law_room","_law_most"] (au vT):=L2.fsc rfl (by decide+kernel)
noncomputable abbrev DV:List Str:=["_law_rows","_law_hull","_law_rules_here","_law_test","_law_best","_law_corner","_law_told","_law_some"]
theorem mv:aB DV ["_law_rows","_law_hull"] (au oT):=L2.fsc rfl (by decide+kernel)
noncomputable abbrev DS:List Str:=["_law_letter","_law_many","_law_found","_law_k"]
theorem rJ:aB DS ["_law_letter","_law_many"] (au oQ):=L2.fsc rfl (by decide+kernel)
noncomputable abbrev Aq:List Str:=["_law_letter","_law_many","_law_found","_law_k"]
theorem pY:aB Aq ["_law_letter","_law_many"] (au mJ):=L2.fsc rfl (by decide+kernel)
noncomputable abbrev fj:List Str:=["_law_cell","_law_letter","_law_k","_law_least_here"]
theorem nK:aB fj ["_law_cell"] (au aV):=L2.fsc rfl (by decide+kernel)
noncomputable abbrev pq:List Str:=["_law_cells","_law_cell","_law_tree","_law_part","_law_k"]
theorem rM:aB pq ["_law_cells"] (au gv):=L2.fsc rfl (by decide+kernel)
noncomputable abbrev OI:List Str:=["_law_tree","_law_n","_law_x"]
theorem xU:aB OI ["_law_tree","_law_n"] (au vU):=L2.fsc rfl (by decide+kernel)
noncomputable def K9(p:T3):PyData:=.tuple [.int p.u,.int p.v,.int p.w]
section
variable{K:W.Frag}{H H':Hp}{a:Addr}{v:V}{p:T3}
theorem cy(g:K6 K H a [.int p.u,.int p.v,.int p.w]):Dat K H (K9 p) (.ref a):=⟨a,_,rfl,g,_,_,rfl,rfl,_,_,rfl,rfl,_,_,rfl,rfl,rfl⟩
theorem cS(g:Dat K H (K9 p) v):∃a,v=.ref a/\K6 K H a [.int p.u,.int p.v,.int p.w]:=by
 obtain⟨a,xs,rfl,g,x,r,rfl,hx,y,t,rfl,hy,z,u,rfl,hz,hu⟩:=g;cases(show x=V.int p.u from hx)
 cases(show y=V.int p.v from hy)
 cases(show z=V.int p.w from hz)
 cases(show u=[] from hu)
 exact⟨a,rfl,g⟩
theorem lV{xs:List V}{h:List T3}(g:DatAll K H (h.map K9) xs)(e:h[i]?=some p):∃x,xs[i]?=some x/\Dat K H (K9 p) x:=g.get (by rw[w6,e];rfl)
theorem ky{xs:List V}{h:List T3}(g:DatAll K H (h.map K9) xs){x:V}(e:xs[i]?=some x):∃p,h[i]?=some p/\Dat K H (K9 p) x:=by
 obtain⟨d,e1,e2⟩:=g.get' e;rw[w6]at e1;cases z:h[i]? with
 | none=>rw[z]at e1;cases e1
 | some s=>rw[z]at e1;cases e1;exact⟨s,rfl,e2⟩
theorem eT{xs:List V}{h:List T3}(g:DatAll K H (h.map K9) xs):xs.length=h.length:=by rw[g.len,i7]
end
def Bg(x:Int):Prop:=x.natAbs<2^8000
theorem eI{a b:Int}(ha:Bg a)(hb:Bg b):IntMulOk a b:=IntMulOk.of_le (m:=8000) (n:=8000) (CP ha) (CP hb) (by decide)
theorem dI{x:Int}(h:x.natAbs<2^n)(hn:n<=8000):Bg x:=i5 h (F1 (by decide) hn)
theorem wR{t x:Int}(h0:x≠0)(h:Bg x):QB t x:=⟨h0,i5 ((Nat.log2_lt (by omega)).mpr h) (by decide)⟩
inductive nI(vs:List V)(H:Hp)(Q:VK)(E:XK):Prop
 | mk (a b:Int):vs=[.int a,.int b]->Q (.int (Lo.gc a b)) H->nI vs H Q E
inductive QV(vs:List V)(H:Hp)(Q:VK)(E:XK):Prop
 | mk (a b:Int):vs=[.int a,.int b]->0<=a->0<=b->Q (.int (Lo.gc a b)) H->QV vs H Q E
inductive vE(K:W.Frag)(vs:List V)(H:Hp)(Q:VK)(E:XK):Prop
 | mk (x y r p):vs=[x,y]->Dat K H (K9 r) x->Dat K H (K9 p) y->Hu.R3 3000 r->Hu.R3 3000 p->Q (.int (Hu.tl r p)) H->vE K vs H Q E
inductive BA(K:W.Frag)(vs:List V)(H:Hp)(Q:VK)(E:XK):Prop
 | mk (x:V) (l:Addr) (us:List V) (r:T3) (h:List T3):vs=[x,.ref l]->Dat K H (K9 r) x->K7 K H l us->DatAll K H (h.map K9) us->Hu.R3 3000 r->(∀p∈h,Hu.R3 3000 p)->h.length<=900->((∀H',aJ H H'->K7 K H' l us))->(∀(d:Addr)(H':Hp),aJ H H'->H d=none->H' d=some (.lst ((h.map (Hu.tl r)).map V.int))->Q (.ref d) H')->BA K vs H Q E
inductive QZ(K:W.Frag)(vs:List V)(H:Hp)(Q:VK)(E:XK):Prop
 | mk (x y p q) (s t:Int):vs=[x,y,.int s,.int t]->Dat K H (K9 p) x->Dat K H (K9 q) y->Hu.P3 600 p->Hu.P3 600 q->s*t<0->s.natAbs<2^2000->t.natAbs<2^2000->(∀v H',aJ H H'->Dat K H' (K9 (Hu.mid p q s t)) v->Q v H')->QZ K vs H Q E
theorem DJ(T:aC K mg "common_factor" hV)(iP:mg "abs"=none):Def P w K mg base 1 "common_factor" ["one","other"] nI:=by
 refine aP T jt ?_ ?_
 .walk_at "i1"
 walk_at "i2";obtain⟨a,b,rfl,q⟩:=h;have nd:=jt.nd
 refine⟨_,(ah (aI (i:=2) (aG iN iP (aa (pv 0) af)))
  (ah (aI (i:=3) (aG iN iP (aa (pv 1) af)))
  (ah (jy x5 (aF ma (pv 3) aq (aH _)) (ah (aI (i:=4) (aM iX (pv 2) (pv 3)))
  (ah (aI (i:=2) (pv 3))
  (ao (aI (i:=3) (pv 4))))))
  (ao (av (pv 2)))))),?_⟩
 refine⟨_,rfl,_,rfl,_,rfl,_,rfl,?_⟩;rw[dS,dS];refine⟨λm σ H'=>H'=H/\∃(g l:Int)(o:Option V),σ=[some (.int a),some (.int b),some (.int g),some (.int l),o]/\0<=g/\0<=l/\l.toNat=m/\Lo.gc g l=Lo.gc a b,⟨_,rfl,_,_,_,rfl,by omega,by omega,rfl,Lo.El a b⟩,?_⟩;rintro m σ H' ⟨rfl,g,l,o,rfl,hg,hl,rfl,e⟩
 refine⟨_,rfl,rfl,_,rfl,?_⟩;refine cJ (λc=>?_) (λc=>?_)
 .have c':l≠0:=λz=>by
   rw[z,e9 (rfl:V.int 0=V.int 0)]at c;cases c
  have c2:0<l:=by omega
  refine⟨λσ' La=>La=H'/\σ'=[some (.int a),some (.int b),some (.int l),some (.int (g.fmod l)),some (.int (g.fmod l))],?_,?_⟩
  .rintro σ' La ⟨rfl,rfl⟩
   have z0:=G9 g c2;have z1:=Jl g c2;exact⟨_,(show(g.fmod l).toNat<l.toNat by omega),rfl,l,g.fmod l,_,rfl,by omega,z0,rfl,by rw[Lo.Cy];exact e⟩
  .exact⟨_,rfl,_,rfl,_,_,rfl,rfl,c',_,rfl,_,rfl,rfl,rfl⟩
 .have l0:l=0:=by
   by_cases z:l=0
   .exact z
   .exfalso;refine c ?_;have n:¬(V.int l=V.int 0):=λq=>z (V.int.inj q);simp[n]
  subst l0;rw[Lo.Cw hg]at e;subst e;exact⟨_,rfl,q⟩
theorem Nj(h:Hu.R3 3000 r):Bg r.u/\Bg r.v/\Bg r.w:=⟨dI h.a (by decide),dI h.b (by decide),dI h.c (by decide)⟩
theorem ok_told(T:aC K mg "told_by" oO):Def P w K mg base 1 "told_by" ["rule","point"] (vE K):=by
 refine aP T rF ?_ ?_
 .walk_at "i1"
 walk_at "i2";obtain⟨x,y,r,p,rfl,dx,dy,br,bp,q⟩:=h;obtain⟨ar,rfl,sr⟩:=cS dx;obtain⟨ap,rfl,st⟩:=cS dy;obtain⟨r1,r2,r3⟩:=Nj br;obtain⟨p1,p2,p3⟩:=Nj bp;have nd:=rF.nd;refine⟨_,(ao (av (aM bW (aM bW (aM bo (aD aA (pv 0) aq) (aD aA (pv 1) aq)) (aM bo (aD aA (pv 0) aq) (aD aA (pv 1) aq))) (aM bo (aD aA (pv 0) aq) (aD aA (pv 1) aq))))),?_⟩;exact⟨_,rfl,_,_,_,_,rfl,rfl,sr,rfl,_,rfl,_,_,_,_,rfl,rfl,st,rfl,_,_,rfl,rfl,eI r1 p2,_,rfl,_,_,_,_,rfl,rfl,sr,rfl,_,rfl,_,_,_,_,rfl,rfl,st,rfl,_,_,rfl,rfl,eI r2 p3,_,_,rfl,rfl,_,rfl,_,_,_,_,rfl,rfl,sr,rfl,_,rfl,_,_,_,_,rfl,rfl,st,rfl,_,_,rfl,rfl,eI r3 p1,_,_,rfl,rfl,q⟩
theorem qQ{l:Addr}{us:List V}{r:T3}{h:List T3}{R:Hp->Prop}(hl:∀H',aJ H1 H'->K7 K H' l us)(da:DatAll K H1 (h.map K9) us)(few:h.length<=900)(hD:H1 D=none)
  (step:∀v p H' k,aJ H1 H'->p∈h->Dat K H' (K9 p) v->k (.int (Hu.tl r p)) H'->te (some v::bQ js σ) H' k)
  (fin:∀H',aJ H1 H'->H' D=some (.lst ((h.map (Hu.tl r)).map V.int))->R H') :
  ∃W:Nat->Nat->Hp->Prop,(∃m,W 0 m (upd H1 D (.lst [])))/\∀i m H2,W i m H2->((MR K l).stop i H2/\R H2)\/
   ((
    MR K l).go i H2/\∀v H3,(MR K l).yld i H2 v H3->ke (some v::bQ js σ) H3 λb H4=>if b=true then te (some v::bQ js σ) H4 λy H5 =>
    ∃ys,H5 D=some (.lst ys)/\ys.length<sizeLine/\∃m',m'<m/\W (i+1) m' (upd H5 D (.lst (ys++[y]))) else ∃m',m'<m/\W (i+1) m' H4):=by
 have lu:=eT da;refine⟨λi m H2=>m=us.length-i/\i<=us.length/\aJ H1 H2/\H2 D=some (.lst (((h.take i).map (Hu.tl r)).map V.int)),⟨_,rfl,x4 _,ak hD _,ae⟩,?_⟩;rintro i m H2 ⟨rfl,hi,sm,LJ⟩
 by_cases Le:i<us.length
 .refine .inr ⟨⟨us,_,hl _ sm,c6 Le⟩,λv H3 y=>?_⟩;obtain⟨rfl,y⟩:=y;obtain⟨p,hp,dp⟩:=ky (da.ts sm.ts) (y us (hl _ sm));refine gU ?_;refine step v p _ _ sm (p8 hp) dp ?_;refine⟨_,LJ,aZ (by simp;omega),us.length-(i+1),by omega,rfl,Le,aW sm hD _,?_⟩;rw[ae]
  have e:h.take (i+1)=h.take i++[p]:=by
   obtain⟨q1,q2⟩:=d6.mp hp;rw[List.take_succ_eq_append_getElem q1,q2]
  rw[e,l8,l8];rfl
 .have ei:i=us.length:=by omega
  subst ei;refine .inl ⟨⟨us,hl _ sm,c5 _⟩,fin _ sm ?_⟩;rw[LJ,lu,z9]
theorem ok_tic(T:aC K mg "told_in_corners" fu)(pL:Def P w K mg base 1 "told_by" ["rule","point"] (vE K)):Def P w K mg base 2 "told_in_corners" ["rule","hull"] (BA K):=by
 refine aP T iE ?_ ?_
 .walk_at "i1"
 walk_at "i2";obtain⟨x,l,us,r,h,rfl,dx,sl,da,br,bp,few,hl,k⟩:=h;have nd:=iE.nd;refine⟨_,(ao (av (dC (cq (pv 1)) (bY (j:=0) cE) (λ_ _ _ _=>cM) (λ_ _ _ _=>(aK pL (aa (pv 1) (aa (pv 0) af))))))),?_⟩;refine⟨_,rfl,l,rfl,⟨us,sl⟩,λD hD=>?_⟩;exact qQ (r:=r) hl da few hD (λv p H' kk sm hp dp q=>⟨_,rfl,_,rfl,x,v,r,p,rfl,dx.ts sm.ts,dp,br,bp p hp,q⟩) λH' sm e=>k D H' sm hD e
theorem lI{k:Nat}(e:X.K=K)(hc:X.calm=true)(h:Wh X es t)
  (hn:(assignEach es X.env).length=n:=by rfl)(RP:(assignEach es X.env).findIdx? (·.1)=none:=by rfl):PG X (.Tuple es k pos) (Sh K n t):=by
 subst e;exact iH hc h hn RP
theorem ON(h:o.length=2):∃a b,o=[a,b]:=by
 cases o with
 | nil=>cases h
 | cons a o =>
  cases o with
  | nil=>cases h
  | cons b o =>
   cases o with
   | nil=>exact⟨a,b,rfl⟩
   | cons c o=>cases h
theorem Im{l:Addr}{a b c g:Int}{R:Hp->Prop}(hl:H1 l=some (.lst [.int a,.int b,.int c]))(hD:H1 D=none)
  (step:∀(n:Int) H' k,k (.int (n.fdiv g)) H'->te (some (.int n)::bQ js σ) H' k)
  (fin:∀H',aJ H1 H'->H' D=some (.lst [.int (a.fdiv g),.int (b.fdiv g),.int (c.fdiv g)])->R H') :
  ∃W:Nat->Nat->Hp->Prop,(∃m,W 0 m (upd H1 D (.lst [])))/\∀i m H2,W i m H2->((MR K l).stop i H2/\R H2)\/
   ((
    MR K l).go i H2/\∀v H3,(MR K l).yld i H2 v H3->ke (some v::bQ js σ) H3 λb H4=>if b=true then te (some v::bQ js σ) H4 λy H5 =>
    ∃ys,H5 D=some (.lst ys)/\ys.length<sizeLine/\∃m',m'<m/\W (i+1) m' (upd H5 D (.lst (ys++[y]))) else ∃m',m'<m/\W (i+1) m' H4):=by
 refine⟨λi m H2=>m=3-i/\i<=3/\aJ H1 H2/\H2 D=some (.lst ([V.int (a.fdiv g),.int (b.fdiv g),.int (c.fdiv g)].take i)),⟨_,rfl,x4 _,ak hD _,ae⟩,?_⟩;rintro i m H2 ⟨rfl,hi,sm,LJ⟩
 have sl:K7 K H2 l [.int a,.int b,.int c]:=K7.of (sm _ _ hl)
 by_cases Le:i<3
 .refine .inr ⟨⟨_,_,sl,c6 (show i<3 from Le)⟩,λv H3 y=>?_⟩;obtain⟨rfl,y⟩:=y;have z:=y _ sl;refine gU ?_;rcases(show i=0\/i=1\/i=2 by omega) with rfl | rfl | rfl
  .cases z
   exact step _ _ _ ⟨_,LJ,aZ (by simp),3-1,by omega,rfl,by omega,aW sm hD _,ae⟩
  .cases z
   exact step _ _ _ ⟨_,LJ,aZ (by simp),3-2,by omega,rfl,by omega,aW sm hD _,ae⟩
  .cases z
   exact step _ _ _ ⟨_,LJ,aZ (by simp),3-3,by omega,rfl,by omega,aW sm hD _,ae⟩
 .have ei:i=3:=by omega
  subst ei;exact .inl ⟨⟨_,sl,c5 _⟩,fin _ sm LJ⟩
theorem uY{p q s t:Int}{a b:T3}(p0:0<=p)(q0:0<=q)(p1:p<2^600)(q1:q<2^600)(hs:s.natAbs<2^2000)(ht:t.natAbs<2^2000):0<=Hu.nm p q s t/\Bg (Hu.nm p q s t):=by
 obtain⟨a,b⟩:=Hu.nm_b p0 q0 p1 q1 hs ht;exact⟨a,dI b (by decide)⟩
theorem Qi{U V W:Int}(h0:0<U)(h:Bg U):Hu.gg U V W≠0/\Bg (Hu.gg U V W):=by
 have g0:=Hu.mW (V:=V) (W:=W) h0;have g1:=Hu.gg_le (V:=V) (W:=W) h0;exact⟨by omega,d8 (by omega) h⟩
theorem ok_cb(T:aC K mg "corner_between" gw)(gk:mg "zip"=none)(iP:mg "abs"=none)(bB:mg "tuple"=none)(eZ:Def P w K mg base 1 "common_factor" ["one","other"] nI):Def P w K mg base 2 "corner_between" ["one","other","at_one","at_other"] (QZ K):=by
 refine aP T iU ?_ ?_
 .walk_at "i1"
 walk_at "i2";obtain⟨x,y,p,q,s,t,rfl,dx,dy,hp,hq,st,hs,ht,k⟩:=h;obtain⟨ax,rfl,sx⟩:=cS dx;obtain⟨ay,rfl,sy⟩:=cS dy;have nd:=iU.nd;obtain⟨u0,ub⟩:=uY (a:=p) (b:=p) (y9 hp.n0) (y9 hq.n0) hp.n1 hq.n1 hs ht;obtain⟨v0,vb⟩:=uY (a:=p) (b:=p) hp.x0 hq.x0 hp.x1 hq.x1 hs ht;obtain⟨w0,wb⟩:=uY (a:=p) (b:=p) hp.y0 hq.y0 hp.y1 hq.y1 hs ht;have up:=Hu.iY hp hq st;obtain⟨g0,gb⟩:=Qi (V:=Hu.nm p.v q.v s t) (W:=Hu.nm p.w q.w s t) up ub;have bs:Bg (s.natAbs:Int):=dI (n:=2000) (by simpa using hs) (by decide);have bt:Bg (t.natAbs:Int):=dI (n:=2000) (by simpa using ht) (by decide);have pb:=Nj (hp.r.mono (by decide));have qb:=Nj (hq.r.mono (by decide))
 refine⟨_,(ah (yg (i:=4) (xs:=["first","second"]) (nU rfl gk (pv 0) (pv 1)) (bY (j:=3) (bY (j:=2) cE)) (λ_ _ _ _=>lI (K:=K) (n:=2) rfl rfl (aX (aO (i:=0) (hN:=(show(["first","second","at_other","at_one"]:List Str).Nodup by decide+kernel)) (hf:=(.inr rfl))) (aX (aO (i:=1) (hN:=(show(["first","second","at_other","at_one"]:List Str).Nodup by decide+kernel)) (hf:=(.inr rfl))) di))) (λ_ _ _ _=>(aM bW (aM bo (aG iN iP (aa (pv 2) af)) (pv 0)) (aM bo (aG iN iP (aa (pv 3) af)) (pv 1)))))
  (ah (aI (i:=5) (aK eZ (aa (aK eZ (aa (aD bH (pv 4) aq) (aa (aD bH (pv 4) aq) af))) (aa (aD bH (pv 4) aq) af))))
  (ao (av (cR cY bB (aa (dC (cq (pv 4)) (bY (j:=5) cE) (λ_ _ _ _=>cM) (λ_ _ _ _=>(aM iL (pv 0) (pv 1)))) af)))))),?_⟩
 refine⟨_,rfl,_,rfl,ax,ay,_,_,rfl,rfl,sx,sy,λD hD=>?_⟩;refine⟨λi m H2=>m=3-i/\i<=3/\aJ H H2/\H2 D=some (.lst ([V.int (Hu.nm p.u q.u s t),.int (Hu.nm p.v q.v s t),.int (Hu.nm p.w q.w s t)].take i)),⟨_,rfl,x4 _,ak hD _,ae⟩,?_⟩;rintro i m H2 ⟨rfl,hi,sm,LJ⟩
 have Mz:=sx.ts sm.ts;have My:=sy.ts sm.ts
 by_cases Le:i<3
 .refine .inr ⟨⟨_,_,Mz,My,Le,c5 _⟩,λo ho v H3 y=>?_⟩;obtain⟨T',vs,nT,rfl,rfl,x,y,rfl,hx,hy⟩:=y;have zx:=hx _ Mz;have zy:=hy _ My;obtain⟨o1,o2,rfl⟩:=ON ho;have uT:=ak nT (.tup [x,y]);refine⟨T',_,rfl,K6.of ae,rfl,_,_,rfl,_,_,rfl,rfl,[some x,some y],rfl,rfl,?_⟩;have Lw:=uT _ _ LJ;rcases(show i=0\/i=1\/i=2 by omega) with rfl | rfl | rfl
  .cases zx
   cases zy
   refine⟨_,rfl,_,rfl,_,rfl,_,_,rfl,rfl,(by rw[dS];exact eI bt pb.1),_,rfl,_,rfl,_,rfl,_,_,rfl,rfl,(by rw[dS];exact eI bs qb.1),_,_,rfl,rfl,?_⟩;refine⟨_,Lw,aZ (by simp),3-1,by omega,rfl,by omega,aW (sm.trans uT) hD _,?_⟩;rw[ae,dS,dS];rfl
  .cases zx
   cases zy
   refine⟨_,rfl,_,rfl,_,rfl,_,_,rfl,rfl,(by rw[dS];exact eI bt pb.2.1),_,rfl,_,rfl,_,rfl,_,_,rfl,rfl,(by rw[dS];exact eI bs qb.2.1),_,_,rfl,rfl,?_⟩;refine⟨_,Lw,aZ (by simp),3-2,by omega,rfl,by omega,aW (sm.trans uT) hD _,?_⟩;rw[ae,dS,dS];rfl
  .cases zx
   cases zy
   refine⟨_,rfl,_,rfl,_,rfl,_,_,rfl,rfl,(by rw[dS];exact eI bt pb.2.2),_,rfl,_,rfl,_,rfl,_,_,rfl,rfl,(by rw[dS];exact eI bs qb.2.2),_,_,rfl,rfl,?_⟩;refine⟨_,Lw,aZ (by simp),3-3,by omega,rfl,by omega,aW (sm.trans uT) hD _,?_⟩;rw[ae,dS,dS];rfl
 have ei:i=3:=by omega
 subst ei;refine .inl ⟨⟨_,_,Mz,My,c5 _,c5 _⟩,?_⟩;have hl3:H2 D=some (.lst [.int (Hu.nm p.u q.u s t),.int (Hu.nm p.v q.v s t),.int (Hu.nm p.w q.w s t)]):=LJ;have sD:K7 K H2 D [.int (Hu.nm p.u q.u s t),.int (Hu.nm p.v q.v s t),.int (Hu.nm p.w q.w s t)]:=K7.of hl3;refine⟨_,rfl,_,_,_,_,rfl,rfl,sD,rfl,_,rfl,_,_,_,_,rfl,rfl,sD,rfl,_,_,rfl,_,rfl,_,_,_,_,rfl,rfl,sD,rfl,_,_,rfl,?_⟩;refine⟨_,rfl,D,rfl,⟨_,sD⟩,λD2 hD2=>?_⟩;refine Im (K:=K) (g:=Hu.gg (Hu.nm p.u q.u s t) (Hu.nm p.v q.v s t) (Hu.nm p.w q.w s t)) hl3 hD2 ?step ?fin
 case step =>
  intro n H' kk q;exact⟨_,rfl,_,rfl,_,_,rfl,rfl,wR g0 gb,q⟩
 intro H' Q0 e2;refine⟨D2,_,rfl,.inl ⟨K7.of e2,λtt MW=>?_⟩⟩;have u3:=ak MW (.tup [.int ((Hu.nm p.u q.u s t).fdiv (Hu.gg (Hu.nm p.u q.u s t) (Hu.nm p.v q.v s t) (Hu.nm p.w q.w s t))),.int ((Hu.nm p.v q.v s t).fdiv (Hu.gg (Hu.nm p.u q.u s t) (Hu.nm p.v q.v s t) (Hu.nm p.w q.w s t))),.int ((Hu.nm p.w q.w s t).fdiv (Hu.gg (Hu.nm p.u q.u s t) (Hu.nm p.v q.v s t) (Hu.nm p.w q.w s t)))]);exact k _ _ (sm.trans (Q0.trans u3)) (cy (p:=Hu.mid p q s t) (K6.of ae))
noncomputable def lO(s:Stmt):List Stmt:=match s with
 | .For _ _ b _ _=>b
 | _=>[]
noncomputable def Dk(s:Stmt)(i:Nat):Stmt:=(bA s).getD i (.Pass ⟨0,0,0,0⟩)
def Wr(K:W.Frag)(H H':Hp)(r:T3)(h:List T3)(v:V):Prop:=∃t a b Na MS,v=.ref t/\a≠b/\H a=none/\H b=none/\K6 K H' t [.ref a,.ref b]/\H' a=some (.lst Na)/\H' b=some (.lst MS)/\DatAll K H' ((Hu.low r h).map K9) Na/\DatAll K H' ((Hu.high r h).map K9) MS
inductive BG(K:W.Frag)(CN:Addr)(vs:List V)(H:Hp)(Q:VK)(E:XK):Prop
 | mk (l x us h r):vs=[.ref l,x]->H l=some (.lst us)->DatAll K H (h.map K9) us->Dat K H (K9 r) x->Hu.xh 600 256 h->Hu.R3 1200 r->((Hu.gX r h->∀H',aJ H H'->E (.ref CN) none H'))->((¬Hu.gX r h->∀v H',aJ H H'->Wr K H H' r h v->Q v H'))->BG K CN vs H Q E
inductive vK(K:W.Frag)(vs:List V)(H:Hp)(Q:VK)(E:XK):Prop
 | mk (l x us h r):vs=[.ref l,x]->H l=some (.lst us)->DatAll K H (h.map K9) us->Dat K H (K9 r) x->Hu.xh 600 256 h->Hu.R3 1200 r->((Hu.gX r h->∀H',aJ H H'->Q .non H'))->((¬Hu.gX r h->∀v H',aJ H H'->Wr K H H' r h v->Q v H'))->vK K vs H Q E
structure MI(K:W.Frag)(H H':Hp)(lo hi:Addr)(L1 L2:List T3):Prop where
 sm:aJ H H'
 ex:∃Na MS,H' lo=some (.lst Na)/\H' hi=some (.lst MS)/\DatAll K H' (L1.map K9) Na/\DatAll K H' (L2.map K9) MS
section
variable{K:W.Frag}{H H' La:Hp}{lo hi:Addr}{L1 L2:List T3}{p:T3}{v:V}{us:List V}
theorem MI.new(m:MI K H H' lo hi L1 L2)(s:aJ H' La):MI K H La lo hi L1 L2:=by
 obtain⟨u1,u2,e1,e2,d1,d2⟩:=m.ex;exact⟨m.sm.trans s,u1,u2,s _ _ e1,s _ _ e2,d1.ts s.ts,d2.ts s.ts⟩
theorem MI.app1(m:MI K H H' lo hi L1 L2)(h0:H lo=none)(ne:lo≠hi)(e:H' lo=some (.lst us))(d:Dat K H' (K9 p) v):MI K H (upd H' lo (.lst (us++[v]))) lo hi (L1++[p]) L2:=by
 obtain⟨u1,u2,e1,e2,d1,d2⟩:=m.ex;rw[e]at e1;cases e1
 have t:LY H' (upd H' lo (.lst (us++[v]))):=dk e;refine⟨aW m.sm h0 _,_,u2,ae,by rw[az (G5 ne)];exact e2,?_,d2.ts t⟩;rw[l8];exact(d1.ts t).snoc (d.ts t)
theorem MI.app2(m:MI K H H' lo hi L1 L2)(h0:H hi=none)(ne:lo≠hi)(e:H' hi=some (.lst us))(d:Dat K H' (K9 p) v):MI K H (upd H' hi (.lst (us++[v]))) lo hi L1 (L2++[p]):=by
 obtain⟨u1,u2,e1,e2,d1,d2⟩:=m.ex;rw[e]at e2;cases e2
 have t:LY H' (upd H' hi (.lst (us++[v]))):=dk e;refine⟨aW m.sm h0 _,u1,_,by rw[az ne];exact e1,ae,d1.ts t,?_⟩;rw[l8];exact(d2.ts t).snoc (d.ts t)
theorem MI.len(m:MI K H H' lo hi L1 L2)(l1:L1.length<=990)(l2:L2.length<=990):(∃us,H' lo=some (.lst us)/\us.length<=1000)/\∃us,H' hi=some (.lst us)/\us.length<=1000:=by
 obtain⟨u1,u2,e1,e2,d1,d2⟩:=m.ex;exact⟨⟨u1,e1,by rw[eT d1];omega⟩,u2,e2,by rw[eT d2];omega⟩
end
theorem ib{r:T3}{h:List T3}(hi:i<h.length):Mi ((h.map (Hu.tl r)).map V.int) ((i:Nat):Int)=some (.int (Hu.tv r h i)):=by
 refine cC ?_;rw[w6,w6,Hu.jW hi];rfl
theorem ok_cut(T:aC K mg "cut" kK)(Pr:mg "NoCut"=some (.ref CN))(Pk:PySem.W.excIn K CN bmV "ValueError.__new__"=true)(bR:mg "min"=none)(cA:mg "max"=none)(cX:mg "enumerate"=none)(bG:mg "len"=none)
  (fZ:Def P w K mg base 2 "told_in_corners" ["rule","hull"] (BA K))(pP:Def P w K mg base 2 "corner_between" ["one","other","at_one","at_other"] (QZ K)):xi P w K mg base 3 "cut" ["hull","rule"] (BG K CN):=by
 refine CH T FH ?_ ?_
 .walk_at "i1"
 walk_at "i2";obtain⟨l,x,us,h,r,rfl,hl,da,dx,hu,RR,kn,kc⟩:=h;have nd:=FH.nd;have lu:=eT da;have LL:=hu.pos;have L5:=hu.few;have br:Hu.R3 3000 r:=RR.mono (by decide);have bp:∀p∈h,Hu.R3 3000 p:=λp hp=>((hu.ok p hp).r).mono (by decide);have tb:∀i,(Hu.tv r h i).natAbs<2^2000:=λi=>i5 (Hu.tl_b RR (hu.ok _ (Hu.cF LL i)).r) (F1 (by decide) (by decide));have tB:∀i,Bg (Hu.tv r h i):=λi=>dI (tb i) (by decide)
 have t3:∃t,Lr (cN (LZ P w) P w K mg base yD "cut" (au kK) f cdv A outer s H E) ((lO (Dk kK 4)).drop 3) t/\
   ∀N B H1 H' d lo hi v (i:Nat) L1 L2 o8,i<h.length->MI K H1 H' lo hi L1 L2->H1 l=some (.lst us)->H1 d=some (.lst ((h.map (Hu.tl r)).map V.int))->H1 lo=none->H1 hi=none->lo≠hi->DatAll K H1 (h.map K9) us->Dat K H' (K9 (Hu.cor h i)) v->L1.length<=900->L2.length<=900->
    (∀La MV,MI K H1 La lo hi (L1++(if Hu.tv r h i*Hu.tv r h (i+1)<0 then[Hu.mid (Hu.cor h i) (Hu.cor h (i+1)) (Hu.tv r h i) (Hu.tv r h (i+1))] else[])) (L2++(if Hu.tv r h i*Hu.tv r h (i+1)<0 then[Hu.mid (Hu.cor h i) (Hu.cor h (i+1)) (Hu.tv r h i) (Hu.tv r h (i+1))] else[]))->
     N [some (.ref l),some x,some (.ref d),some (.ref lo),some (.ref hi),some (.int i),some v,some (.int (((i+1)%h.length:Nat):Int)),MV] La)->
    t {nx:=N,ct:=N,bk:=B,rt:=Q} [some (.ref l),some x,some (.ref d),some (.ref lo),some (.ref hi),some (.int i),some v,some (.int (((i+1)%h.length:Nat):Int)),o8] H':=by
  refine⟨_,(ao (aS (aF iK (aM bo (aD bH (pv 2) (pv 5)) (aD bH (pv 2) (pv 7))) aq (aH _)) (ah (aI (i:=8) (aK pP (aa (pv 6) (aa (aD bH (pv 0) (pv 7)) (aa (aD bH (pv 2) (pv 5)) (aa (aD bH (pv 2) (pv 7)) af))))))
  (ah (bD (cO b9 i8 i9 bf (pv 3) (aa (pv 8) af)))
  (ao (bD (cO b9 i8 i9 bf (pv 4) (aa (pv 8) af)))))) aL)),?_⟩
  intro N B H1 H' d lo hi v i L1 L2 o8 LP mi LD L8 LC Lx ne LW dv l1 l2 n;have jl:(i+1)%h.length<h.length:=KU _ LL;have sd:K7 K H' d ((h.map (Hu.tl r)).map V.int):=K7.of (mi.sm _ _ L8);have ai:=ib (r:=r) LP;have aj:=ib (r:=r) jl;rw[Hu.zA]at aj;refine⟨_,rfl,_,rfl,_,_,_,_,rfl,rfl,sd,ai,_,rfl,_,rfl,_,_,_,_,rfl,rfl,sd,aj,_,_,rfl,rfl,eI (tB _) (tB _),_,_,rfl,rfl,_,rfl,?_⟩;refine cJ (λc=>?_) (λc=>?_)
  .have c':Hu.tv r h i*Hu.tv r h (i+1)<0:=c8 c;rw[d7 c']at n;obtain⟨y,hy,dy⟩:=lV (LW.ts mi.sm.ts) (Hu.jW jl);rw[Hu.oh]at dy;have sl:K7 K H' l us:=K7.of (mi.sm _ _ LD);refine⟨_,rfl,_,rfl,_,rfl,_,_,_,_,rfl,rfl,sl,cC hy,_,rfl,_,rfl,_,_,_,_,rfl,rfl,sd,ai,_,rfl,_,rfl,_,_,_,_,rfl,rfl,sd,aj,v,y,Hu.cor h i,Hu.cor h (i+1),_,_,rfl,dv,dy,hu.ok _ (Hu.cF LL i),hu.ok _ (Hu.cF LL (i+1)),c',tb _,tb _,λm H2 s2 dm=>?_⟩;have m2:=mi.new s2;obtain⟨⟨u1,e1,k1⟩,u2,e2,k2⟩:=m2.len (by omega) (by omega);refine⟨_,rfl,.inl ⟨rfl,_,K7.of e1⟩,_,rfl,lo,u1,_,rfl,rfl,e1,aZ k1,?_⟩;have m3:=m2.app1 LC ne e1 dm;have NC:(upd H2 lo (.lst (u1++[m]))) hi=some (.lst u2):=by rw[az (G5 ne)];exact e2
   refine⟨_,rfl,.inl ⟨rfl,_,K7.of NC⟩,_,rfl,hi,u2,_,rfl,rfl,NC,aZ k2,?_⟩;exact n _ _ (m3.app2 Lx ne NC (dm.ts (dk e1)))
  .have c':¬Hu.tv r h i*Hu.tv r h (i+1)<0:=λz=>c (e9 z);rw[d9 c',A4,A4]at n;exact n _ _ mi
 obtain⟨t3,Va,Qd⟩:=t3
 have t2:∃t,Lr (cN (LZ P w) P w K mg base yD "cut" (au kK) f cdv A outer s H E) ((lO (Dk kK 4)).drop 2) t/\
   ∀N B H1 H' d lo hi v (i:Nat) L1 L2 o8,i<h.length->MI K H1 H' lo hi L1 L2->H1 l=some (.lst us)->H1 d=some (.lst ((h.map (Hu.tl r)).map V.int))->H1 lo=none->H1 hi=none->lo≠hi->DatAll K H1 (h.map K9) us->Dat K H' (K9 (Hu.cor h i)) v->L1.length<=800->L2.length<=800->
    (∀La MV,MI K H1 La lo hi (L1++(if Hu.tv r h i*Hu.tv r h (i+1)<0 then[Hu.mid (Hu.cor h i) (Hu.cor h (i+1)) (Hu.tv r h i) (Hu.tv r h (i+1))] else[])) (L2++Hu.stp h (Hu.tn r h) i)->
     N [some (.ref l),some x,some (.ref d),some (.ref lo),some (.ref hi),some (.int i),some v,some (.int (((i+1)%h.length:Nat):Int)),MV] La)->
    t {nx:=N,ct:=N,bk:=B,rt:=Q} [some (.ref l),some x,some (.ref d),some (.ref lo),some (.ref hi),some (.int i),some v,some (.int (((i+1)%h.length:Nat):Int)),o8] H':=by
  refine⟨_,ah (aS (aF qf (aD bH (pv 2) (pv 5)) aq (aH _)) (ao (bD (cO b9 i8 i9 bf (pv 4) (aa (pv 6) af)))) aL) Va,?_⟩;intro N B H1 H' d lo hi v i L1 L2 o8 LP mi LD L8 LC Lx ne LW dv l1 l2 n;have sd:K7 K H' d ((h.map (Hu.tl r)).map V.int):=K7.of (mi.sm _ _ L8);have ai:=ib (r:=r) LP;rw[Hu.xB]at n;refine⟨_,rfl,_,rfl,_,_,_,_,rfl,rfl,sd,ai,_,_,rfl,rfl,_,rfl,?_⟩;refine cJ (λc=>?_) (λc=>?_)
  .have c':0<=Hu.tv r h i:=c8 c;rw[d7 c']at n;obtain⟨_,u2,e2,k2⟩:=mi.len (by omega) (by omega);refine⟨_,rfl,.inl ⟨rfl,_,K7.of e2⟩,_,rfl,hi,u2,_,rfl,rfl,e2,aZ k2,?_⟩;refine Qd N B H1 _ d lo hi v i L1 (L2++[Hu.cor h i]) o8 LP (mi.app2 Lx ne e2 dv) LD L8 LC Lx ne LW (dv.ts (dk e2)) (by omega) (by simp;omega) λLa o' m=>n La o' ?_;rw[m6]at m;exact m
  .have c':¬0<=Hu.tv r h i:=λz=>c (e9 z);rw[d9 c',w8]at n;exact Qd N B H1 _ d lo hi v i L1 L2 o8 LP mi LD L8 LC Lx ne LW dv (by omega) (by omega) n
 obtain⟨t2,YB,LX⟩:=t2
 have t1:∃t,Lr (cN (LZ P w) P w K mg base yD "cut" (au kK) f cdv A outer s H E) (lO (Dk kK 4)) t/\
   ∀N B H1 H' d lo hi v (i:Nat) L1 L2 o7 o8,i<h.length->MI K H1 H' lo hi L1 L2->H1 l=some (.lst us)->H1 d=some (.lst ((h.map (Hu.tl r)).map V.int))->H1 lo=none->H1 hi=none->lo≠hi->DatAll K H1 (h.map K9) us->Dat K H' (K9 (Hu.cor h i)) v->L1.length<=700->L2.length<=700->
    (∀La UO MV,MI K H1 La lo hi (L1++Hu.stp h (Hu.tv r h) i) (L2++Hu.stp h (Hu.tn r h) i)->
     N [some (.ref l),some x,some (.ref d),some (.ref lo),some (.ref hi),some (.int i),some v,UO,MV] La)->
    t {nx:=N,ct:=N,bk:=B,rt:=Q} [some (.ref l),some x,some (.ref d),some (.ref lo),some (.ref hi),some (.int i),some v,o7,o8] H':=by
  refine⟨_,ah (aI (i:=7) (aM iX (aM bW (pv 5) aq) (aG bJ bG (aa (pv 0) af)))) (ah (aS (aF jz (aD bH (pv 2) (pv 5)) aq (aH _)) (ao (bD (cO b9 i8 i9 bf (pv 3) (aa (pv 6) af)))) aL) YB),?_⟩;intro N B H1 H' d lo hi v i L1 L2 o7 o8 LP mi LD L8 LC Lx ne LW dv l1 l2 n;have sl:K7 K H' l us:=K7.of (mi.sm _ _ LD);have sd:K7 K H' d ((h.map (Hu.tl r)).map V.int):=K7.of (mi.sm _ _ L8);have ai:=ib (r:=r) LP;refine⟨_,rfl,_,_,rfl,rfl,_,rfl,_,_,rfl,.inl ⟨_,sl,rfl⟩,_,_,rfl,rfl,(by rw[lu];omega),?_⟩;rw[lu];dsimp only;rw[Hu.sT];refine⟨_,rfl,_,rfl,_,_,_,_,rfl,rfl,sd,ai,_,_,rfl,rfl,_,rfl,?_⟩;refine cJ (λc=>?_) (λc=>?_)
  .have c':Hu.tv r h i<=0:=c8 c;obtain⟨⟨u1,e1,k1⟩,_⟩:=mi.len (by omega) (by omega);refine⟨_,rfl,.inl ⟨rfl,_,K7.of e1⟩,_,rfl,lo,u1,_,rfl,rfl,e1,aZ k1,?_⟩;refine LX N B H1 _ d lo hi v i (L1++[Hu.cor h i]) L2 o8 LP (mi.app1 LC ne e1 dv) LD L8 LC Lx ne LW (dv.ts (dk e1)) (by simp;omega) (by omega) λLa o' m=>n La _ o' ?_;rw[m6]at m;rw[show Hu.stp h (Hu.tv r h) i=[Hu.cor h i]++(if Hu.tv r h i*Hu.tv r h (i+1)<0 then[Hu.mid (Hu.cor h i) (Hu.cor h (i+1)) (Hu.tv r h i) (Hu.tv r h (i+1))] else[]) by unfold Hu.stp;rw[d7 c']];exact m
  .have c':¬Hu.tv r h i<=0:=λz=>c (e9 z);refine LX N B H1 _ d lo hi v i L1 L2 o8 LP mi LD L8 LC Lx ne LW dv (by omega) (by omega) λLa o' m=>n La _ o' ?_;rw[show Hu.stp h (Hu.tv r h) i=(if Hu.tv r h i*Hu.tv r h (i+1)<0 then[Hu.mid (Hu.cor h i) (Hu.cor h (i+1)) (Hu.tv r h i) (Hu.tv r h (i+1))] else[]) by unfold Hu.stp;rw[d9 c',w8]];exact m
 obtain⟨t1,OS,NP⟩:=t1
 have t4:∃t,Lr (cN (LZ P w) P w K mg base yD "cut" (au kK) f cdv A outer s H E) ((bA kK).drop 2) t/\
   ∀H1 d,¬Hu.gX r h->aJ H H1->H1 d=some (.lst ((h.map (Hu.tl r)).map V.int))->t {nx:=λ_ H'=>Q .non H',rt:=Q} [some (.ref l),some x,some (.ref d),none,none,none,none,none,none] H1:=by
  refine⟨_,ah (aI (i:=3) (cf af)) (ah (aI (i:=4) (cf af)) (ah (dB PassesOwn.leaving rfl (wo rfl cX (pv 0)) (iH rfl (aX (aO (i:=5)) (aX (aO (i:=6)) di))) OS) (ao (av (bj (aa (pv 3) (aa (pv 4) af))))))),?_⟩;intro H1 d nc sm hd;have LD:=sm _ _ hl;have LW:=da.ts sm.ts;refine⟨(by show 0<=sizeLine;decide),λlo LC=>⟨(by show 0<=sizeLine;decide),λhi Lx=>?_⟩⟩;have u1:=ak LC (.lst []);have u2:=ak Lx (.lst []);have ne:lo≠hi:=λz=>by subst z;rw[ae]at Lx;cases Lx
  have Nt:H1 hi=none:=by rw[az (G5 ne)]at Lx;exact Lx
  refine⟨_,rfl,l,rfl,⟨us,K7.of ((u1.trans u2) _ _ LD)⟩,?_⟩
  refine sS (xs:=us) (λi σ H'=>i<=us.length/\MI K H1 H' lo hi (Hu.fl (Hu.stp h (Hu.tv r h)) i) (Hu.fl (Hu.stp h (Hu.tn r h)) i)/\∃o5 o6 o7 o8,σ=[some (.ref l),some x,some (.ref d),some (.ref lo),some (.ref hi),o5,o6,o7,o8])
   ⟨x4 _,⟨u1.trans u2,[],[],u2 _ _ ae,ae,rfl,rfl⟩,_,_,_,_,rfl⟩ (λi σ H' _ z=>K7.of (z.2.1.sm _ _ LD)) (λi v T' σ H' hv z hT=>?_) (λσ H' z=>?_)
  .obtain⟨_,mi,o5,o6,o7,o8,rfl⟩:=z;have LP:i<us.length:=(d6.mp hv).1;have uT:=ak hT (.tup [.int i,v]);obtain⟨p,hp,dp⟩:=ky (LW.ts mi.sm.ts) hv;have ep:p=Hu.cor h i:=by rw[Hu.jW (by omega)]at hp;exact(j8 hp).symm
   subst ep;have f1:=Hu.sU (Hu.nB hu (Hu.tv r h)).len i;have f2:=Hu.sU (Hu.nB hu (Hu.tn r h)).len i;refine⟨T',_,rfl,K6.of ae,rfl,_,_,rfl,_,_,rfl,rfl,?_⟩;refine NP _ _ H1 _ d lo hi v i _ _ o7 o8 (by omega) (mi.new uT) LD hd LC Nt ne LW (dp.ts uT.ts) (by omega) (by omega) λLa UO MV m=>⟨LP,?_,_,_,_,_,rfl⟩;rw[Hu.bz,Hu.bz];exact m
  .obtain⟨_,mi,o5,o6,o7,o8,rfl⟩:=z;rw[lu]at mi;refine⟨_,rfl,_,rfl,(by show 2<=sizeLine;decide),λtt MW=>?_⟩;have u3:=ak MW (.tup [.ref lo,.ref hi]);obtain⟨w1,w2,e1,e2,d1,d2⟩:=(mi.new u3).ex;refine kc nc _ _ (sm.trans (mi.sm.trans u3)) ⟨tt,lo,hi,w1,w2,rfl,ne,?_,?_,K6.of ae,e1,e2,d1,d2⟩
   .exact sm.free LC
   .exact sm.free Nt
 obtain⟨t4,RO,Ts⟩:=t4;refine⟨_,ah (aI (i:=2) (aK fZ (aa (pv 1) (aa (pv 0) af)))) (ah (aS (PW.pt (gW (aF qf (aG (iy rfl) bR (aa (pv 2) af)) aq (aH _)) (hZ (aF jz (aG (jC rfl) cA (aa (pv 2) af)) aq (aH _))))) (ao (Gm rfl Pr Pk (aa aQ af))) aL) RO),?_⟩;refine⟨_,rfl,_,rfl,x,l,us,r,h,rfl,dx,K7.of hl,da,br,bp,by omega,λH' s'=>K7.of (s' _ _ hl),λd H1 s1 hd0 hd=>?_⟩;have LA:0<(h.map (Hu.tl r)).length:=by rw[i7];exact LL
 refine⟨_,rfl,d,_,rfl,K7.of hd,LA,λM hM Mc=>?_⟩;refine⟨_,_,rfl,rfl,_,rfl,?_⟩;refine cJ (λc=>?_) (λc=>?_)
 .have c':0<=M:=c8 c;exact⟨(by show 1<=sizeLine;decide),kn (.inl λp hp=>Jm c' (Mc _ (x8.mpr ⟨p,hp,rfl⟩))) _ s1⟩
 have c1:¬0<=M:=λz=>c (e9 z);refine⟨_,rfl,d,_,rfl,K7.of hd,LA,λM2 NS Mm=>?_⟩;refine⟨_,_,rfl,rfl,_,rfl,?_⟩;refine cJ (λc=>?_) (λc=>?_)
 .have c':M2<=0:=c8 c;exact⟨(by show 1<=sizeLine;decide),kn (.inr λp hp=>Jm (Mm _ (x8.mpr ⟨p,hp,rfl⟩)) c') _ s1⟩
 have c2:¬M2<=0:=λz=>c (e9 z);obtain⟨p1,LO,Tz⟩:=x8.mp hM;obtain⟨p2,Lk,Qm⟩:=x8.mp NS;refine Ts H1 d (λnc=>?_) s1 hd;rcases nc with z | z
 .have:=z p1 LO;omega
 .have:=z p2 Lk;omega
structure Ms(P:Program)(w:World)(K:W.Frag)(mg:Str->Option Value)(base:Heap)(c:CCs):Prop where
 made:∀t,bC P w K mg base (c.of t) "made_of" 1 ["self"] (vH c t)
 word:∀t,bC P w K mg base (c.of t) "making_word" 1 ["self"] (gZ c t)
 weigh:∀t,bC P w K mg base (c.of t) "weigh" 2 ["self","worths","n","x","y"] (jG c t)
variable{c:CCs}
theorem BN:aB ["self","laid","waiting","part"] ["self"] (au PX):=L2.fsc rfl (by decide+kernel)
theorem ok_laid(T:bF K C "laid_out" "Saying.laid_out" PX)(M:Ms P w K mg base c):bC P w K mg base C "laid_out" 2 ["self"] (qZ c t):=by
 refine bM T BN ?_ ?_
 .walk_at "i1"
 walk_at "i2";obtain⟨a,rfl,oa,ht,q⟩:=h;have nd:=BN.nd
 refine⟨_,(ah (aI (i:=1) (cf af))
  (ah (aI (i:=2) (cf (aa (pv 0) af)))
  (ah (jy x5 (sj (pv 2) (λ_=>rfl)) (ah (aI (i:=3) (jg b9 B5 B6 kQ (pv 2)))
  (ah (bD (cO b9 i8 i9 bf (pv 1) (aa (pv 3) af)))
  (ao (bD (cO b9 JC JD pz (pv 2) (aa (gy (k:=1) (pv 3) (hr.mono (by decide))) af)))))))
  (ah (bD (jg b9 Kq Kr sJ (pv 1)))
  (ao (av (pv 1))))))),?_⟩
 refine⟨(by show 0<=sizeLine;decide),λl1 h1=>?_⟩;refine⟨_,rfl,(by show 1<=sizeLine;decide),λl2 Mh=>?_⟩;have h2:H l2=none:=ku Mh;have OJ:l1≠l2:=λe=>by subst e;rw[ae]at Mh;cases Mh
 have Z7:aJ H (upd (upd H l1 (.lst [])) l2 (.lst [.ref a])):=λb o e=>by rw[az (aE e h2),az (aE e h1)];exact e
 refine⟨λm σ H'=>∃L W Lt Wt o,σ=[some (.ref a),some (.ref l1),some (.ref l2),o]/\aJ H H'/\H' l1=some (.lst L)/\H' l2=some (.lst W)/\cH (MQ c H') L Lt/\cH (MQ c H') W Wt/\
   Lt++(Wt.reverse.flatMap λx=>x.post.reverse)=t.post.reverse/\m=bZ Wt,
  ⟨_,[],[.ref a],[],[t],_,rfl,Z7,by rw[az OJ,ae],ae,.nil,.cons ⟨a,rfl,oa.to (Kp.of Z7)⟩ .nil,by simp,rfl⟩,?_⟩
 rintro m σ H' ⟨L,W,Lt,Wt,o,rfl,sm,e1,e2,oL,oW,hp,rfl⟩
 have hlen:Lt.length+bZ Wt=t.size:=by
  have z:=x9 List.length hp;rw[c7,yQ,Dl,C7,fN]at z;exact z
 have hLl:=oL.len
 by_cases hw:W=[]
 .subst hw;cases oW
  refine⟨_,rfl,false,.inl ⟨[],K7.of e2,rfl⟩,bL ?_⟩;refine⟨_,rfl,.inl ⟨rfl,_,K7.of e1⟩,l1,_,rfl,rfl,e1,?_⟩;have eL:Lt=t.post.reverse:=by simpa using hp
  have kp:=iM (u:=.lst L.reverse) e1 rfl;refine⟨_,rfl,q l1 L.reverse _ (λb o z=>?_) h1 ae ?_⟩
  .rw[az (aE z h1)];exact sm b o z
  .have:=(oL.imp (MQ.to kp)).rev;rw[eL,JV]at this;exact this
 .obtain⟨W',v,TK,x,rfl,rfl,⟨b,rfl,ob⟩,oW'⟩:=oW.last hw;refine⟨_,rfl,true,.inl ⟨_,K7.of e2,by cases W'<;>rfl⟩,dH ?_⟩;have sz:bZ (TK++[x])=bZ TK+x.size:=by rw[lC];simp[bZ]
  refine⟨λσ' La=>∃m',m'<bZ (TK++[x])/\∃L W Lt Wt o,σ'=[some (.ref a),some (.ref l1),some (.ref l2),o]/\aJ H La/\La l1=some (.lst L)/\La l2=some (.lst W)/\cH (MQ c La) L Lt/\cH (MQ c La) W Wt/\
   Lt++(Wt.reverse.flatMap λx=>x.post.reverse)=t.post.reverse/\m'=bZ Wt,λ_ _ z=>z,?_⟩
  refine⟨_,rfl,.inl ⟨rfl,_,K7.of e2⟩,l2,_,_,rfl,rfl,e2,jn _ _,?_⟩;rw[F2];have Zs:upd H' l2 (.lst W') l1=some (.lst L):=by rw[az OJ];exact e1
  refine⟨_,rfl,.inl ⟨rfl,_,K7.of Zs⟩,_,rfl,l1,_,_,rfl,rfl,Zs,by rw[hLl];exact d8 (show Lt.length<=1000 by omega) (by decide),?_⟩;have k1:Kp H' (upd (upd H' l2 (.lst W')) l1 (.lst (L++[.ref b]))):=(iM e2 rfl).trans (iM Zs rfl);have NC:upd (upd H' l2 (.lst W')) l1 (.lst (L++[.ref b])) l2=some (.lst W'):=by rw[az OJ.symm,ae]
  have ob1:=ob.to k1;obtain⟨dx,fs,eb,nf⟩:=ob1.cls;refine⟨_,rfl,.inl ⟨rfl,_,K7.of NC⟩,_,rfl,b,_,_,_,_,_,rfl,eb,nf _ (by decide+kernel),M.made x,b,rfl,ob1,λl us hl ou=>?_⟩;have nl2:l2≠l:=aE NC hl;have Yg:l1≠l:=aE (ae (H:=upd H' l2 (.lst W'))) hl;have VT:upd (upd (upd H' l2 (.lst W')) l1 (.lst (L++[.ref b]))) l (.lst us) l2=some (.lst W'):=by rw[az nl2];exact NC
  have hWl:=oW'.len;have WS:=ou.len;have hkl:=kU x;have hWs:=va TK;refine⟨l2,l,_,_,rfl,rfl,VT,ae,by rw[hWl,WS];exact l7 (show _<=1002 by omega) (by decide),?_⟩;have k2:Kp (upd (upd H' l2 (.lst W')) l1 (.lst (L++[.ref b]))) (upd (upd (upd (upd H' l2 (.lst W')) l1 (.lst (L++[.ref b]))) l (.lst us)) l2 (.lst (W'++us))):=(RA hl _).trans (iM VT rfl);have k3:=k1.trans k2;have ks:=ve x;refine⟨bZ (TK++x.kids),by rw[sz,lC];omega,L++[.ref b],W'++us,Lt++[x],TK++x.kids,_,rfl,λd o z=>?_,by rw[az OJ,az Yg,ae],ae,(oL.imp (MQ.to k3)).app (.cons ⟨b,rfl,ob.to k3⟩ .nil),(oW'.imp (MQ.to k3)).app (ou.imp (MQ.to k2)),?_,rfl⟩
  .have z1:upd (upd H' l2 (.lst W')) l1 (.lst (L++[.ref b])) d=some o:=by rw[az (aE z h1),az (aE z h2)];exact sm d o z
   rw[az (aE z h2),az (aE z1 hl)];exact z1
  .rw[<- hp];simp only[J6,List.flatMap_append,B9,List.reverse_nil,w8,m6,List.flatMap_cons,List.flatMap_nil,A4,List.singleton_append,Gq x,y7]
theorem FG:aB ["self","n","x","y","worths","part"] ["self","n","x","y"] (au Us):=L2.fsc rfl (by decide+kernel)
theorem ok_out(T:bF K C "out_of" "Saying.out_of" Us)(M:Ms P w K mg base c)(G:∀t,bC P w K mg base (c.of t) "laid_out" 2 ["self"] (qZ c t)):bC P w K mg base C "out_of" 3 ["self","n","x","y"] (Fu c t):=by
 refine bM T FG ?_ ?_
 .walk_at "i1"
 walk_at "i2";obtain⟨a,n,x,y,rfl,oa,ht,q⟩:=h;have nd:=FG.nd
 refine⟨_,(ah (aI (i:=4) (cf af))
  (ah (dB x5 rfl (cq (gy (k:=2) (pv 0) (hr.mono (by omega)))) (aO (i:=5)) (ao (bD (sA (k:=2) (pv 5) (hr.mono (by decide)) (aa (pv 4) (aa (pv 1) (aa (pv 2) (aa (pv 3) af))))))))
  (ao (av (jg b9 B5 B6 kQ (pv 4)))))),?_⟩
 refine⟨(by show 0<=sizeLine;decide),λl1 h1=>?_⟩;have Z8:aJ H (upd H l1 (.lst [])):=ak h1 _;have oa1:=oa.to (Kp.of Z8);obtain⟨dx,fs,ea,nf⟩:=oa1.cls;refine⟨_,rfl,a,_,_,_,_,_,rfl,ea,nf _ (by decide+kernel),G t,a,rfl,oa1,ht,λl us H' sm hl el ou=>⟨l,rfl,⟨_,K7.of el⟩,?_⟩⟩;have nl:l≠l1:=λe=>by subst e;rw[ae]at hl;cases hl
 refine eM (xs:=us) (λi σ H2=>∃o R,σ=[some (.ref a),some (.int n),some (.int x),some (.int y),some (.ref l1),o]/\SB (.ref l1) H' H2/\H2 l1=some (.lst (R.reverse.map V.int))/\R.length<=i/\(iB n x y).run R (t.post.drop i)=some [t.worth n x y])
  ⟨none,[],rfl,SB.refl _ _,sm _ _ ae,c5 _,Og _ t⟩ (λi σ H2 _ h=>?_) (λi v σ H2 hi h=>?_) (λσ H2 h=>?_)
 .obtain⟨o,R,_,sb,_⟩:=h;exact K7.of (sb _ _ el λz=>nl (V.ref.inj z))
 .obtain⟨o,R,rfl,sb,e,hR,LV⟩:=h;obtain⟨z,hz,b,rfl,ob⟩:=ou.get i v hi;rw[CD hz]at LV;obtain⟨R',hs,LU⟩:=FR LV;have kp:Kp H' H2:=sb.kp λa' o' z1 z2=>by cases z1;rw[sm _ _ ae]at z2;cases z2;rfl
  have UN:=ob.to kp;obtain⟨dx',Zf,eb,Yh⟩:=UN.cls;have hil:i<t.post.length:=(d6.mp hz).1;rw[fN]at hil;refine⟨_,rfl,b,_,_,_,_,_,rfl,eb,Yh _ (by decide+kernel),M.weigh z,_,rfl,_,rfl,_,rfl,_,rfl,b,l1,n,x,y,R,R',rfl,UN,e,by omega,hs,λH3 WH e3=>?_⟩;exact⟨_,R',rfl,sb.trans WH,e3,l7 (Fp hs) (Nat.succ_le_succ hR),LU⟩
 .obtain⟨o,R,rfl,sb,e,hR,LV⟩:=h;have ul:=ou.len;rw[ul,List.drop_length]at LV;have eR:R=[t.worth n x y]:=j8 LV;subst eR;refine⟨_,rfl,.inl ⟨rfl,_,K7.of e⟩,l1,_,_,rfl,rfl,e,rfl,q _ λb o z=>?_⟩;rw[az (aE z h1)];exact sb b o (sm b o (Z8 b o z)) λz1=>(aE z h1) (V.ref.inj z1)
theorem VZ(x:V)(us:List V):jV (x::us) (some 1) none=us:=by
 unfold jV
 rw[show _root_.HT.sIx (x::us).length 0 (some 1)=1 from by
  rw[show(some (1:Int))=some ((1:Nat):Int) from rfl,_root_.HT.nQ,j9];omega,_root_.HT.rX]
 show List.take ((x::us).length-1) us=us;rw[j9,Nat.add_sub_cancel,z9]
theorem sl1(e:H a=some (.tup (x::us)))(h:∀p,H p=none->Q (.ref p) (upd H p (.tup us))):Q9 K (.ref a) (some 1) none H Q:=by
 refine⟨a,_,rfl,K6.of e,λz=>?_,λ_ p=>?_⟩
 .have RX:_root_.HT.sIx (x::us).length 0 (some 1)=1:=by
   rw[show(some (1:Int))=some ((1:Nat):Int) from rfl,_root_.HT.nQ,j9];omega
  exact absurd (RX.symm.trans z) (by decide)
 .intro Qe;rw[VZ];exact h _ Qe
def Pt(H:Hp)(p:Addr)(n x y:Int):Prop:=H p=some (.tup [.int n,.int x,.int y])/\1<=n/\0<=x/\x<=n/\0<=y/\y<=n
inductive QX(vs:List V)(H:Hp)(Q:VK)(E:XK):Prop
 | mk (p) (n x y:Int):vs=[.ref p]->Pt H p n x y->(∀H',aJ H H'->Q (.bl true) H')->QX vs H Q E
inductive Fv(vs:List V)(H:Hp)(Q:VK)(E:XK):Prop
 | mk (p) (n x y:Int):vs=[.ref p]->Pt H p n x y->(∀H',aJ H H'->Q .non H')->Fv vs H Q E
inductive Fs(c:CCs)(vs:List V)(H:Hp)(Q:VK)(E:XK):Prop
 | mk (a p t) (n x y:Int):vs=[.ref a,.ref p]->Ob c H a t->t.size<=1000->Pt H p n x y->(∀H',aJ H H'->Q (.int (t.worth n x y)) H')->Fs c vs H Q E
theorem rN:aB ["thing"] ["thing"] (au mK):=L2.fsc rfl (by decide+kernel)
theorem Aj(T:aC K mg "is_whole" mK)(aR:mg "isinstance"=none)(fV:mg "int"=none)(pI:mg "bool"=none)(kb:PySem.W.kitOne K (.type "int") (.type "bool")=some false):Def P w K mg base 1 "is_whole" ["thing"] xC:=by
 refine aP T rN ?_ ?_
 .walk_at "i1"
 walk_at "i2";obtain⟨i,rfl,q⟩:=h;have nd:=rN.nd;refine⟨_,(ao (av (jh (aG lj aR (aa (pv 0) (aa (gP (v:=V.ty "int") rfl fV (by decide+kernel) rfl) af))) (mQ (Gv (aG lj aR (aa (pv 0) (aa (gP (v:=V.ty "bool") rfl pI (by decide+kernel) rfl) af)))))))),?_⟩;exact⟨_,rfl,_,_,_,_,true,rfl,(λ_ h=>h),jX.int _,fQ,_,rfl,dH ⟨_,rfl,_,_,_,_,false,rfl,(λ_ h=>h),jX.int _,kb,_,rfl,q⟩⟩
noncomputable abbrev ptN:List Str:=["thing","n"]
theorem rO:aB ptN ["thing"] (au iF):=L2.fsc rfl (by decide+kernel)
noncomputable abbrev X7 (i:Nat):Stmt:=(bA iF).getD i (.Pass ⟨0,0,0,0⟩)
noncomputable def SS(s:Stmt):Expr:=match s with
 | .If (.UnaryOp _ (.Call _ [e] _ _) _) _ _ _=>e
 | _=>.Constant .none 0 ⟨0,0,0,0⟩
theorem uO:aB ["thing"] ["thing"] (au hU):=L2.fsc rfl (by decide+kernel)
noncomputable def MF(ns:List Int):Int:=ns.foldl (λg n=>Lo.gc g n) 0
theorem HU(ns:List Int)(n:Int):MF (ns++[n])=Lo.gc (MF ns) n:=by
 unfold MF;rw[List.foldl_append];rfl
theorem HV:∀(ns:List Int)(g:Int),0<=g->0<=ns.foldl (λg n=>Lo.gc g n) g
 | [],_,h=>h
 | n::ns,g,_=>HV ns _ (Lo.pF g n)
theorem AI(ns:List Int):0<=MF ns:=HV ns 0 (D5 0)
theorem Zc(a:Int)(h:0<=a):Lo.gc 0 a=a:=by
 unfold Lo.gc;rw[Int.gcd_zero_left];omega
theorem Zb{a:Int}(b c:Int)(h:0<=a):MF [a,b,c]=Hu.gg a b c:=by
 show Lo.gc (Lo.gc (Lo.gc 0 a) b) c=_;rw[Zc a h];rfl
noncomputable def sg(s:Int)(p q:T3):T3:=⟨p.u+s*q.u,p.v+s*q.v,p.w+s*q.w⟩
theorem FD(p q:T3):sg 1 p q=Hu.pl p q:=by simp only[sg,Hu.pl,K3]
theorem xE(p q:T3):sg (-1) p q=Hu.mi p q:=by
 simp only[sg,Hu.mi,T3.mk.injEq];omega
inductive FC(K:W.Frag)(vs:List V)(H:Hp)(Q:VK)(E:XK):Prop
 | mk (x y p q) (s:Int):vs=[x,y,.int s]->Dat K H (K9 p) x->Dat K H (K9 q) y->(s=1\/s = -1)->Hu.R3 3000 q->(∀t H',aJ H H'->Dat K H' (K9 (sg s p q)) (.ref t)->Q (.ref t) H')->FC K vs H Q E
theorem zd:∀ns:List Int,cH (λv n=>v=V.int n) (ns.map V.int) ns
 | []=>.nil
 | _::r=>.cons rfl (zd r)
inductive Fw(vs:List V)(H:Hp)(Q:VK)(E:XK):Prop
 | mk (l ns):vs=[.ref l]->H l=some (.lst (ns.map V.int))->(∀n∈ns,0<=n)->MF ns≠0->Bg (MF ns)->ns.length<=100->(∀t H',aJ H H'->H' t=some (.tup (ns.map λn=>V.int (n.fdiv (MF ns))))->Q (.ref t) H')->Fw vs H Q E
inductive Uk(vs:List V)(H:Hp)(Q:VK)(E:XK):Prop
 | mk (l ns):vs=[.ref l]->H l=some (.tup (ns.map V.int))->(∀n∈ns,0<=n)->MF ns≠0->Bg (MF ns)->ns.length<=100->(∀t H',aJ H H'->H' t=some (.tup (ns.map λn=>V.int (n.fdiv (MF ns))))->Q (.ref t) H')->Uk vs H Q E
theorem uw{ax ay:Addr}{p q:T3}{g:TG}{R:Hp->Prop}
  (sx:K6 K H1 ax [.int p.u,.int p.v,.int p.w])(sy:K6 K H1 ay [.int q.u,.int q.v,.int q.w])(hD:H1 D=none)
  (hg:∀T' x y o1 o2 H R,K6 K H T' [x,y]->R (some x::some y::bQ js σ) H->g (.ref T') (o1::o2::bQ js σ) H R)
  (step:∀(x y:Int) H' k,(y=q.u\/y=q.v\/y=q.w)->(x=p.u\/x=p.v\/x=p.w)->k (.int (F x y)) H'->te (some (.int x)::some (.int y)::bQ js σ) H' k)
  (fin:∀H',aJ H1 H'->H' D=some (.lst [.int (F p.u q.u),.int (F p.v q.v),.int (F p.w q.w)])->R H') :
  ∃W:Nat->Nat->Hp->Prop,(∃m,W 0 m (upd H1 D (.lst [])))/\∀i m H2,W i m H2->((ER K ax ay).stop i H2/\R H2)\/
   ((
    ER K ax ay).go i H2/\∀o:St,o.length=2->∀v H3,(ER K ax ay).yld i H2 v H3->g v (o++bQ js σ) H3 λσ4 H4=>∃o',o'.length=2/\σ4=o'++bQ js σ/\te (o'++bQ js σ) H4 λy H5 =>
    ∃ys,H5 D=some (.lst ys)/\ys.length<sizeLine/\∃m',m'<m/\W (i+1) m' (upd H5 D (.lst (ys++[y])))):=by
 refine⟨λi m H2=>m=3-i/\i<=3/\aJ H1 H2/\H2 D=some (.lst ([V.int (F p.u q.u),.int (F p.v q.v),.int (F p.w q.w)].take i)),⟨_,rfl,x4 _,ak hD _,ae⟩,?_⟩;rintro i m H2 ⟨rfl,hi,sm,LJ⟩
 have Mz:=sx.ts sm.ts;have My:=sy.ts sm.ts
 by_cases Le:i<3
 .refine .inr ⟨⟨_,_,Mz,My,Le,c5 _⟩,λo ho v H3 y=>?_⟩;obtain⟨T',vs,nT,rfl,rfl,x,y,rfl,hx,hy⟩:=y;have zx:=hx _ Mz;have zy:=hy _ My;obtain⟨o1,o2,rfl⟩:=ON ho;have uT:=ak nT (.tup [x,y]);refine hg T' x y o1 o2 _ _ (K6.of ae) ⟨[some x,some y],rfl,rfl,?_⟩;have Lw:=uT _ _ LJ;rcases(show i=0\/i=1\/i=2 by omega) with rfl | rfl | rfl
  .cases zx
   cases zy
   exact step _ _ _ _ (.inl rfl) (.inl rfl) ⟨_,Lw,aZ (by simp),3-1,by omega,rfl,by omega,aW (sm.trans uT) hD _,ae⟩
  .cases zx
   cases zy
   exact step _ _ _ _ (.inr (.inl rfl)) (.inr (.inl rfl)) ⟨_,Lw,aZ (by simp),3-2,by omega,rfl,by omega,aW (sm.trans uT) hD _,ae⟩
  .cases zx
   cases zy
   exact step _ _ _ _ (.inr (.inr rfl)) (.inr (.inr rfl)) ⟨_,Lw,aZ (by simp),3-3,by omega,rfl,by omega,aW (sm.trans uT) hD _,ae⟩
 .have ei:i=3:=by omega
  subst ei;exact .inl ⟨⟨_,_,Mz,My,c5 _,c5 _⟩,fin _ sm LJ⟩
theorem ok_lsum(T:aC K mg "_law_sum" vS)(gk:mg "zip"=none)(bB:mg "tuple"=none):Def P w K mg base 1 "_law_sum" ["_law_one","_law_other","_law_by"] (FC K):=by
 refine aP T xQ ?_ ?_
 .walk_at "i1"
 walk_at "i2";obtain⟨x,y,p,q,sn,rfl,dx,dy,hs,bq,k⟩:=h;obtain⟨ax,rfl,sx⟩:=cS dx;obtain⟨ay,rfl,sy⟩:=cS dy;have nd:=xQ.nd;have bs:Bg sn:=dI (n:=1) (by rcases hs with rfl | rfl<;>decide) (by decide)
 obtain⟨q1,q2,q3⟩:=Nj bq;refine⟨_,(ao (av (cR cY bB (aa (lJ (xs:=["_law_a","_law_b"]) (nU rfl gk (pv 0) (pv 1)) (bY (j:=2) cE) (λ_ _ _ _=>lI (K:=K) (n:=2) rfl rfl (aX (aO (i:=0) (hN:=(show(["_law_a","_law_b","_law_by"]:List Str).Nodup by decide+kernel)) (hf:=(.inr rfl))) (aX (aO (i:=1) (hN:=(show(["_law_a","_law_b","_law_by"]:List Str).Nodup by decide+kernel)) (hf:=(.inr rfl))) di))) (λ_ _ _ _=>(aM bW (pv 0) (aM bo (pv 2) (pv 1))))) af)))),?_⟩;refine⟨_,rfl,_,rfl,ax,ay,_,_,rfl,rfl,sx,sy,λD hD=>?_⟩;refine uw (K:=K) (F:=λx y=>x+sn*y) sx sy hD (λT' x y o1 o2 H R s r=>⟨T',_,rfl,s,rfl,_,_,rfl,_,_,rfl,rfl,r⟩) (λx y H' k hy hx z=>?_) (λH' s' eD=>?_)
 .have SH:Bg y:=by rcases hy with rfl | rfl | rfl<;>assumption
  exact⟨_,rfl,_,rfl,_,rfl,_,_,rfl,rfl,eI bs SH,_,_,rfl,rfl,z⟩
 .refine⟨D,_,rfl,.inl ⟨K7.of eD,λtt MW=>?_⟩⟩;exact k tt _ (s'.trans (ak MW _)) (cy (p:=sg sn p q) (K6.of ae))
theorem ok_lwL(T:aC K mg "_law_lowest" mI)(bB:mg "tuple"=none):Def P w K mg base 1 "_law_lowest" ["_law_point"] Fw:=by
 refine aP T pX ?_ ?_
 .walk_at "i1"
 walk_at "i2";obtain⟨l,ns,rfl,el,pos,g0,gb,few,q⟩:=h;have nd:=pX.nd
 refine⟨_,(ah (aI (i:=1) aq)
  (ah (dB x5 rfl (cq (pv 0)) (aO (i:=2)) (ao (jy x5 (aF kh (pv 2) aq (aH _)) (ao (sk (bj (aa (pv 2) (aa (aM iX (pv 1) (pv 2)) af))) (iH rfl (aX (aO (i:=1)) (aX (aO (i:=2)) di))))))))
  (ao (av (cR cY bB (aa (dC (cq (pv 0)) (bY (j:=1) cE) (λ_ _ _ _=>cM) (λ_ _ _ _=>(aM iL (pv 0) (pv 1)))) af)))))),?_⟩
 refine⟨_,rfl,l,rfl,⟨_,K7.of el⟩,?_⟩;refine eM (xs:=ns.map V.int) (λi σ H'=>aJ H H'/\∃o2,σ=[some (.ref l),some (.int (MF (ns.take i))),o2]) ⟨aJ.refl _,_,rfl⟩ (λi σ H' _ z=>K7.of (z.1 _ _ el)) (λi v σ H' hv z=>?_) (λσ H' z=>?_)
 .obtain⟨s1,o2,rfl⟩:=z;rw[w6]at hv;obtain⟨n,hn,rfl⟩:=JL.mp hv;have n0:=pos n (p8 hn);have gn:=AI (ns.take i);refine⟨λm σ La=>aJ H La/\∃(g l':Int),σ=[some (.ref l),some (.int g),some (.int l')]/\0<=g/\0<=l'/\l'.toNat=m/\Lo.gc g l'=Lo.gc (MF (ns.take i)) n,⟨_,s1,_,_,rfl,gn,n0,rfl,rfl⟩,?_⟩;rintro m σ La ⟨s2,g,l',rfl,hg,hl',rfl,e⟩
  refine⟨_,rfl,_,_,rfl,rfl,_,rfl,?_⟩;refine cJ (λc=>?_) (λc=>?_)
  .have c2:0<l':=c8 c;refine⟨λσ' H3=>aJ H H3/\σ'=[some (.ref l),some (.int l'),some (.int (g.fmod l'))],?_,?_⟩
   .rintro σ' H3 ⟨s3,rfl⟩
    have z0:=G9 g c2;have z1:=Jl g c2;exact⟨_,(show(g.fmod l').toNat<l'.toNat by omega),s3,l',g.fmod l',rfl,by omega,z0,rfl,by rw[Lo.Cy];exact e⟩
   .exact⟨_,rfl,_,rfl,_,rfl,_,_,rfl,rfl,(by omega),(by show 2<=sizeLine;decide),λp hp=>⟨p,_,rfl,K6.of ae,rfl,_,_,rfl,_,_,rfl,rfl,s2.trans (ak hp _),rfl⟩⟩
  .have c2:¬0<l':=λz=>c (e9 z);have l0:l'=0:=by omega
   subst l0;rw[Lo.Cw hg]at e;refine⟨s2,some (.int 0),?_⟩;rw[A2,hn];show _=[_,some (V.int (MF (ns.take i++[n]))),_];rw[HU,<- e]
 .obtain⟨s1,o2,rfl⟩:=z;have el:=s1 _ _ el;rw[i7,z9];dsimp only[Fi,Nd,tC,Nf,dZ,lQ]
  refine comp_map (K:=K) (ts:=ns) (R:=λ_ v n=>v=V.int n) (xs:=ns.map V.int) (λn=>.int (n.fdiv (MF ns))) (λ_ _ _ _ _ h=>h) (λl' H2=>l'=l/\H2=H') (λR h=>⟨_,rfl,l,rfl,⟨_,K7.of el⟩,h l _ ⟨rfl,rfl⟩⟩) (λl' H2 h=>by obtain⟨rfl,rfl⟩:=h;exact⟨el,aJ.refl _⟩) (by simp;omega)
   (zd ns) (λv n H2 N hn hv hN=>?_) (λD H2 s2 hD eD=>?_)
  .subst hv;exact⟨_,rfl,_,rfl,_,_,rfl,rfl,wR g0 gb,hN _ (aJ.refl _)⟩
  .refine⟨D,_,rfl,.inl ⟨K7.of eD,λtt MW=>?_⟩⟩;exact q tt _ ((s1.trans s2).trans (ak MW _)) ae
theorem Ai(T:aC K mg "_law_tells" oR):Def P w K mg base 1 "_law_tells" ["_law_rule_here","_law_corner"] (vE K):=by
 refine aP T rK ?_ ?_
 .walk_at "i1"
 walk_at "i2";obtain⟨x,y,r,p,rfl,dx,dy,br,bp,q⟩:=h;obtain⟨ar,rfl,sr⟩:=cS dx;obtain⟨ap,rfl,st⟩:=cS dy;obtain⟨r1,r2,r3⟩:=Nj br;obtain⟨p1,p2,p3⟩:=Nj bp;have nd:=rK.nd;refine⟨_,(ao (av (aM bW (aM bW (aM bo (aD aA (pv 0) aq) (aD aA (pv 1) aq)) (aM bo (aD aA (pv 0) aq) (aD aA (pv 1) aq))) (aM bo (aD aA (pv 0) aq) (aD aA (pv 1) aq))))),?_⟩;exact⟨_,rfl,_,_,_,_,rfl,rfl,sr,rfl,_,rfl,_,_,_,_,rfl,rfl,st,rfl,_,_,rfl,rfl,eI r1 p2,_,rfl,_,_,_,_,rfl,rfl,sr,rfl,_,rfl,_,_,_,_,rfl,rfl,st,rfl,_,_,rfl,rfl,eI r2 p3,_,_,rfl,rfl,_,rfl,_,_,_,_,rfl,rfl,sr,rfl,_,rfl,_,_,_,_,rfl,rfl,st,rfl,_,_,rfl,rfl,eI r3 p1,_,_,rfl,rfl,q⟩
noncomputable def lw(k:Nat):Str:=if k=0 then "never" else if k=1 then "always" else if k=2 then "p" else "q"
noncomputable def fw(k:Nat):Str:=if k=0 then "more" else if k=1 then "less" else if k=2 then "greater" else if k=3 then "lesser" else "leads"
noncomputable def rwV:Hu.Row->List PyData
 | .lf k=>[.str (lw k)]
 | .nt i=>[.str "not",.int i]
 | .fd k i j=>[.str (fw k),.int i,.int j]
noncomputable def WL:Hu.Row->List V
 | .lf k=>[.str (lw k)]
 | .nt i=>[.str "not",.int i]
 | .fd k i j=>[.str (fw k),.int i,.int j]
noncomputable def lR(r:Hu.Row):PyData:=.tuple (rwV r)
def mY(rows:List Hu.Row):Prop:=∀(k:Nat) r,rows[k]?=some r->r.Ok k
section
variable{K:W.Frag}{H H':Hp}{v:V}{r:Hu.Row}
theorem FX(g:Dat K H (lR r) v):∃a,v=.ref a/\K6 K H a (WL r):=by
 cases r with
 | lf k =>
  obtain⟨a,xs,rfl,g,x,t,rfl,hx,ht⟩:=g;cases(show x=V.str (lw k) from hx)
  cases(show t=[] from ht)
  exact⟨a,rfl,g⟩
 | nt i =>
  obtain⟨a,xs,rfl,g,x,t,rfl,hx,y,u,rfl,hy,ht⟩:=g;cases(show x=V.str "not" from hx)
  cases(show y=V.int i from hy)
  cases(show u=[] from ht)
  exact⟨a,rfl,g⟩
 | fd k i j =>
  obtain⟨a,xs,rfl,g,x,t,rfl,hx,y,u,rfl,hy,z,w,rfl,hz,ht⟩:=g;cases(show x=V.str (fw k) from hx)
  cases(show y=V.int i from hy)
  cases(show z=V.int j from hz)
  cases(show w=[] from ht)
  exact⟨a,rfl,g⟩
theorem Q8{a:Addr}(g:K6 K H a (WL r)):Dat K H (lR r) (.ref a):=by
 cases r with
 | lf k=>exact⟨a,_,rfl,g,_,_,rfl,rfl,rfl⟩
 | nt i=>exact⟨a,_,rfl,g,_,_,rfl,rfl,_,_,rfl,rfl,rfl⟩
 | fd k i j=>exact⟨a,_,rfl,g,_,_,rfl,rfl,_,_,rfl,rfl,_,_,rfl,rfl,rfl⟩
theorem BV{xs:List V}{rows:List Hu.Row}(g:DatAll K H (rows.map lR) xs){x:V}(e:xs[i]?=some x):∃r,rows[i]?=some r/\Dat K H (lR r) x:=by
 obtain⟨d,e1,e2⟩:=g.get' e;rw[w6]at e1;cases z:rows[i]? with
 | none=>rw[z]at e1;cases e1
 | some s=>rw[z]at e1;cases e1;exact⟨s,rfl,e2⟩
theorem BU{xs:List V}{rows:List Hu.Row}(g:DatAll K H (rows.map lR) xs):xs.length=rows.length:=by rw[g.len,i7]
end
inductive Te(K:W.Frag)(f:T3->T3->T3)(vs:List V)(H:Hp)(Q:VK)(E:XK):Prop
 | mk (x y p q):vs=[x,y]->Dat K H (K9 p) x->Dat K H (K9 q) y->(∀t H',aJ H H'->Dat K H' (K9 (f p q)) (.ref t)->Q (.ref t) H')->Te K f vs H Q E
def Ch(K:W.Frag)(H:Hp)(c:T3×T3×T3)(v:V):Prop:=∃t x y z,v=.ref t/\K6 K H t [x,y,z]/\Dat K H (K9 c.1) x/\Dat K H (K9 c.2.1) y/\Dat K H (K9 c.2.2) z
inductive zP(K:W.Frag)(vs:List V)(H:Hp)(Q:VK)(E:XK):Prop
 | mk (k:Nat):vs=[.str (lw k)]->k<4->(∀v,Dat K H (K9 (Hu.lft k)) v->Q v H)->zP K vs H Q E
inductive zQ(K:W.Frag)(vs:List V)(H:Hp)(Q:VK)(E:XK):Prop
 | mk (k:Nat) (x y a b):vs=[.str (fw k),x,y]->k<5->Dat K H (K9 a) x->Dat K H (K9 b) y->(∀v H',aJ H H'->Ch K H' (Hu.fch k a b) v->Q v H')->zQ K vs H Q E
theorem ok_both(T:aC K mg "both" zY)(gk:mg "zip"=none)(bB:mg "tuple"=none):Def P w K mg base 1 "both" ["one","other"] (Te K Hu.pl):=by
 refine aP T BP ?_ ?_
 .walk_at "i1"
 walk_at "i2";obtain⟨x,y,p,q,rfl,dx,dy,k⟩:=h;obtain⟨ax,rfl,sx⟩:=cS dx;obtain⟨ay,rfl,sy⟩:=cS dy;have nd:=BP.nd;refine⟨_,(ao (av (cR cY bB (aa (lJ (xs:=["first","second"]) (nU rfl gk (pv 0) (pv 1)) cE (λ_ _ _ _=>lI (K:=K) (n:=2) rfl rfl (aX (aO (i:=0) (hN:=(show(["first","second"]:List Str).Nodup by decide+kernel)) (hf:=(.inr rfl))) (aX (aO (i:=1) (hN:=(show(["first","second"]:List Str).Nodup by decide+kernel)) (hf:=(.inr rfl))) di))) (λ_ _ _ _=>(aM bW (pv 0) (pv 1)))) af)))),?_⟩;refine⟨_,rfl,_,rfl,ax,ay,_,_,rfl,rfl,sx,sy,λD hD=>?_⟩;refine⟨λi m H2=>m=3-i/\i<=3/\aJ H H2/\H2 D=some (.lst ([V.int (p.u+q.u),.int (p.v+q.v),.int (p.w+q.w)].take i)),⟨_,rfl,x4 _,ak hD _,ae⟩,?_⟩;rintro i m H2 ⟨rfl,hi,sm,LJ⟩
 have Mz:=sx.ts sm.ts;have My:=sy.ts sm.ts
 by_cases Le:i<3
 .refine .inr ⟨⟨_,_,Mz,My,Le,c5 _⟩,λo ho v H3 y=>?_⟩;obtain⟨T',vs,nT,rfl,rfl,x,y,rfl,hx,hy⟩:=y;have zx:=hx _ Mz;have zy:=hy _ My;obtain⟨o1,o2,rfl⟩:=ON ho;have uT:=ak nT (.tup [x,y]);refine⟨T',_,rfl,K6.of ae,rfl,_,_,rfl,_,_,rfl,rfl,[some x,some y],rfl,rfl,?_⟩;have Lw:=uT _ _ LJ;rcases(show i=0\/i=1\/i=2 by omega) with rfl | rfl | rfl
  .cases zx
   cases zy
   exact⟨_,rfl,_,rfl,_,_,rfl,rfl,_,Lw,aZ (by simp),3-1,by omega,rfl,by omega,aW (sm.trans uT) hD _,ae⟩
  .cases zx
   cases zy
   exact⟨_,rfl,_,rfl,_,_,rfl,rfl,_,Lw,aZ (by simp),3-2,by omega,rfl,by omega,aW (sm.trans uT) hD _,ae⟩
  .cases zx
   cases zy
   exact⟨_,rfl,_,rfl,_,_,rfl,rfl,_,Lw,aZ (by simp),3-3,by omega,rfl,by omega,aW (sm.trans uT) hD _,ae⟩
 have ei:i=3:=by omega
 subst ei;refine .inl ⟨⟨_,_,Mz,My,c5 _,c5 _⟩,?_⟩;refine⟨D,_,rfl,.inl ⟨K7.of LJ,λtt MW=>?_⟩⟩;exact k tt _ (sm.trans (ak MW _)) (cy (p:=Hu.pl p q) (K6.of ae))
theorem Ae(T:aC K mg "without" oM)(gk:mg "zip"=none)(bB:mg "tuple"=none):Def P w K mg base 1 "without" ["one","other"] (Te K Hu.mi):=by
 refine aP T rB ?_ ?_
 .walk_at "i1"
 walk_at "i2";obtain⟨x,y,p,q,rfl,dx,dy,k⟩:=h;obtain⟨ax,rfl,sx⟩:=cS dx;obtain⟨ay,rfl,sy⟩:=cS dy;have nd:=rB.nd;refine⟨_,(ao (av (cR cY bB (aa (lJ (xs:=["first","second"]) (nU rfl gk (pv 0) (pv 1)) cE (λ_ _ _ _=>lI (K:=K) (n:=2) rfl rfl (aX (aO (i:=0) (hN:=(show(["first","second"]:List Str).Nodup by decide+kernel)) (hf:=(.inr rfl))) (aX (aO (i:=1) (hN:=(show(["first","second"]:List Str).Nodup by decide+kernel)) (hf:=(.inr rfl))) di))) (λ_ _ _ _=>(aM cD (pv 0) (pv 1)))) af)))),?_⟩;refine⟨_,rfl,_,rfl,ax,ay,_,_,rfl,rfl,sx,sy,λD hD=>?_⟩;refine⟨λi m H2=>m=3-i/\i<=3/\aJ H H2/\H2 D=some (.lst ([V.int (p.u-q.u),.int (p.v-q.v),.int (p.w-q.w)].take i)),⟨_,rfl,x4 _,ak hD _,ae⟩,?_⟩;rintro i m H2 ⟨rfl,hi,sm,LJ⟩
 have Mz:=sx.ts sm.ts;have My:=sy.ts sm.ts
 by_cases Le:i<3
 .refine .inr ⟨⟨_,_,Mz,My,Le,c5 _⟩,λo ho v H3 y=>?_⟩;obtain⟨T',vs,nT,rfl,rfl,x,y,rfl,hx,hy⟩:=y;have zx:=hx _ Mz;have zy:=hy _ My;obtain⟨o1,o2,rfl⟩:=ON ho;have uT:=ak nT (.tup [x,y]);refine⟨T',_,rfl,K6.of ae,rfl,_,_,rfl,_,_,rfl,rfl,[some x,some y],rfl,rfl,?_⟩;have Lw:=uT _ _ LJ;rcases(show i=0\/i=1\/i=2 by omega) with rfl | rfl | rfl
  .cases zx
   cases zy
   exact⟨_,rfl,_,rfl,_,_,rfl,rfl,_,Lw,aZ (by simp),3-1,by omega,rfl,by omega,aW (sm.trans uT) hD _,ae⟩
  .cases zx
   cases zy
   exact⟨_,rfl,_,rfl,_,_,rfl,rfl,_,Lw,aZ (by simp),3-2,by omega,rfl,by omega,aW (sm.trans uT) hD _,ae⟩
  .cases zx
   cases zy
   exact⟨_,rfl,_,rfl,_,_,rfl,rfl,_,Lw,aZ (by simp),3-3,by omega,rfl,by omega,aW (sm.trans uT) hD _,ae⟩
 have ei:i=3:=by omega
 subst ei;refine .inl ⟨⟨_,_,Mz,My,c5 _,c5 _⟩,?_⟩;refine⟨D,_,rfl,.inl ⟨K7.of LJ,λtt MW=>?_⟩⟩;exact k tt _ (sm.trans (ak MW _)) (cy (p:=Hu.mi p q) (K6.of ae))
theorem ok_leaf(T:aC K mg "leaf_rule" kH)(ik:ff K mg "NEVER" [0,0,0])(fW:ff K mg "ALWAYS" [0,0,1])(nh:ff K mg "LETTER_P" [1,0,0])(mZ:ff K mg "LETTER_Q" [0,1,0]):Def P w K mg base 1 "leaf_rule" ["word"] (zP K):=by
 refine aP T nJ ?_ ?_
 .walk_at "i1"
 walk_at "i2";obtain⟨k,rfl,hk,q⟩:=h;obtain⟨NW,oq,Ut⟩:=ik.ex;obtain⟨MP,eV,Uv⟩:=fW.ex;obtain⟨aLP,Bj,sLP⟩:=nh.ex;obtain⟨aLQ,Bi,sLQ⟩:=mZ.ex;have nd:=nJ.nd
 refine⟨_,(ah (aS (aF bS (pv 0) aQ (aH _)) (ao (av (cV (v:=V.ref NW) rfl oq rfl))) aL)
  (ah (aS (aF bS (pv 0) aQ (aH _)) (ao (av (cV (v:=V.ref MP) rfl eV rfl))) aL)
  (ao (av (kP (aF bS (pv 0) aQ (aH _)) (cV (v:=V.ref aLP) rfl Bj rfl) (cV (v:=V.ref aLQ) rfl Bi rfl)))))),?_⟩
 rcases(by omega:k=0\/k=1\/k=2\/k=3) with rfl | rfl | rfl | rfl
 .refine⟨_,rfl,rfl,_,rfl,?_⟩;rw[show decide (V.str (lw 0)=V.str "never")=true by decide+kernel];exact dH (q _ (cy (p:=⟨0,0,0⟩) (Ut H)))
 .refine⟨_,rfl,rfl,_,rfl,?_⟩;rw[show decide (V.str (lw 1)=V.str "never")=false by decide+kernel];refine bL ?_;refine⟨_,rfl,rfl,_,rfl,?_⟩;rw[show decide (V.str (lw 1)=V.str "always")=true by decide+kernel];exact dH (q _ (cy (p:=⟨0,0,1⟩) (Uv H)))
 .refine⟨_,rfl,rfl,_,rfl,?_⟩;rw[show decide (V.str (lw 2)=V.str "never")=false by decide+kernel];refine bL ?_;refine⟨_,rfl,rfl,_,rfl,?_⟩;rw[show decide (V.str (lw 2)=V.str "always")=false by decide+kernel];refine bL ?_;refine⟨_,rfl,rfl,_,rfl,?_⟩;rw[show decide (V.str (lw 2)=V.str "p")=true by decide+kernel];exact dH (q _ (cy (p:=⟨1,0,0⟩) (sLP H)))
 .refine⟨_,rfl,rfl,_,rfl,?_⟩;rw[show decide (V.str (lw 3)=V.str "never")=false by decide+kernel];refine bL ?_;refine⟨_,rfl,rfl,_,rfl,?_⟩;rw[show decide (V.str (lw 3)=V.str "always")=false by decide+kernel];refine bL ?_;refine⟨_,rfl,rfl,_,rfl,?_⟩;rw[show decide (V.str (lw 3)=V.str "p")=false by decide+kernel];exact bL (q _ (cy (p:=⟨0,1,0⟩) (sLQ H)))
theorem ok_fold(T:aC K mg "fold_choice" jf)(ik:ff K mg "NEVER" [0,0,0])(fW:ff K mg "ALWAYS" [0,0,1])(tS:Def P w K mg base 1 "both" ["one","other"] (Te K Hu.pl))(eQ:Def P w K mg base 1 "without" ["one","other"] (Te K Hu.mi)):Def P w K mg base 2 "fold_choice" ["word","one","other"] (zQ K):=by
 refine aP T kG ?_ ?_
 .walk_at "i1"
 walk_at "i2";obtain⟨k,x,y,a,b,rfl,hk,dx,dy,q⟩:=h;obtain⟨NW,oq,Ut⟩:=ik.ex;obtain⟨MP,eV,Uv⟩:=fW.ex;have Qp:∀H,Dat K H (K9 Hu.al) (.ref MP):=λH=>cy (p:=Hu.al) (Uv H);have Xh:∀H,Dat K H (K9 Hu.z0) (.ref NW):=λH=>cy (p:=Hu.z0) (Ut H);have nd:=kG.nd
 refine⟨_,(ah (aS (aF bS (pv 0) aQ (aH _)) (ao (av (bj (aa (aK eQ (aa (aK tS (aa (pv 1) (aa (pv 2) af))) (aa (cV (v:=V.ref MP) rfl eV rfl) af))) (aa (aK tS (aa (pv 1) (aa (pv 2) af))) (aa (cV (v:=V.ref MP) rfl eV rfl) af)))))) aL)
  (ah (aS (aF bS (pv 0) aQ (aH _)) (ao (av (bj (aa (aK eQ (aa (aK tS (aa (pv 1) (aa (pv 2) af))) (aa (cV (v:=V.ref MP) rfl eV rfl) af))) (aa (cV (v:=V.ref NW) rfl oq rfl) (aa (aK eQ (aa (aK tS (aa (pv 1) (aa (pv 2) af))) (aa (cV (v:=V.ref MP) rfl eV rfl) af))) af)))))) aL)
  (ah (aS (aF bS (pv 0) aQ (aH _)) (ao (av (bj (aa (aK eQ (aa (pv 1) (aa (pv 2) af))) (aa (pv 2) (aa (pv 1) af)))))) aL)
  (ah (aS (aF bS (pv 0) aQ (aH _)) (ao (av (bj (aa (aK eQ (aa (pv 1) (aa (pv 2) af))) (aa (pv 1) (aa (pv 2) af)))))) aL)
  (ao (av (bj (aa (aK eQ (aa (pv 2) (aa (pv 1) af))) (aa (aK tS (aa (cV (v:=V.ref MP) rfl eV rfl) (aa (aK eQ (aa (pv 2) (aa (pv 1) af))) af))) (aa (cV (v:=V.ref MP) rfl eV rfl) af)))))))))),?_⟩
 have d2:(2:Nat)<=sizeLine:=by decide
 have d3:(3:Nat)<=sizeLine:=by decide
 rcases(by omega:k=0\/k=1\/k=2\/k=3\/k=4) with rfl | rfl | rfl | rfl | rfl
 .refine⟨_,rfl,rfl,_,rfl,?_⟩;rw[show decide (V.str (fw 0)=V.str "more")=true by decide+kernel];refine dH ?_;refine⟨_,rfl,_,rfl,_,_,a,b,rfl,dx,dy,λt1 H1 s1 e1=>?_⟩;refine⟨_,_,_,_,rfl,e1,Qp H1,λt2 H2 s2 e2=>?_⟩;have m2:=s1.trans s2;refine⟨_,rfl,_,rfl,_,_,a,b,rfl,dx.ts m2.ts,dy.ts m2.ts,λt3 H3 s3 e3=>⟨d3,λt ht=>?_⟩⟩;have u:=ak ht (.tup [.ref t2,.ref t3,.ref MP]);exact q _ _ (m2.trans (s3.trans u)) ⟨t,_,_,_,rfl,K6.of ae,(e2.ts s3.ts).ts u.ts,e3.ts u.ts,Qp _⟩
 .refine⟨_,rfl,rfl,_,rfl,?_⟩;rw[show decide (V.str (fw 1)=V.str "more")=false by decide+kernel];refine bL ?_;refine⟨_,rfl,rfl,_,rfl,?_⟩;rw[show decide (V.str (fw 1)=V.str "less")=true by decide+kernel];refine dH ?_;refine⟨_,rfl,_,rfl,_,_,a,b,rfl,dx,dy,λt1 H1 s1 e1=>?_⟩;refine⟨_,_,_,_,rfl,e1,Qp H1,λt2 H2 s2 e2=>?_⟩;have m2:=s1.trans s2;refine⟨_,rfl,_,rfl,_,_,a,b,rfl,dx.ts m2.ts,dy.ts m2.ts,λt3 H3 s3 e3=>?_⟩;refine⟨_,_,_,_,rfl,e3,Qp H3,λt4 H4 s4 e4=>⟨d3,λt ht=>?_⟩⟩;have u:=ak ht (.tup [.ref t2,.ref NW,.ref t4]);exact q _ _ (m2.trans (s3.trans (s4.trans u))) ⟨t,_,_,_,rfl,K6.of ae,((e2.ts s3.ts).ts s4.ts).ts u.ts,Xh _,e4.ts u.ts⟩
 .refine⟨_,rfl,rfl,_,rfl,?_⟩;rw[show decide (V.str (fw 2)=V.str "more")=false by decide+kernel];refine bL ?_;refine⟨_,rfl,rfl,_,rfl,?_⟩;rw[show decide (V.str (fw 2)=V.str "less")=false by decide+kernel];refine bL ?_;refine⟨_,rfl,rfl,_,rfl,?_⟩;rw[show decide (V.str (fw 2)=V.str "greater")=true by decide+kernel];refine dH ?_;refine⟨_,rfl,_,rfl,_,_,a,b,rfl,dx,dy,λt1 H1 s1 e1=>?_⟩;refine⟨_,rfl,_,rfl,d3,λt ht=>?_⟩;have u:=ak ht (.tup [.ref t1,y,x]);exact q _ _ (s1.trans u) ⟨t,_,_,_,rfl,K6.of ae,e1.ts u.ts,(dy.ts s1.ts).ts u.ts,(dx.ts s1.ts).ts u.ts⟩
 .refine⟨_,rfl,rfl,_,rfl,?_⟩;rw[show decide (V.str (fw 3)=V.str "more")=false by decide+kernel];refine bL ?_;refine⟨_,rfl,rfl,_,rfl,?_⟩;rw[show decide (V.str (fw 3)=V.str "less")=false by decide+kernel];refine bL ?_;refine⟨_,rfl,rfl,_,rfl,?_⟩;rw[show decide (V.str (fw 3)=V.str "greater")=false by decide+kernel];refine bL ?_;refine⟨_,rfl,rfl,_,rfl,?_⟩;rw[show decide (V.str (fw 3)=V.str "lesser")=true by decide+kernel];refine dH ?_;refine⟨_,rfl,_,rfl,_,_,a,b,rfl,dx,dy,λt1 H1 s1 e1=>?_⟩;refine⟨_,rfl,_,rfl,d3,λt ht=>?_⟩;have u:=ak ht (.tup [.ref t1,x,y]);exact q _ _ (s1.trans u) ⟨t,_,_,_,rfl,K6.of ae,e1.ts u.ts,(dx.ts s1.ts).ts u.ts,(dy.ts s1.ts).ts u.ts⟩
 .refine⟨_,rfl,rfl,_,rfl,?_⟩;rw[show decide (V.str (fw 4)=V.str "more")=false by decide+kernel];refine bL ?_;refine⟨_,rfl,rfl,_,rfl,?_⟩;rw[show decide (V.str (fw 4)=V.str "less")=false by decide+kernel];refine bL ?_;refine⟨_,rfl,rfl,_,rfl,?_⟩;rw[show decide (V.str (fw 4)=V.str "greater")=false by decide+kernel];refine bL ?_;refine⟨_,rfl,rfl,_,rfl,?_⟩;rw[show decide (V.str (fw 4)=V.str "lesser")=false by decide+kernel];refine bL ?_;refine⟨_,rfl,_,rfl,_,_,b,a,rfl,dy,dx,λt1 H1 s1 e1=>?_⟩;refine⟨_,rfl,_,rfl,_,_,b,a,rfl,dy.ts s1.ts,dx.ts s1.ts,λt2 H2 s2 e2=>?_⟩;refine⟨_,_,_,_,rfl,Qp H2,e2,λt3 H3 s3 e3=>⟨d3,λt ht=>?_⟩⟩;have u:=ak ht (.tup [.ref t1,.ref t3,.ref MP]);exact q _ _ (s1.trans (s2.trans (s3.trans u))) ⟨t,_,_,_,rfl,K6.of ae,((e1.ts s2.ts).ts s3.ts).ts u.ts,e3.ts u.ts,Qp _⟩
inductive ro(K:W.Frag)(vs:List V)(H:Hp)(Q:VK)(E:XK):Prop
 | mk (x lr ws r rs):vs=[x,.ref lr]->Dat K H (lR r) x->H lr=some (.lst ws)->DatAll K H (rs.map K9) ws->r.Ok rs.length->(∀v H',aJ H H'->Ch K H' (Hu.choice rs r) v->Q v H')->ro K vs H Q E
inductive rn(K:W.Frag)(vs:List V)(H:Hp)(Q:VK)(E:XK):Prop
 | mk (l v us h c):vs=[.ref l,v]->H l=some (.lst us)->DatAll K H (h.map K9) us->Ch K H c v->Hu.R3 3000 c.1->(∀p∈h,Hu.R3 3000 p)->0<h.length->h.length<=900->((∀x u H',aJ H H'->Hu.bg h c=some x->Dat K H' (K9 x) u->Q u H'))->((Hu.bg h c=none->∀H',aJ H H'->Q .non H'))->rn K vs H Q E
inductive qA(K:W.Frag)(vs:List V)(H:Hp)(Q:VK)(E:XK):Prop
 | mk (l lh:Addr) (us hs:List V) (rows:List Hu.Row) (h:List T3):vs=[.ref l,.ref lh]->H l=some (.lst us)->DatAll K H (rows.map lR) us->mY rows->0<rows.length->rows.length<=100->H lh=some (.lst hs)->DatAll K H (h.map K9) hs->(∀p∈h,Hu.R3 3000 p)->0<h.length->h.length<=900->((∀(rs:List T3)(t lr:Addr)(ws:List V)(H':Hp),aJ H H'->Hu.run h rows []=.rules rs->Hu.Rb rs->rs.length=rows.length->H lr=none->K6 K H' t [.str "rules",.ref lr]->H' lr=some (.lst ws)->DatAll K H' (rs.map K9) ws->Q (.ref t) H'))->((∀(k:Nat)(tt:T3)(t:Addr)(v:V)(H':Hp),aJ H H'->Hu.run h rows []=.mixed k tt->k<rows.length->Hu.R3 (k+1) tt->K6 K H' t [.str "mixed",.int k,v]->Dat K H' (K9 tt) v->Q (.ref t) H'))->qA K vs H Q E
theorem getD_at{rs:List T3}(hi:i<rs.length):rs[i]?=some (rs.getD i Hu.z0):=by rw[z5,c6 hi];rfl
theorem DM(T:aC K mg "choice_of" kN)(bG:mg "len"=none)(ik:ff K mg "NEVER" [0,0,0])(fW:ff K mg "ALWAYS" [0,0,1])(eQ:Def P w K mg base 1 "without" ["one","other"] (Te K Hu.mi))(zo:Def P w K mg base 1 "leaf_rule" ["word"] (zP K))
  (uq:Def P w K mg base 2 "fold_choice" ["word","one","other"] (zQ K)):Def P w K mg base 3 "choice_of" ["row","rules"] (ro K):=by
 refine aP T nM ?_ ?_
 .walk_at "i1"
 walk_at "i2";obtain⟨x,lr,ws,r,rs,rfl,dx,hl,da,ok,q⟩:=h;obtain⟨NW,oq,Ut⟩:=ik.ex;obtain⟨MP,eV,Uv⟩:=fW.ex;have Qp:∀H,Dat K H (K9 Hu.al) (.ref MP):=λH=>cy (p:=Hu.al) (Uv H);have Xh:∀H,Dat K H (K9 Hu.z0) (.ref NW):=λH=>cy (p:=Hu.z0) (Ut H);obtain⟨a,rfl,sx⟩:=FX dx;have nd:=nM.nd;have d3:(3:Nat)<=sizeLine:=by decide
 have sl:K7 K H lr ws:=K7.of hl
 refine⟨_,(ah (aS (aF bS (aG bJ bG (aa (pv 0) af)) aq (aH _)) (ao (av (aK uq (aa (aD aA (pv 0) aq) (aa (aD bH (pv 1) (aD aA (pv 0) aq)) (aa (aD bH (pv 1) (aD aA (pv 0) aq)) af)))))) aL)
  (ah (aI (i:=2) (kP (aF bS (aG bJ bG (aa (pv 0) af)) aq (aH _)) (aK zo (aa (aD aA (pv 0) aq) af)) (aK eQ (aa (cV (v:=V.ref MP) rfl eV rfl) (aa (aD bH (pv 1) (aD aA (pv 0) aq)) af)))))
  (ao (av (bj (aa (cV (v:=V.ref NW) rfl oq rfl) (aa (pv 2) (aa (pv 2) af)))))))),?_⟩
 cases r with
 | fd k i j =>
  obtain⟨hk,hi,hj⟩:=ok;obtain⟨y,hy,dy⟩:=lV da (getD_at hi);obtain⟨z,hz,dz⟩:=lV da (getD_at hj);refine⟨_,rfl,_,_,rfl,.inr ⟨_,sx,rfl⟩,rfl,_,rfl,dH ?_⟩;exact⟨_,rfl,_,_,_,_,rfl,rfl,sx,rfl,_,rfl,_,rfl,_,_,_,_,rfl,rfl,sx,rfl,_,_,_,_,rfl,rfl,sl,cC hy,_,rfl,_,rfl,_,_,_,_,rfl,rfl,sx,rfl,_,_,_,_,rfl,rfl,sl,cC hz,k,_,_,_,_,rfl,hk,dy,dz,q⟩
 | lf k =>
  refine⟨_,rfl,_,_,rfl,.inr ⟨_,sx,rfl⟩,rfl,_,rfl,bL ?_⟩;refine⟨_,rfl,_,_,rfl,.inr ⟨_,sx,rfl⟩,rfl,_,rfl,dH ?_⟩;refine⟨_,rfl,_,_,_,_,rfl,rfl,sx,rfl,k,rfl,ok,λv dv=>?_⟩;refine⟨_,rfl,_,rfl,d3,λt ht=>?_⟩;have u:=ak ht (.tup [.ref NW,v,v]);exact q _ _ u ⟨t,_,_,_,rfl,K6.of ae,Xh _,dv.ts u.ts,dv.ts u.ts⟩
 | nt i =>
  obtain⟨y,hy,dy⟩:=lV da (getD_at (show i<rs.length from ok));refine⟨_,rfl,_,_,rfl,.inr ⟨_,sx,rfl⟩,rfl,_,rfl,bL ?_⟩;refine⟨_,rfl,_,_,rfl,.inr ⟨_,sx,rfl⟩,rfl,_,rfl,bL ?_⟩;refine⟨_,rfl,_,rfl,_,_,_,_,rfl,rfl,sx,rfl,_,_,_,_,rfl,rfl,sl,cC hy,_,_,_,_,rfl,Qp H,dy,λt1 H1 s1 e1=>?_⟩;refine⟨_,rfl,_,rfl,d3,λt ht=>?_⟩;have u:=ak ht (.tup [.ref NW,.ref t1,.ref t1]);exact q _ _ (s1.trans u) ⟨t,_,_,_,rfl,K6.of ae,Xh _,e1.ts u.ts,e1.ts u.ts⟩
theorem DL(T:aC K mg "chosen_on" kM)(cA:mg "max"=none)(bR:mg "min"=none)(fZ:Def P w K mg base 2 "told_in_corners" ["rule","hull"] (BA K)):Def P w K mg base 3 "chosen_on" ["hull","choice"] (rn K):=by
 refine aP T nL ?_ ?_
 .walk_at "i1"
 walk_at "i2";obtain⟨l,v,us,h,c,rfl,hl,da,⟨t,x,y,z,rfl,st,d1,d2,d3⟩,br,bp,pos,few,qs,qn⟩:=h;have nd:=nL.nd
 refine⟨_,(ah (aI (i:=2) (aK fZ (aa (aD aA (pv 1) aq) (aa (pv 0) af))))
  (ah (aS (aF jz (aG (jC rfl) cA (aa (pv 2) af)) aq (aH _)) (ao (av (aD aA (pv 1) aq))) aL)
  (ah (aS (aF qf (aG (iy rfl) bR (aa (pv 2) af)) aq (aH _)) (ao (av (aD aA (pv 1) aq))) aL)
  (ao (av bN))))),?_⟩
 refine⟨_,rfl,_,_,_,_,rfl,rfl,st,rfl,_,rfl,x,l,us,c.1,h,rfl,d1,K7.of hl,da,br,bp,few,λH' s'=>K7.of (s' _ _ hl),λd H1 s1 _ hd=>?_⟩;have LA:0<(h.map (Hu.tl c.1)).length:=by rw[i7];exact pos
 have Z2:=st.ts s1.ts;refine⟨_,rfl,d,_,rfl,K7.of hd,LA,λM hM Mm=>?_⟩;refine⟨_,_,rfl,rfl,_,rfl,?_⟩;obtain⟨p1,LO,Tz⟩:=x8.mp hM;refine cJ (λcc=>?_) (λcc=>?_)
 .have c':M<=0:=c8 cc;have al:∀q∈h,Hu.tl c.1 q<=0:=λq hq=>Jm (Mm _ (x8.mpr ⟨q,hq,rfl⟩)) c';exact⟨_,rfl,_,_,_,_,rfl,rfl,Z2,rfl,qs _ _ _ s1 (by unfold Hu.bg;rw[d7 al]) (d2.ts s1.ts)⟩
 have c1:¬M<=0:=λz=>cc (e9 z);have n1:¬ ∀q∈h,Hu.tl c.1 q<=0:=λz=>by have:=z p1 LO;omega
 refine⟨_,rfl,d,_,rfl,K7.of hd,LA,λM2 NS Mc=>?_⟩;refine⟨_,_,rfl,rfl,_,rfl,?_⟩;obtain⟨p2,Lk,Qm⟩:=x8.mp NS;refine cJ (λcc=>?_) (λcc=>?_)
 .have c':0<=M2:=c8 cc;have al:∀q∈h,0<=Hu.tl c.1 q:=λq hq=>Jm c' (Mc _ (x8.mpr ⟨q,hq,rfl⟩));exact⟨_,rfl,_,_,_,_,rfl,rfl,Z2,rfl,qs _ _ _ s1 (by unfold Hu.bg;rw[d9 n1,d7 al]) (d3.ts s1.ts)⟩
 .have c2:¬0<=M2:=λz=>cc (e9 z);have n2:¬ ∀q∈h,0<=Hu.tl c.1 q:=λz=>by have:=z p2 Lk;omega
  exact qn (by unfold Hu.bg;rw[d9 n1,d9 n2]) _ s1
theorem GQ(T:aC K mg "rules_of_rows" hI)(cX:mg "enumerate"=none)(zr:Def P w K mg base 3 "choice_of" ["row","rules"] (ro K))(zq:Def P w K mg base 3 "chosen_on" ["hull","choice"] (rn K)):Def P w K mg base 4 "rules_of_rows" ["rows","hull"] (qA K):=by
 refine aP T jq ?_ ?_
 .walk_at "i1"
 walk_at "i2";obtain⟨l,lh,us,hs,rows,h,rfl,hl,da,ok,ne,few,ME,dh,bp,pos,L5,q1,q2⟩:=h;have nd:=jq.nd;have lu:=BU da;have d2:(2:Nat)<=sizeLine:=by decide
 have d3:(3:Nat)<=sizeLine:=by decide
 refine⟨_,(ah (aI (i:=2) (cf af))
  (ah (dB x5 rfl (wo rfl cX (pv 0)) (iH rfl (aX (aO (i:=3)) (aX (aO (i:=4)) di))) (ah (aI (i:=5) (aK zr (aa (pv 4) (aa (pv 2) af))))
  (ah (aI (i:=6) (aK zq (aa (pv 1) (aa (pv 5) af))))
  (ah (aS (aF ji (pv 6) bN (aH _)) (ao (av (bj (aa aQ (aa (pv 3) (aa (aD aA (pv 5) aq) af)))))) aL)
  (ao (bD (cO b9 i8 i9 bf (pv 2) (aa (pv 6) af))))))))
  (ao (av (bj (aa aQ (aa (pv 2) af))))))),?_⟩
 refine⟨(by show 0<=sizeLine;decide),λlr Mu=>?_⟩;have u0:=ak Mu (.lst []);have nl:l≠lr:=aE hl Mu;refine⟨_,rfl,l,rfl,⟨us,K7.of (u0 _ _ hl)⟩,?_⟩
 refine sS (xs:=us) (λi σ H'=>i<=us.length/\aJ H H'/\∃(ws:List V)(rs:List T3)(o3 o4 o5 o6:Option V),σ=[some (.ref l),some (.ref lh),some (.ref lr),o3,o4,o5,o6]/\H' lr=some (.lst ws)/\DatAll K H' (rs.map K9) ws/\rs.length=i/\Hu.Rb rs/\Hu.run h rows []=Hu.run h (rows.drop i) rs)
  ⟨x4 _,u0,[],[],_,_,_,_,rfl,ae,rfl,rfl,(λi x e=>by simp at e),rfl⟩ (λi σ H' _ z=>K7.of (z.2.1 _ _ hl)) (λi v T' σ H' hv z hT=>?_) (λσ H' z=>?_)
 .obtain⟨_,sm,ws,rs,o3,o4,o5,o6,rfl,MD,dr,Nk,rb,er⟩:=z;have hi:i<us.length:=(d6.mp hv).1;have uT:=ak hT (.tup [.int i,v]);have s2:=sm.trans uT;obtain⟨r,VL,dv⟩:=BV (da.ts s2.ts) hv;have Rm:r.Ok rs.length:=by rw[Nk];exact ok i r VL
  have dp:rows.drop i=r::rows.drop (i+1):=by
   obtain⟨g1,g2⟩:=d6.mp VL;rw[<- g2];exact C2 g1
  rw[dp]at er;obtain⟨cb,_,_⟩:=Hu.lg rb Rm;refine⟨T',_,rfl,K6.of ae,rfl,_,_,rfl,_,_,rfl,rfl,?_⟩;refine⟨_,rfl,_,rfl,v,lr,ws,r,rs,rfl,dv,uT _ _ MD,dr.ts uT.ts,Rm,λc H3 s3 hc=>?_⟩;have m3:=s2.trans s3;have RR:=s3 _ _ (uT _ _ MD);have Xg:=(dr.ts uT.ts).ts s3.ts;refine⟨_,rfl,_,rfl,lh,c,hs,h,Hu.choice rs r,rfl,m3 _ _ ME,dh.ts m3.ts,hc,cb.mono (by omega),bp,pos,L5,λx u H4 s4 ex du=>?_,λex H4 s4=>?_⟩
  .obtain⟨ua,rfl,su⟩:=cS du;refine⟨_,rfl,rfl,_,rfl,bL ?_⟩;have m4:=m3.trans s4;have RQ:=s4 _ _ RR;have lw:=eT Xg;refine⟨_,rfl,.inl ⟨rfl,_,K7.of RQ⟩,_,rfl,lr,ws,_,rfl,rfl,RQ,aZ (by omega),?_⟩;have t5:LY H4 (upd H4 lr (.lst (ws++[.ref ua]))):=dk RQ;refine⟨hi,aW m4 Mu _,ws++[.ref ua],rs++[x],_,_,_,_,rfl,ae,?_,?_,Hu.we rb (Hu.tK rb Rm ex),?_⟩
   .rw[l8];exact((Xg.ts s4.ts).ts t5).snoc (du.ts t5)
   .rw[c7,Nk];rfl
   .rw[er];show(match Hu.bg h (Hu.choice rs r) with | some x=>_ | none=>_)=_
    rw[ex]
  .obtain⟨t,x,y,z,rfl,st,e1,_,_⟩:=hc;refine⟨_,rfl,rfl,_,rfl,dH ?_⟩;refine⟨_,rfl,_,rfl,_,_,_,_,rfl,rfl,st.ts s4.ts,rfl,d3,λp hp=>?_⟩;have u:=ak hp (.tup [.str "mixed",.int i,x]);refine q2 i (Hu.choice rs r).1 p x _ (m3.trans (s4.trans u)) ?_ (by omega) (by rw[<- Nk];exact cb) (K6.of ae) ((e1.ts s4.ts).ts u.ts);rw[er];show(match Hu.bg h (Hu.choice rs r) with | some x=>_ | none=>_)=_
   rw[ex,Nk]
 .obtain⟨_,sm,ws,rs,o3,o4,o5,o6,rfl,MD,dr,Nk,rb,er⟩:=z;refine⟨_,rfl,d2,λp hp=>?_⟩;have u:=ak hp (.tup [.str "rules",.ref lr]);refine q1 rs p lr ws _ (sm.trans u) ?_ rb (by omega) Mu (K6.of ae) (u _ _ MD) (dr.ts u.ts);rw[er,List.drop_eq_nil_of_le (by omega)];rfl
noncomputable abbrev roN:List Str:=["saying","rows","place_of","waiting","part","taken","row"]
noncomputable abbrev XT (i j:Nat):Stmt:=match (bA ju).getD i (.Pass ⟨0,0,0,0⟩) with
 | .For _ _ b _ _=>b.getD j (.Pass ⟨0,0,0,0⟩)
 | _=>.Pass ⟨0,0,0,0⟩
theorem Ff{α:Type}:∀{R:List α}{k:Nat},k<R.length->∃x R1,R.drop k=x::R1/\R.take (k+1)=R.take k++[x]/\R.drop (k+1)=R1:=by
 intro R k h;refine⟨R[k],R.drop (k+1),C2 h,?_,rfl⟩;rw[A2,c6 h];rfl
theorem uN:aB roN ["saying"] (au ju):=L2.fsc rfl (by decide+kernel)
theorem DC(T:aC K mg "rows_of" ju)(bG:mg "len"=none)(bB:mg "tuple"=none)(M:Ms P w K mg base c)(G:∀t,bC P w K mg base (c.of t) "laid_out" 2 ["self"] (qZ c t)):Def P w K mg base 3 "rows_of" ["saying"] (qW c):=by
 refine aP T uN ?_ ?_
 .walk_at "i1"
 walk_at "i2";obtain⟨a,t,rfl,oa,ht,q⟩:=h;have nd:=uN.nd;have hu:=Cu hr
 have stT:∃ts,PS (cN CX0 P w K mg base roN "rows_of" (au ju) f cdv A outer s H E).nox (XT 3 0) ts/\∀(D:Ends)(o5 o6:Option V)(l1 d1 l3 b:Addr)(x:Tr)(R:List Nat)(H1:Hp),Ob c H1 b x->H1 l3=some (.lst (R.reverse.map λi:Nat=>V.int (i:Int)))->x.kids.length<=R.length->
   (∀l4 H2,l4≠l3->H1 l4=none->(∀d o,H1 d=some o->d≠l3->H2 d=some o)->H2 l3=some (.lst ((R.drop x.kids.length).reverse.map λi:Nat=>V.int (i:Int)))->H2 l4=some (.lst ((R.take x.kids.length).map λi:Nat=>V.int (i:Int)))->
    D.nx [some (.ref a),some (.ref l1),some (.ref d1),some (.ref l3),some (.ref b),some (.ref l4),o6] H2)->
   ts D [some (.ref a),some (.ref l1),some (.ref d1),some (.ref l3),some (.ref b),o5,o6] H1:=by
  refine⟨_,(lH (i:=5) (cq (gy (k:=1) (pv 4) (hr.mono (by decide)))) (bY (j:=3) cE) (λ_ _ _ _=>cM) (λ_ _ _ _=>(Oy (K:=K) rfl b9 B5 B6 kQ (pv 1)))),?_⟩;intro D o5 o6 l1 d1 l3 b x R H1 ob e3 hk fin;obtain⟨dx,fs,eb,nf⟩:=ob.cls;unfold pR;refine ix ?_;refine⟨_,rfl,b,_,_,_,_,_,rfl,eb,nf _ (by decide+kernel),M.made x,b,rfl,ob,λl us hl ou=>⟨l,rfl,⟨_,K7.of ae⟩,?_⟩⟩;have WS:=ou.len;have nl:l≠l3:=(aE e3 hl).symm
  refine vn (K:=K) (xs:=us) (λl' H'=>l'=l/\H'=upd H1 l (.lst us)) (λR' h=>h l _ ⟨rfl,rfl⟩) (λl' H' h=>by obtain⟨rfl,rfl⟩:=h;exact ae) (by rw[WS];have:=kU x;omega)
   (λl' D' i ys H'=>l'=l/\H1 D'=none/\D'≠l3/\ys=((R.take i).map λi:Nat=>V.int (i:Int))/\H' l3=some (.lst ((R.drop i).reverse.map λi:Nat=>V.int (i:Int)))/\∀d o,H1 d=some o->d≠l3->H' d=some o)
   (λl' H' D' h hD=>?_) (λl' D' i v ys H' hv nl' el eD h N hN=>?_) (λl' D' ys H' el eD h=>?_)
  .obtain⟨rfl,rfl⟩:=h;have OX:=ku hD;refine⟨rfl,OX,(aE e3 OX).symm,rfl,?_,λd o z _=>?_⟩
   .rw[az (aE e3 OX),az nl.symm];exact e3
   .rw[az (aE z OX),az (aE z hl)];exact z
  .obtain⟨rfl,OX,nD,rfl,TF,sm⟩:=h
   have hi:i<R.length:=by
    have:=(d6.mp hv).1;omega
   obtain⟨y,R1,d1',ZD,d3'⟩:=Ff hi;rw[d1',B9,l8]at TF;refine⟨_,rfl,.inl ⟨rfl,_,K7.of TF⟩,l3,_,_,rfl,rfl,TF,jn _ _,?_⟩;refine hN _ _ (by rw[az nl];exact el) (by rw[az nD];exact eD) ⟨rfl,OX,nD,?_,?_,λd o z n=>?_⟩
   .rw[ZD,l8];rfl
   .rw[az nD.symm,ae,d3'];exact x9 some (x9 HO.lst F2)
   .rw[az (aE z OX),az n];exact sm d o z n
  .obtain⟨rfl,OX,nD,rfl,TF,sm⟩:=h;rw[WS]at TF eD;exact fin D' H' nD OX sm TF eD
 obtain⟨tsT,htT,hqT⟩:=stT
 refine⟨_,ah (aI (i:=1) (cf af)) (ah (aI (i:=2) Gw) (ah (aI (i:=3) (cf af)) (ah (dB x5 rfl (cq (gy (k:=2) (pv 0) (hr.mono (by omega)))) (aO (i:=4)) (ah htT (ah (bD (jg b9 Kq Kr sJ (pv 5)))
  (ah (aI (i:=6) (aM Cc (bj (aa (gy (k:=1) (pv 4) (hr.mono (by decide))) af)) (cR cY bB (aa (pv 5) af))))
  (ah (aS (Rf (Dv hu (pv 6) (pv 2))) (ah (Om hu (pv 2) (pv 6) (aG bJ bG (aa (pv 1) af)) rfl)
  (ao (bD (cO b9 i8 i9 bf (pv 1) (aa (pv 6) af))))) aL)
  (ao (bD (cO b9 i8 i9 bf (pv 3) (aa (qG hu (pv 2) (pv 6)) af))))))))) (ao (av (pv 1)))))),?_⟩
 refine⟨(by show 0<=sizeLine;decide),λl1 h1=>?_⟩;intro d1 Mh;refine⟨(by show 0<=sizeLine;decide),λl3 Y8=>?_⟩;have h2:H d1=none:=ku Mh;have OJ:l1≠d1:=λe=>by subst e;rw[ae]at Mh;cases Mh
 have Y7:upd H l1 (.lst []) l3=none:=ku Y8;have h3:H l3=none:=ku Y7;have Tn:l1≠l3:=λe=>by subst e;rw[ae]at Y7;cases Y7
 have Tj:d1≠l3:=λe=>by subst e;rw[ae]at Y8;cases Y8
 have Uo:aJ H (upd (upd (upd H l1 (.lst [])) d1 (.dT [])) l3 (.lst [])):=λb o e=>by rw[az (aE e h3),az (aE e h2),az (aE e h1)];exact e
 have oa0:=oa.to (Kp.of Uo);obtain⟨dx,fs,ea,nf⟩:=oa0.cls;refine⟨_,rfl,a,_,_,_,_,_,rfl,ea,nf _ (by decide+kernel),G t,a,rfl,oa0,ht,λl us H' sm hl el ou=>⟨l,rfl,⟨_,K7.of el⟩,?_⟩⟩;have ul:=ou.len;rw[fN]at ul;have g1:H' l1=some (.lst []):=sm _ _ (by rw[az Tn,az OJ,ae]);have g2:H' d1=some (.dT []):=sm _ _ (by rw[az Tj,ae]);have g3:H' l3=some (.lst []):=sm _ _ ae
 have YU:H l=none:=by
  cases z:H l with
  | none=>rfl
  | some o=>rw[Uo _ _ z]at hl;cases hl
 have Yg:l≠l1:=λe=>by subst e;rw[az Tn,az OJ,ae]at hl;cases hl
 have nl3:l≠l3:=λe=>by subst e;rw[ae]at hl;cases hl
 have nld:l≠d1:=λe=>by subst e;rw[az Tj,ae]at hl;cases hl
 refine eM (xs:=us) (λi σ H2=>∃(o4 o5 o6:Option V)(rs:List Rw)(R:List Nat)(K8:List (Rw×V))(vs:List V),σ=[some (.ref a),some (.ref l1),some (.ref d1),some (.ref l3),o4,o5,o6]/\(∀d o,H' d=some o->d≠l1->d≠d1->d≠l3->H2 d=some o)/\
   H2 l1=some (.lst vs)/\cH (Ly H2) vs rs/\H2 d1=some (.dT K8)/\S0 K8 rs/\H2 l3=some (.lst (R.reverse.map λi:Nat=>V.int (i:Int)))/\R.length<=i/\rs.length<=i/\tW (rs,R) (t.post.drop i)=some (t.rows,[(t.putR []).2]))
  ⟨_,_,_,[],[],[],[],rfl,λd o z _ _ _=>z,g1,.nil,g2,S0.nil,g3,c5 _,c5 _,FU t⟩ (λi σ H2 _ h=>?_) (λi v σ H2 hi h=>?_) (λσ H2 h=>?_)
 .obtain⟨o4,o5,o6,rs,R,K8,vs,_,sb,_⟩:=h;exact K7.of (sb _ _ el Yg nld nl3)
 .obtain⟨o4,o5,o6,rs,R,K8,vs,rfl,sb,e1,rv,e2,pl,e3,hR,Vc,LV⟩:=h;obtain⟨x,hx,b,rfl,ob⟩:=ou.get i v hi;rw[CD hx]at LV;obtain⟨s',hs',LU⟩:=Ds LV;obtain⟨hk,rfl⟩:=FT hs';have hil:i<us.length:=(d6.mp hi).1;have kp:Kp H' H2:=λd o z f=>sb d o z (λe=>by subst e;rw[g1]at z;cases z;cases f) (λe=>by subst e;rw[g2]at z;cases z;cases f) (λe=>by subst e;rw[g3]at z;cases z;cases f)
  have UN:=ob.to kp;refine hqT _ _ _ l1 d1 l3 b x R H2 UN e3 hk λl4 H3 n43 h4 WE e33 Zq=>?_;have Yf:l4≠l1:=(aE e1 h4).symm;have Ye:l4≠d1:=(aE e2 h4).symm;have e31:H3 l1=some (.lst vs):=WE _ _ e1 Tn;have e3d:H3 d1=some (.dT K8):=WE _ _ e2 Tj;have kp3:Kp H2 H3:=λd o z f=>WE d o z (λe=>by subst e;rw[e3]at z;cases z;cases f)
  refine⟨_,rfl,.inl ⟨rfl,_,K7.of Zq⟩,l4,_,rfl,rfl,Zq,?_⟩;have UY:Kp H3 (upd H3 l4 (.lst ((R.take x.kids.length).map λi:Nat=>V.int (i:Int)).reverse)):=iM Zq rfl;rw[<- List.map_reverse]at UY ⊢;have ob4:=(UN.to kp3).to UY;obtain⟨dx',Zf,eb,Yh⟩:=ob4.cls;refine⟨_,rfl,b,_,_,_,_,_,rfl,eb,Yh _ (by decide+kernel),M.word x,b,rfl,ob4,(by show 1<=sizeLine;decide),λp1 LO=>?_⟩;have kx:=kU x;have e44:upd H3 l4 (.lst ((R.take x.kids.length).reverse.map λi:Nat=>V.int (i:Int))) l4=_:=ae;have np1:l4≠p1:=aE e44 LO;refine⟨_,rfl,l4,_,rfl,.inl ⟨K7.of (by rw[az np1];exact e44),λp2 Lk=>?_⟩⟩;have Yd:p1≠p2:=aE (ae (H:=upd H3 l4 (.lst ((R.take x.kids.length).reverse.map λi:Nat=>V.int (i:Int))))) Lk;refine yY (K:=K) (by rw[az Yd,ae]) ae (by simp) (by simp only[j9,JG,i7,C7,G0];exact l7 (show _<=3 by omega) (by decide)) λLH H6 s6 e6=>?_;have LK:aJ (upd H3 l4 (.lst ((R.take x.kids.length).reverse.map λi:Nat=>V.int (i:Int)))) H6:=((ak LO _).trans (ak Lk _)).trans s6;have NB:H6 LH=some (.tup ((fc x.word (R.take x.kids.length).reverse).map kV)):=by rw[vZ];exact e6
  generalize MC:fc x.word (R.take x.kids.length).reverse=r at NB LU;have Ze:H6 l1=some (.lst vs):=LK _ _ (by rw[az Yf.symm];exact e31);have Vn:H6 d1=some (.dT K8):=LK _ _ (by rw[az Ye.symm];exact e3d);have W9:H6 l3=some (.lst ((R.drop x.kids.length).reverse.map λi:Nat=>V.int (i:Int))):=LK _ _ (by rw[az n43.symm];exact e33);have kp6:Kp H2 H6:=(kp3.trans UY).trans (Kp.of LK)
  have sb6:∀d o,H' d=some o->d≠l1->d≠d1->d≠l3->H6 d=some o:=λd o z z1 z2 z3=>by
   have y2:=sb d o z z1 z2 z3;exact LK _ _ (by rw[az (aE y2 h4)];exact WE d o y2 z3)
  have NM:=rv.imp (Ly.to kp6);have vl:=rv.len;refine⟨_,rfl,_,rfl,d1,_,rfl,ko.t Vn NB,_,rfl,?_⟩;have hv:=pl.2 r;have big:K8.length<sizeLine:=by rw[pl.1];exact d8 (show rs.length<=1000 by omega) (by decide)
  cases MB:idx rs r with
  | some j =>
   rw[MB]at hv;rw[hv];refine bL ?_;have hp:bc rs r=(rs,j):=by unfold bc;rw[MB]
   rw[hp]at LU;refine⟨_,rfl,.inl ⟨rfl,_,K7.of W9⟩,_,rfl,_,rfl,d1,_,rfl,(by have z:=ko.t Vn NB;rw[hv]at z;exact z),l3,_,_,rfl,rfl,W9,?_,?_⟩
   .rw[i7,C7];exact d8 (show _<=1000 by rw[Jg];omega) (by decide)
   .have km:Kp H6 (upd H6 l3 (.lst (((R.drop x.kids.length).reverse.map λi:Nat=>V.int (i:Int))++[V.int (j:Int)]))):=iM W9 rfl;refine⟨_,_,_,rs,j::R.drop x.kids.length,K8,vs,rfl,λd o z z1 z2 z3=>by rw[az z3];exact sb6 d o z z1 z2 z3,by rw[az Tn];exact Ze,NM.imp (Ly.to km),by rw[az Tj];exact Vn,pl,by rw[ae,B9,l8];rfl,?_,by omega,LU⟩;rw[j9,Jg];omega
  | none =>
   rw[MB]at hv;rw[hv];refine dH ?_;have hp:bc rs r=(rs++[r],rs.length):=by unfold bc;rw[MB]
   rw[hp]at LU;refine⟨_,rfl,_,vs.length,rfl,.inl ⟨_,K7.of Ze,rfl⟩,_,rfl,_,rfl,d1,_,rfl,IU.t Vn NB big,?_⟩;rw[vl];have gA:upd H6 d1 (.dT (putK K8 r (.int (rs.length:Int)))) l1=some (.lst vs):=by rw[az OJ];exact Ze
   refine⟨_,rfl,.inl ⟨rfl,_,K7.of gA⟩,_,rfl,l1,_,_,rfl,rfl,gA,by rw[vl];exact d8 (show rs.length<=1000 by omega) (by decide),?_⟩;have k7:Kp H6 (upd (upd H6 d1 (.dT (putK K8 r (.int (rs.length:Int))))) l1 (.lst (vs++[.ref LH]))):=(iM Vn rfl).trans (iM gA rfl);have gB:upd (upd H6 d1 (.dT (putK K8 r (.int (rs.length:Int))))) l1 (.lst (vs++[.ref LH])) d1=some (.dT (putK K8 r (.int (rs.length:Int)))):=by rw[az OJ.symm,ae]
   have gC:upd (upd H6 d1 (.dT (putK K8 r (.int (rs.length:Int))))) l1 (.lst (vs++[.ref LH])) l3=some (.lst ((R.drop x.kids.length).reverse.map λi:Nat=>V.int (i:Int))):=by rw[az Tn.symm,az Tj.symm];exact W9
   have e7:=k7 _ _ NB rfl;have pl':=pl.put MB;have Mg:fq (putK K8 r (.int (rs.length:Int))) r=some (.int (rs.length:Int)):=by rw[jj,d7 rfl]
   refine⟨_,rfl,.inl ⟨rfl,_,K7.of gC⟩,_,rfl,_,rfl,d1,_,rfl,(by have z:=ko.t gB e7;rw[Mg]at z;exact z),l3,_,_,rfl,rfl,gC,?_,?_⟩
   .rw[i7,C7];exact d8 (show _<=1000 by rw[Jg];omega) (by decide)
   .have km:=iM (u:=.lst (((R.drop x.kids.length).reverse.map λi:Nat=>V.int (i:Int))++[V.int (rs.length:Int)])) gC rfl;refine⟨_,_,_,rs++[r],rs.length::R.drop x.kids.length,_,vs++[.ref LH],rfl,λd o z z1 z2 z3=>by rw[az z3,az z1,az z2];exact sb6 d o z z1 z2 z3,by rw[az Tn,ae],?_,by rw[az Tj];exact gB,pl',by rw[ae,B9,l8];rfl,?_,by rw[c7];simp;omega,LU⟩
    .exact((NM.imp (Ly.to k7)).imp (Ly.to km)).app (.cons ⟨LH,rfl,km _ _ e7 rfl⟩ .nil)
    .rw[j9,Jg];omega
 .obtain⟨o4,o5,o6,rs,R,K8,vs,rfl,sb,e1,rv,e2,pl,e3,hR,Vc,LV⟩:=h;rw[ul,<- fN,List.drop_length]at LV;cases LV
  refine⟨_,rfl,q l1 vs H2 (λd o z=>?_) h1 e1 rv⟩;exact sb d o (sm _ _ (Uo _ _ z)) (aE z h1) (aE z h2) (aE z h3)
theorem Iy(bs:List Bool)(hb:bs.length=xs.length)(Src:Addr->Hp->Prop)
  (Nl:∀R:It->Hp->Prop,(∀l H,Src l H->R (MR K l) H)->wi σ H R)(Lv:∀l H',Src l H'->H' l=some (.lst xs)/\aJ H H')(hx:xs.length<=1000)
  (ht:∀l H0 (i:Nat) v H' N,Src l H0->xs[i]?=some v->aJ H0 H'->(∀La,aJ H' La->N (bs.getD i false) La)->tc (some v::bQ js σ) H' N)
  (hs:∀(i:Nat) v H' N,xs[i]?=some v->aJ H H'->(∀La,aJ H' La->N v La)->te (some v::bQ js σ) H' N)
  (hd:∀D ys H',aJ H H'->H D=none->H' D=some (.lst ys)->ys.length=bs.countP id->Q (.ref D) H'):iS wi tc te js σ H Q:=by
 refine Nl _ λl H1 src=>?_;intro D hD;obtain⟨e,s1⟩:=Lv l H1 src;have nl:l≠D:=aE e hD;have hD0:H D=none:=s1.free hD;refine⟨λi m H'=>m=xs.length-i/\i<=xs.length/\H' l=some (.lst xs)/\aJ H1 H'/\∃ys,H' D=some (.lst ys)/\ys.length=(bs.take i).countP id,⟨xs.length,rfl,x4 _,by rw[az nl];exact e,ak hD _,[],ae,rfl⟩,?_⟩;rintro i m H2 ⟨rfl,hi,e2,s2,ys,eD,ly⟩
 have cle:(bs.take i).countP id<=i:=l7 List.countP_le_length (by rw[G0];omega)
 by_cases Le:i<xs.length
 .refine .inr ⟨⟨xs,xs[i],K7.of e2,by simp[Le]⟩,λv H3 y=>?_⟩;obtain⟨eh,y⟩:=y;subst eh;have hv:=y xs (K7.of e2);have hbi:i<bs.length:=by omega
  have tk:bs.take (i+1)=bs.take i++[bs.getD i false]:=by
   rw[A2,c6 hbi,z5,c6 hbi];rfl
  have ct:(bs.take (i+1)).countP id=(bs.take i).countP id+(if bs.getD i false=true then 1 else 0):=by
   rw[tk,Jn];congr 1;cases bs.getD i false<;>rfl
  refine ht l H1 i v _ _ src hv s2 λH4 s4=>?_
  by_cases hp:bs.getD i false=true
  .rw[d7 hp]at ct;rw[d7 hp];refine hs i v H4 _ hv ((s1.trans s2).trans s4) λH5 s5=>?_;have e5:=s5 _ _ (s4 _ _ eD);refine⟨_,e5,d8 (show _<=1000 by omega) (by decide),xs.length-(i+1),by omega,rfl,Le,?_,λd u z=>?_,ys++[v],ae,by rw[ct,c7,ly];rfl⟩
   .rw[az nl];exact s5 _ _ (s4 _ _ e2)
   .rw[az (aE z hD)];exact s5 _ _ (s4 _ _ (s2 _ _ z))
  .rw[d9 hp]at ct;rw[d9 hp];exact⟨xs.length-(i+1),by omega,rfl,Le,s4 _ _ e2,s2.trans s4,ys,s4 _ _ eD,by rw[ct,ly];rfl⟩
 .have ei:i=xs.length:=by omega
  subst ei;rw[<- hb,z9]at ly;exact .inl ⟨⟨xs,K7.of e2,c5 _⟩,hd D ys H2 (s1.trans s2) hD0 eD ly⟩
noncomputable def isF:Tr->Bool
 | .fold _ _ _=>true
 | _=>false
noncomputable def Tr.nf(t:Tr):Nat:=(t.post.map isF).countP id
def rj(c:CCs)(t:Tr):Sp:=λvs H Q _=>∃a,vs=[.ref a]/\Ob c H a t/\t.size<=1000/\∀H',aJ H H'->Q (.int (t.nf:Int)) H'
theorem uQ:aB ["self"] ["self"] (au fD):=L2.fsc rfl (by decide+kernel)
theorem DI(T:bF K C "folds" "Saying.folds" fD)(bG:mg "len"=none)(aR:mg "isinstance"=none)(S5:mg "Fold"=some (.ref Bs))(fx:Fx K c)(kf:∀t,PySem.W.kitOne K (.ref (c.of t)) (.ref Bs)=some (isF t))(G:∀t,bC P w K mg base (c.of t) "laid_out" 2 ["self"] (qZ c t)):bC P w K mg base C "folds" 3 ["self"] (rj c t):=by
 refine bM T uQ ?_ ?_
 .walk_at "i1"
 walk_at "i2";obtain⟨a,rfl,oa,ht,q⟩:=h;have nd:=uQ.nd;obtain⟨dx,fs,ea,nf⟩:=oa.cls;refine⟨_,(ao (av (aG bJ bG (aa (dC (cq (gy (k:=2) (pv 0) (hr.mono (by omega)))) cE (λ_ _ _ _=>(Ot (eB (aG (Ex (K:=K) rfl) aR (aa (pv 0) (aa (cV (v:=V.ref Bs) rfl S5 rfl) af)))))) (λ_ _ _ _=>(pv 0))) af)))),?_⟩;dsimp only[Fi,Nd,tC,Nf,dZ,lQ];refine ix ?_;refine⟨_,rfl,a,_,_,_,_,_,rfl,ea,nf _ (by decide+kernel),G t,a,rfl,oa,ht,λl us H1 s1 hl el ou=>⟨l,rfl,⟨_,K7.of el⟩,?_⟩⟩;have lu:=ou.len;have lp:=fN t;refine Iy (K:=K) (t.post.map isF) (by rw[i7,lu]) (λl' H'=>l'=l/\H'=H1) (λR k=>k l H1 ⟨rfl,rfl⟩) (λl' H' z=>by obtain⟨rfl,rfl⟩:=z;exact⟨el,aJ.refl _⟩) (by omega) (λl' H0 i v H2 N z hv s2 hN=>?_) (λi v H2 N hv s2 hN=>⟨_,rfl,hN _ (aJ.refl _)⟩) (λD ys H2 s2 hD eD ly=>?_)
 .obtain⟨rfl,rfl⟩:=z;obtain⟨x,hx,b,rfl,ob⟩:=(ou.imp (MQ.to (Kp.of s2))).get i v hv;have e:(t.post.map isF).getD i false=isF x:=by rw[z5,w6,hx];rfl
  rw[e]at hN;exact⟨_,rfl,_,_,_,_,_,rfl,(λu z=>z),fx.ty ob,kf x,_,rfl,hN _ (aJ.refl _)⟩
 .refine⟨_,_,rfl,.inl ⟨_,K7.of eD,rfl⟩,?_⟩;rw[ly];exact q _ (s1.trans s2)
noncomputable def u5:W5->Nat | .more=>0 | .less=>1 | .greater=>2 | .lesser=>3 | .leads=>4
theorem VG(u:W5):fw (u5 u)=u.str:=by cases u<;>rfl
noncomputable def dU:Gr->Hu.Row
 | .ne=>.lf 0 | .al=>.lf 1 | .p=>.lf 2 | .q=>.lf 3
 | .no i=>.nt i
 | .fold u i j=>.fd (u5 u) i j
theorem Dh(h:Ly H v g.rw):Dat K H (lR (dU g)) v:=by
 obtain⟨a,rfl,e⟩:=h;unfold Gr.rw at e;rw[vZ]at e;refine Q8 (K6.of ?_);rw[e];cases g with
 | fold u i j=>show _=some (HO.tup [V.str (fw (u5 u)),.int i,.int j]);rw[VG];rfl
 | _=>rfl
theorem Fb{k:Nat}(h:S7 k g):(dU g).Ok k:=by
 cases g with
 | ne=>show 0<4;decide
 | al=>show 1<4;decide
 | p=>show 2<4;decide
 | q=>show 3<4;decide
 | no i=>exact h i (by simp[Gr.nums])
 | fold u i j=>exact⟨by cases u<;>decide,h i (by simp[Gr.nums]),h j (by simp[Gr.nums])⟩
noncomputable def MX(r:Rw):Bool:=r.length==3
theorem lG(rs:List Rw)(r:Rw):(bc rs r).1.countP MX<=rs.countP MX+(if MX r=true then 1 else 0):=by
 unfold bc;cases idx rs r with
 | some i=>show rs.countP MX<=_;omega
 | none =>
  show(rs++[r]).countP MX<=_;rw[Jn];refine Nat.add_le_add_left ?_ _;cases h:MX r<;>simp[h]
theorem uZ(t:Tr):(Tr.no t).nf=t.nf:=by
 show((t.post++[Tr.no t]).map isF).countP id=_;rw[l8,Jn];rfl
theorem fO(u:W5)(a b:Tr):(Tr.fold u a b).nf=a.nf+b.nf+1:=by
 show((a.post++b.post++[Tr.fold u a b]).map isF).countP id=_;rw[l8,l8,Jn,Jn];rfl
theorem qF:∀(t:Tr)(rs:List Rw),(t.putR rs).1.countP MX<=rs.countP MX+t.nf
 | .no t,rs=>by
  have h1:=qF t rs;have h2:=lG (t.putR rs).1 (fc "not" [(t.putR rs).2]);have e:MX (fc "not" [(t.putR rs).2])=false:=rfl;rw[e,d9 (by decide)]at h2;rw[uZ];exact l7 h2 h1
 | .fold w a b,rs=>by
  have h1:=qF a rs;have h2:=qF b (a.putR rs).1;have h3:=lG (b.putR (a.putR rs).1).1 (fc w.str [(a.putR rs).2,(b.putR (a.putR rs).1).2]);have e:MX (fc w.str [(a.putR rs).2,(b.putR (a.putR rs).1).2])=true:=rfl;rw[e,d7 rfl]at h3;rw[fO];have:((Tr.fold w a b).putR rs).1.countP MX<=_:=h3;omega
 | .never,rs=>lG rs (fc "never" [])
 | .always,rs=>lG rs (fc "always" [])
 | .lp,rs=>lG rs (fc "p" [])
 | .lq,rs=>lG rs (fc "q" [])
theorem Ib:∀gs:List Gr,Hu.fds (gs.map dU)=(gs.map Gr.rw).countP MX
 | []=>rfl
 | g::r=>by
  have ih:=Ib r;unfold Hu.fds at ih ⊢;rw[z7,z7,List.countP_cons,List.countP_cons,ih];congr 1;cases g<;>rfl
noncomputable def Lp:Hu.Tc->PyData
 | .leaf=>.tuple [.str "leaf"]
 | .cut r l g=>.tuple [.str "cut",K9 r,Lp l,Lp g]
section
variable{K:W.Frag}{H H':Hp}{v:V}
theorem N4(d:Dat K H (Lp .leaf) v):∃a,v=.ref a/\K6 K H a [.str "leaf"]:=by
 unfold Lp at d;obtain⟨a,xs,rfl,g,x,r,rfl,hx,hr⟩:=d;cases(show x=V.str "leaf" from hx)
 cases(show r=[] from hr)
 exact⟨a,rfl,g⟩
theorem Fe(d:Dat K H (Lp (.cut r l g)) v):∃a x y z,v=.ref a/\K6 K H a [.str "cut",x,y,z]/\Dat K H (K9 r) x/\Dat K H (Lp l) y/\Dat K H (Lp g) z:=by
 unfold Lp at d;obtain⟨a,xs,rfl,s,w,t,rfl,hw,x,t2,rfl,hx,y,t3,rfl,hy,z,t4,rfl,hz,h4⟩:=d;cases(show w=V.str "cut" from hw)
 cases(show t4=[] from h4)
 exact⟨a,x,y,z,rfl,s,hx,hy,hz⟩
theorem oF(g:K6 K H a [.str "leaf"]):Dat K H (Lp .leaf) (.ref a):=by
 unfold Lp;exact⟨a,_,rfl,g,_,_,rfl,rfl,rfl⟩
theorem Fd(s:K6 K H a [.str "cut",x,y,z])(h1:Dat K H (K9 r) x)(h2:Dat K H (Lp l) y)(h3:Dat K H (Lp g) z):Dat K H (Lp (.cut r l g)) (.ref a):=by
 unfold Lp;exact⟨a,_,rfl,s,_,_,rfl,rfl,_,_,rfl,h1,_,_,rfl,h2,_,_,rfl,h3,rfl⟩
end
namespace Hu
theorem nS:∀a rs,run h (a++[r]) rs=match run h a rs with
  | .rules LM=>(match bg h (choice LM r) with | some x=>.rules (LM++[x]) | none=>.mixed LM.length (choice LM r).1)
  | .mixed k t=>.mixed k t
 | [],rs=>by
  show run h [r] rs=_;simp only[run]
  all_goals (cases bg h (choice rs r)<;>rfl)
 | x::a,rs=>by
  simp only[y7,run];cases bg h (choice rs x) with
  | none=>rfl
  | some y=>exact nS a _
theorem dG(h:List T3)(x:T3):bg h (z0,x,x)=some x:=by
 unfold bg;rw[d7 λq _=>Jz (pQ q)]
end Hu
noncomputable def rl(g:List T3):Tr->Option T3
 | .never=>some (Hu.lft 0)
 | .always=>some (Hu.lft 1)
 | .lp=>some (Hu.lft 2)
 | .lq=>some (Hu.lft 3)
 | .no t=>(rl g t).map λr=>Hu.mi Hu.al r
 | .fold u a b=>match rl g a,rl g b with
  | some x,some y=>Hu.bg g (Hu.fch (u5 u) x y)
  | _,_=>none
theorem wd(g:List T3):∀t:Tr,rl g t≠none->∀x∈t.post,rl g x≠none
 | .no t,h,x,hx=>by
  rcases j6.mp (show x∈t.post++[.no t] from hx) with z | z
  .exact wd g t (λe=>h (by show(rl g t).map _=none;rw[e];rfl)) x z
  .rw[c9.mp z];exact h
 | .fold u a b,h,x,hx=>by
  rcases j6.mp (show x∈a.post++b.post++[.fold u a b] from hx) with z | z
  .rcases j6.mp z with z | z
   .exact wd g a (λe=>h (by unfold rl;rw[e])) x z
   .refine wd g b (λe=>h ?_) x z;unfold rl;rw[e];cases rl g a<;>rfl
  .rw[c9.mp z];exact h
 | .never,h,x,hx=>by rw[c9.mp hx];exact h
 | .always,h,x,hx=>by rw[c9.mp hx];exact h
 | .lp,h,x,hx=>by rw[c9.mp hx];exact h
 | .lq,h,x,hx=>by rw[c9.mp hx];exact h
theorem ye{g:List T3}{ts:List Tr}{rs:List T3}(e:ts.map (rl g)=rs.map some){t:Tr}(h:ts[i]?=some t):rl g t=some (rs.getD i Hu.z0):=by
 have z:(ts.map (rl g))[i]?=some (rl g t):=by rw[w6,h];rfl
 rw[e,w6]at z;rw[z5];cases q:rs[i]? with
 | none=>rw[q]at z;cases z
 | some r=>rw[q]at z;exact(j8 z).symm
theorem tJ(e:ts.map (rl g)=rs.map some)(h:MZ ts gr t):Hu.bg g (Hu.choice rs (dU gr))=rl g t:=by
 cases gr with
 | ne=>cases t<;>first | exact h.elim | exact Hu.dG _ _
 | al=>cases t<;>first | exact h.elim | exact Hu.dG _ _
 | p=>cases t<;>first | exact h.elim | exact Hu.dG _ _
 | q=>cases t<;>first | exact h.elim | exact Hu.dG _ _
 | no i =>
  cases t<;>first | exact h.elim | skip
  rename_i t;have z:=ye e (show ts[i]?=some t from h);show Hu.bg g (Hu.z0,Hu.mi Hu.al (rs.getD i Hu.z0),Hu.mi Hu.al (rs.getD i Hu.z0))=(rl g t).map _;rw[z,Hu.dG];rfl
 | fold u i j =>
  cases t<;>first | exact h.elim | skip
  rename_i v a b;obtain⟨rfl,h1,h2⟩:=h;have z1:=ye e h1;have z2:=ye e h2;show Hu.bg g (Hu.fch (u5 u) (rs.getD i Hu.z0) (rs.getD j Hu.z0))=rl g (.fold u a b)
  conv=>rhs;unfold rl
  rw[z1,z2]
theorem BR(g:List T3)(h:Tab gs ts):(∃rs,Hu.run g (gs.map dU) []=.rules rs/\ts.map (rl g)=rs.map some)\/(∃k t,Hu.run g (gs.map dU) []=.mixed k t)/\∃x∈ts,rl g x=none:=by
 induction h with
 | nil=>exact .inl ⟨[],rfl,rfl⟩
 | snoc hT r ih =>
  rename_i gs ts gr t;rw[l8];show(∃rs,Hu.run g (gs.map dU++[dU gr]) []=_/\_)\/_;rw[Hu.nS];rcases ih with⟨rs,e,q⟩ | ⟨⟨k,tt,e⟩,x,hx,q⟩
  .rw[e];dsimp only;rw[tJ q r];cases z:rl g t with
   | some x=>exact .inl ⟨rs++[x],rfl,by rw[l8,l8,q];simp[z]⟩
   | none =>
    refine .inr ⟨⟨rs.length,(Hu.choice rs (dU gr)).1,?_⟩,t,l9 _ v8,z⟩;show Hu.run g (gs.map dU++[dU gr]) []=_;rw[Hu.nS,e];dsimp only;rw[tJ q r,z]
  .rw[e];refine .inr ⟨⟨k,tt,?_⟩,x,A5 _ hx,q⟩;show Hu.run g (gs.map dU++[dU gr]) []=_;rw[Hu.nS,e]
theorem QH(h:Tab gs ts):mY (gs.map dU):=λk r hr=>by
 rw[w6]at hr;cases z:gs[k]? with
 | none=>rw[z]at hr;cases hr
 | some g=>rw[z]at hr;cases hr;exact Fb (h.ok k g z)
structure ki(rs:List Rw)(ts:List Tr)(rows:List Hu.Row):Prop where
 gr:∃gs:List Gr,rs=gs.map Gr.rw/\Tab gs ts/\rows=gs.map dU
theorem ki.ok(R:ki rs ts rows):mY rows:=by
 obtain⟨gs,_,h,rfl⟩:=R.gr;exact QH h
theorem ki.len(R:ki rs ts rows):rows.length=rs.length/\rs.length=ts.length:=by
 obtain⟨gs,rfl,h,rfl⟩:=R.gr;exact⟨by simp,by rw[i7];exact h.len⟩
theorem ki.fd(R:ki rs ts rows):Hu.fds rows=rs.countP MX:=by
 obtain⟨gs,rfl,h,rfl⟩:=R.gr;exact Ib gs
theorem ki.dat(R:ki rs ts rows)(al:cH (Ly H) us rs):DatAll K H (rows.map lR) us:=by
 obtain⟨gs,rfl,h0,rfl⟩:=R.gr;clear R h0
 induction gs generalizing us with
 | nil=>cases al;rfl
 | cons g r ih =>
  cases al with
  | cons h k=>exact⟨_,_,rfl,Dh h,ih k⟩
theorem ki.run(R:ki rs ts rows)(g:List T3):(∃out,Hu.run g rows []=.rules out/\ts.map (rl g)=out.map some)\/(∃k t,Hu.run g rows []=.mixed k t)/\∃x∈ts,rl g x=none:=by
 obtain⟨gs,_,h,rfl⟩:=R.gr;exact BR g h
theorem yc(t:Tr):∃ts rows,ki t.rows (ts++[t]) rows/\∀x∈ts++[t],x∈t.post:=by
 obtain⟨gs,ts,e,h,hp,_⟩:=FV t;exact⟨ts,_,⟨gs,e,h,rfl⟩,hp⟩
noncomputable def bu(t:Tr):List Hu.Row:=Classical.choose (JS (yc t))
theorem yb(t:Tr):∃ts,ki t.rows (ts++[t]) (bu t)/\∀x∈ts++[t],x∈t.post:=⟨_,JS (JS (yc t))⟩
structure Wf(t:Tr)(rows:List Hu.Row):Prop where
 ok:mY rows
 pos:0<rows.length
 len:rows.length<=t.size
 fd:Hu.fds rows<=t.nf
 dat:∀{K:W.Frag}{H:Hp}{us:List V},cH (Ly H) us t.rows->DatAll K H (rows.map lR) us
 run:∀g:List T3,(∃out r,Hu.run g rows []=.rules out/\out.getLast?=some r/\rl g t=some r)\/(∃k x,Hu.run g rows []=.mixed k x)/\rl g t=none
theorem FW(t:Tr):t.rows.length<=t.size:=by
 have:=jw t [];show(t.putR []).1.length<=_;simpa using this
theorem sf(t:Tr):Wf t (bu t):=by
 obtain⟨ts,R,hp⟩:=yb t;obtain⟨l1,l2⟩:=R.len;have l3:=FW t;refine⟨R.ok,by rw[l1,l2];simp,by omega,?_,λal=>R.dat al,λg=>?_⟩
 .rw[R.fd];have:=qF t [];rw[List.countP_nil,Nat.zero_add]at this;exact this
 .rcases R.run g with⟨out,e,q⟩ | ⟨e,x,hx,q⟩
  .have z:(out.map some).getLast?=some (rl g t):=by rw[<- q,l8];simp
   rw[List.getLast?_map]at z;cases y:out.getLast? with
   | none=>rw[y]at z;cases z
   | some r=>rw[y]at z;exact .inl ⟨out,r,e,y,(j8 z).symm⟩
  .refine .inr ⟨e,?_⟩;cases y:rl g t with
   | none=>rfl
   | some r=>exact absurd q (wd g t (by rw[y];exact λz=>nomatch z) x (hp x hx))
def Bd(n:Nat)(r:T3):Prop:=r.u.natAbs<=n/\r.v.natAbs<=n/\r.w.natAbs<=n
theorem Sx(a b:Int):(a-b).natAbs<=a.natAbs+b.natAbs:=by omega
theorem Bd.mono{m:Nat}{x:T3}(h:Bd m x)(k:m<=n):Bd n x:=⟨l7 h.1 k,l7 h.2.1 k,l7 h.2.2 k⟩
theorem Bd.pl{m:Nat}{x y:T3}(h:Bd m x)(k:Bd n y):Bd (m+n) (Hu.pl x y):=⟨l7 (KA _ _) (Jw h.1 k.1),l7 (KA _ _) (Jw h.2.1 k.2.1),l7 (KA _ _) (Jw h.2.2 k.2.2)⟩
theorem Bd.mi{m:Nat}{x y:T3}(h:Bd m x)(k:Bd n y):Bd (m+n) (Hu.mi x y):=⟨l7 (Sx _ _) (Jw h.1 k.1),l7 (Sx _ _) (Jw h.2.1 k.2.1),l7 (Sx _ _) (Jw h.2.2 k.2.2)⟩
theorem tM:Bd 1 Hu.al:=⟨by decide,by decide,by decide⟩
theorem Ie{m:Nat}(hx:Bd m x)(hy:Bd n y):Bd (m+n+1) (Hu.fch (u5 u) x y).1/\Bd (m+n+1) (Hu.fch (u5 u) x y).2.1/\Bd (m+n+1) (Hu.fch (u5 u) x y).2.2:=by
 have o:1<=m+n+1:=by omega
 cases u with
 | more=>exact⟨(hx.pl hy).mi tM,(hx.pl hy).mono (by omega),tM.mono o⟩
 | less=>exact⟨(hx.pl hy).mi tM,⟨x4 _,x4 _,x4 _⟩,(hx.pl hy).mi tM⟩
 | greater=>exact⟨(hx.mi hy).mono (by omega),hy.mono (by omega),hx.mono (by omega)⟩
 | lesser=>exact⟨(hx.mi hy).mono (by omega),hx.mono (by omega),hy.mono (by omega)⟩
 | leads=>exact⟨(hy.mi hx).mono (by omega),(tM.pl (hy.mi hx)).mono (by omega),tM.mono o⟩
theorem yd:∀{t:Tr}{r:T3},rl g t=some r->Bd t.size r
 | .never,r,h=>by cases h;exact⟨by decide,by decide,by decide⟩
 | .always,r,h=>by cases h;exact⟨by decide,by decide,by decide⟩
 | .lp,r,h=>by cases h;exact⟨by decide,by decide,by decide⟩
 | .lq,r,h=>by cases h;exact⟨by decide,by decide,by decide⟩
 | .no t,r,h=>by
  have e0:rl g (.no t)=(rl g t).map λr=>Hu.mi Hu.al r:=rfl;rw[e0]at h;cases e:rl g t with
  | none=>rw[e]at h;cases h
  | some x =>
   rw[e]at h;cases h
   exact(tM.mi (yd e)).mono (Nat.le_of_eq (Nat.add_comm _ _))
 | .fold u a b,r,h=>by
  unfold rl at h;cases e1:rl g a with
  | none=>rw[e1]at h;cases h
  | some x=>cases e2:rl g b with
   | none=>rw[e1,e2]at h;cases h
   | some y =>
    rw[e1,e2]at h;obtain⟨_,k1,k2⟩:=Ie (u:=u) (yd e1) (yd e2);show Bd (a.size+b.size+1) r;dsimp only at h;unfold Hu.bg at h;split at h
    .cases h;exact k1
    .split at h
     .cases h;exact k2
     .cases h
theorem Hl(g:List T3)(h:Tab gs ts)(hs:∀x∈ts,x.size<=N):∀k tt,Hu.run g (gs.map dU) []=.mixed k tt->Bd N tt:=by
 induction h with
 | nil=>intro k tt e;cases e
 | snoc hT r ih =>
  rename_i gs ts gr t;intro k tt e;rw[l8]at e;have e:Hu.run g (gs.map dU++[dU gr]) []=.mixed k tt:=e;rw[Hu.nS]at e;rcases BR g hT with⟨rs,e1,q⟩ | ⟨⟨k',tt',e1⟩,_⟩
  .rw[e1]at e;dsimp only at e;cases z:Hu.bg g (Hu.choice rs (dU gr)) with
   | some x=>rw[z]at e;cases e
   | none =>
    rw[z]at e;cases e
    have st:=hs t (l9 _ v8);cases gr with
    | ne=>rw[show Hu.choice rs (dU .ne)=(Hu.z0,Hu.lft 0,Hu.lft 0) from rfl,Hu.dG]at z;cases z
    | al=>rw[show Hu.choice rs (dU .al)=(Hu.z0,Hu.lft 1,Hu.lft 1) from rfl,Hu.dG]at z;cases z
    | p=>rw[show Hu.choice rs (dU .p)=(Hu.z0,Hu.lft 2,Hu.lft 2) from rfl,Hu.dG]at z;cases z
    | q=>rw[show Hu.choice rs (dU .q)=(Hu.z0,Hu.lft 3,Hu.lft 3) from rfl,Hu.dG]at z;cases z
    | no i=>rw[show Hu.choice rs (dU (.no i))=(Hu.z0,Hu.mi Hu.al (rs.getD i Hu.z0),Hu.mi Hu.al (rs.getD i Hu.z0)) from rfl,Hu.dG]at z;cases z
    | fold u i j =>
     cases t<;>first | exact r.elim | skip
     rename_i v a b;obtain⟨rfl,h1,h2⟩:=r;have b1:=yd (ye q h1);have b2:=yd (ye q h2);have st:a.size+b.size+1<=N:=st;obtain⟨k1,k2,k3⟩:=(Ie (u:=u) b1 b2).1;exact⟨l7 k1 st,l7 k2 st,l7 k3 st⟩
  .rw[e1]at e;cases e
   exact ih (λx hx=>hs x (A5 _ hx)) _ _ e1
theorem Bd.r3(h:Bd n r)(hn:n<256):Hu.R3 8 r:=⟨d8 h.1 hn,d8 h.2.1 hn,d8 h.2.2 hn⟩
def Sml(rows:List Hu.Row):Prop:=∀g (k:Nat) t,Hu.run g rows []=.mixed k t->Hu.R3 8 t
theorem Um(h:a.size<=60):Sml (bu a):=λg k t e=>by
 obtain⟨ts,R,hp⟩:=yb a;obtain⟨gs,_,hT,er⟩:=R.gr;rw[er]at e;exact(Hl g (N:=60) hT (λx hx=>l7 (gx a x (hp x hx)) h) k t e).r3 (by decide)
end Mine
namespace L2
open PySem PySem.Spec PyProof.Rows
variable{N:List Str}{x:Str}{i n:Nat}{ks:List (Option Expr)}{vs:List Expr}{MJ:List (TE×TE)}{id:String}{ss rest b e:List Stmt}{st:Stmt}{u:TS}{c:Expr}{tc:TT}
inductive Lt where
 | non | bl (b:Bool) | int (i:Int) | str (x:Str) | var (i:Nat) | tup (xs:List Lt) | lst (xs:List Lt) | dic
noncomputable def EW(sc:Scope)(x:Str):Bool:=match sc.names.lookup x with
 | some .local=>true
 | some .cell=>true
 | some .free=>true
 | _=>false
mutual
noncomputable def litE(N:List Str)(sc:Scope):Expr->Option Lt
 | .Constant .none _ _=>some .non
 | .Constant (.bool b) _ _=>some (.bl b)
 | .Constant (.int i) _ _=>some (.int i)
 | .Constant (.str x) _ _=>some (.str x)
 | .UnaryOp .USub (.Constant (.int i) _ _) _=>some (.int (-i))
 | .Name x _=>match N.idxOf? x with
  | some i=>if EW sc x && !(x==("__debug__":Str)) && !(x==("__classdict__":Str)) then some (.var i) else none
  | none=>none
 | .Tuple es _ _=>match mf N sc es with
  | some xs=>some (.tup xs)
  | none=>none
 | .List es _=>match mf N sc es with
  | some xs=>some (.lst xs)
  | none=>none
 | .Dict [] [] _=>some .dic
 | _=>none
noncomputable def mf(N:List Str)(sc:Scope):List Expr->Option (List Lt)
 | []=>some []
 | e::es=>match litE N sc e,mf N sc es with
  | some x,some xs=>if plainArg e then some (x::xs) else none
  | _,_=>none
end
mutual
noncomputable def QM:Lt->TE
 | .non=>tC .non
 | .bl b=>tC (.bl b)
 | .int i=>tC (.int i)
 | .str x=>tC (.str x)
 | .var i=>Fg i
 | .tup xs=>N5 (xx xs)
 | .lst xs=>N6 (xx xs)
 | .dic=>Fl
noncomputable def xx:List Lt->TA
 | []=>lQ
 | x::xs=>dZ (QM x) (xx xs)
end
mutual
def NX(σ:St)(H:Hp):Lt->V->Prop
 | .non,v=>v=.non
 | .bl b,v=>v=.bl b
 | .int i,v=>v=.int i
 | .str x,v=>v=.str x
 | .var i,v=>σ[i]?=some (some v)
 | .tup xs,v=>∃a us,v=.ref a/\H a=some (.tup us)/\lT σ H xs us
 | .lst xs,v=>∃a us,v=.ref a/\H a=some (.lst us)/\lT σ H xs us
 | .dic,v=>∃a,v=.ref a/\H a=some (.dK [])
def lT(σ:St)(H:Hp):List Lt->List V->Prop
 | [],us=>us=[]
 | x::xs,us=>∃u r,us=u::r/\NX σ H x u/\lT σ H xs r
end
mutual
noncomputable def Cj(σ:St):Lt->Bool
 | .var i=>match σ[i]? with | some (some _)=>true | _=>false
 | .tup xs=>decide (xs.length<=1000) && mV σ xs
 | .lst xs=>decide (xs.length<=1000) && mV σ xs
 | _=>true
noncomputable def mV(σ:St):List Lt->Bool
 | []=>true
 | x::xs=>Cj σ x && mV σ xs
end
mutual
theorem NX.same(s:aJ H H'):∀{l:Lt}{v:V},NX σ H l v->NX σ H' l v
 | .non,_,h=>h
 | .bl _,_,h=>h
 | .int _,_,h=>h
 | .str _,_,h=>h
 | .var _,_,h=>h
 | .tup _,_,⟨a,us,h1,h2,h3⟩=>⟨a,us,h1,s _ _ h2,lT.same s h3⟩
 | .lst _,_,⟨a,us,h1,h2,h3⟩=>⟨a,us,h1,s _ _ h2,lT.same s h3⟩
 | .dic,_,⟨a,h1,h2⟩=>⟨a,h1,s _ _ h2⟩
theorem lT.same(s:aJ H H'):∀{l:List Lt}{us:List V},lT σ H l us->lT σ H' l us
 | [],_,h=>h
 | _::_,_,⟨u,r,h1,h2,h3⟩=>⟨u,r,h1,NX.same s h2,lT.same s h3⟩
end
theorem lT.len:∀{l:List Lt}{us:List V},lT σ H l us->us.length=l.length
 | [],_,h=>by cases(show _=([]:List V) from h);rfl
 | _::_,_,⟨u,r,h1,_,h3⟩=>by subst h1;simp[lT.len h3]
theorem lT.get:∀{l:List Lt}{us:List V}{i:Nat}{x:Lt},lT σ H l us->l[i]?=some x->∃v,us[i]?=some v/\NX σ H x v
 | [],_,_,_,_,e=>by cases e
 | _::_,_,0,_,⟨u,r,h1,h2,_⟩,e=>by subst h1;cases e;exact⟨u,rfl,h2⟩
 | _::_,_,i+1,_,⟨u,r,h1,_,h3⟩,e=>by
  subst h1;obtain⟨v,e1,e2⟩:=lT.get (i:=i) h3 (by simpa using e);exact⟨v,by simpa using e1,e2⟩
theorem sameNew(h:H p=none)(o:HO):aJ H (upd H p o):=λb u z=>by rw[az (aE z h)];exact z
mutual
theorem Hs:∀l {H:Hp} {Q:VK},Cj σ l=true->(∀v H',aJ H H'->NX σ H' l v->Q v H')->QM l σ H Q
 | .non,H,Q,_,q=>q _ _ (λ_ _ z=>z) rfl
 | .bl _,H,Q,_,q=>q _ _ (λ_ _ z=>z) rfl
 | .int _,H,Q,_,q=>q _ _ (λ_ _ z=>z) rfl
 | .str _,H,Q,_,q=>q _ _ (λ_ _ z=>z) rfl
 | .var i,H,Q,h,q=>by
  have h':(match σ[i]? with | some (some _)=>true | _=>false)=true:=h
  cases e:σ[i]? with
  | none=>rw[e]at h';cases h'
  | some o =>
   cases o with
   | none=>rw[e]at h';cases h'
   | some v=>exact⟨v,e,q v H (λ_ _ z=>z) e⟩
 | .tup xs,H,Q,h,q=>by
  have h':(decide (xs.length<=1000) && mV σ xs)=true:=h;rw[A8]at h';refine wJ xs h'.2 λus H1 s1 l1=>⟨?_,λp hp=>?_⟩
  .rw[l1.len];exact l7 (c8 h'.1) (by decide)
  .have s2:=sameNew hp (.tup us);exact q _ _ (λb o z=>s2 _ _ (s1 _ _ z)) ⟨p,us,rfl,ae,l1.same s2⟩
 | .lst xs,H,Q,h,q=>by
  have h':(decide (xs.length<=1000) && mV σ xs)=true:=h;rw[A8]at h';refine wJ xs h'.2 λus H1 s1 l1=>⟨?_,λp hp=>?_⟩
  .rw[l1.len];exact l7 (c8 h'.1) (by decide)
  .have s2:=sameNew hp (.lst us);exact q _ _ (λb o z=>s2 _ _ (s1 _ _ z)) ⟨p,us,rfl,ae,l1.same s2⟩
 | .dic,H,Q,_,q=>λp hp=>q _ _ (sameNew hp _) ⟨p,rfl,ae⟩
theorem wJ:∀l {H:Hp} {Q:List V->Hp->Prop},mV σ l=true->(∀us H',aJ H H'->lT σ H' l us->Q us H')->xx l σ H Q
 | [],H,Q,_,q=>q [] H (λ_ _ z=>z) rfl
 | x::xs,H,Q,h,q=>by
  have h':(Cj σ x && mV σ xs)=true:=h;rw[A8]at h';refine Hs x h'.1 λv H1 s1 l1=>wJ xs h'.2 λus H2 s2 l2=>?_;exact q _ _ (λb o z=>s2 _ _ (s1 _ _ z)) ⟨v,us,rfl,l1.same s2,l2⟩
end
section
variable{X:Cx}
theorem Hy(h:N.idxOf? x=some i):N[i]?=some x:=by
 have:=List.of_findIdx?_eq_some (p:=λy=>y==x) (xs:=N) h;cases e:N[i]? with
 | none=>rw[e]at this;cases this
 | some y =>
  rw[e]at this;have:(y==x)=true:=this;rw[Jd]at this;rw[this]
theorem QE(h:EW sc x=true):SW sc x:=by
 unfold EW at h;unfold SW;cases e:sc.names.lookup x with
 | none=>rw[e]at h;cases h
 | some k =>
  rw[e]at h;cases k with
  | «local»=>exact .inl rfl
  | cell=>exact .inr (.inl rfl)
  | free=>exact .inr (.inr rfl)
  | globalExplicit=>cases h
  | globalImplicit=>cases h
mutual
theorem BZ(eN:X.N=N)(es:X.env.scope=sc):∀e {l:Lt},litE N sc e=some l->PE X e (QM l):=λe l h=>by
 cases e with
 | Constant c k p =>
  cases c with
  | none=>cases h;exact bN
  | bool b=>cases h;exact iJ
  | int i=>cases h;exact aq
  | str x=>cases h;exact aQ
  | _=>cases h
 | UnaryOp o a p =>
  cases o with
  | USub =>
   cases a with
   | Constant c k q =>
    cases c with
    | int i =>
     cases h
     intro K5 s σ H Q I q;exact lZ gp aq K5 s σ H Q I ⟨i,rfl,q⟩
    | _=>cases h
   | _=>cases h
  | _=>cases h
 | Name x p =>
  have h:(match N.idxOf? x with
   | some i=>if EW sc x && !(x==("__debug__":Str)) && !(x==("__classdict__":Str)) then some (Lt.var i) else none
   | none=>none)=some l:=h
  cases z:N.idxOf? x with
  | none=>rw[z]at h;cases h
  | some i =>
   rw[z]at h;dsimp only at h
   by_cases c:(EW sc x && !(x==("__debug__":Str)) && !(x==("__classdict__":Str)))=true
   .rw[d7 c]at h;cases h
    rw[A8,A8]at c;exact Gu (by rw[eN];exact Hy z) (by rw[es];exact QE c.1.1) (by simpa using c.1.2) (by simpa using c.2)
   .rw[d9 c]at h;cases h
 | Tuple xs c p =>
  have h:(match mf N sc xs with
   | some ls=>some (Lt.tup ls)
   | none=>none)=some l:=h
  cases z:mf N sc xs with
  | none=>rw[z]at h;cases h
  | some ls=>rw[z]at h;cases h;exact bj (wy eN es xs z)
 | List xs p =>
  have h:(match mf N sc xs with
   | some ls=>some (Lt.lst ls)
   | none=>none)=some l:=h
  cases z:mf N sc xs with
  | none=>rw[z]at h;cases h
  | some ls=>rw[z]at h;cases h;exact cf (wy eN es xs z)
 | Dict ks vs p =>
  cases ks with
  | nil =>
   cases vs with
   | nil=>cases h;exact Gx
   | cons _ _=>cases h
  | cons _ _=>cases h
 | _=>cases h
theorem wy(eN:X.N=N)(es:X.env.scope=sc):∀xs {ls:List Lt},mf N sc xs=some ls->PA X xs (xx ls)
 | [],ls,h=>by cases h;exact af
 | e::r,ls,h=>by
  unfold mf at h;cases z1:litE N sc e with
  | none=>rw[z1]at h;cases h
  | some x =>
   cases z2:mf N sc r with
   | none=>rw[z1,z2]at h;cases h
   | some ys =>
    rw[z1,z2]at h;dsimp only at h
    by_cases c:plainArg e=true
    .rw[d7 c]at h;cases h
     exact paS (BZ eN es e z1) (wy eN es r z2) c
    .rw[d9 c]at h;cases h
end
structure ow(X:Cx)(ss:List Stmt)(t:TS):Prop where
 h:Lr X ss t
end
structure HE(X:Cx)(e:Expr)(t:TE):Prop where
 h:PE X e t
structure HA(X:Cx)(es:List Expr)(t:TA):Prop where
 h:PA X es t
structure HP(X:Cx)(pos:Pos)(ks:List (Option Expr))(vs:List Expr)(MJ:List (TE×TE)):Prop where
 h:Wg X pos ks vs MJ
structure HT(X:Cx)(e:Expr)(t:TT):Prop where
 h:PT X e t
structure HS(X:Cx)(s:Stmt)(t:TS):Prop where
 h:PS X s t
section
variable{X:Cx}{e f a b:Expr}{es fs:List Expr}{t:TA}{te ta tb:TE}{k j:Nat}{p pos:Pos}{i:Int}{x:Str}
theorem cg:HE X (.Constant (.int i) j pos) (tC (.int i)):=⟨aq⟩
theorem cQ:HE X (.Constant (.str x) j pos) (tC (.str x)):=⟨aQ⟩
theorem HH:HE X (.Constant .none j pos) (tC .non):=⟨bN⟩
theorem hv(i:Nat)(hN:X.N[i]?=some x:=by rfl)(hv:SW X.env.scope x:=by first | exact Or.inl rfl | exact Or.inr (Or.inl rfl) | exact Or.inr (Or.inr rfl))(hd:(x==("__debug__":Str))=false:=by decide)(hd2:(x==("__classdict__":Str))=false:=by decide):HE X (.Name x pos) (Fg i):=⟨pv i hN hv hd hd2⟩
theorem bK(h:HA X es t):HE X (.Tuple es k pos) (N5 t):=⟨bj h.h⟩
theorem HJ(h:HA X es t):HE X (.List es pos) (N6 t):=⟨cf h.h⟩
theorem aY:HA X [] lQ:=⟨af⟩
theorem aN(ha:HE X e te)(hr:HA X es t)(h:plainArg e=true:=by rfl):HA X (e::es) (dZ te t):=⟨aa ha.h hr.h (jF h)⟩
theorem bE(hr:HA X es t):HA X (.Constant (.int i) j p::es) (dZ (tC (.int i)) t):=⟨aa aq hr.h⟩
theorem gj(ha:HE X (.Tuple fs k p) te)(hr:HA X es t):HA X (.Tuple fs k p::es) (dZ te t):=⟨aa ha.h hr.h⟩
theorem qI:HP X pos [] [] []:=⟨Oq⟩
theorem fR{k v:Expr}{tk tv:TE}(hk:HE X k tk)(hv:HE X v tv)(hr:HP X pos ks vs MJ):HP X pos (some k::ks) (v::vs) ((tk,tv)::MJ):=⟨Gp hk.h hv.h hr.h⟩
theorem qJ(h:HP X pos keys values MJ)(Nv:keys.all (·.isSome)=true)(hl:keys.length=values.length)(h0:keys≠[])(Y9:keys.length<=15):HE X (.Dict keys values pos) (PH MJ):=⟨Ov h.h Nv hl h0 Y9⟩
theorem gE(D:Def X.prog X.w X.K X.mg X.base n x ps sp)(ha:HA X (e::es) t)(hr:dP n X.A:=by exact dP.mono (by assumption) (by first | decide | omega))(hg:Gl X x:=by rfl)(hdb:(x==("__debug__":Str))=false:=by decide)(hp:plainArg e=true:=by rfl)(hpl:(backTo pos (starEach es X.env)).any (·.1)=false:=by rfl):HE X (.Call (.Name x p) (e::es) [] pos) (qS sp [] E0 t):=⟨aK D ha.h (hr:=hr) (hg:=hg) (hdb:=hdb) (hpl:=hpl) (he:=(jF hp))⟩
theorem Cv(ho:Xl X (unaryOp op) r)(ha:HE X a ta):HE X (.UnaryOp op a pos) (ZY r ta):=⟨lZ ho ha.h⟩
theorem iZ(ho:Lm X (binaryOp op) r)(ha:HE X a ta)(hb:HE X b tb):HE X (.BinOp a op b pos) (Nd r ta tb):=⟨aM ho ha.h hb.h⟩
theorem sQ(hr:TQ X r)(ha:HE X a ta)(hb:HE X b tb)(hs:xc b:=by intro _ _;rfl):HE X (.Subscript a b pos) (Nd r ta tb):=⟨aD hr ha.h hb.h (hs:=hs)⟩
theorem OV(hu:X.A.units+1<cLine)(ho:HE X a ta)(hi:HE X b tb)(hs:S3 b:=by intro _ _;rfl):HE X (.Subscript a b pos) (PJ ta tb):=⟨qG hu ho.h hi.h (hs:=hs)⟩
theorem yO{r:List V->Hp->VK->Prop}(hc:gi X (.builtin id) r)(hm:X.mg x=none)(ha:HA X (e::es) t)(hg:Gl X x:=by rfl)(hv:bootBuiltins x=some (.builtin id):=by decide+kernel)(hn:x≠"__name__":=by decide)(hdb:(x==("__debug__":Str))=false:=by decide)(hp:plainArg e=true:=by rfl)(hpl:(backTo pos (starEach es X.env)).any (·.1)=false:=by rfl):HE X (.Call (.Name x p) (e::es) [] pos) (Nf r t):=⟨aG hc hm ha.h (hg:=hg) (hv:=hv) (hn:=hn) (hdb:=hdb) (hpl:=hpl) (he:=(jF hp))⟩
theorem jT(ho:Lm X (compareOp op) r)(ha:HE X a ta)(hb:HE X b tb)(hm:behindInMarks op b=false):HT X (.Compare a [op] [b] pos) (Fh (Nd r ta tb)):=⟨aF ho ha.h hb.h hm⟩
theorem un{t:TS}(h:ow X ss t):Lr X ss t:=h.h
theorem jU:ow X [] Bv:=⟨aL⟩
theorem gR{t:TS}(h:HS X st t):ow X [st] t:=⟨ao h.h⟩
theorem aU{t:TS}(h1:HS X st t)(h2:ow X rest u):ow X (st::rest) (vB t u):=⟨ah h1.h h2.h⟩
theorem sP{b e:List Stmt}{t:TS}(hc:HT X c tc)(hb:ow X b t)(he:ow X e u):HS X (.If c b e pos) (N7 tc t u):=⟨aS hc.h hb.h he.h⟩
theorem pE(h:HE X e te):HS X (.Return (some e) pos) (Fi te):=⟨av h.h⟩
theorem fe{i:Nat}(he:HE X e te)(hN:X.N.Nodup:=by assumption)(hi:X.N[i]?=some x:=by rfl)(hx:Loc X.env.scope x:=by first | exact Or.inl rfl | exact Or.inr rfl)(hs:swapsWith e (some (.Name x pos')) pos.line X.env=pure false:=by rfl)(hf:X.fn x=true\/X.env.scope.names.lookup x=some .local:=by first | exact .inl rfl | exact .inr rfl | assumption):HS X (.Assign [.Name x pos'] e pos) (Fn te (kY i)):=⟨aI he.h (hN:=hN) (hi:=hi) (hx:=hx) (hs:=hs) (hf:=hf)⟩
end
end L2
namespace Mine
open PySem L2
theorem dG{h:List T3}{x:T3}:Hu.bg h (Hu.z0,x,x)=some x:=by
 unfold Hu.bg;rw[d7 (λq _=>Jz (Hu.pQ q))]
theorem Xv{k:Nat}(hk:k<4)(t1 t2 t3 t4:V):fq (bX [] [(Sum.inr "never",t1),(Sum.inr "always",t2),(Sum.inr "p",t3),(Sum.inr "q",t4)]) (Sum.inr (lw k))=some (if k=0 then t1 else if k=1 then t2 else if k=2 then t3 else t4):=by
 simp only[bX,J1,Ki,jj];rcases(by omega:k=0\/k=1\/k=2\/k=3) with rfl | rfl | rfl | rfl
 .rw[d9 (by decide+kernel),d9 (by decide+kernel),d9 (by decide+kernel),d7 (by decide+kernel)];rfl
 .rw[d9 (by decide+kernel),d9 (by decide+kernel),d7 (by decide+kernel)];rfl
 .rw[d9 (by decide+kernel),d7 (by decide+kernel)];rfl
 .rw[d7 (by decide+kernel)];rfl
theorem PB(t1 t2:V)(h:(Sum.inr a:Key)≠Sum.inr b):fq (bX [] [(Sum.inr a,t1),(Sum.inr b,t2)]) (Sum.inr a)=some t1:=by
 simp only[bX,J1,Ki,jj];rw[d9 h,d7 trivial]
theorem Pz(t1 t2:V):fq (bX [] [(Sum.inr a,t1),(Sum.inr b,t2)]) (Sum.inr b)=some t2:=by
 simp only[bX,J1,Ki,jj];rw[d7 trivial]
theorem Xw(t1:V):fq (bX [] [(Sum.inr a,t1)]) (Sum.inr a)=some t1:=by
 simp only[bX,J1,Ki,jj];rw[d7 trivial]
theorem xq(e:H l=some (.dK K8)):LY H (upd H l u):=
 ⟨λb ys h=>by rw[az (sG h e (by intro z;cases z))];exact h,λb o u h=>by rw[az (sG h e (by intro z;cases z))];exact h⟩
inductive vJ(K:W.Frag)(vs:List V)(H:Hp)(Q:VK)(E:XK):Prop
 | mk (x lr lh ws hs r rs h):vs=[x,.ref lr,.ref lh]->Dat K H (lR r) x->H lr=some (.lst ws)->DatAll K H (rs.map K9) ws->r.Ok rs.length->Hu.Rb rs->rs.length<=100->H lh=some (.lst hs)->DatAll K H (h.map K9) hs->(∀p∈h,Hu.R3 3000 p)->0<h.length->h.length<=900->((∀x u t H',aJ H H'->Hu.bg h (Hu.choice rs r)=some x->Dat K H' (K9 x) u->H' t=some (.tup [u,.non])->Q (.ref t) H'))->((Hu.bg h (Hu.choice rs r)=none->∀u t H',aJ H H'->Dat K H' (K9 (Hu.choice rs r).1) u->H' t=some (.tup [.non,u])->Q (.ref t) H'))->vJ K vs H Q E
inductive nH(K:W.Frag)(vs:List V)(H:Hp)(Q:VK)(E:XK):Prop
 | mk (l lh us hs rows h):vs=[.ref l,.ref lh]->H l=some (.lst us)->DatAll K H (rows.map lR) us->mY rows->rows.length<=100->H lh=some (.lst hs)->DatAll K H (h.map K9) hs->(∀p∈h,Hu.R3 3000 p)->0<h.length->h.length<=900->((∀rs t lr ws H',aJ H H'->Hu.run h rows []=.rules rs->Hu.Rb rs->rs.length=rows.length->H' t=some (.tup [.ref lr,.non])->H' lr=some (.lst ws)->DatAll K H' (rs.map K9) ws->Q (.ref t) H'))->((∀(k:Nat) tt t v H',aJ H H'->Hu.run h rows []=.mixed k tt->k<rows.length->Hu.R3 (k+1) tt->H' t=some (.tup [.non,v])->Dat K H' (K9 tt) v->Q (.ref t) H'))->nH K vs H Q E
variable{P:Program}{w:World}{K:W.Frag}{mg:Str->Option Value}{base:Heap}
theorem GW(T:aC K mg "_law_rule" kI)(bG:mg "len"=none)(bR:mg "min"=none)(cA:mg "max"=none)(fg:Def P w K mg base 1 "_law_sum" ["_law_one","_law_other","_law_by"] (FC K))(dQ:Def P w K mg base 1 "_law_tells" ["_law_rule_here","_law_corner"] (vE K)):Def P w K mg base 2 "_law_rule" ["_law_row","_law_rules_here","_law_hull"] (vJ K):=by
 refine aP T uP ?_ ?_
 .walk_at "i1"
 walk_at "i2";obtain⟨x,lr,lh,ws,hs,r,rs,h,rfl,dx,Mu,dr,ok,rb,few,ME,dh,bp,pos,L5,q1,q2⟩:=h;have nd:=uP.nd;obtain⟨a,rfl,sa⟩:=FX dx;have d2:(2:Nat)<=sizeLine:=by decide
 have d3:(3:Nat)<=sizeLine:=by decide
 obtain⟨cb,_,_⟩:=Hu.lg rb ok
 have t8:∃t,Lr (cN CX0 P w K mg base yB "_law_rule" (au kI) f cdv A outer s H E).nox ((bA kI).drop 8) t/\
   ∀H1 (k i j:Nat) x1 x2 x3 dw tw K8 o3 o4 o5 o8,r=.fd k i j->aJ H H1->H1 dw=some (.dK K8)->fq K8 (Sum.inr (fw k))=some (.ref tw)->K6 K H1 tw [x2,x3]->Dat K H1 (K9 (Hu.choice rs r).1) x1->Dat K H1 (K9 (Hu.choice rs r).2.1) x2->Dat K H1 (K9 (Hu.choice rs r).2.2) x3->
    t {nx:=λ_ H'=>Q .non H',rt:=Q} [some (.ref a),some (.ref lr),some (.ref lh),o3,o4,o5,some x1,some (.ref dw),o8] H1:=by
  refine⟨_,(ah (lH (i:=8) (cq (pv 2)) (bY (j:=6) cE) (λ_ _ _ _=>cM) (λ_ _ _ _=>(aK dQ (aa (pv 1) (aa (pv 0) af)))))
  (ah (aS (aF jz (aG (jC rfl) cA (aa (pv 8) af)) aq (aH _)) (ao (av (bj (aa (aD aA (qG (Cu hr) (pv 7) (aD aA (pv 0) aq)) aq) (aa bN af))))) aL)
  (ah (aS (aF qf (aG (iy rfl) bR (aa (pv 8) af)) aq (aH _)) (ao (av (bj (aa (aD aA (qG (Cu hr) (pv 7) (aD aA (pv 0) aq)) aq) (aa bN af))))) aL)
  (ao (av (bj (aa bN (aa (pv 6) af)))))))),?_⟩
  intro H1 k i j x1 x2 x3 dw tw K8 o3 o4 o5 o8 er s1 ed ev st e1 e2 e3;refine⟨_,rfl,lh,rfl,⟨hs,K7.of (s1 _ _ ME)⟩,λD hD=>?_⟩;refine qQ (K:=K) (r:=(Hu.choice rs r).1) (λH' s'=>K7.of (s' _ _ (s1 _ _ ME))) (dh.ts s1.ts) L5 hD ?step ?fin
  case step =>
   intro v p H' kk s' hp dp q;exact⟨_,rfl,_,rfl,x1,v,(Hu.choice rs r).1,p,rfl,e1.ts s'.ts,dp,cb.mono (by omega),bp p hp,q⟩
  intro H4 s4 hD4;have m4:=s1.trans s4;have LA:0<(h.map (Hu.tl (Hu.choice rs r).1)).length:=by rw[i7];exact pos
  have XN:K6 K H4 a (WL r):=sa.ts m4.ts;have hrw:WL r=[.str (fw k),.int i,.int j]:=by rw[er];rfl
  rw[hrw]at XN;refine⟨_,rfl,D,_,rfl,K7.of hD4,LA,λM hM Mm=>?_⟩;refine⟨_,_,rfl,rfl,_,rfl,?_⟩;obtain⟨p1,LO,Tz⟩:=x8.mp hM;refine cJ (λcc=>?_) (λcc=>?_)
  .have c':M<=0:=c8 cc;have al:∀q∈h,Hu.tl (Hu.choice rs r).1 q<=0:=λq hq=>Jm (Mm _ (x8.mpr ⟨q,hq,rfl⟩)) c';refine⟨_,rfl,_,rfl,_,_,_,_,rfl,rfl,XN,rfl,dw,_,rfl,(show ko H4 dw (kV (Sum.inr (fw k))) (some (.ref tw)) from by rw[<- ev];exact ko.k (s4 _ _ ed)),_,_,_,_,rfl,rfl,st.ts s4.ts,rfl,d2,λp hp=>?_⟩;have u:=ak hp (.tup [x2,.non]);exact q1 _ _ p _ (m4.trans u) (by unfold Hu.bg;rw[d7 al]) ((e2.ts s4.ts).ts u.ts) ae
  have c1:¬M<=0:=λz=>cc (e9 z);have n1:¬ ∀q∈h,Hu.tl (Hu.choice rs r).1 q<=0:=λz=>by have:=z p1 LO;omega
  refine⟨_,rfl,D,_,rfl,K7.of hD4,LA,λM2 NS Mc=>?_⟩;refine⟨_,_,rfl,rfl,_,rfl,?_⟩;obtain⟨p2,Lk,Qm⟩:=x8.mp NS;refine cJ (λcc=>?_) (λcc=>?_)
  .have c':0<=M2:=c8 cc;have al:∀q∈h,0<=Hu.tl (Hu.choice rs r).1 q:=λq hq=>Jm c' (Mc _ (x8.mpr ⟨q,hq,rfl⟩));refine⟨_,rfl,_,rfl,_,_,_,_,rfl,rfl,XN,rfl,dw,_,rfl,(show ko H4 dw (kV (Sum.inr (fw k))) (some (.ref tw)) from by rw[<- ev];exact ko.k (s4 _ _ ed)),_,_,_,_,rfl,rfl,st.ts s4.ts,rfl,d2,λp hp=>?_⟩;have u:=ak hp (.tup [x3,.non]);exact q1 _ _ p _ (m4.trans u) (by unfold Hu.bg;rw[d9 n1,d7 al]) ((e3.ts s4.ts).ts u.ts) ae
  .have c2:¬0<=M2:=λz=>cc (e9 z);have n2:¬ ∀q∈h,0<=Hu.tl (Hu.choice rs r).1 q:=λz=>by have:=z p2 Lk;omega
   refine⟨_,rfl,d2,λp hp=>?_⟩;have u:=ak hp (.tup [.non,x1]);exact q2 (by unfold Hu.bg;rw[d9 n1,d9 n2]) _ p _ (m4.trans u) ((e1.ts s4.ts).ts u.ts) ae
 obtain⟨t8,Yz,Tq⟩:=t8
 refine⟨_,un (aU (sP (jT bS (yO bJ bG (aN (hv 0) aY)) cg (aH _)) (aU (fe (i:=3) (qJ (fR cQ (bK (bE (bE (bE aY)))) (fR cQ (bK (bE (bE (bE aY)))) (fR cQ (bK (bE (bE (bE aY)))) (fR cQ (bK (bE (bE (bE aY)))) qI)))) rfl rfl (by intro z;cases z) (by decide)))
  (gR (pE (bK (aN (OV (Cu hr) (hv 3) (sQ aA (hv 0) cg)) (aN HH aY)))))) jU) (aU (fe (i:=4) (sQ bH (hv 1) (sQ aA (hv 0) cg))) (aU (sP (jT bS (yO bJ bG (aN (hv 0) aY)) cg (aH _)) (gR (pE (bK (aN (gE fg (gj (bK (bE (bE (bE aY)))) (aN (hv 4) (aN (Cv gp cg) aY)))) (aN HH aY))))) jU) (aU (fe (i:=5) (sQ bH (hv 1) (sQ aA (hv 0) cg))) (aU (fe (i:=6) (gE fg (aN (gE fg (aN (hv 4) (aN (hv 5) (bE aY)))) (gj (bK (bE (bE (bE aY)))) (aN (Cv gp cg) aY))))) (aU (fe (i:=7) (qJ (fR cQ (bK (aN (gE fg (aN (hv 4) (aN (hv 5) (bE aY)))) (gj (bK (bE (bE (bE aY)))) aY))) (fR cQ (bK (gj (bK (bE (bE (bE aY)))) (aN (hv 6) aY))) qI)) rfl rfl (by intro z;cases z) (by decide))) (aU (sP (jT lK (sQ aA (hv 0) cg) (bK (aN cQ (aN cQ aY))) rfl) (aU (fe (i:=6) (gE fg (aN (hv 4) (aN (hv 5) (aN (Cv gp cg) aY)))))
  (gR (fe (i:=7) (qJ (fR cQ (bK (aN (hv 5) (aN (hv 4) aY))) (fR cQ (bK (aN (hv 4) (aN (hv 5) aY))) qI)) rfl rfl (by intro z;cases z) (by decide))))) jU) (aU (sP (jT bS (sQ aA (hv 0) cg) cQ (aH _)) (aU (fe (i:=6) (gE fg (aN (hv 5) (aN (hv 4) (aN (Cv gp cg) aY)))))
  (gR (fe (i:=7) (qJ (fR cQ (bK (aN (gE fg (gj (bK (bE (bE (bE aY)))) (aN (hv 6) (bE aY)))) (gj (bK (bE (bE (bE aY)))) aY))) qI) rfl rfl (by intro z;cases z) (by decide))))) jU) ⟨Yz⟩)))))))),?_⟩
 cases r with
 | lf k =>
  have hk:k<4:=ok;refine⟨_,rfl,_,_,rfl,.inr ⟨_,sa,rfl⟩,rfl,_,rfl,dH ?_⟩;intro dw Vj;refine⟨d3,λt1 h1=>⟨d3,λt2 h2=>⟨d3,λt3 h3=>⟨d3,λt4 h4=>?_⟩⟩⟩⟩;have u0:=ak Vj (.dK []);have u1:=ak h1 (.tup [.int 0,.int 0,.int 0]);have u2:=ak h2 (.tup [.int 0,.int 0,.int 1]);have u3:=ak h3 (.tup [.int 1,.int 0,.int 0]);have u4:=ak h4 (.tup [.int 0,.int 1,.int 0]);have e1:=(u2.trans (u3.trans u4)) _ _ ae;have e2:=(u3.trans u4) _ _ ae;have e3:=u4 _ _ ae;have e4:_=some (HO.tup [.int 0,.int 1,.int 0]):=ae (H:=upd (upd (upd (upd H dw (.dK [])) t1 (.tup [.int 0,.int 0,.int 0])) t2 (.tup [.int 0,.int 0,.int 1])) t3 (.tup [.int 1,.int 0,.int 0])) (a:=t4);have ed:=(u1.trans (u2.trans (u3.trans u4))) _ _ ae;have s5:=u0.trans (u1.trans (u2.trans (u3.trans u4)));generalize upd (upd (upd (upd (upd H dw (.dK [])) t1 (.tup [.int 0,.int 0,.int 0])) t2 (.tup [.int 0,.int 0,.int 1])) t3 (.tup [.int 1,.int 0,.int 0])) t4 (.tup [.int 0,.int 1,.int 0])=H5 at *;refine⟨ed,[(Sum.inr "never",.ref t1),(Sum.inr "always",.ref t2),(Sum.inr "p",.ref t3),(Sum.inr "q",.ref t4)],rfl,I0 rfl,?_⟩;have tm:LY H5 (upd H5 dw (.dK (bX [] [(Sum.inr "never",.ref t1),(Sum.inr "always",.ref t2),(Sum.inr "p",.ref t3),(Sum.inr "q",.ref t4)]))):=xq ed;have s6:=aW s5 Vj (.dK (bX [] [(Sum.inr "never",.ref t1),(Sum.inr "always",.ref t2),(Sum.inr "p",.ref t3),(Sum.inr "q",.ref t4)]));have hv:=Xv hk (.ref t1) (.ref t2) (.ref t3) (.ref t4);have ed6:upd H5 dw (.dK (bX [] [(Sum.inr "never",.ref t1),(Sum.inr "always",.ref t2),(Sum.inr "p",.ref t3),(Sum.inr "q",.ref t4)])) dw=some (.dK (bX [] [(Sum.inr "never",.ref t1),(Sum.inr "always",.ref t2),(Sum.inr "p",.ref t3),(Sum.inr "q",.ref t4)])):=ae;have D1:=((cy (K:=K) (p:=Hu.lft 0) (K6.of e1)).ts tm);have D2:=((cy (K:=K) (p:=Hu.lft 1) (K6.of e2)).ts tm);have D3:=((cy (K:=K) (p:=Hu.lft 2) (K6.of e3)).ts tm);have D4:=((cy (K:=K) (p:=Hu.lft 3) (K6.of e4)).ts tm);generalize bX [] [(Sum.inr "never",V.ref t1),(Sum.inr "always",.ref t2),(Sum.inr "p",.ref t3),(Sum.inr "q",.ref t4)]=K8 at *;generalize upd H5 dw (.dK K8)=H6 at *
  have dv:Dat K H6 (K9 (Hu.lft k)) (if k=0 then .ref t1 else if k=1 then .ref t2 else if k=2 then .ref t3 else .ref t4):=by
   rcases(by omega:k=0\/k=1\/k=2\/k=3) with rfl | rfl | rfl | rfl
   .exact D1
   .exact D2
   .exact D3
   .exact D4
  generalize (if k=0 then V.ref t1 else if k=1 then .ref t2 else if k=2 then .ref t3 else .ref t4)=u at hv dv;refine⟨_,rfl,_,rfl,_,_,_,_,rfl,rfl,sa.ts s6.ts,rfl,dw,u,rfl,(show ko H6 dw (kV (Sum.inr (lw k))) (some u) from by rw[<- hv];exact ko.k ed6),d2,λp hp=>?_⟩;have u7:=ak hp (.tup [u,.non]);exact q1 _ u p _ (s6.trans u7) dG (dv.ts u7.ts) ae
 | nt i =>
  obtain⟨y,hy,dy⟩:=lV dr (getD_at (show i<rs.length from ok));have SH:=(Hu.qe rb (show i<rs.length from ok)).mono (show rs.length<=3000 by omega)
  refine⟨_,rfl,_,_,rfl,.inr ⟨_,sa,rfl⟩,rfl,_,rfl,bL ?_⟩;refine⟨_,rfl,_,rfl,_,_,_,_,rfl,rfl,sa,rfl,_,_,_,_,rfl,rfl,K7.of Mu,cC hy,?_⟩;refine⟨_,rfl,_,_,rfl,.inr ⟨_,sa,rfl⟩,rfl,_,rfl,dH ?_⟩;refine⟨d3,λt1 h1=>?_⟩;have u1:=ak h1 (.tup [.int 0,.int 0,.int 1]);refine⟨_,rfl,_,rfl,.ref t1,y,Hu.al,rs.getD i Hu.z0,-1,rfl,cy (p:=Hu.al) (K6.of ae),dy.ts u1.ts,.inr rfl,SH,λt2 H2 s2 e2=>?_⟩;rw[xE]at e2;refine⟨d2,λp hp=>?_⟩;have u3:=ak hp (.tup [.ref t2,.non]);exact q1 _ (.ref t2) p _ ((u1.trans s2).trans u3) dG (e2.ts u3.ts) ae
 | fd k i j =>
  obtain⟨hk,hi,hj⟩:=ok;obtain⟨y,hy,dy⟩:=lV dr (getD_at hi);obtain⟨z,hz,dz⟩:=lV dr (getD_at hj);have SH:=(Hu.qe rb hi).mono (show rs.length<=3000 by omega)
  have Xi:=(Hu.qe rb hj).mono (show rs.length<=3000 by omega);have byz:=(Hu.uU (Hu.qe rb hj) (Hu.qe rb hi)).mono (show rs.length+1<=3000 by omega);have ech:Hu.choice rs (.fd k i j)=Hu.fch k (rs.getD i Hu.z0) (rs.getD j Hu.z0):=rfl;rw[ech]at Tq;generalize rs.getD i Hu.z0=A1 at *;generalize rs.getD j Hu.z0=B1 at *;refine⟨_,rfl,_,_,rfl,.inr ⟨_,sa,rfl⟩,rfl,_,rfl,bL ?_⟩;refine⟨_,rfl,_,rfl,_,_,_,_,rfl,rfl,sa,rfl,_,_,_,_,rfl,rfl,K7.of Mu,cC hy,?_⟩;refine⟨_,rfl,_,_,rfl,.inr ⟨_,sa,rfl⟩,rfl,_,rfl,bL ?_⟩;refine⟨_,rfl,_,rfl,_,_,_,_,rfl,rfl,sa,rfl,_,_,_,_,rfl,rfl,K7.of Mu,cC hz,?_⟩;refine⟨_,rfl,_,rfl,y,z,A1,B1,1,rfl,dy,dz,.inl rfl,Xi,λt1 H1 s1 e1=>⟨d3,λt2 h2=>?_⟩⟩;rw[FD]at e1;have u2:=ak h2 (.tup [.int 0,.int 0,.int 1]);refine⟨_,rfl,.ref t1,.ref t2,Hu.pl A1 B1,Hu.al,-1,rfl,e1.ts u2.ts,cy (p:=Hu.al) (K6.of ae),.inr rfl,(Hu.wj 0).mono (by decide),λt3 H3 s3 e3=>?_⟩;rw[xE]at e3;have m3:=(s1.trans u2).trans s3;intro dw Vj;have u4:=ak Vj (.dK []);have ed4:upd H3 dw (.dK []) dw=some (.dK []):=ae;generalize upd H3 dw (.dK [])=H4 at u4 ed4 ⊢;have m4:=m3.trans u4;refine⟨_,rfl,_,rfl,y,z,A1,B1,1,rfl,dy.ts m4.ts,dz.ts m4.ts,.inl rfl,Xi,λt5 H5 s5 e5=>⟨d3,λt6 h6=>⟨d2,λt7 h7=>⟨d3,λQP h8=>⟨_,rfl,d2,λt9 h9=>?_⟩⟩⟩⟩⟩;rw[FD]at e5;have u6:=ak h6 (.tup [.int 0,.int 0,.int 1]);have u7:=ak h7 (.tup [.ref t5,.ref t6]);have u8:=ak h8 (.tup [.int 0,.int 0,.int 0]);have u9:=ak h9 (.tup [.ref QP,.ref t3]);have Zo:=(s5.trans (u6.trans (u7.trans (u8.trans u9)))) _ _ ed4;have f6:=(u7.trans (u8.trans u9)) _ _ ae;have f7:=(u8.trans u9) _ _ ae;have f8:=u9 _ _ ae;have f9:upd (upd (upd (upd H5 t6 (.tup [.int 0,.int 0,.int 1])) t7 (.tup [.ref t5,.ref t6])) QP (.tup [.int 0,.int 0,.int 0])) t9 (.tup [.ref QP,.ref t3]) t9=some (.tup [.ref QP,.ref t3]):=ae;have e59:=e5.ts (u6.trans (u7.trans (u8.trans u9))).ts;have Yo:=s5.trans (u6.trans (u7.trans (u8.trans u9)));generalize upd (upd (upd (upd H5 t6 (.tup [.int 0,.int 0,.int 1])) t7 (.tup [.ref t5,.ref t6])) QP (.tup [.int 0,.int 0,.int 0])) t9 (.tup [.ref QP,.ref t3])=H9 at *;refine⟨Zo,[(Sum.inr "more",.ref t7),(Sum.inr "less",.ref t9)],rfl,I0 rfl,?_⟩;have m9:=(m3.trans u4).trans Yo;have tA:LY H9 (upd H9 dw (.dK (bX [] [(Sum.inr "more",.ref t7),(Sum.inr "less",.ref t9)]))):=xq Zo;have mA:aJ H (upd H9 dw (.dK (bX [] [(Sum.inr "more",.ref t7),(Sum.inr "less",.ref t9)]))):=aW m9 (m3.free Vj) _;have edA:upd H9 dw (.dK (bX [] [(Sum.inr "more",.ref t7),(Sum.inr "less",.ref t9)])) dw=some (.dK (bX [] [(Sum.inr "more",.ref t7),(Sum.inr "less",.ref t9)])):=ae;have g3:=(e3.ts (u4.trans Yo).ts).ts tA;have g5:=e59.ts tA;have g6:=(cy (K:=K) (p:=Hu.al) (K6.of f6)).ts tA;have g7:=(K6.of (K:=K) f7).ts tA;have g8:=(cy (K:=K) (p:=Hu.z0) (K6.of f8)).ts tA;have g9:=(K6.of (K:=K) f9).ts tA;have v7:=PB (a:="more") (b:="less") (V.ref t7) (V.ref t9) (by decide+kernel);have v9:=Pz (a:="more") (b:="less") (V.ref t7) (V.ref t9);generalize bX [] [(Sum.inr "more",V.ref t7),(Sum.inr "less",.ref t9)]=K8 at *;generalize upd H9 dw (.dK K8)=HA at *;clear Zo f6 f7 f8 f9 e59 Yo e5 s5 h6 h7 h8 h9 u6 u7 u8 u9;have PU:=sa.ts mA.ts;rcases(by omega:k=0\/k=1\/k=2\/k=3\/k=4) with rfl | rfl | rfl | rfl | rfl
  .refine⟨_,rfl,_,_,_,_,rfl,rfl,PU,rfl,d2,λpB hB=>⟨pB,_,rfl,.inr (K6.of ae),rfl,rfl,_,rfl,kX (by decide+kernel) ?_⟩⟩;have uB:=ak hB (.tup [V.str "greater",.str "lesser"]);refine⟨_,rfl,_,_,_,_,rfl,rfl,PU.ts uB.ts,rfl,rfl,_,rfl,ite_no (by decide+kernel) ?_⟩;exact Tq _ 0 i j (.ref t3) (.ref t5) (.ref t6) dw t7 K8 _ _ _ _ rfl (mA.trans uB) (uB _ _ edA) v7 (g7.ts uB.ts) (g3.ts uB.ts) (g5.ts uB.ts) (g6.ts uB.ts)
  .refine⟨_,rfl,_,_,_,_,rfl,rfl,PU,rfl,d2,λpB hB=>⟨pB,_,rfl,.inr (K6.of ae),rfl,rfl,_,rfl,kX (by decide+kernel) ?_⟩⟩;have uB:=ak hB (.tup [V.str "greater",.str "lesser"]);refine⟨_,rfl,_,_,_,_,rfl,rfl,PU.ts uB.ts,rfl,rfl,_,rfl,ite_no (by decide+kernel) ?_⟩;exact Tq _ 1 i j (.ref t3) (.ref QP) (.ref t3) dw t9 K8 _ _ _ _ rfl (mA.trans uB) (uB _ _ edA) v9 (g9.ts uB.ts) (g3.ts uB.ts) (g8.ts uB.ts) (g3.ts uB.ts)
  .refine⟨_,rfl,_,_,_,_,rfl,rfl,PU,rfl,d2,λpB hB=>⟨pB,_,rfl,.inr (K6.of ae),rfl,rfl,_,rfl,kW (by decide+kernel) ?_⟩⟩;have uB:=ak hB (.tup [V.str "greater",.str "lesser"]);have mB:=mA.trans uB;refine⟨_,rfl,_,rfl,_,rfl,y,z,A1,B1,-1,rfl,dy.ts mB.ts,dz.ts mB.ts,.inr rfl,Xi,λtC HC sC eC=>?_⟩;rw[xE]at eC;have mC:=mB.trans sC;intro NU hd2;have uD:=ak hd2 (.dK []);refine⟨_,rfl,_,rfl,d2,λtE hE=>⟨_,rfl,_,rfl,d2,λtF hF=>?_⟩⟩;have uE:=ak hE (.tup [z,y]);have uF:=ak hF (.tup [y,z]);have VP:=(uE.trans uF) _ _ ae;have fE:=uF _ _ ae;have mF:=mC.trans (uD.trans (uE.trans uF));have eF:=eC.ts (uD.trans (uE.trans uF)).ts;generalize upd (upd (upd HC NU (.dK [])) tE (.tup [z,y])) tF (.tup [y,z])=HF at *;refine⟨VP,[(Sum.inr "greater",.ref tE),(Sum.inr "lesser",.ref tF)],rfl,I0 rfl,?_⟩;have tG:=xq (u:=.dK (bX [] [(Sum.inr "greater",.ref tE),(Sum.inr "lesser",.ref tF)])) VP;have mG:=aW mF (mC.free hd2) (.dK (bX [] [(Sum.inr "greater",.ref tE),(Sum.inr "lesser",.ref tF)]));refine⟨_,rfl,_,_,_,_,rfl,rfl,sa.ts mG.ts,rfl,rfl,_,rfl,ite_no (by decide+kernel) ?_⟩;exact Tq _ 2 i j (.ref tC) z y NU tE _ _ _ _ _ rfl mG ae (PB _ _ (by decide+kernel)) ((K6.of (K:=K) fE).ts tG) (eF.ts tG) (dz.ts mG.ts) (dy.ts mG.ts)
  .refine⟨_,rfl,_,_,_,_,rfl,rfl,PU,rfl,d2,λpB hB=>⟨pB,_,rfl,.inr (K6.of ae),rfl,rfl,_,rfl,kW (by decide+kernel) ?_⟩⟩;have uB:=ak hB (.tup [V.str "greater",.str "lesser"]);have mB:=mA.trans uB;refine⟨_,rfl,_,rfl,_,rfl,y,z,A1,B1,-1,rfl,dy.ts mB.ts,dz.ts mB.ts,.inr rfl,Xi,λtC HC sC eC=>?_⟩;rw[xE]at eC;have mC:=mB.trans sC;intro NU hd2;have uD:=ak hd2 (.dK []);refine⟨_,rfl,_,rfl,d2,λtE hE=>⟨_,rfl,_,rfl,d2,λtF hF=>?_⟩⟩;have uE:=ak hE (.tup [z,y]);have uF:=ak hF (.tup [y,z]);have VP:=(uE.trans uF) _ _ ae;have fF:upd (upd (upd HC NU (.dK [])) tE (.tup [z,y])) tF (.tup [y,z]) tF=some (.tup [y,z]):=ae;have mF:=mC.trans (uD.trans (uE.trans uF));have eF:=eC.ts (uD.trans (uE.trans uF)).ts;generalize upd (upd (upd HC NU (.dK [])) tE (.tup [z,y])) tF (.tup [y,z])=HF at *;refine⟨VP,[(Sum.inr "greater",.ref tE),(Sum.inr "lesser",.ref tF)],rfl,I0 rfl,?_⟩;have tG:=xq (u:=.dK (bX [] [(Sum.inr "greater",.ref tE),(Sum.inr "lesser",.ref tF)])) VP;have mG:=aW mF (mC.free hd2) (.dK (bX [] [(Sum.inr "greater",.ref tE),(Sum.inr "lesser",.ref tF)]));refine⟨_,rfl,_,_,_,_,rfl,rfl,sa.ts mG.ts,rfl,rfl,_,rfl,ite_no (by decide+kernel) ?_⟩;exact Tq _ 3 i j (.ref tC) y z NU tF _ _ _ _ _ rfl mG ae (Pz _ _) ((K6.of (K:=K) fF).ts tG) (eF.ts tG) (dy.ts mG.ts) (dz.ts mG.ts)
  .refine⟨_,rfl,_,_,_,_,rfl,rfl,PU,rfl,d2,λpB hB=>⟨pB,_,rfl,.inr (K6.of ae),rfl,rfl,_,rfl,kX (by decide+kernel) ?_⟩⟩;have uB:=ak hB (.tup [V.str "greater",.str "lesser"]);have mB:=mA.trans uB;refine⟨_,rfl,_,_,_,_,rfl,rfl,PU.ts uB.ts,rfl,rfl,_,rfl,ite_yes rfl ?_⟩;refine⟨_,rfl,_,rfl,_,rfl,z,y,B1,A1,-1,rfl,dz.ts mB.ts,dy.ts mB.ts,.inr rfl,SH,λtC HC sC eC=>?_⟩;rw[xE]at eC;have mC:=mB.trans sC;intro NU hd2;have uD:=ak hd2 (.dK []);refine⟨d3,λt0 h0=>?_⟩;have u0:=ak h0 (.tup [.int 0,.int 0,.int 1]);refine⟨_,rfl,.ref t0,.ref tC,Hu.al,Hu.mi B1 A1,1,rfl,cy (p:=Hu.al) (K6.of ae),eC.ts (uD.trans u0).ts,.inl rfl,byz,λtE HE sE eE=>⟨d3,λtF hF=>⟨d2,λtG hG=>?_⟩⟩⟩;rw[FD]at eE;have uF:=ak hF (.tup [.int 0,.int 0,.int 1]);have uG:=ak hG (.tup [.ref tE,.ref tF]);have edG:=(sE.trans (uF.trans uG)) _ _ (u0 _ _ (show upd HC NU (.dK []) NU=some (.dK []) from ae));have fF:=uG _ _ ae;have fG:upd (upd HE tF (.tup [.int 0,.int 0,.int 1])) tG (.tup [.ref tE,.ref tF]) tG=some (.tup [.ref tE,.ref tF]):=ae;have mD:=(uD.trans u0).trans (sE.trans (uF.trans uG));have eG:=eE.ts (uF.trans uG).ts;generalize upd (upd HE tF (.tup [.int 0,.int 0,.int 1])) tG (.tup [.ref tE,.ref tF])=HG at *;refine⟨edG,[(Sum.inr "leads",.ref tG)],rfl,I0 rfl,?_⟩;have tI:=xq (u:=.dK (bX [] [(Sum.inr "leads",.ref tG)])) edG;have mG:=aW (mC.trans mD) (mC.free hd2) (.dK (bX [] [(Sum.inr "leads",.ref tG)]));exact Tq _ 4 i j (.ref tC) (.ref tE) (.ref tF) NU tG _ _ _ _ _ rfl mG ae (Xw _) ((K6.of (K:=K) fG).ts tI) ((eC.ts mD.ts).ts tI) (eG.ts tI) ((cy (K:=K) (p:=Hu.al) (K6.of fF)).ts tI)
theorem DH(T:aC K mg "_law_cut" fA)(bR:mg "min"=none)(cA:mg "max"=none)(cX:mg "enumerate"=none)(bG:mg "len"=none)(gk:mg "zip"=none)(iP:mg "abs"=none)
  (dQ:Def P w K mg base 1 "_law_tells" ["_law_rule_here","_law_corner"] (vE K))(uu:Def P w K mg base 1 "_law_lowest" ["_law_point"] Fw):Def P w K mg base 3 "_law_cut" ["_law_hull","_law_rule_here"] (vK K):=by
 refine aP T xS ?_ ?_
 .walk_at "i1"
 walk_at "i2";obtain⟨l,x,us,h,r,rfl,hl,da,dx,hu,RR,kn,kc⟩:=h;have nd:=xS.nd;have lu:=eT da;have LL:=hu.pos;have L5:=hu.few;have br:Hu.R3 3000 r:=RR.mono (by decide);have bp:∀p∈h,Hu.R3 3000 p:=λp hp=>((hu.ok p hp).r).mono (by decide);have tb:∀i,(Hu.tv r h i).natAbs<2^2000:=λi=>i5 (Hu.tl_b RR (hu.ok _ (Hu.cF LL i)).r) (F1 (by decide) (by decide));have tB:∀i,Bg (Hu.tv r h i):=λi=>dI (tb i) (by decide)
 have t3:∃t,Lr (cN CX0 P w K mg base nW "_law_cut" (au fA) f cdv A outer s H E).nox ((lO (Dk fA 4)).drop 4) t/\
   ∀N B H1 H' d lo hi v (i:Nat) L1 L2 o8 o9,i<h.length->MI K H1 H' lo hi L1 L2->H1 l=some (.lst us)->H1 d=some (.lst ((h.map (Hu.tl r)).map V.int))->H1 lo=none->H1 hi=none->lo≠hi->DatAll K H1 (h.map K9) us->Dat K H' (K9 (Hu.cor h i)) v->L1.length<=900->L2.length<=900->
    (∀La MV Ti,MI K H1 La lo hi (L1++(if Hu.tv r h i*Hu.tv r h (i+1)<0 then[Hu.mid (Hu.cor h i) (Hu.cor h (i+1)) (Hu.tv r h i) (Hu.tv r h (i+1))] else[])) (L2++(if Hu.tv r h i*Hu.tv r h (i+1)<0 then[Hu.mid (Hu.cor h i) (Hu.cor h (i+1)) (Hu.tv r h i) (Hu.tv r h (i+1))] else[]))->
     N [some (.ref l),some x,some (.ref d),some (.ref lo),some (.ref hi),some (.int i),some v,some (.int (Hu.tv r h i)),some (.int (Hu.tv r h (i+1))),MV,Ti] La)->
    t {nx:=N,ct:=N,bk:=B,rt:=Q} [some (.ref l),some x,some (.ref d),some (.ref lo),some (.ref hi),some (.int i),some v,some (.int (Hu.tv r h i)),some (.int (Hu.tv r h (i+1))),o8,o9] H':=by
  refine⟨_,(ao (aS (aF iK (aM bo (pv 7) (pv 8)) aq (aH _)) (ah (aI (i:=9) (aD bH (pv 0) (aM iX (aM bW (pv 5) aq) (aG bJ bG (aa (pv 0) af)))))
  (ah (aI (i:=10) (aK uu (aa (lJ (xs:=["_law_a","_law_b"]) (nU rfl gk (pv 6) (pv 9)) (bY (j:=8) (bY (j:=7) cE)) (λ_ _ _ _=>lI (K:=K) (n:=2) rfl rfl (aX (aO (i:=0) (hN:=(show(["_law_a","_law_b","_law_there","_law_here"]:List Str).Nodup by decide+kernel)) (hf:=(.inr rfl))) (aX (aO (i:=1) (hN:=(show(["_law_a","_law_b","_law_there","_law_here"]:List Str).Nodup by decide+kernel)) (hf:=(.inr rfl))) di))) (λ_ _ _ _=>(aM bW (aM bo (aG iN iP (aa (pv 2) af)) (pv 0)) (aM bo (aG iN iP (aa (pv 3) af)) (pv 1))))) af)))
  (ah (bD (cO b9 i8 i9 bf (pv 3) (aa (pv 10) af)))
  (ao (bD (cO b9 i8 i9 bf (pv 4) (aa (pv 10) af))))))) aL)),?_⟩
  intro N B H1 H' d lo hi v i L1 L2 o8 o9 LP mi LD L8 LC Lx ne LW dv l1 l2 n;have jl:(i+1)%h.length<h.length:=KU _ LL;have sd:K7 K H' d ((h.map (Hu.tl r)).map V.int):=K7.of (mi.sm _ _ L8);have ai:=ib (r:=r) LP;have aj:=ib (r:=r) jl;rw[Hu.zA]at aj;refine⟨_,rfl,_,rfl,_,_,rfl,rfl,eI (tB _) (tB _),_,_,rfl,rfl,_,rfl,?_⟩;refine cJ (λc=>?_) (λc=>?_)
  .have c':Hu.tv r h i*Hu.tv r h (i+1)<0:=c8 c;rw[d7 c']at n;obtain⟨y,hy,dy⟩:=lV (LW.ts mi.sm.ts) (Hu.jW jl);rw[Hu.oh]at dy;have sl:K7 K H' l us:=K7.of (mi.sm _ _ LD);have hp:=hu.ok _ (Hu.cF LL i);have hq:=hu.ok _ (Hu.cF LL (i+1));obtain⟨u0,ub⟩:=uY (a:=Hu.cor h i) (b:=Hu.cor h i) (y9 hp.n0) (y9 hq.n0) hp.n1 hq.n1 (tb i) (tb (i+1));obtain⟨v0,vb⟩:=uY (a:=Hu.cor h i) (b:=Hu.cor h i) hp.x0 hq.x0 hp.x1 hq.x1 (tb i) (tb (i+1));obtain⟨w0,wb⟩:=uY (a:=Hu.cor h i) (b:=Hu.cor h i) hp.y0 hq.y0 hp.y1 hq.y1 (tb i) (tb (i+1));have up:=Hu.iY hp hq c';obtain⟨g0,gb⟩:=Qi (V:=Hu.nm (Hu.cor h i).v (Hu.cor h (i+1)).v (Hu.tv r h i) (Hu.tv r h (i+1))) (W:=Hu.nm (Hu.cor h i).w (Hu.cor h (i+1)).w (Hu.tv r h i) (Hu.tv r h (i+1))) up ub;have bs:Bg ((Hu.tv r h i).natAbs:Int):=dI (n:=2000) (by simpa using tb i) (by decide);have bt:Bg ((Hu.tv r h (i+1)).natAbs:Int):=dI (n:=2000) (by simpa using tb (i+1)) (by decide);obtain⟨pb1,pb2,pb3⟩:=Nj (hp.r.mono (by decide));obtain⟨qb1,qb2,qb3⟩:=Nj (hq.r.mono (by decide));obtain⟨ax,rfl,sx⟩:=cS dv;obtain⟨ay,rfl,sy⟩:=cS dy;refine⟨_,rfl,_,rfl,_,_,rfl,rfl,_,rfl,_,_,rfl,.inl ⟨_,sl,rfl⟩,_,_,rfl,rfl,(by rw[lu];omega),_,_,_,_,rfl,rfl,sl,(by rw[lu];show Mi us (Int.fmod ((i:Int)+1) (h.length:Int))=_;rw[Hu.sT];exact cC hy),?_⟩;refine⟨_,rfl,_,rfl,ax,ay,_,_,rfl,rfl,sx,sy,λD hD=>?_⟩;refine uw (K:=K) (F:=λx y=>Hu.nm x y (Hu.tv r h i) (Hu.tv r h (i+1))) sx sy hD (λT' x y o1 o2 H R s r=>⟨T',_,rfl,s,rfl,_,_,rfl,_,_,rfl,rfl,r⟩) (λx y H' k hy hx z=>?_) (λH2 s2 eD=>?_)
   .have SH:Bg y:=by rcases hy with rfl | rfl | rfl<;>assumption
    have bx':Bg x:=by rcases hx with rfl | rfl | rfl<;>assumption
    refine⟨_,rfl,_,rfl,_,rfl,_,_,rfl,rfl,(by rw[dS];exact eI bt bx'),_,rfl,_,rfl,_,rfl,_,_,rfl,rfl,(by rw[dS];exact eI bs SH),_,_,rfl,rfl,?_⟩;rw[dS,dS];exact z
   have ge:=Zb (Hu.nm (Hu.cor h i).v (Hu.cor h (i+1)).v (Hu.tv r h i) (Hu.tv r h (i+1))) (Hu.nm (Hu.cor h i).w (Hu.cor h (i+1)).w (Hu.tv r h i) (Hu.tv r h (i+1))) u0;refine⟨D,[_,_,_],rfl,eD,λn hn=>?_,by rw[ge];exact g0,by rw[ge];exact gb,by simp,λmt H3 s3 em=>?_⟩
   .simp only[j4,A3,G4]at hn;rcases hn with rfl | rfl | rfl<;>assumption
   rw[ge]at em;have dm:Dat K H3 (K9 (Hu.mid (Hu.cor h i) (Hu.cor h (i+1)) (Hu.tv r h i) (Hu.tv r h (i+1)))) (.ref mt):=cy (p:=Hu.mid _ _ _ _) (K6.of em);obtain⟨m,em'⟩:∃m,m=V.ref mt:=⟨_,rfl⟩;rw[<- em']at dm ⊢;have s2:=s2.trans s3;have m2:=mi.new s2;obtain⟨⟨u1,e1,k1⟩,u2,e2,k2⟩:=m2.len (by omega) (by omega);refine⟨_,rfl,.inl ⟨rfl,_,K7.of e1⟩,_,rfl,lo,u1,_,rfl,rfl,e1,aZ k1,?_⟩;have m3:=m2.app1 LC ne e1 dm;have NC:(upd H3 lo (.lst (u1++[m]))) hi=some (.lst u2):=by rw[az (G5 ne)];exact e2
   refine⟨_,rfl,.inl ⟨rfl,_,K7.of NC⟩,_,rfl,hi,u2,_,rfl,rfl,NC,aZ k2,?_⟩;exact n _ _ _ (m3.app2 Lx ne NC (dm.ts (dk e1)))
  .have c':¬Hu.tv r h i*Hu.tv r h (i+1)<0:=λz=>c (e9 z);rw[d9 c',A4,A4]at n;exact n _ _ _ mi
 obtain⟨t3,Va,Qd⟩:=t3
 have t2:∃t,Lr (cN CX0 P w K mg base nW "_law_cut" (au fA) f cdv A outer s H E).nox ((lO (Dk fA 4)).drop 3) t/\
   ∀N B H1 H' d lo hi v (i:Nat) L1 L2 o8 o9,i<h.length->MI K H1 H' lo hi L1 L2->H1 l=some (.lst us)->H1 d=some (.lst ((h.map (Hu.tl r)).map V.int))->H1 lo=none->H1 hi=none->lo≠hi->DatAll K H1 (h.map K9) us->Dat K H' (K9 (Hu.cor h i)) v->L1.length<=800->L2.length<=800->
    (∀La MV Ti,MI K H1 La lo hi (L1++(if Hu.tv r h i*Hu.tv r h (i+1)<0 then[Hu.mid (Hu.cor h i) (Hu.cor h (i+1)) (Hu.tv r h i) (Hu.tv r h (i+1))] else[])) (L2++Hu.stp h (Hu.tn r h) i)->
     N [some (.ref l),some x,some (.ref d),some (.ref lo),some (.ref hi),some (.int i),some v,some (.int (Hu.tv r h i)),some (.int (Hu.tv r h (i+1))),MV,Ti] La)->
    t {nx:=N,ct:=N,bk:=B,rt:=Q} [some (.ref l),some x,some (.ref d),some (.ref lo),some (.ref hi),some (.int i),some v,some (.int (Hu.tv r h i)),some (.int (Hu.tv r h (i+1))),o8,o9] H':=by
  refine⟨_,ah (aS (aF qf (pv 7) aq (aH _)) (ao (bD (cO b9 i8 i9 bf (pv 4) (aa (pv 6) af)))) aL) Va,?_⟩;intro N B H1 H' d lo hi v i L1 L2 o8 o9 LP mi LD L8 LC Lx ne LW dv l1 l2 n;have sd:K7 K H' d ((h.map (Hu.tl r)).map V.int):=K7.of (mi.sm _ _ L8);have ai:=ib (r:=r) LP;rw[Hu.xB]at n;refine⟨_,rfl,_,_,rfl,rfl,_,rfl,?_⟩;refine cJ (λc=>?_) (λc=>?_)
  .have c':0<=Hu.tv r h i:=c8 c;rw[d7 c']at n;obtain⟨_,u2,e2,k2⟩:=mi.len (by omega) (by omega);refine⟨_,rfl,.inl ⟨rfl,_,K7.of e2⟩,_,rfl,hi,u2,_,rfl,rfl,e2,aZ k2,?_⟩;refine Qd N B H1 _ d lo hi v i L1 (L2++[Hu.cor h i]) o8 o9 LP (mi.app2 Lx ne e2 dv) LD L8 LC Lx ne LW (dv.ts (dk e2)) (by omega) (by simp;omega) λLa o' UP m=>n La o' UP ?_;rw[m6]at m;exact m
  .have c':¬0<=Hu.tv r h i:=λz=>c (e9 z);rw[d9 c',w8]at n;exact Qd N B H1 _ d lo hi v i L1 L2 o8 o9 LP mi LD L8 LC Lx ne LW dv (by omega) (by omega) n
 obtain⟨t2,YB,LX⟩:=t2
 have t1:∃t,Lr (cN CX0 P w K mg base nW "_law_cut" (au fA) f cdv A outer s H E).nox (lO (Dk fA 4)) t/\
   ∀N B H1 H' d lo hi v (i:Nat) L1 L2 o6 o7 o8 o9,i<h.length->MI K H1 H' lo hi L1 L2->H1 l=some (.lst us)->H1 d=some (.lst ((h.map (Hu.tl r)).map V.int))->H1 lo=none->H1 hi=none->lo≠hi->DatAll K H1 (h.map K9) us->Dat K H' (K9 (Hu.cor h i)) v->L1.length<=700->L2.length<=700->
    (∀La o6' UO MV Ti,MI K H1 La lo hi (L1++Hu.stp h (Hu.tv r h) i) (L2++Hu.stp h (Hu.tn r h) i)->
     N [some (.ref l),some x,some (.ref d),some (.ref lo),some (.ref hi),some (.int i),some v,o6',UO,MV,Ti] La)->
    t {nx:=N,ct:=N,bk:=B,rt:=Q} [some (.ref l),some x,some (.ref d),some (.ref lo),some (.ref hi),some (.int i),some v,o6,o7,o8,o9] H':=by
  refine⟨_,ah (aI (i:=7) (aD bH (pv 2) (pv 5))) (ah (aI (i:=8) (aD bH (pv 2) (aM iX (aM bW (pv 5) aq) (aG bJ bG (aa (pv 0) af))))) (ah (aS (aF jz (pv 7) aq (aH _)) (ao (bD (cO b9 i8 i9 bf (pv 3) (aa (pv 6) af)))) aL) YB)),?_⟩;intro N B H1 H' d lo hi v i L1 L2 o6 o7 o8 o9 LP mi LD L8 LC Lx ne LW dv l1 l2 n;have sl:K7 K H' l us:=K7.of (mi.sm _ _ LD);have sd:K7 K H' d ((h.map (Hu.tl r)).map V.int):=K7.of (mi.sm _ _ L8);have ai:=ib (r:=r) LP;have jl:(i+1)%h.length<h.length:=KU _ LL;have aj:=ib (r:=r) jl;rw[Hu.zA]at aj;refine⟨_,rfl,_,rfl,_,_,_,_,rfl,rfl,sd,ai,?_⟩;refine⟨_,rfl,_,rfl,_,_,rfl,rfl,_,rfl,_,_,rfl,.inl ⟨_,sl,rfl⟩,_,_,rfl,rfl,(by rw[lu];omega),_,_,_,_,rfl,rfl,sd,(by rw[lu];show Mi _ (Int.fmod ((i:Int)+1) (h.length:Int))=_;rw[Hu.sT];exact aj),?_⟩;refine⟨_,rfl,_,_,rfl,rfl,_,rfl,?_⟩;refine cJ (λc=>?_) (λc=>?_)
  .have c':Hu.tv r h i<=0:=c8 c;obtain⟨⟨u1,e1,k1⟩,_⟩:=mi.len (by omega) (by omega);refine⟨_,rfl,.inl ⟨rfl,_,K7.of e1⟩,_,rfl,lo,u1,_,rfl,rfl,e1,aZ k1,?_⟩;refine LX N B H1 _ d lo hi v i (L1++[Hu.cor h i]) L2 o8 o9 LP (mi.app1 LC ne e1 dv) LD L8 LC Lx ne LW (dv.ts (dk e1)) (by simp;omega) (by omega) λLa o' UP m=>n La _ _ o' UP ?_;rw[m6]at m;rw[show Hu.stp h (Hu.tv r h) i=[Hu.cor h i]++(if Hu.tv r h i*Hu.tv r h (i+1)<0 then[Hu.mid (Hu.cor h i) (Hu.cor h (i+1)) (Hu.tv r h i) (Hu.tv r h (i+1))] else[]) by unfold Hu.stp;rw[d7 c']];exact m
  .have c':¬Hu.tv r h i<=0:=λz=>c (e9 z);refine LX N B H1 _ d lo hi v i L1 L2 o8 o9 LP mi LD L8 LC Lx ne LW dv (by omega) (by omega) λLa o' UP m=>n La _ _ o' UP ?_;rw[show Hu.stp h (Hu.tv r h) i=(if Hu.tv r h i*Hu.tv r h (i+1)<0 then[Hu.mid (Hu.cor h i) (Hu.cor h (i+1)) (Hu.tv r h i) (Hu.tv r h (i+1))] else[]) by unfold Hu.stp;rw[d9 c',w8]];exact m
 obtain⟨t1,OS,NP⟩:=t1
 have t4:∃t,Lr (cN CX0 P w K mg base nW "_law_cut" (au fA) f cdv A outer s H E).nox ((bA fA).drop 2) t/\
   ∀H1 d,¬Hu.gX r h->aJ H H1->H1 d=some (.lst ((h.map (Hu.tl r)).map V.int))->t {nx:=λ_ H'=>Q .non H',rt:=Q} [some (.ref l),some x,some (.ref d),none,none,none,none,none,none,none,none] H1:=by
  refine⟨_,ah (aI (i:=3) (cf af)) (ah (aI (i:=4) (cf af)) (ah (dB x5 rfl (wo rfl cX (pv 0)) (iH rfl (aX (aO (i:=5)) (aX (aO (i:=6)) di))) OS) (ao (av (bj (aa (pv 3) (aa (pv 4) af))))))),?_⟩;intro H1 d nc sm hd;have LD:=sm _ _ hl;have LW:=da.ts sm.ts;refine⟨(by show 0<=sizeLine;decide),λlo LC=>⟨(by show 0<=sizeLine;decide),λhi Lx=>?_⟩⟩;have u1:=ak LC (.lst []);have u2:=ak Lx (.lst []);have ne:lo≠hi:=λz=>by subst z;rw[ae]at Lx;cases Lx
  have Nt:H1 hi=none:=by rw[az (G5 ne)]at Lx;exact Lx
  refine⟨_,rfl,l,rfl,⟨us,K7.of ((u1.trans u2) _ _ LD)⟩,?_⟩
  refine sS (xs:=us) (λi σ H'=>i<=us.length/\MI K H1 H' lo hi (Hu.fl (Hu.stp h (Hu.tv r h)) i) (Hu.fl (Hu.stp h (Hu.tn r h)) i)/\∃o5 o6 o7 o8 o9 WM,σ=[some (.ref l),some x,some (.ref d),some (.ref lo),some (.ref hi),o5,o6,o7,o8,o9,WM])
   ⟨x4 _,⟨u1.trans u2,[],[],u2 _ _ ae,ae,rfl,rfl⟩,_,_,_,_,_,_,rfl⟩ (λi σ H' _ z=>K7.of (z.2.1.sm _ _ LD)) (λi v T' σ H' hv z hT=>?_) (λσ H' z=>?_)
  .obtain⟨_,mi,o5,o6,o7,o8,o9,WM,rfl⟩:=z;have LP:i<us.length:=(d6.mp hv).1;have uT:=ak hT (.tup [.int i,v]);obtain⟨p,hp,dp⟩:=ky (LW.ts mi.sm.ts) hv;have ep:p=Hu.cor h i:=by rw[Hu.jW (by omega)]at hp;exact(j8 hp).symm
   subst ep;have f1:=Hu.sU (Hu.nB hu (Hu.tv r h)).len i;have f2:=Hu.sU (Hu.nB hu (Hu.tn r h)).len i;refine⟨T',_,rfl,K6.of ae,rfl,_,_,rfl,_,_,rfl,rfl,?_⟩;refine NP _ _ H1 _ d lo hi v i _ _ o7 o8 o9 WM (by omega) (mi.new uT) LD hd LC Nt ne LW (dp.ts uT.ts) (by omega) (by omega) λLa UO MV Ti o10' m=>⟨LP,?_,_,_,_,_,_,_,rfl⟩;rw[Hu.bz,Hu.bz];exact m
  .obtain⟨_,mi,o5,o6,o7,o8,o9,WM,rfl⟩:=z;rw[lu]at mi;refine⟨_,rfl,_,rfl,(by show 2<=sizeLine;decide),λtt MW=>?_⟩;have u3:=ak MW (.tup [.ref lo,.ref hi]);obtain⟨w1,w2,e1,e2,d1,d2⟩:=(mi.new u3).ex;refine kc nc _ _ (sm.trans (mi.sm.trans u3)) ⟨tt,lo,hi,w1,w2,rfl,ne,?_,?_,K6.of ae,e1,e2,d1,d2⟩
   .exact sm.free LC
   .exact sm.free Nt
 obtain⟨t4,RO,Ts⟩:=t4;refine⟨_,ah (lH (i:=2) (cq (pv 0)) (bY (j:=1) cE) (λ_ _ _ _=>cM) (λ_ _ _ _=>(aK dQ (aa (pv 1) (aa (pv 0) af))))) (ah (aS (PW.pt (gW (aF qf (aG (iy rfl) bR (aa (pv 2) af)) aq (aH _)) (hZ (aF jz (aG (jC rfl) cA (aa (pv 2) af)) aq (aH _))))) (ao (av bN)) aL) RO),?_⟩;refine⟨_,rfl,l,rfl,⟨us,K7.of hl⟩,λd hd0=>?_⟩;refine qQ (K:=K) (r:=r) (λH' s'=>K7.of (s' _ _ hl)) da (by omega) hd0 ?step ?fin
 case step =>
  intro v p H' kk sm hp dp q;exact⟨_,rfl,_,rfl,x,v,r,p,rfl,dx.ts sm.ts,dp,br,bp p hp,q⟩
 intro H1 s1 hd;have LA:0<(h.map (Hu.tl r)).length:=by rw[i7];exact LL
 refine⟨_,rfl,d,_,rfl,K7.of hd,LA,λM hM Mc=>?_⟩;refine⟨_,_,rfl,rfl,_,rfl,?_⟩;refine cJ (λc=>?_) (λc=>?_)
 .have c':0<=M:=c8 c;exact kn (.inl λp hp=>Jm c' (Mc _ (x8.mpr ⟨p,hp,rfl⟩))) _ s1
 have c1:¬0<=M:=λz=>c (e9 z);refine⟨_,rfl,d,_,rfl,K7.of hd,LA,λM2 NS Mm=>?_⟩;refine⟨_,_,rfl,rfl,_,rfl,?_⟩;refine cJ (λc=>?_) (λc=>?_)
 .have c':M2<=0:=c8 c;exact kn (.inr λp hp=>Jm (Mm _ (x8.mpr ⟨p,hp,rfl⟩)) c') _ s1
 have c2:¬M2<=0:=λz=>c (e9 z);obtain⟨p1,LO,Tz⟩:=x8.mp hM;obtain⟨p2,Lk,Qm⟩:=x8.mp NS;refine Ts H1 d (λnc=>?_) s1 hd;rcases nc with z | z
 .have:=z p1 LO;omega
 .have:=z p2 Lk;omega
inductive BB(K:W.Frag)(vs:List V)(H:Hp)(Q:VK)(E:XK):Prop
 | mk  : vs=[]->(∀l us H',aJ H H'->H l=none->H' l=some (.lst us)->DatAll K H' (Hu.sqH.map K9) us->Q (.ref l) H')->BB K vs H Q E
theorem ok_sq(T:aC K mg "square" nP):Def P w K mg base 1 "square" [] (BB K):=by
 refine aP T Dn ?_ ?_
 .walk_at "i1"
 walk_at "i2";obtain⟨rfl,q⟩:=h;obtain⟨e,p,he,eq⟩:∃e p,Wl e/\bA nP=[.Return (some e) p]:=⟨_,_,⟨_,_,_,_,_,_,_,_,_,_,_,_,_,_,_,_,_,_,_,_,_,_,_,_,_,_,_,_,_,_,_,_,_,rfl⟩,rfl⟩;rw[eq];refine⟨_,ao (av (UI he)),?_⟩;refine⟨(by show 3<=sizeLine;decide),λt1 h1=>⟨(by show 3<=sizeLine;decide),λt2 h2=>⟨(by show 3<=sizeLine;decide),λt3 h3=>⟨(by show 3<=sizeLine;decide),λt4 h4=>⟨(by show 4<=sizeLine;decide),λl h5=>?_⟩⟩⟩⟩⟩;have u1:=ak h1 (.tup [.int 1,.int 0,.int 0]);have u2:=ak h2 (.tup [.int 1,.int 1,.int 0]);have u3:=ak h3 (.tup [.int 1,.int 1,.int 1]);have u4:=ak h4 (.tup [.int 1,.int 0,.int 1]);have u5:=ak h5 (.lst [.ref t1,.ref t2,.ref t3,.ref t4]);refine q l _ _ (u1.trans (u2.trans (u3.trans (u4.trans u5)))) ((u1.trans (u2.trans (u3.trans u4))).free h5) ae ?_;exact⟨_,_,rfl,cy (p:=⟨1,0,0⟩) (K6.of ((u2.trans (u3.trans (u4.trans u5))) _ _ ae)),_,_,rfl,cy (p:=⟨1,1,0⟩) (K6.of ((u3.trans (u4.trans u5)) _ _ ae)),_,_,rfl,cy (p:=⟨1,1,1⟩) (K6.of ((u4.trans u5) _ _ ae)),_,_,rfl,cy (p:=⟨1,0,1⟩) (K6.of (u5 _ _ ae)),rfl⟩
end Mine
namespace L2
open PySem
variable{n:Nat}
theorem oJ(h:n<=9000):n<sizeLine:=d8 h (by decide)
end L2
namespace Mine
open PySem L2
variable{n w:Int}{te:TE}{js:List Nat}{σ:St}{Q:VK}{is:List Int}{u:W5}
def Mq(K:W.Frag)(H:Hp)(N:Addr->Prop)(h:List T3)(v:V):Prop:=∃a us,v=.ref a/\N a/\H a=some (.lst us)/\DatAll K H (h.map K9) us
def bV(K:W.Frag)(H:Hp)(N:Addr->Prop):List (List T3)->List V->Prop
 | [],vs=>vs=[]
 | h::hs,vs=>∃v r,vs=v::r/\Mq K H N h v/\bV K H N hs r
section
variable{K:W.Frag}{H H':Hp}{N M:Addr->Prop}{h:List T3}{v:V}
theorem Mq.same(g:Mq K H N h v)(s:aJ H H'):Mq K H' N h v:=by
 obtain⟨a,us,e,n,ha,d⟩:=g;exact⟨a,us,e,n,s _ _ ha,d.ts s.ts⟩
theorem Mq.mut(g:Mq K H N h v)(e:H c=some (.lst ws))(ne:∀a,N a->a≠c):Mq K (upd H c (.lst zs)) N h v:=by
 obtain⟨a,us,e1,n,ha,d⟩:=g;exact⟨a,us,e1,n,by rw[az (ne a n)];exact ha,d.ts (dk e)⟩
theorem Mq.imp(g:Mq K H N h v)(z:∀a,N a->M a):Mq K H M h v:=by
 obtain⟨a,us,e1,n,ha,d⟩:=g;exact⟨a,us,e1,z a n,ha,d⟩
theorem bV.map(f:∀h v,Mq K H N h v->Mq K H' M h v):∀{hs:List (List T3)}{vs:List V},bV K H N hs vs->bV K H' M hs vs
 | [],_,g=>g
 | _::_,_,⟨v,r,e,g1,g2⟩=>⟨v,r,e,f _ _ g1,bV.map f g2⟩
theorem bV.same(g:bV K H N hs vs)(s:aJ H H'):bV K H' N hs vs:=bV.map (λ_ _ z=>z.same s) g
theorem bV.mut(g:bV K H N hs vs)(e:H c=some (.lst ws))(ne:∀a,N a->a≠c):bV K (upd H c (.lst zs)) N hs vs:=bV.map (λ_ _ z=>z.mut e ne) g
theorem bV.imp(g:bV K H N hs vs)(z:∀a,N a->M a):bV K H M hs vs:=bV.map (λ_ _ y=>y.imp z) g
theorem bV.len:∀{hs:List (List T3)}{vs:List V},bV K H N hs vs->vs.length=hs.length
 | [],_,g=>by rw[show _=([]:List V) from g];rfl
 | _::_,_,⟨v,r,e,g1,g2⟩=>by rw[e,j9,j9,bV.len g2]
theorem bV.app:∀{hs gs:List (List T3)}{vs us:List V},bV K H N hs vs->bV K H N gs us->bV K H N (hs++gs) (vs++us)
 | [],_,_,_,g,z=>by rw[show _=([]:List V) from g];exact z
 | _::_,_,_,_,⟨v,r,e,g1,g2⟩,z=>by subst e;exact⟨v,_,rfl,g1,bV.app g2 z⟩
theorem bV.one(g:Mq K H N h v):bV K H N [h] [v]:=⟨v,[],rfl,g,rfl⟩
theorem bV.at:∀{hs:List (List T3)}{vs:List V},bV K H N hs vs->∀{i:Nat}{v:V},vs[i]?=some v->∃h,hs[i]?=some h/\Mq K H N h v
 | [],_,g,i,v,e=>by rw[show _=([]:List V) from g]at e;simp at e
 | h::_,_,⟨w,r,e1,g1,g2⟩,0,v,e=>by
  subst e1;cases e
  exact⟨h,rfl,g1⟩
 | _::_,_,⟨w,r,e1,g1,g2⟩,i+1,v,e=>by
  subst e1;exact bV.at g2 (i:=i) e
end
section
variable{K:W.Frag}{H H':Hp}{N M:Addr->Prop}{h:List T3}{v:V}
theorem DatAll.unsnoc:∀{ds:List PyData}{d:PyData}{vs:List V},DatAll K H (ds++[d]) vs->∃us v,vs=us++[v]/\DatAll K H ds us/\Dat K H d v
 | [],d,vs,⟨x,r,e,g,z⟩=>by
  cases(show r=[] from z)
  exact⟨[],x,e,rfl,g⟩
 | c::ds,d,vs,⟨x,r,e,g,z⟩=>by
  obtain⟨us,v,rfl,g1,g2⟩:=DatAll.unsnoc (ds:=ds) z;exact⟨x::us,v,e,⟨x,us,rfl,g,g1⟩,g2⟩
theorem bV.unsnoc:∀{hs:List (List T3)}{h:List T3}{vs:List V},bV K H N (hs++[h]) vs->∃us v,vs=us++[v]/\bV K H N hs us/\Mq K H N h v
 | [],d,vs,⟨x,r,e,g,z⟩=>by
  cases(show r=[] from z)
  exact⟨[],x,e,rfl,g⟩
 | c::ds,d,vs,⟨x,r,e,g,z⟩=>by
  obtain⟨us,v,rfl,g1,g2⟩:=bV.unsnoc (hs:=ds) z;exact⟨x::us,v,e,⟨x,us,rfl,g,g1⟩,g2⟩
end
theorem vd:(us++[v])[(us++[v]).length-1]?=some v:=by simp
noncomputable abbrev ZK:=List (Hu.Tc×List T3)
noncomputable def Mx:ZK->Nat
 | []=>0
 | p::r=>p.1.size+Mx r
theorem qz:∀a b,Mx (a++b)=Mx a+Mx b
 | [],b=>by simp[Mx]
 | p::a,b=>by have:=qz a b;simp only[y7,Mx];omega
theorem vA:∀S:ZK,S.length<=Mx S
 | []=>c5 _
 | p::r=>by
  have:=vA r;have:=Hu.Tc.size_pos p.1;simp only[Mx,j9];omega
inductive qB(K:W.Frag)(CN:Addr)(vs:List V)(H:Hp)(Q:VK)(E:XK):Prop
 | mk (x t):vs=[x]->Dat K H (Lp t) x->t.Sm 64->t.deep<=12->((t.told Hu.sqH=none->∀H',aJ H H'->E (.ref CN) none H'))->((∀L,t.told Hu.sqH=some L->∀l us H',aJ H H'->H l=none->H' l=some (.lst us)->bV K H' (λa=>H a=none/\a≠l) L us->Q (.ref l) H'))->qB K CN vs H Q E
structure HI(K:W.Frag)(H H':Hp)(t:Hu.Tc)(lf lt lh:Addr)(m:Nat)(S:ZK)(F:List (List T3))(fv tv hv:List V):Prop where
 sm:aJ H H'
 ef:H' lf=some (.lst fv)
 et:H' lt=some (.lst tv)
 eh:H' lh=some (.lst hv)
 df:bV K H' (λa=>H a=none/\a≠lf/\a≠lt/\a≠lh) F fv
 dt:DatAll K H' (S.map λp=>Lp p.1) tv
 dh:bV K H' (λa=>H a=none/\a≠lf/\a≠lt/\a≠lh) (S.map (·.2)) hv
 to:t.told Hu.sqH=(Hu.Tc.eU S.reverse).map (F++·)
 ok:∀p∈S,Hu.HK p.2/\p.1.Sm 64/\p.2.length+p.1.deep<=20
 me:Mx S=m
 few:F.length+m<=8900
variable{P:Program}{w:World}{K:W.Frag}{mg:Str->Option Value}{base:Heap}
theorem GY(T:aC K mg "hulls_of" mL)(tQ:Def P w K mg base 1 "square" [] (BB K))(IS:xi P w K mg base 3 "cut" ["hull","rule"] (BG K CN)):xi P w K mg base 4 "hulls_of" ["tree"] (qB K CN):=by
 refine CH T pZ ?_ ?_
 .walk_at "i1"
 walk_at "i2";obtain⟨x,t,rfl,dx,Uo,dp,kn,kc⟩:=h;have nd:=pZ.nd;have tsz:=Hu.Tc.size_le (t:=t) (d:=12) dp
 refine⟨_,(ah (aI (i:=1) (cf af))
  (ah (aI (i:=2) (cf (aa (pv 0) af)))
  (ah (aI (i:=3) (cf (aa (Ca tQ (hr.mono (by decide)) rfl) af)))
  (ah (jy PassesOwn.leaving (sj (pv 2) (λ_=>rfl)) (ah (aI (i:=4) (jg b9 B5 B6 kQ (pv 2)))
  (ah (aI (i:=5) (jg b9 B5 B6 kQ (pv 3)))
  (ao (aS (aF bS (aD aA (pv 4) aq) aQ (aH _)) (ao (bD (cO b9 i8 i9 bf (pv 1) (aa (pv 5) af)))) (ah (aI (i:=6) (Ow IS (hr.mono (by decide)) rfl (aa (pv 5) (aa (aD aA (pv 4) aq) af))))
  (ah (bD (cO b9 JC JD pz (pv 2) (aa (cf (aa (aD aA (pv 4) aq) (aa (aD aA (pv 4) aq) af))) af)))
  (ao (bD (cO b9 JC JD pz (pv 3) (aa (cf (aa (aD aA (pv 6) aq) (aa (aD aA (pv 6) aq) af))) af)))))))))))
  (ao (av (pv 1))))))),?_⟩
 refine⟨(by show 0<=sizeLine;decide),λlf YS=>?_⟩;refine⟨_,rfl,(by show 1<=sizeLine;decide),λlt Le=>?_⟩;refine⟨rfl,λl0 us0 H0 s0 f0 YU da0=>⟨(by show 1<=sizeLine;decide),λlh ME=>?_⟩⟩;have u1:=ak YS (.lst []);have u2:=ak Le (.lst [x]);have u3:=ak ME (.lst [.ref l0]);have ef0:H0 lf=some (.lst []):=s0 _ _ (u2 _ _ ae);have et0:H0 lt=some (.lst [x]):=s0 _ _ ae;have n1:lf≠lt:=λz=>by subst z;rw[ae]at Le;cases Le
 have n2:lf≠lh:=λz=>by subst z;rw[ef0]at ME;cases ME
 have n3:lt≠lh:=λz=>by subst z;rw[et0]at ME;cases ME
 have n4:l0≠lh:=λz=>by subst z;rw[YU]at ME;cases ME
 have XQ:=u1.trans (u2.trans s0);have Hlt:H lt=none:=u1.free Le;have Hlh:H lh=none:=XQ.free ME;have n5:l0≠lf:=λz=>by subst z;rw[u2 _ _ ae]at f0;cases f0
 have n6:l0≠lt:=λz=>by subst z;rw[ae]at f0;cases f0
 refine⟨λm σ H'=>∃S F fv tv hv,∃o4 o5 o6,σ=[some x,some (.ref lf),some (.ref lt),some (.ref lh),o4,o5,o6]/\HI K H H' t lf lt lh m S F fv tv hv,⟨t.size,[(t,Hu.sqH)],[],[],[x],[.ref l0],_,_,_,rfl,?_⟩,?_⟩
 .refine⟨XQ.trans u3,u3 _ _ ef0,u3 _ _ et0,ae,rfl,?_,?_,?_,?_,?_,?_⟩
  .exact⟨x,[],rfl,dx.ts (XQ.trans u3).ts,rfl⟩
  .exact bV.one ⟨l0,us0,rfl,⟨(u1.trans u2).free f0,n5,n6,n4⟩,u3 _ _ YU,da0.ts u3.ts⟩
  .show t.told Hu.sqH=(match t.told Hu.sqH,Hu.Tc.eU []with | some a,some b=>some (a++b) | _,_=>none).map ([]++·)
   cases t.told Hu.sqH with
   | none=>rfl
   | some L=>simp[Hu.Tc.eU]
  .intro p hp;rw[c9.mp hp];exact⟨Hu.iT,Uo,by show 4+t.deep<=20;omega⟩
  .simp[Mx]
  .show 0+t.size<=8900;omega
 rintro m σ H' ⟨S,F,fv,tv,hv,o4,o5,o6,rfl,I⟩
 refine⟨_,rfl,_,.inl ⟨tv,K7.of I.et,rfl⟩,?_⟩;have lt1:=I.dt.len;rw[i7]at lt1;have L5:=I.few;have WX:=I.me;have hlen:=vA S;rcases JQ S with e | ⟨S',p,e⟩
 .subst e;have e2:tv=[]:=E1 lt1;rw[e2];refine bL ⟨_,rfl,?_⟩;have to:=I.to;simp only[List.reverse_nil,Hu.Tc.eU,JF,A4]at to;exact kc F to lf fv H' I.sm YS I.ef (I.df.imp λa z=>⟨z.1,z.2.1⟩)
 rw[JR]at e;subst e;obtain⟨t1,h1⟩:=p;have dt:=I.dt;have dh:=I.dh;rw[l8]at dt dh;obtain⟨LG,b,rfl,dt',db⟩:=DatAll.unsnoc dt;obtain⟨Mg,c,rfl,dh',dc⟩:=bV.unsnoc dh;have hb:(!(LG++[b]).isEmpty)=true:=by cases LG<;>rfl
 rw[hb];obtain⟨hk,WU,hdp⟩:Hu.HK h1/\t1.Sm 64/\h1.length+t1.deep<=20:=I.ok (t1,h1) (l9 _ v8);have hlS:=vA S';have ok':∀q∈S',Hu.HK q.2/\q.1.Sm 64/\q.2.length+q.1.deep<=20:=λq hq=>I.ok q (A5 _ hq);rw[qz]at WX hlen;simp only[Mx]at WX hlen;have tp:=Hu.Tc.size_pos t1;have to:=I.to;rw[J6]at to;refine dH ⟨λσ' La=>∃m',m'<m/\∃S F fv tv hv,∃o4 o5 o6,σ'=[some x,some (.ref lf),some (.ref lt),some (.ref lh),o4,o5,o6]/\HI K H La t lf lt lh m' S F fv tv hv,λσ' La ⟨m',q1,q2⟩=>⟨m',q1,q2⟩,?_⟩;refine⟨_,rfl,.inl ⟨rfl,_,K7.of I.et⟩,lt,_,b,rfl,rfl,I.et,vd,?_⟩;rw[F2];have TC:(upd H' lt (.lst LG)) lh=some (.lst (Mg++[c])):=by rw[az (G5 n3)];exact I.eh
 have g1:LY H' (upd H' lt (.lst LG)):=dk I.et;refine⟨_,rfl,.inl ⟨rfl,_,K7.of TC⟩,lh,_,c,rfl,rfl,TC,vd,?_⟩;rw[F2];have g2:LY (upd H' lt (.lst LG)) (upd (upd H' lt (.lst LG)) lh (.lst Mg)):=dk TC;generalize VS:upd (upd H' lt (.lst LG)) lh (.lst Mg)=H2 at g2;have Q0:aJ H H2:=by rw[<- VS];exact aW (aW I.sm Hlt _) Hlh _
 have Qn:H2 lf=some (.lst fv):=by rw[<- VS,az n2,az n1];exact I.ef
 have VJ:H2 lt=some (.lst LG):=by rw[<- VS,az n3,ae]
 have VO:H2 lh=some (.lst Mg):=by rw[<- VS,ae]
 have Zy:=(I.df.mut (zs:=LG) I.et λa z=>z.2.2.1).mut (zs:=Mg) TC λa z=>z.2.2.2;have Zx:=(dh'.mut (zs:=LG) I.et λa z=>z.2.2.1).mut (zs:=Mg) TC λa z=>z.2.2.2;have Zz:=(dc.mut (zs:=LG) I.et λa z=>z.2.2.1).mut (zs:=Mg) TC λa z=>z.2.2.2;rw[VS]at Zy Zx Zz;have db2:=(db.ts g1).ts g2;have dt2:=(dt'.ts g1).ts g2;have lh1:=dh'.len;have lf1:=I.df.len;have lt2:=dt'.len;rw[i7]at lh1 lt2;cases t1 with
 | leaf =>
  obtain⟨a,rfl,sa⟩:=N4 db2;refine⟨_,rfl,_,_,_,_,rfl,rfl,sa,rfl,rfl,_,rfl,dH ?_⟩;refine⟨_,rfl,.inl ⟨rfl,_,K7.of Qn⟩,_,rfl,lf,fv,_,rfl,rfl,Qn,oJ (by omega),?_⟩;refine⟨Mx S',by omega,S',F++[h1],fv++[c],LG,Mg,_,_,_,rfl,?_⟩;refine⟨aW Q0 YS _,ae,by rw[az (G5 n1)];exact VJ,by rw[az (G5 n2)];exact VO,?_,dt2.ts (dk Qn),Zx.mut Qn (λa z=>z.2.1),?_,ok',rfl,?_⟩
  .exact(Zy.app (.one Zz)).mut Qn λa z=>z.2.1
  .rw[to];show(Hu.Tc.eU ((Hu.Tc.leaf,h1)::S'.reverse)).map _=_;rw[Hu.Tc.zF];cases Hu.Tc.eU S'.reverse with
   | none=>rfl
   | some L=>simp
  .rw[c7];simp only[j9,JG];omega
 | cut r l g =>
  obtain⟨a,y1,y2,y3,rfl,sa,d1,d2,d3⟩:=Fe db2;refine⟨_,rfl,_,_,_,_,rfl,rfl,sa,rfl,rfl,_,rfl,bL ?_⟩;obtain⟨cc,cu,rfl,cn,W3,dcc⟩:=Zz;have ddp:max l.deep g.deep+1+h1.length<=20:=by simp only[Hu.Tc.deep]at hdp;omega
  refine⟨_,rfl,_,rfl,_,_,_,_,rfl,rfl,sa,rfl,cc,y1,cu,h1,r,rfl,W3,dcc,d1,hk.hull.mono (by decide) (by omega),WU.1.mono (by decide),λnc H3 s3=>?_,λnc v H3 s3 cr=>?_⟩
  .refine kn ?_ H3 (Q0.trans s3);rw[to];show(Hu.Tc.eU ((Hu.Tc.cut r l g,h1)::S'.reverse)).map _=_;rw[Hu.Tc.EZ nc];rfl
  obtain⟨pt,pa,pb,w1,w2,rfl,Yi,fa,fb,sp,e1,e2,p1,p2⟩:=cr;have C:=Hu.iR hk WU.1 nc;have cl:=C.ll;have ch:=C.lh;refine⟨_,rfl,.inl ⟨rfl,_,K7.of (s3 _ _ VJ)⟩,_,rfl,_,_,_,_,rfl,rfl,sa.ts s3.ts,rfl,_,rfl,_,_,_,_,rfl,rfl,sa.ts s3.ts,rfl,(by show 2<=sizeLine;decide),λq1 NP=>?_⟩;have v1:=ak NP (.lst [y3,y2]);have Sq:=v1 _ _ (s3 _ _ VJ);refine⟨lt,q1,LG,[y3,y2],rfl,rfl,Sq,ae,(by show LG.length+2<=sizeLine;exact Jx (oJ (by omega))),?_⟩;have MK:=s3.trans v1;generalize VR:upd H3 q1 (.lst [y3,y2])=H4 at Sq MK;have g5:LY H4 (upd H4 lt (.lst (LG++[y3,y2]))):=dk Sq;have Ux:=Q0.trans MK;have Z6:K6 K H4 pt [.ref pa,.ref pb]:=by rw[<- VR];exact sp.ts v1.ts
  have ha4:H4 pa=some (.lst w1):=by rw[<- VR];exact v1 _ _ e1
  have hb4:H4 pb=some (.lst w2):=by rw[<- VR];exact v1 _ _ e2
  have p14:DatAll K H4 ((Hu.low r h1).map K9) w1:=by rw[<- VR];exact p1.ts v1.ts
  have p24:DatAll K H4 ((Hu.high r h1).map K9) w2:=by rw[<- VR];exact p2.ts v1.ts
  have ne2:∀z u,H2 z=some u->∀k,H2 k=none->k≠z:=λz u h3 k h4 h5=>by rw[h5,h3]at h4;cases h4
  have na:H pa=none/\pa≠lf/\pa≠lt/\pa≠lh:=⟨Q0.free fa,ne2 _ _ Qn _ fa,ne2 _ _ VJ _ fa,ne2 _ _ VO _ fa⟩;have nb:H pb=none/\pb≠lf/\pb≠lt/\pb≠lh:=⟨Q0.free fb,ne2 _ _ Qn _ fb,ne2 _ _ VJ _ fb,ne2 _ _ VO _ fb⟩;have Zn:(upd H4 lt (.lst (LG++[y3,y2]))) lh=some (.lst Mg):=by rw[az (G5 n3)];exact MK _ _ VO
  refine⟨_,rfl,.inl ⟨rfl,_,K7.of Zn⟩,_,rfl,_,_,_,_,rfl,rfl,Z6.ts g5,rfl,_,rfl,_,_,_,_,rfl,rfl,Z6.ts g5,rfl,(by show 2<=sizeLine;decide),λq2 LX=>?_⟩;have v2:=ak LX (.lst [.ref pb,.ref pa]);have eh5:(upd H4 lt (.lst (LG++[y3,y2]))) lh=some (.lst Mg):=by rw[az (G5 n3)];exact MK _ _ VO
  have ef5:(upd H4 lt (.lst (LG++[y3,y2]))) lf=some (.lst fv):=by rw[az n1];exact MK _ _ Qn
  have s25:aJ H (upd H4 lt (.lst (LG++[y3,y2]))):=aW Ux Hlt _;have et5:(upd H4 lt (.lst (LG++[y3,y2]))) lt=some (.lst (LG++[y3,y2])):=ae;have df5:=(Zy.same MK).mut (zs:=LG++[y3,y2]) Sq λa z=>z.2.2.1;have dh5:=(Zx.same MK).mut (zs:=LG++[y3,y2]) Sq λa z=>z.2.2.1;have da5:=(show Mq K H4 (λa=>H a=none/\a≠lf/\a≠lt/\a≠lh) (Hu.low r h1) (.ref pa) from⟨pa,w1,rfl,na,ha4,p14⟩).mut (zs:=LG++[y3,y2]) Sq λa z=>z.2.2.1;have db5:=(show Mq K H4 (λa=>H a=none/\a≠lf/\a≠lt/\a≠lh) (Hu.high r h1) (.ref pb) from⟨pb,w2,rfl,nb,hb4,p24⟩).mut (zs:=LG++[y3,y2]) Sq λa z=>z.2.2.1;have dt5:=(dt2.ts MK.ts).ts g5;have y35:=(d3.ts MK.ts).ts g5;have y25:=(d2.ts MK.ts).ts g5;generalize upd H4 lt (.lst (LG++[y3,y2]))=H5 at *;have TB:=v2 _ _ eh5;refine⟨lh,q2,Mg,[.ref pb,.ref pa],rfl,rfl,TB,ae,(by show Mg.length+2<=sizeLine;exact Jx (oJ (by omega))),?_⟩;have g6:LY (upd H5 q2 (.lst [.ref pb,.ref pa])) (upd (upd H5 q2 (.lst [.ref pb,.ref pa])) lh (.lst (Mg++[.ref pb,.ref pa]))):=dk TB;refine⟨Mx (S'++[(g,Hu.high r h1),(l,Hu.low r h1)]),?_,S'++[(g,Hu.high r h1),(l,Hu.low r h1)],F,fv,LG++[y3,y2],Mg++[.ref pb,.ref pa],_,_,_,rfl,?_⟩
  .rw[qz];simp only[Mx,Hu.Tc.size]at WX ⊢;omega
  refine⟨aW (s25.trans v2) Hlh _,by rw[az n2];exact v2 _ _ ef5,by rw[az n3];exact v2 _ _ et5,ae,(df5.same v2).mut TB (λa z=>z.2.2.2),?_,?_,?_,?_,rfl,?_⟩
  .rw[l8];exact((dt5.ts v2.ts).ts g6).append ⟨y3,[y2],rfl,(y35.ts v2.ts).ts g6,y2,[],rfl,(y25.ts v2.ts).ts g6,rfl⟩
  .rw[l8];exact((dh5.same v2).mut TB λa z=>z.2.2.2).app ⟨_,_,rfl,(db5.same v2).mut TB (λa z=>z.2.2.2),_,_,rfl,(da5.same v2).mut TB (λa z=>z.2.2.2),rfl⟩
  .rw[to,J6];show(Hu.Tc.eU ((Hu.Tc.cut r l g,h1)::S'.reverse)).map _=(Hu.Tc.eU ((l,Hu.low r h1)::(g,Hu.high r h1)::S'.reverse)).map _;rw[Hu.Tc.Dg nc]
  .intro q hq;rcases j6.mp hq with z | z
   .exact ok' q z
   .rcases j4.mp z with z | z
    .rw[z];exact⟨C.hi,WU.2.2,by show(Hu.high r h1).length+g.deep<=20;omega⟩
    .rw[c9.mp z];exact⟨C.lo,WU.2.1,by show(Hu.low r h1).length+l.deep<=20;omega⟩
  .rw[qz];simp only[Mx,Hu.Tc.size]at WX ⊢;omega
inductive FA(vs:List V)(H:Hp)(Q:VK)(E:XK):Prop
 | mk (i:Int):vs=[.int i]->i<=8->Q .non H->FA vs H Q E
inductive QY(C:Addr)(vs:List V)(H:Hp)(_:VK)(E:XK):Prop
 | mk (i:Int):vs=[.int i]->8<i->(∀H',aJ H H'->E (.ref C) none H')->QY C vs H _ E
variable{c:CCs}
theorem ok_few(T:aC K mg "must_be_few" jd)(xg:mg "MOST_FOLDS"=some (.int 8 tm)):Def P w K mg base 1 "must_be_few" ["folds"] FA:=by
 refine aP T kE ?_ ?_
 .walk_at "i1"
 walk_at "i2";obtain⟨i,rfl,hi,q⟩:=h;have nd:=kE.nd;refine⟨_,ao (aS (aF kh (pv 0) (cV (v:=V.int 8) rfl xg ⟨_,rfl⟩) (aH _)) (ao yh) aL),?_⟩;refine⟨_,rfl,_,_,rfl,rfl,_,rfl,cJ (λc=>?_) (λ_=>q)⟩;have c:(8:Int)<i:=c8 c;exfalso;omega
structure AU(K:W.Frag)(mg:Str->Option Value)(x s:Str):Prop where
 ex:∃a,mg x=some (.ref a)/\∀H,K6 K H a [.str s]
theorem De{n:Nat}(X:K.In h)(G:h.Ns mainGlobals mg)
  (e:PySem.W.nsIn K mainGlobals x=some (some (.ref a)))(l:K.lookup a=some ⟨.type "tuple",od,.seq its n,osl⟩)(hz:its.size<=sizeLine)(v:Vals [V.str s] its.toList):AU K mg x s:=
 ⟨a,KI X G e,λ_=>.inr ⟨_,its,n,l,rfl,rfl,hz,v⟩⟩
def Gd(Ls:List (List Hu.Row))(h:List T3)(T:Hu.Tc):Prop:=∃L,T.told h=some L/\∀g∈L,∀rows∈Ls,∃rs,Hu.run g rows []=.rules rs
theorem xr(n:¬Hu.gX r h):(Hu.Tc.cut r l g).told h=match l.told (Hu.low r h),g.told (Hu.high r h) with | some a,some b=>some (a++b) | _,_=>none:=by
 conv=>lhs;unfold Hu.Tc.told
 rw[d9 n]
 all_goals (cases l.told (Hu.low r h)<;>cases g.told (Hu.high r h)<;>rfl)
theorem Gd.leaf(k:∀rows∈Ls,∃rs,Hu.run h rows []=.rules rs):Gd Ls h .leaf:=⟨[h],rfl,λg hg rows hr=>by rw[c9.mp hg];exact k rows hr⟩
theorem Gd.cut(n:¬Hu.gX t h)(a:Gd Ls (Hu.low t h) X1)(b:Gd Ls (Hu.high t h) X2):Gd Ls h (.cut t X1 X2):=by
 obtain⟨L1,e1,k1⟩:=a;obtain⟨L2,e2,k2⟩:=b;exact⟨L1++L2,by rw[xr n,e1,e2],λg hg=>(j6.mp hg).elim (k1 g) (k2 g)⟩
theorem Fq(h:(Ls.map Hu.fds).sum<=8):Hu.TnL Ls 8 Hu.sqH:=⟨Hu.iT,by show 4+8<=20;decide,l7 (Hu.zK Ls λx _=>Hu.need_le _ x) h⟩
inductive qV(K:W.Frag)(n:Nat)(vs:List V)(H:Hp)(Q:VK)(E:XK):Prop
 | mk (l lr us ws rows h) (d:Nat):vs=[.ref l,.ref lr]->H l=some (.lst us)->DatAll K H (h.map K9) us->H lr=some (.lst ws)->DatAll K H (rows.map lR) ws->mY rows->0<rows.length->rows.length<=60->Sml rows->Hu.TnL [rows] d h->d+1<=n->(∀v T H',aJ H H'->Dat K H' (Lp T) v->T.Sm 8->T.deep<=d->T.iR+1<=2^d->Gd [rows] h T->Q v H')->qV K n vs H Q E
inductive qC(c:CCs)(K:W.Frag)(vs:List V)(H:Hp)(Q:VK)(E:XK):Prop
 | mk (a t):vs=[.ref a]->Ob c H a t->t.size<=60->t.nf<=8->(∀v T H',aJ H H'->Dat K H' (Lp T) v->T.Sm 8->T.deep<=8->T.iR+1<=2^8->Gd [bu t] Hu.sqH T->Q v H')->qC c K vs H Q E
theorem DA(T:aC K mg "tree_on" oN)(TL:AU K mg "LEAF" "leaf")(ia:Def P w K mg base 4 "rules_of_rows" ["rows","hull"] (qA K))(IS:xi P w K mg base 3 "cut" ["hull","rule"] (BG K CN)):∀n:Nat,Def P w K mg base (n+4) "tree_on" ["hull","rows"] (qV K n):=by
 intro n
 induction n with
 | zero =>
  refine aP T mr ?_ ?_
  .walk_at "i1"
  .walk_at "i2";obtain⟨l,lr,us,ws,rows,h,d,rfl,_,_,_,_,_,_,_,_,_,z,_⟩:=h;omega
 | succ n lP =>
  refine aP T mr ?_ ?_
  .walk_at "i1"
  walk_at "i2";obtain⟨l,lr,us,ws,rows,h,d,rfl,el,da,er,dr,ok,pos,few,XH,tn,dn,q⟩:=h;have nd:=mr.nd;obtain⟨aLF,S4,qL⟩:=TL.ex;have n3:=tn.hk.n3;have hl:=tn.ln;refine⟨_,(ah (aI (i:=2) (aK ia (aa (pv 1) (aa (pv 0) af))))
  (ah (aS (aF bS (aD aA (pv 2) aq) aQ (aH _)) (ao (av (cV (v:=V.ref aLF) rfl S4 rfl))) aL)
  (ah (aI (i:=3) (aD aA (pv 2) aq))
  (ah (aI (i:=4) (wu IS (hr.mono (by omega)) rfl (aa (pv 0) (aa (pv 3) af))))
  (ao (av (bj (aa aQ (aa (pv 3) (aa (aK lP (aa (aD aA (pv 4) aq) (aa (pv 1) af))) (aa (aK lP (aa (aD aA (pv 4) aq) (aa (pv 1) af))) af))))))))))),?_⟩
  refine⟨_,rfl,_,rfl,lr,l,ws,us,rows,h,rfl,er,dr,ok,pos,by omega,el,da,(λp hp=>(tn.hk.ok p hp).r.mono (by decide)),by omega,by omega,λrs t lr2 ws2 H1 s1 ru rb rl f2 st e2 d2=>?_,λk tt t v H1 s1 mx kl bt st dv=>?_⟩
  .refine⟨_,rfl,_,_,_,_,rfl,rfl,st,rfl,rfl,_,rfl,ite_yes rfl ?_⟩;exact q _ .leaf _ s1 (oF (qL _)) trivial (x4 _) (Jk) (Gd.leaf λx hx=>by rw[c9.mp hx];exact⟨rs,ru⟩)
  .refine⟨_,rfl,_,_,_,_,rfl,rfl,st,rfl,rfl,_,rfl,ite_no (by decide+kernel) ?_⟩;obtain⟨V6,d',ed,T1,T2⟩:=tn.cut v8 ok few mx;subst ed;refine⟨_,rfl,_,_,_,_,rfl,rfl,st,rfl,?_⟩;refine⟨_,rfl,_,rfl,l,v,us,h,tt,rfl,s1 _ _ el,da.ts s1.ts,dv,tn.hk.hull.mono (by decide) (by omega),V6.mono (by decide),(λz=>absurd z (Hu.pA mx)),λ_ v2 H2 s2 cr=>?_⟩;obtain⟨t2,a,b,Na,MS,rfl,Yi,fa,fb,sq,ea,eb,d1,d2⟩:=cr;have LS:=s1.trans s2;refine⟨_,rfl,_,rfl,_,_,_,_,rfl,rfl,sq,rfl,_,rfl,a,lr,Na,ws,rows,_,d',rfl,ea,d1,LS _ _ er,dr.ts LS.ts,ok,pos,few,XH,T1,by omega,λv3 X1 H3 s3 d3 m3 p3 c3 g3=>?_⟩;refine⟨_,rfl,_,_,_,_,rfl,rfl,sq.ts s3.ts,rfl,_,rfl,b,lr,MS,ws,rows,_,d',rfl,s3 _ _ eb,d2.ts s3.ts,(LS.trans s3) _ _ er,dr.ts (LS.trans s3).ts,ok,pos,few,XH,T2,by omega,λv4 X2 H4 s4 d4 m4 p4 c4 g4=>?_⟩;refine⟨(by show 4<=sizeLine;decide),λp hp=>?_⟩;have u5:=ak hp (.tup [.str "cut",v,v3,v4]);have e2:2^(d'+1)=2*2^d':=by rw[G3];omega
   exact q _ (.cut tt X1 X2) _ (((LS.trans s3).trans s4).trans u5) (Fd (K6.of ae) (dv.ts (((s2.trans s3).trans s4).trans u5).ts) (d3.ts (s4.trans u5).ts) (d4.ts u5.ts)) ⟨XH _ _ _ mx,m3,m4⟩ (by simp only[Hu.Tc.deep];omega) (by show 1+X1.iR+X2.iR+1<=_;omega) (Gd.cut (Hu.pA mx) g3 g4)
theorem Hc(T:aC K mg "cutting" oX)(M:∀t,bC P w K mg base (c.of t) "folds" 3 ["self"] (rj c t))(um:Def P w K mg base 1 "must_be_few" ["folds"] FA)(tQ:Def P w K mg base 1 "square" [] (BB K))(pM:Def P w K mg base 3 "rows_of" ["saying"] (qW c))(lP:Def P w K mg base 13 "tree_on" ["hull","rows"] (qV K 9)):Def P w K mg base 14 "cutting" ["saying"] (qC c K):=by
 refine aP T rR ?_ ?_
 .walk_at "i1"
 walk_at "i2";obtain⟨a,t,rfl,oa,sz,nf8,q⟩:=h;have nd:=rR.nd;obtain⟨dx,fs,ea,nf⟩:=oa.cls;have R:=sf t;have fd:=R.fd;have ln:=R.len
 refine⟨_,(ah (bD (aK um (aa (gy (k:=3) (pv 0) (hr.mono (by omega))) af)))
  (ao (av (aK lP (aa (Ca tQ (hr.mono (by omega)) rfl) (aa (aK pM (aa (pv 0) af)) af)))))),?_⟩
 refine⟨_,rfl,a,_,_,_,_,_,rfl,ea,nf _ (by decide+kernel),M t,a,rfl,oa,by omega,λH1 s1=>⟨_,rfl,by omega,?_⟩⟩;refine⟨rfl,λl us H2 s2 hl el da=>?_⟩;have LS:=s1.trans s2;refine⟨_,rfl,a,t,rfl,oa.to (Kp.of LS),by omega,λlr ws H3 s3 Mu er al=>?_⟩;exact⟨l,lr,us,ws,bu t,Hu.sqH,8,rfl,s3 _ _ el,da.ts s3.ts,er,R.dat al,R.ok,R.pos,by omega,Um (by omega),Fq (by simp;omega),by decide,λv T H4 s4 d4 m4 p4 c4 g4=>q v T H4 ((LS.trans s3).trans s4) d4 m4 p4 c4 g4⟩
def NZ(K:W.Frag)(H:Hp)(v:V)(p:Int×Int):Prop:=∃a,v=.ref a/\K6 K H a [.int p.1,.int p.2]
theorem NZ.to(s:aJ H H')(h:NZ K H v p):NZ K H' v p:=by
 obtain⟨a,rfl,q⟩:=h;exact⟨a,rfl,q.ts s.ts⟩
inductive vI(K:W.Frag)(vs:List V)(H:Hp)(Q:VK)(E:XK):Prop
 | mk (t b:Int):vs=[.int t,.int b]->b≠0->Bg b->(∀v H',aJ H H'->NZ K H' v (Lo.yJ t b,Lo.yK t b)->Q v H')->vI K vs H Q E
inductive qX(K:W.Frag)(vs:List V)(H:Hp)(Q:VK)(E:XK):Prop
 | mk (x y f g):vs=[x,y]->NZ K H x f->NZ K H y g->Bg f.1->Bg f.2->Bg g.1->Bg g.2->Q (.bl (decide (f.1*g.2<g.1*f.2))) H->qX K vs H Q E
theorem tX(T:aC K mg "fraction" mM)(eZ:Def P w K mg base 1 "common_factor" ["one","other"] nI):Def P w K mg base 2 "fraction" ["top","bottom"] (vI K):=by
 refine aP T qc ?_ ?_
 .walk_at "i1"
 walk_at "i2";obtain⟨t,b,rfl,hb,hs,q⟩:=h;have nd:=qc.nd
 refine⟨_,(ah (aS (aF bS (pv 1) aq (aH _)) (ao Oo) aL)
  (ah (aI (i:=2) (aK eZ (aa (pv 0) (aa (pv 1) af))))
  (ah (aS (aF iK (pv 1) aq (aH _)) (ao (aI (i:=2) (lZ gp (pv 2)))) aL)
  (ao (av (bj (aa (aM iL (pv 0) (pv 2)) (aa (aM iL (pv 1) (pv 2)) af)))))))),?_⟩
 refine⟨_,rfl,rfl,_,rfl,?_⟩;refine cJ (λc=>absurd (V.int.inj (c8 c)) hb) (λc=>?_);have Tw:Bg (Lo.sg t b):=d8 (Lo.sg_le hb) hs;refine⟨_,rfl,_,rfl,t,b,rfl,?_⟩;refine⟨_,rfl,_,_,rfl,rfl,_,rfl,?_⟩;refine cJ (λc=>?_) (λc=>?_)
 .have c2:b<0:=c8 c;have es:-(Lo.gc t b)=Lo.sg t b:=by unfold Lo.sg;rw[d7 c2]
  refine⟨_,rfl,_,rfl,_,rfl,_,rfl,_,_,rfl,rfl,(by rw[es];exact wR (Lo.uI hb) Tw),_,rfl,_,rfl,_,_,rfl,rfl,(by rw[es];exact wR (Lo.uI hb) Tw),(by show 2<=sizeLine;decide),λp hp=>?_⟩;rw[es];exact q _ _ (ak hp _) ⟨p,rfl,K6.of ae⟩
 .have c2:¬b<0:=λz=>c (e9 z);have es:Lo.gc t b=Lo.sg t b:=by unfold Lo.sg;rw[d9 c2]
  refine⟨_,rfl,_,rfl,_,_,rfl,rfl,(by rw[es];exact wR (Lo.uI hb) Tw),_,rfl,_,rfl,_,_,rfl,rfl,(by rw[es];exact wR (Lo.uI hb) Tw),(by show 2<=sizeLine;decide),λp hp=>?_⟩;rw[es];exact q _ _ (ak hp _) ⟨p,rfl,K6.of ae⟩
theorem DF(T:aC K mg "less" zV):Def P w K mg base 1 "less" ["one","other"] (qX K):=by
 refine aP T BM ?_ ?_
 .walk_at "i1"
 walk_at "i2";obtain⟨x,y,f,g,rfl,⟨a,rfl,sa⟩,⟨c,rfl,sc⟩,b1,b2,b3,b4,k⟩:=h;have nd:=BM.nd;refine⟨_,(ao (av (dO iK (aM bo (aD aA (pv 0) aq) (aD aA (pv 1) aq)) (aM bo (aD aA (pv 1) aq) (aD aA (pv 0) aq)) (aH _)))),?_⟩;exact⟨_,rfl,_,_,_,_,rfl,rfl,sa,rfl,_,rfl,_,_,_,_,rfl,rfl,sc,rfl,_,_,rfl,rfl,eI b1 b4,_,rfl,_,_,_,_,rfl,rfl,sc,rfl,_,rfl,_,_,_,_,rfl,rfl,sa,rfl,_,_,rfl,rfl,eI b3 b2,_,_,rfl,rfl,k⟩
theorem Iv{H:Hp}{l:Addr}(g:Int->V)(sq:K6 K H l (is.map V.int))(hx:is.length<=1000)
  (hs:∀(i:Int) H' N,aJ H H'->(∀La,aJ H' La->N (g i) La)->te (some (.int i)::bQ js σ) H' N)
  (hd:∀D H',aJ H H'->H D=none->H' D=some (.lst (is.map g))->Q (.ref D) H'):iS (λ_ H R=>R (NJ K l) H) ke te js σ H Q:=by
 intro D hD;refine⟨λi m H'=>m=is.length-i/\i<=is.length/\aJ H H'/\H' D=some (.lst ((is.take i).map g)),⟨is.length,rfl,x4 _,ak hD _,ae⟩,?_⟩;rintro i m H2 ⟨rfl,hi,s2,eD⟩
 have Tb:=sq.ts s2.ts
 by_cases Le:i<is.length
 .have h1:(is.map V.int)[i]?=some (.int is[i]):=by rw[w6,c6 Le];rfl
  refine .inr ⟨⟨_,_,Tb,h1⟩,λv H3 y=>?_⟩;obtain⟨rfl,y⟩:=y;have hv:=y _ Tb;rw[h1]at hv;cases hv
  refine gU ?_;refine hs _ _ _ s2 λH4 s4=>?_;refine⟨_,s4 _ _ eD,d8 (show _<=1000 by rw[i7,G0];omega) (by decide),is.length-(i+1),by omega,rfl,Le,aW (s2.trans s4) hD _,?_⟩;rw[ae,A2,c6 Le,l8];rfl
 .have ei:i=is.length:=by omega
  subst ei;rw[z9]at eD;exact .inl ⟨⟨_,Tb,by simp⟩,hd D H2 s2 hD eD⟩
def TM(K:W.Frag)(H:Hp)(p:Addr)(n x y:Int):Prop:=K6 K H p [.int n,.int x,.int y]/\1<=n/\0<=x/\x<=n/\0<=y/\y<=n
theorem TM.to{x y:Int}(h:TM K H p n x y)(s:aJ H H'):TM K H' p n x y:=⟨h.1.ts s.ts,h.2⟩
inductive ri(K:W.Frag)(vs:List V)(H:Hp)(Q:VK)(E:XK):Prop
 | mk (p) (n x y:Int):vs=[.ref p]->TM K H p n x y->(∀H',aJ H H'->Q (.bl true) H')->ri K vs H Q E
inductive mq(K:W.Frag)(vs:List V)(H:Hp)(Q:VK)(E:XK):Prop
 | mk (p) (n x y:Int):vs=[.ref p]->TM K H p n x y->(∀H',aJ H H'->Q .non H')->mq K vs H Q E
inductive oG(c:CCs)(K:W.Frag)(vs:List V)(H:Hp)(Q:VK)(E:XK):Prop
 | mk (a p t) (n x y:Int):vs=[.ref a,.ref p]->Ob c H a t->t.size<=1000->TM K H p n x y->(∀H',aJ H H'->Q (.int (t.worth n x y)) H')->oG c K vs H Q E
theorem wA(T:aC K mg "is_point" iF)(aR:mg "isinstance"=none)(bB:mg "tuple"=none)(bG:mg "len"=none)(iO:mg "all"=none)(Bo:Def P w K mg base 1 "is_whole" ["thing"] xC):Def P w K mg base 2 "is_point" ["thing"] (ri K):=by
 refine aP T rO ?_ ?_
 .walk_at "i1"
 walk_at "i2";obtain⟨p,n,x,y,rfl,⟨e,g1,g2,g3,g4,g5⟩,q⟩:=h;have nd:=rO.nd
 have ex1:∃te,PE (cN CX0 P w K mg base ptN "is_point" (au iF) f cdv A outer s H E).nox (SS (X7 1)) te/\∀(Q':VK)(o1:Option V),(∀l H',aJ H H'->H' l=some (.lst [.bl true,.bl true,.bl true])->Q' (.ref l) H')->te [some (.ref p),o1] H Q':=by
  refine⟨_,(dC (pf (pv 0)) cE (λ_ _ _ _=>cM) (λ_ _ _ _=>(aK Bo (aa (pv 0) af)))),?_⟩;intro Q' o1 fin;refine ix ?_;refine⟨_,rfl,p,rfl,⟨_,e⟩,?_⟩;refine Iv (K:=K) (is:=[n,x,y]) (λ_=>.bl true) e (by show 3<=1000;decide) (λi H' N s1 hN=>?_) (λD H' s1 hD eD=>fin D H' s1 eD);exact⟨_,rfl,i,rfl,hN _ (aJ.refl _)⟩
 obtain⟨t1,OS,NP⟩:=ex1
 refine⟨_,ah (aS (PW.pt (gW (fM (eB (aG iA aR (aa (pv 0) (aa (gP (v:=V.ty "tuple") rfl bB (by decide+kernel) rfl) af))))) (hZ (aF ma (aG bJ bG (aa (pv 0) af)) aq (aH _))))) (ao (av iJ)) aL) (ah (aS (fM (eB (aG (lx rfl) iO (aa OS af)))) (ao (av iJ)) aL) (ah (aI (i:=1) (aD aA (pv 0) aq))
  (ao (av (jh (dO qf (pv 1) aq (aH _)) (jh (yj jz jz aq (aD aA (pv 0) aq) (pv 1)) (mQ (yj jz jz aq (aD aA (pv 0) aq) (pv 1))))))))),?_⟩
 refine⟨_,rfl,_,_,_,_,true,rfl,(λ_ h=>h),e,fQ,_,rfl,?_⟩;refine bL ⟨_,rfl,_,3,rfl,.inr ⟨_,e,rfl⟩,rfl,_,rfl,?_⟩;refine Qb rfl ?_;refine NP _ _ λl H1 s1 el=>?_;have e1:=e.ts s1.ts;refine⟨l,[true,true,true],rfl,K7.of el,_,rfl,bL ?_⟩;refine⟨_,rfl,_,_,_,_,rfl,rfl,e1,rfl,?_⟩;refine⟨_,rfl,_,_,rfl,rfl,_,rfl,?_⟩;rw[e9 (show n>=1 from g1)];refine dH ⟨_,rfl,_,_,_,_,rfl,rfl,e1,rfl,_,_,rfl,rfl,_,rfl,?_⟩;rw[e9 (show(0:Int)<=x from g2)];refine dH ⟨_,rfl,_,_,rfl,rfl,_,rfl,?_⟩;rw[e9 (show x<=n from g3)];refine dH ⟨_,rfl,_,_,_,_,rfl,rfl,e1,rfl,_,_,rfl,rfl,_,rfl,?_⟩;rw[e9 (show(0:Int)<=y from g4)];refine dH ⟨_,rfl,_,_,rfl,rfl,?_⟩;show Q (.bl (decide (y<=n))) H1;rw[e9 (show y<=n from g5)];exact q _ s1
theorem yo(T:aC K mg "must_be_point" hU)(Bp:Def P w K mg base 2 "is_point" ["thing"] (ri K)):Def P w K mg base 3 "must_be_point" ["thing"] (mq K):=by
 refine aP T uO ?_ ?_
 .walk_at "i1"
 walk_at "i2";obtain⟨p,n,x,y,rfl,g,q⟩:=h;have nd:=uO.nd;refine⟨_,(ao (aS (fM (eB (aK Bp (aa (pv 0) af)))) (ao yh) aL)),?_⟩;exact⟨_,rfl,p,n,x,y,rfl,g,λH' s'=>⟨_,rfl,bL (q _ s')⟩⟩
theorem uJ:aB ["saying","point"] ["saying","point"] (au vR):=L2.fsc rfl (by decide+kernel)
theorem Ad(T:aC K mg "worth" vR)(qw:Def P w K mg base 3 "must_be_point" ["thing"] (mq K))(M:∀t,bC P w K mg base (c.of t) "out_of" 3 ["self","n","x","y"] (Fu c t)):Def P w K mg base 4 "worth" ["saying","point"] (oG c K):=by
 refine aP T uJ ?_ ?_
 .walk_at "i1"
 walk_at "i2";obtain⟨a,p,t,n,x,y,rfl,o,z,g,q⟩:=h;have nd:=uJ.nd
 refine⟨_,(ah (bD (aK qw (aa (pv 1) af)))
  (ao (av (sA (k:=3) (pv 0) (hr.mono (by omega)) (aa (aD aA (pv 1) aq) (aa (aD aA (pv 1) aq) (aa (aD aA (pv 1) aq) af))))))),?_⟩
 refine⟨_,rfl,p,n,x,y,rfl,g,λH1 s1=>?_⟩;have o1:=o.to (Kp.of s1);have e1:=(g.to s1).1;obtain⟨dx,fs,ea,nf⟩:=o1.cls;exact⟨_,rfl,a,_,_,_,_,_,rfl,ea,nf _ (by decide+kernel),M t,_,rfl,_,_,_,_,rfl,rfl,e1,rfl,_,rfl,_,_,_,_,rfl,rfl,e1,rfl,_,rfl,_,_,_,_,rfl,rfl,e1,rfl,a,n,x,y,rfl,o1,z,λH2 s2=>q _ (s1.trans s2)⟩
noncomputable def OL(w n:Int):Int×Int:=(Lo.yJ w n,Lo.yK w n)
theorem Cn{w:Int}(hn:0<n):(OL w n).1*n=w*(OL w n).2/\0<(OL w n).2:=by
 have g0:0<Lo.gc w n:=Lo.AJ (by omega);have es:Lo.sg w n=Lo.gc w n:=by unfold Lo.sg;rw[d9 (by omega)]
 obtain⟨k1,e1⟩:=Lo.eJ w n;obtain⟨k2,e2⟩:=Lo.fS w n
 have f1:w.fdiv (Lo.gc w n)=k1:=by
  conv=>lhs;arg 1;rw[e1]
  exact KL k1 (by omega)
 have f2:n.fdiv (Lo.gc w n)=k2:=by
  conv=>lhs;arg 1;rw[e2]
  exact KL k2 (by omega)
 show w.fdiv (Lo.sg w n)*n=w*n.fdiv (Lo.sg w n)/\0<n.fdiv (Lo.sg w n);rw[es,f1,f2];generalize Lo.gc w n=g at *;refine⟨?_,?_⟩
 .rw[e1,e2];grind
 .rcases A0 0 k2 with z | z
  .exact z
  .exact absurd (E8 (y9 g0) z) (by omega)
theorem kR{f g:Int×Int}{w:Int}(hf:0<f.2)(hg:0<g.2)(hn:0<n)(h:g.1*f.2<=f.1*g.2)(k:f.1*n<=w*f.2):g.1*n<=w*g.2:=by
 have h1:g.1*f.2*n<=f.1*g.2*n:=G2 h (y9 hn);have h2:f.1*n*g.2<=w*f.2*g.2:=G2 k (y9 hg);refine Kj (a:=f.2) ?_ hf;have e1:g.1*n*f.2=g.1*f.2*n:=by grind
 have e2:w*g.2*f.2=w*f.2*g.2:=by grind
 have e3:f.1*g.2*n=f.1*n*g.2:=by grind
 omega
namespace Hu
theorem Tc.told_cone:∀{t:Tc}{h:List T3}{L:List (List T3)},HK h->t.Sm 64->t.told h=some L->∀g∈L,∀c∈g,eS h c
 | .leaf,h,L,H,_,e,g,hg,c,hc=>by
  cases e
  rw[c9.mp hg]at hc;exact eO hc
 | .cut r l k,h,L,H,sm,e,x,hx,p,hp=>by
  unfold Tc.told at e;split at e
  .cases e
  .rename_i nc;have c:=Hu.iR H sm.1 nc;cases ea:l.told (low r h) with
   | none=>rw[ea]at e;cases e
   | some a=>cases eb:k.told (high r h) with
    | none=>rw[ea,eb]at e;cases e
    | some b =>
     rw[ea,eb]at e;cases e
     rcases j6.mp hx with z | z
     .exact eS.sub (fh H) (Tc.told_cone c.lo sm.2.1 ea x z p hp)
     .exact eS.sub (fh H) (Tc.told_cone c.hi sm.2.2 eb x z p hp)
theorem ig(C:eS sqH p):0<=p.v/\p.v<=p.u/\0<=p.w/\p.w<=p.u:=by
 have h:∀f:T3,0<=tl f ⟨1,0,0⟩->0<=tl f ⟨1,1,0⟩->0<=tl f ⟨1,1,1⟩->0<=tl f ⟨1,0,1⟩->0<=tl f p:=λf a b c d=>C f λx hx=>by
  simp only[sqH,j4,A3,G4]at hx;rcases hx with rfl | rfl | rfl | rfl<;>assumption
 have e:∀f q:T3,tl f q=f.u*q.v+f.v*q.w+f.w*q.u:=λ_ _=>rfl;have h1:=h ⟨1,0,0⟩ (by decide) (by decide) (by decide) (by decide);have h2:=h ⟨-1,0,1⟩ (by decide) (by decide) (by decide) (by decide);have h3:=h ⟨0,1,0⟩ (by decide) (by decide) (by decide) (by decide);have h4:=h ⟨0,-1,1⟩ (by decide) (by decide) (by decide) (by decide);rw[e]at h1 h2 h3 h4;refine⟨?_,?_,?_,?_⟩<;>simp at h1 h2 h3 h4<;>omega
end Hu
theorem ir:∀{t:Hu.Tc}{h:List T3}{L:List (List T3)},t.told h=some L->L.length=t.iR+1
 | .leaf,h,L,e=>by cases e;rfl
 | .cut r l g,h,L,e=>by
  unfold Hu.Tc.told at e;split at e
  .cases e
  .cases ea:l.told (Hu.low r h) with
   | none=>rw[ea]at e;cases e
   | some a=>cases eb:g.told (Hu.high r h) with
    | none=>rw[ea,eb]at e;cases e
    | some b =>
     rw[ea,eb]at e;cases e
     have:=ir ea;have:=ir eb;rw[c7];show _=1+l.iR+g.iR+1;omega
def NK(K:W.Frag)(H:Hp)(v:V)(h:List T3):Prop:=∃a us,v=.ref a/\H a=some (.lst us)/\DatAll K H (h.map K9) us
theorem NK.to(s:aJ H H')(v:V)(h:List T3)(y:NK K H v h):NK K H' v h:=by
 obtain⟨a,us,rfl,e,d⟩:=y;exact⟨a,us,rfl,s _ _ e,d.ts s.ts⟩
theorem bV.all2:∀{L:List (List T3)}{vs:List V},bV K H N L vs->cH (NK K H) vs L
 | [],_,g=>by cases(show _=([]:List V) from g);exact .nil
 | _::_,_,⟨v,r,e,⟨a,us,e1,_,e2,e3⟩,g2⟩=>by subst e;exact .cons ⟨a,us,e1,e2,e3⟩ g2.all2
theorem TZ{i j:Int}(hn:0<=n)(a:0<=i/\i<=n)(b:0<=j/\j<=n):0<=u.worth n i j/\u.worth n i j<=n:=by
 cases u with
 | more=>show 0<=min (i+j) n/\min (i+j) n<=n;omega
 | less=>show 0<=max (i+j-n) 0/\max (i+j-n) 0<=n;omega
 | greater=>show 0<=max i j/\max i j<=n;omega
 | lesser=>show 0<=min i j/\min i j<=n;omega
 | leads=>show 0<=min (n-i+j) n/\min (n-i+j) n<=n;omega
theorem ft{x y:Int}(hn:0<=n)(a:0<=x/\x<=n)(b:0<=y/\y<=n):∀t:Tr,0<=t.worth n x y/\t.worth n x y<=n
 | .no t=>by
  have:=ft hn a b t;show 0<=n-t.worth n x y/\n-t.worth n x y<=n;omega
 | .fold w u v=>TZ hn (ft hn a b u) (ft hn a b v)
 | .never=>⟨D5 _,hn⟩
 | .always=>⟨hn,D5 _⟩
 | .lp=>a
 | .lq=>b
noncomputable def WF(a:Tr)(c:T3):Int×Int:=OL (a.worth c.u c.v c.w) c.u
def Ws(K:W.Frag)(H:Hp)(a:Tr)(cs:List T3)(ol op:V):Prop:=(cs=[]/\ol=.non/\op=.non)\/∃pt,pt∈cs/\NZ K H ol (WF a pt)/\Dat K H (K9 pt) op/\∀c∈cs,(WF a pt).1*c.u<=a.worth c.u c.v c.w*(WF a pt).2
inductive QW(c:CCs)(K:W.Frag)(vs:List V)(H:Hp)(Q:VK)(E:XK):Prop
 | mk (x a):vs=[.ref x]->Ob c H x a->a.size<=60->a.nf<=8->(∀p vl vp vt pt T L H',aJ H H'->H' p=some (.tup [vl,vp,vt])->NZ K H' vl (WF a pt)->Dat K H' (K9 pt) vp->Dat K H' (Lp T) vt->T.Sm 8->T.deep<=8->T.iR+1<=2^8->T.told Hu.sqH=some L->(∀g∈L,∃rs,Hu.run g (bu a) []=.rules rs)->(∃g∈L,pt∈g)->(∀g∈L,∀c∈g,(WF a pt).1*c.u<=a.worth c.u c.v c.w*(WF a pt).2)->Q (.ref p) H')->QW c K vs H Q E
section
variable{P:Program}{w:World}{K:W.Frag}{mg:Str->Option Value}{base:Heap}{c:CCs}
theorem ok_lw(T:aC K mg "least_worth" je)(pO:Def P w K mg base 14 "cutting" ["saying"] (qC c K))(nq:xi P w K mg base 4 "hulls_of" ["tree"] (qB K CN))(Pw:Def P w K mg base 4 "worth" ["saying","point"] (oG c K))(Bq:Def P w K mg base 2 "fraction" ["top","bottom"] (vI K))(S8:Def P w K mg base 1 "less" ["one","other"] (qX K)):Def P w K mg base 16 "least_worth" ["saying"] (QW c K):=by
 refine aP T kF ?_ ?_
 .walk_at "i1"
 walk_at "i2";obtain⟨x,a,rfl,oa,sz,n8,q⟩:=h;have nd:=kF.nd
 refine⟨_,(ah (aI (i:=1) (aK pO (aa (pv 0) af)))
  (ah (aI (i:=2) bN)
  (ah (aI (i:=3) bN)
  (ah (dB x5 rfl (cq (wu nq (hr.mono (by omega)) rfl (aa (pv 1) af))) (aO (i:=4)) (ao (dB x5 rfl (cq (pv 4)) (aO (i:=5)) (ah (aI (i:=6) (aK Bq (aa (aK Pw (aa (pv 0) (aa (pv 5) af))) (aa (aD aA (pv 5) aq) af))))
  (ao (aS (PW.pt (gW (aF ji (pv 2) bN (aH _)) (hZ (eB (aK S8 (aa (pv 6) (aa (pv 2) af))))))) (ah (aI (i:=2) (pv 6))
  (ao (aI (i:=3) (pv 5)))) aL))))))
  (ao (av (bj (aa (pv 2) (aa (pv 3) (aa (pv 1) af)))))))))),?_⟩
 refine⟨_,rfl,x,a,rfl,oa,sz,n8,λvt X H1 s1 dt sm dp cu gd=>?_⟩;obtain⟨L,eL,kL⟩:=gd;have Ng:X.Sm 64:=sm.mono (by decide);have hk:=Hu.Tc.gG Hu.iT Ng eL;have cn:=Hu.Tc.told_cone Hu.iT Ng eL;refine⟨_,rfl,vt,X,rfl,dt,Ng,by omega,λnn=>absurd (eL.symm.trans nn) (λz=>by cases z),λL' NT l us H2 s2 hl el al=>?_⟩;rw[eL]at NT;cases NT
 have LS:=s1.trans s2;have V8:=al.all2;have lu:=V8.len;have hp:∀g∈L,∀p∈g,0<p.u/\(0<=p.v/\p.v<=p.u/\0<=p.w/\p.w<=p.u)/\Bg p.u:=λg hg p hp=>⟨((hk g hg).1.ok p hp).n0,Hu.ig (cn g hg p hp),dI ((hk g hg).1.ok p hp).r.a (by decide)⟩
 have wb:∀g∈L,∀p∈g,Bg (WF a p).1/\Bg (WF a p).2/\0<(WF a p).2/\(WF a p).1*p.u=a.worth p.u p.v p.w*(WF a p).2:=λg hg p Qe=>by
  obtain⟨u0,⟨v0,v1,w0,w1⟩,ub⟩:=hp g hg p Qe;have b:=ft (n:=p.u) (x:=p.v) (y:=p.w) (by omega) ⟨v0,v1⟩ ⟨w0,w1⟩ a;have e:=Cn (w:=a.worth p.u p.v p.w) u0;exact⟨d8 (Lo.Ck (by omega)) (d8 (by omega) ub),d8 (Lo.Cp (by omega)) ub,e.2,e.1⟩
 refine⟨l,rfl,⟨us,K7.of el⟩,?_⟩;refine eM (xs:=us) (λi σ H'=>aJ H2 H'/\∃ol op o4 o5 o6,σ=[some (.ref x),some vt,some ol,some op,o4,o5,o6]/\Ws K H' a (L.take i).flatten ol op) ⟨aJ.refl _,_,_,_,_,_,rfl,.inl ⟨rfl,rfl,rfl⟩⟩ (λi σ H' _ z=>K7.of (z.1 _ _ el)) (λi v σ H' hv z=>?_) (λσ H' z=>?_)
 .obtain⟨s3,ol,op,o4,o5,o6,rfl,be⟩:=z;obtain⟨g,hg,ga,M6,rfl,eg,dg⟩:=(V8.imp (NK.to s3)).get i v hv;have gm:=p8 hg;refine⟨_,rfl,ga,rfl,⟨M6,K7.of eg⟩,?_⟩;refine eM (xs:=M6) (λj σ La=>aJ H' La/\∃ol op o5 o6,σ=[some (.ref x),some vt,some ol,some op,some (.ref ga),o5,o6]/\Ws K La a ((L.take i).flatten++g.take j) ol op) ⟨aJ.refl _,_,_,_,_,rfl,by simpa using be⟩ (λj σ La _ z=>K7.of (z.1 _ _ eg)) (λj v σ La hv z=>?_) (λσ La z=>?_)
  .obtain⟨s4,ol,op,o5,o6,rfl,be⟩:=z;obtain⟨p,hpj,Zw⟩:=ky (dg.ts s4.ts) hv;obtain⟨pa,rfl,sp⟩:=cS Zw;have pm:=p8 hpj;obtain⟨u0,bx,ub⟩:=hp g gm p pm;obtain⟨w1,w2,w3,w4⟩:=wb g gm p pm;have Q4:=(LS.trans s3).trans s4;refine⟨_,rfl,_,rfl,x,pa,a,p.u,p.v,p.w,rfl,oa.to (Kp.of Q4),by omega,⟨sp,by omega,bx.1,bx.2.1,bx.2.2.1,bx.2.2.2⟩,λH5 s5=>?_⟩;refine⟨_,rfl,_,_,_,_,rfl,rfl,sp.ts s5.ts,rfl,_,_,rfl,by omega,ub,λvf H6 s6 fv=>?_⟩;have LK:=s5.trans s6;have tk:g.take (j+1)=g.take j++[p]:=by rw[A2,hpj];rfl
   have inL:∀c∈(L.take i).flatten++g.take j,∃g'∈L,c∈g':=λc hc=>by
    rcases j6.mp hc with h | h
    .obtain⟨g',h1,h2⟩:=KQ.mp h;exact⟨g',Jv h1,h2⟩
    .exact⟨g,gm,Jv h⟩
   have ap:(L.take i).flatten++g.take (j+1)=((L.take i).flatten++g.take j)++[p]:=by rw[tk,m6]
   rw[ap];rcases be with⟨ec,rfl,rfl⟩ | ⟨pt,Tt,VH,NV,To⟩
   .refine⟨_,rfl,rfl,_,rfl,dH (dH ?_)⟩;refine⟨_,rfl,_,rfl,?_⟩;refine⟨s4.trans LK,vf,.ref pa,_,_,rfl,.inr ⟨p,by simp,fv,Zw.ts LK.ts,λc hc=>?_⟩⟩;rw[ec,w8]at hc;rw[c9.mp hc];exact Jz w4
   .obtain⟨la,rfl,sl⟩:=id VH;obtain⟨g',YX,YI⟩:=inL pt Tt;obtain⟨y1,y2,y3,y4⟩:=wb g' YX pt YI;refine⟨_,rfl,rfl,_,rfl,bL ?_⟩;refine⟨_,rfl,_,rfl,vf,.ref la,WF a p,WF a pt,rfl,fv,VH.to LK,w1,w2,y1,y2,_,rfl,cJ (λcc=>?_) (λcc=>?_)⟩
    .have cc:(WF a p).1*(WF a pt).2<(WF a pt).1*(WF a p).2:=c8 cc;refine⟨_,rfl,_,rfl,?_⟩;refine⟨s4.trans LK,vf,.ref pa,_,_,rfl,.inr ⟨p,by simp,fv,Zw.ts LK.ts,λc hc=>?_⟩⟩;rcases j6.mp hc with h | h
     .obtain⟨g2,Tw,Qg⟩:=inL c h;exact kR y3 w3 (hp g2 Tw c Qg).1 (y9 cc) (To c h)
     .rw[c9.mp h];exact Jz w4
    .have cc:¬(WF a p).1*(WF a pt).2<(WF a pt).1*(WF a p).2:=λz=>cc (e9 z);refine⟨s4.trans LK,_,_,_,_,rfl,.inr ⟨pt,A5 _ Tt,VH.to LK,NV.ts LK.ts,λc hc=>?_⟩⟩;rcases j6.mp hc with h | h
     .exact To c h
     .rw[c9.mp h];exact kR w3 y3 u0 (by omega) (Jz w4)
  .obtain⟨s4,ol,op,o5,o6,rfl,be⟩:=z;have gl:=eT dg;refine⟨s3.trans s4,ol,op,_,_,_,rfl,?_⟩;rw[gl,z9]at be;rw[A2,hg];simpa using be
 .obtain⟨s3,ol,op,o4,o5,o6,rfl,be⟩:=z;rw[lu,z9]at be;rcases be with⟨ec,_,_⟩ | ⟨pt,Tt,VH,NV,To⟩
  .exfalso;have ln:=ir eL;cases L with
   | nil=>simp at ln
   | cons g r =>
    have n3:=(hk g v8).1.n3;rw[List.flatten_cons]at ec;have e0:=(List.append_eq_nil_iff.mp ec).1;rw[e0]at n3;simp at n3
  .refine⟨_,rfl,_,rfl,_,rfl,(by show 3<=sizeLine;decide),λp9 hp9=>?_⟩;have u:=ak hp9 (.tup [ol,op,vt]);obtain⟨g,hg,YJ⟩:=KQ.mp Tt;exact q p9 ol op vt pt X L _ ((LS.trans s3).trans u) ae (VH.to u) (NV.ts u.ts) (dt.ts ((s2.trans s3).trans u).ts) sm dp cu eL (λg hg=>kL g hg _ v8) ⟨g,hg,YJ⟩ (λg hg c hc=>To c (KQ.mpr ⟨g,hg,hc⟩))
end
noncomputable def eA:List Tr->List Rw->List Rw×List Nat
 | [],rs=>(rs,[])
 | t::r,rs=>((eA r (t.putR rs).1).1,(t.putR rs).2::(eA r (t.putR rs).1).2)
theorem mO(x:Tr):∀l rs,eA (l++[x]) rs=((x.putR (eA l rs).1).1,(eA l rs).2++[(x.putR (eA l rs).1).2])
 | [],rs=>rfl
 | t::r,rs=>by
  show((eA (r++[x]) (t.putR rs).1).1,(t.putR rs).2::(eA (r++[x]) (t.putR rs).1).2)=_;rw[mO x r];rfl
theorem Dt(t:Tr)(rs:List Rw):t.putR rs=bc (eA t.kids rs).1 (fc t.word (eA t.kids rs).2):=by cases t<;>rfl
theorem pd:∀l rs,(eA l rs).1.length<=rs.length+bZ l
 | [],rs=>by simp[eA,bZ]
 | t::r,rs=>by
  have h1:=jw t rs;have h2:=pd r (t.putR rs).1;have e:bZ (t::r)=t.size+bZ r:=by simp[bZ]
  show(eA r (t.putR rs).1).1.length<=_;omega
theorem si:∀l rs,(∀x∈rs,pK x)->∀x∈(eA l rs).1,pK x
 | [],rs,h=>h
 | t::r,rs,h=>si r _ (qE t rs h)
theorem uV:∀l rs,(eA l rs).2.length=l.length
 | [],rs=>rfl
 | t::r,rs=>x9 (·+1) (uV r _)
theorem zT(l:List Tr)(i:Nat):bZ (l.take i)<=bZ l:=by
 have:bZ l=bZ (l.take i)+bZ (l.drop i):=by rw[<- lC,List.take_append_drop]
 omega
inductive zO(n:Nat)(vs:List V)(H:Hp)(Q:VK)(E:XK):Prop
 | mk (a t):vs=[.ref a]->Tu H a t->t.size<=n->(∀H',aJ H H'->Q (.int (t.nf:Int)) H')->zO n vs H Q E
theorem OO(t:Tr):(if(t.kids.length+1:Nat)=3 then(1:Int) else 0)+(t.kids.map λx=>(x.nf:Int)).sum=(t.nf:Int):=by
 cases t with
 | no t=>rw[uZ];simp[Tr.kids]
 | fold u a b=>rw[fO];simp[Tr.kids];omega
 | never=>rfl
 | always=>rfl
 | lp=>rfl
 | lq=>rfl
section
variable{P:Program}{w:World}{K:W.Frag}{mg:Str->Option Value}{base:Heap}{c:CCs}
theorem ok_nf50(T:aC K mg "_law_folds" oV)(IF:mg "sum"=none)(fV:mg "int"=none)(bG:mg "len"=none):∀n:Nat,Def P w K mg base (n+1) "_law_folds" ["_law_tree"] (zO n):=by
 intro n
 induction n with
 | zero =>
  refine aP T my ?_ ?_
  .walk_at "i1"
  .walk_at "i2";obtain⟨a,t,rfl,_,z,_⟩:=h;have:=t.size_pos;omega
 | succ n jZ =>
  refine aP T my ?_ ?_
  .walk_at "i1"
  walk_at "i2";obtain⟨a,t,rfl,tu,hz,q⟩:=h;have nd:=my.nd;obtain⟨us,e,ou⟩:=tu.parts;have ul:=ou.len;refine⟨_,(ao (av (aM bW (cR jD fV (aa (dO bS (aG bJ bG (aa (pv 0) af)) aq (aH _)) af)) (aG (Et rfl) IF (aa (dC (pf (iI qD (pv 0) (jQ aq) jR)) cE (λ_ _ _ _=>cM) (λ_ _ _ _=>(aK jZ (aa (pv 0) af)))) af))))),?_⟩;refine⟨_,rfl,_,_,rfl,.inr ⟨_,K6.of e,rfl⟩,rfl,.inr ⟨_,rfl,?_⟩⟩;dsimp only[Fi,Nd,tC,Nf,dZ,lQ];refine ix ?_;refine⟨_,rfl,_,rfl,?_⟩;dsimp only[nA];refine sl1 (K:=K) e λp hp=>?_;refine⟨p,rfl,⟨_,K6.of ae⟩,?_⟩;have sp:=ak hp (.tup us)
  refine Er (K:=K) (ts:=t.kids) (R:=SX) (xs:=us) (λx=>.int (x.nf:Int)) (λ_ _ v t e h=>SX.to (Kp.of e) v t h) (λl H'=>l=p/\H'=upd H p (.tup us)) (λR h=>h p _ ⟨rfl,rfl⟩) (λl H' h=>by obtain⟨rfl,rfl⟩:=h;exact⟨ae,aJ.refl _⟩) (by rw[ul];have:=kU t;omega)
   (ou.imp (SX.to (Kp.of sp))) (λv x H' N hx hv hN=>?_) (λD H6 s6 hD eD=>?_)
  .obtain⟨b,rfl,tb⟩:=hv;have:=nX hx;exact⟨_,rfl,b,x,rfl,tb,by omega,hN⟩
  .refine⟨D,t.kids.map λx=>(x.nf:Int),rfl,K7.of (by rw[JM];exact eD),_,_,rfl,rfl,?_⟩;have ks:=OO t
   have e1:(if decide (V.int (((V.str t.word::us).length:Nat):Int)=V.int 3)=true then(1:Int) else 0)=if t.kids.length+1=3 then(1:Int) else 0:=by
    rw[j9,ul]
    by_cases h3:t.kids.length+1=3
    .rw[d7 h3,h3,d7 (by decide)]
    .rw[d9 h3,d9 (λz=>h3 (by have:=V.int.inj (c8 z);omega))]
   try dsimp only
   rw[e1,ks];exact q _ (sp.trans s6)
inductive zM(K:W.Frag)(n:Nat)(vs:List V)(H:Hp)(Q:VK)(E:XK):Prop
 | mk (a l t rs us):vs=[.ref a,.ref l]->Tu H a t->t.size<=n->H l=some (.lst us)->cH (Ly H) us rs->rs.length+t.size<=1000->(∀x∈rs,pK x)->(∀H' ZU,SB (.ref l) H H'->H' l=some (.lst ZU)->cH (Ly H') ZU (t.putR rs).1->Q (.int ((t.putR rs).2:Nat)) H')->zM K n vs H Q E
theorem ok_rt50(T:aC K mg "_law_rows_to" kJ)(bB:mg "tuple"=none):∀n:Nat,Def P w K mg base (n+1) "_law_rows_to" ["_law_tree","_law_rows"] (zM K n):=by
 intro n
 induction n with
 | zero =>
  refine aP T jH ?_ ?_
  .walk_at "i1"
  .walk_at "i2";obtain⟨a,l,t,rs,us,rfl,_,z,_⟩:=h;have:=t.size_pos;omega
 | succ n iQ =>
  refine aP T jH ?_ ?_
  .walk_at "i1"
  walk_at "i2";obtain⟨a,l,t,rs,ZT,rfl,tu,hz,el,rv,hb,rok,q⟩:=h;have nd:=jH.nd;have hu:=hr.units;obtain⟨us,e,ou⟩:=tu.parts;refine⟨_,(ah (lH (i:=2) (pf (iI qD (pv 0) (jQ aq) jR)) (bY (j:=1) cE) (λ_ _ _ _=>cM) (λ_ _ _ _=>(aK iQ (aa (pv 0) (aa (pv 1) af)))))
  (ah (aI (i:=3) (aM Cc (bj (aa (aD aA (pv 0) aq) af)) (cR cY bB (aa (pv 2) af))))
  (ah (aS (aF (Dw hu) (pv 3) (pv 1) rfl) (ao (bD (cO b9 i8 i9 bf (pv 1) (aa (pv 3) af)))) aL)
  (ao (av (cO b9 PySem.F.slot_list_index PySem.F.type_list_index (DZ hu) (pv 1) (aa (pv 3) af))))))),?_⟩
  have ksz:=ve t;have kl:=kU t;have ul:=ou.len;dsimp only[vB,pR];refine ix ?_;refine⟨_,rfl,_,rfl,?_⟩;dsimp only[nA];refine sl1 (K:=K) e λp hp=>?_;refine⟨p,rfl,⟨_,K6.of ae⟩,?_⟩;have sp:=ak hp (.tup us);have ep:upd H p (.tup us) p=some (.tup us):=ae;generalize upd H p (.tup us)=H1 at sp ep ⊢;have Mv:=sp _ _ el
  refine yU (K:=K) (xs:=us) (λl' H'=>l'=p/\H'=H1) (λR h=>h p _ ⟨rfl,rfl⟩) (λl' H' h=>by obtain⟨rfl,rfl⟩:=h;exact ep) (by omega)
   (λl' D i ys H'=>H1 D=none/\ys=(eA (t.kids.take i) rs).2.map (λi:Nat=>V.int (i:Int))/\SB (.ref l) H1 H'/\∃NL,H' l=some (.lst NL)/\cH (Ly H') NL (eA (t.kids.take i) rs).1) (λl' H' D src hD=>?_) (λl' D i v ys H' hv nl VN eD h N hN=>?_) (λl' D ys H' VN eD h=>?_)
  .obtain⟨rfl,rfl⟩:=src;have sD:=ak hD (.lst []);exact⟨hD,rfl,SB.of sD,ZT,sD _ _ Mv,rv.imp (Ly.to (Kp.of (sp.trans sD)))⟩
  .obtain⟨hD,rfl,sb,NL,Zl,rv1⟩:=h;obtain⟨x,hx,b,rfl,tb⟩:=ou.get i v hv;have xm:x∈t.kids:=p8 hx;have xs:=nX xm;have kp:Kp H1 H':=sb.kp λa' o' z1 z2=>by cases z1;rw[Mv]at z2;cases z2;rfl
   have pl:=pd (t.kids.take i) rs;have YD:t.kids.take (i+1)=t.kids.take i++[x]:=by rw[A2,hx];rfl
   have st:bZ (t.kids.take (i+1))<=bZ t.kids:=zT _ _;have PK:bZ (t.kids.take (i+1))=bZ (t.kids.take i)+x.size:=by rw[YD,lC];simp[bZ]
   have nDl:D≠l:=λz=>by subst z;rw[hD]at Mv;cases Mv
   refine⟨_,rfl,_,rfl,b,l,x,(eA (t.kids.take i) rs).1,NL,rfl,(tb.to (Kp.of sp)).to kp,by omega,Zl,rv1,by omega,si _ _ rok,λH2 vs2 Nh Ss NN=>?_⟩;have Qm:=Nh _ _ VN λz=>by cases z;rw[VN]at Zl;cases Zl
   have O4:=Nh _ _ eD λz=>nDl (by cases z;rfl);refine hN _ _ Qm O4 ⟨hD,?_,λd o z n=>?_,vs2,?_,?_⟩
   .rw[YD,mO,l8];rfl
   .rw[az (λy=>by subst y;rw[hD]at z;cases z)]
    exact Nh _ _ (sb _ _ z n) n
   .rw[az (G5 nDl)];exact Ss
   .rw[YD,mO];exact NN.imp (Ly.to (iM O4 rfl))
  .obtain⟨hD,rfl,sb,NL,NA,NM⟩:=h;rw[ul,z9]at eD NM;have pl:=pd t.kids rs;have pc:=uV t.kids rs;have pok:=si t.kids rs rok;have e6:H' a=some (.tup (.str t.word::us)):=sb _ _ (sp _ _ e) λz=>by cases z;rw[sp _ _ e]at Mv;cases Mv
   refine⟨_,rfl,_,_,_,_,rfl,rfl,K6.of e6,cC (j:=0) rfl,(by show 1<=sizeLine;decide),λr0 YH=>?_⟩;have sr:=ak YH (.tup [V.str t.word]);refine⟨_,rfl,D,_,rfl,.inl ⟨K7.of (sr _ _ eD),λr1 hr1=>?_⟩⟩;have Z3:=ak hr1 (.tup ((eA t.kids rs).2.map λi:Nat=>V.int (i:Int)));refine yY (K:=K) (Z3 _ _ ae) ae (by simp) (by simp only[j9,JG,i7];exact l7 (show _<=5 by omega) (by decide)) λLH H4 s4 e4=>?_;have MU:=(sr.trans Z3).trans s4;have NB:Ly H4 (.ref LH) (fc t.word (eA t.kids rs).2):=⟨LH,rfl,by rw[vZ];exact e4⟩;have Ur:SB (.ref l) H H4:=λd o z n=>MU _ _ (sb _ _ (sp _ _ z) n);have NA:=MU _ _ NA;have NM:=NM.imp (Ly.to (Kp.of MU));have MC:pK (fc t.word (eA t.kids rs).2):=jN (N0 t);have vl:=NM.len;have RS:=Dt t rs;clear eD;generalize fc t.word (eA t.kids rs).2=r at NB MC RS;generalize (eA t.kids rs).1=Mr at *;refine⟨_,rfl,_,rfl,L0 r,Mr.map L0,l,NL,.inl NB.dat,rfl,K7.of NA,Ly.all NM,vW pok,zZ MC,l7 (oY _) (by decide),_,rfl,?_⟩;rw[Of]
   have fin:∀H7 T4,SB (.ref l) H H7->H7 l=some (.lst T4)->cH (Ly H7) T4 (bc Mr r).1->Ly H7 (.ref LH) r->∃j,(bc Mr r).2=j/\BX K (.ref l) [.ref LH] H7 Q:=by
    intro H7 T4 sb7 el7 rv7 e7;refine⟨_,rfl,l,T4,.ref LH,(bc Mr r).1.map L0,L0 r,(bc Mr r).2,L0 r,rfl,rfl,el7,Ly.all rv7,e7.dat,vW (jP pok MC),zZ MC,l7 (oY _) (by decide),?_,?_,?_,?_⟩
    .rw[w6];unfold bc;cases MB:idx Mr r with
     | some i=>exact x9 (Option.map L0) (AG MB)
     | none=>show((Mr++[r])[Mr.length]?).map L0=_;simp
    .rw[vX,e9 rfl]
    .intro m x hm hx;rw[w6]at hx;obtain⟨y,hy,rfl⟩:=JL.mp hx;rw[vX,decide_eq_false_iff_not];unfold bc at hm hy;cases MB:idx Mr r with
     | some i=>rw[MB]at hm hy;exact vj MB m y hm hy
     | none =>
      rw[MB]at hm hy;have RW:m<Mr.length:=hm
      have OR:Mr[m]?=some y:=by
       have:=hy;simp only[B0 RW]at this;exact this
      intro z;subst z;exact yN MB (p8 OR)
    .have:=q H7 T4 sb7 el7 (by rw[RS];exact rv7);rw[RS]at this;exact this
   cases MB:idx Mr r with
   | some i =>
    refine bL ?_;have Ve:(bc Mr r).1=Mr:=by unfold bc;rw[MB]
    obtain⟨_,_,g⟩:=fin H4 NL Ur NA (by rw[Ve];exact NM) NB;exact⟨_,rfl,.inl ⟨rfl,_,K7.of NA⟩,_,rfl,g⟩
   | none =>
    refine dH ?_;have Ve:(bc Mr r).1=Mr++[r]:=by unfold bc;rw[MB]
    refine⟨_,rfl,.inl ⟨rfl,_,K7.of NA⟩,_,rfl,l,_,_,rfl,rfl,NA,by rw[vl];exact d8 (show _<=1000 by omega) (by decide),?_⟩;have km:Kp H4 (upd H4 l (.lst (NL++[.ref LH]))):=iM NA rfl;obtain⟨_,_,g⟩:=fin (upd H4 l (.lst (NL++[.ref LH]))) (NL++[.ref LH]) (Ur.trans (jI _ _)) ae (by rw[Ve];exact(NM.imp (Ly.to km)).app (.cons (Ly.to km _ _ NB) .nil)) (Ly.to km _ _ NB);exact⟨_,rfl,.inl ⟨rfl,_,K7.of ae⟩,_,rfl,g⟩
end
end Mine
namespace PySem
section
variable{prog:Program}{w:World}{A:Around}{E:Value->Shared->Prop}{s:Shared}{l:Addr}{xs:Array (Int×Tok)}
theorem Au(hh:A.handled=none)(hl:s.heap.IsTuple l (intItems xs))(LA:0<xs.size)
  (h:∀v h' tk,(intItems xs)[argBest (λi j=>decide (numAt xs i<numAt xs j)) (xs.size-1)]?=some v->(∀b o,s.heap.get? b=some o->h'.get? b=some o)->Q v {s with heap:=h',toks:=tk}) :
  wpAny (model prog w) A (call (.builtin "min") [.ref l]) Q E s:=by
 have Le:l<s.heap.objs.size:=by obtain⟨_,e,_⟩:=hl;exact l6 e
 refine call_min_walk (Ji hl ?_);refine⟨_,[s.heap.objs.size,l],[s.heap.objs.size],_,_,_,_,rfl,Walks.tuple (A:=A.in1) hh _ l (z6 Le) (intItems xs),⟨⟨_,r8 _ rfl,rfl,rfl⟩,hl.push _⟩,(λb hb=>?_),by simpa [intItems] using LA,CmpOf.ints_lt (numAt xs) (λ_ _=>JW),λv h' tk hP hk=>?_⟩
 .show b<(s.heap.push _).objs.size;rw[E4];rcases j4.mp hb with rfl | hb
  .exact IV _
  .rcases j4.mp hb with rfl | hb
   .exact JK Le
   .cases hb
 .exact h v h' tk (by simpa [intItems] using hP) (λb o e=>hk b o (λhm=>by
   rcases j4.mp hm with e1 | hm
   .exact absurd (e1 ▸ l6 e) (B2 _)
   .cases hm) (i6 _ e))
theorem Aw(hh:A.handled=none)(hl:s.heap.IsTuple l (intItems xs))(LA:0<xs.size)
  (h:∀v h' tk,(intItems xs)[argBest (λi j=>decide (numAt xs i>numAt xs j)) (xs.size-1)]?=some v->(∀b o,s.heap.get? b=some o->h'.get? b=some o)->Q v {s with heap:=h',toks:=tk}) :
  wpAny (model prog w) A (call (.builtin "max") [.ref l]) Q E s:=by
 have Le:l<s.heap.objs.size:=by obtain⟨_,e,_⟩:=hl;exact l6 e
 refine call_max_walk (Ji hl ?_);refine⟨_,[s.heap.objs.size,l],[s.heap.objs.size],_,_,_,_,rfl,Walks.tuple (A:=A.in1) hh _ l (z6 Le) (intItems xs),⟨⟨_,r8 _ rfl,rfl,rfl⟩,hl.push _⟩,(λb hb=>?_),by simpa [intItems] using LA,CmpOf.ints_gt (numAt xs) (λ_ _=>JW),λv h' tk hP hk=>?_⟩
 .show b<(s.heap.push _).objs.size;rw[E4];rcases j4.mp hb with rfl | hb
  .exact IV _
  .rcases j4.mp hb with rfl | hb
   .exact JK Le
   .cases hb
 .exact h v h' tk (by simpa [intItems] using hP) (λb o e=>hk b o (λhm=>by
   rcases j4.mp hm with e1 | hm
   .exact absurd (e1 ▸ l6 e) (B2 _)
   .cases hm) (i6 _ e))
end
end PySem
namespace L2
open PySem PySem.Spec PyProof.Rows
section
variable{X:Cx}
theorem Eu{K:W.Frag}(hk:X.K=K)(hc:X.calm=true):gi X (.builtin "min") (λxs H Q=>∃(l:Addr)(ns:List Int),xs=[.ref l]/\K6 K H l (ns.map V.int)/\0<ns.length/\∀M,M∈ns->(∀a∈ns,M<=a)->Q (.int M) H):=by
 subst hk;intro K5 s σ H xs us Q I r h;obtain⟨l,ns,rfl,hq,LA,q⟩:=h;obtain⟨u,rfl,rx⟩:=vals1 r;cases rx
 obtain⟨its,rv,pl,_⟩:=I.tuple hq;have hi:IntsAre its ns:=intsAre_of rv;have hl:s.heap.IsTuple l its.toArray:=pl;obtain⟨ys,e⟩:=hi.allInts.items;have en:ns=ys.toList.map (·.1):=by rw[<- hi.numsOf,<- JT,<- e]
 have sz:ns.length=ys.size:=by rw[en,i7,A9]
 rw[e]at hl;refine Au (I.ok.hd hc) hl (by omega) λv h' tk hv hk=>?_;obtain⟨t,rfl⟩:=JW hv;obtain⟨h1,h2⟩:=argBest_lt (numAt ys) (ys.size-1);refine⟨.int _,H,I.kept hk,⟨t,rfl⟩,q _ ?_ λa ha=>?_⟩
 .rw[Kf,<- en];exact Kg (by omega)
 .rw[en]at ha;obtain⟨j,hj,rfl⟩:=mem_getD ha;rw[<- Kf];exact h2 j (by rw[i7,A9]at hj;omega)
theorem Ew{K:W.Frag}(hk:X.K=K)(hc:X.calm=true):gi X (.builtin "max") (λxs H Q=>∃(l:Addr)(ns:List Int),xs=[.ref l]/\K6 K H l (ns.map V.int)/\0<ns.length/\∀M,M∈ns->(∀a∈ns,a<=M)->Q (.int M) H):=by
 subst hk;intro K5 s σ H xs us Q I r h;obtain⟨l,ns,rfl,hq,LA,q⟩:=h;obtain⟨u,rfl,rx⟩:=vals1 r;cases rx
 obtain⟨its,rv,pl,_⟩:=I.tuple hq;have hi:IntsAre its ns:=intsAre_of rv;have hl:s.heap.IsTuple l its.toArray:=pl;obtain⟨ys,e⟩:=hi.allInts.items;have en:ns=ys.toList.map (·.1):=by rw[<- hi.numsOf,<- JT,<- e]
 have sz:ns.length=ys.size:=by rw[en,i7,A9]
 rw[e]at hl;refine Aw (I.ok.hd hc) hl (by omega) λv h' tk hv hk=>?_;obtain⟨t,rfl⟩:=JW hv;obtain⟨h1,h2⟩:=argBest_gt (numAt ys) (ys.size-1);refine⟨.int _,H,I.kept hk,⟨t,rfl⟩,q _ ?_ λa ha=>?_⟩
 .rw[Kf,<- en];exact Kg (by omega)
 .rw[en]at ha;obtain⟨j,hj,rfl⟩:=mem_getD ha;rw[<- Kf];exact h2 j (by rw[i7,A9]at hj;omega)
end
end L2
namespace Mine
open PySem L2
variable{H1:Hp}{D:Addr}{te:TE}{js:List Nat}{σ:St}{i n:Nat}
theorem Sn(u:W5)(n a b:Int):Hu.fld (u5 u) n a b=u.worth n a b:=by
 cases u<;>simp[u5,Hu.fld,W5.worth]<;>omega
theorem jv(C:Hu.eS g p):∀{t:Tr}{r:T3},rl g t=some r->t.worth p.u p.v p.w=Hu.tl r p
 | .never,r,h=>by cases h;rw[Hu.oC];rfl
 | .always,r,h=>by cases h;rw[Hu.oC];rfl
 | .lp,r,h=>by cases h;rw[Hu.oC];rfl
 | .lq,r,h=>by cases h;rw[Hu.oC];rfl
 | .no t,r,h=>by
  cases e:rl g t with
  | none=>rw[show rl g (.no t)=(rl g t).map λr=>Hu.mi Hu.al r from rfl,e]at h;cases h
  | some x =>
   rw[show rl g (.no t)=(rl g t).map λr=>Hu.mi Hu.al r from rfl,e]at h;cases h
   rw[Hu.lU,Hu.nv,<- jv C e];rfl
 | .fold u a b,r,h=>by
  unfold rl at h;cases e1:rl g a with
  | none=>rw[e1]at h;cases h
  | some x=>cases e2:rl g b with
   | none=>rw[e1,e2]at h;cases h
   | some y =>
    rw[e1,e2]at h;have z:=Hu.fU (rs:=[x,y]) (r:=.fd (u5 u) 0 1) h C;rw[z];show u.worth p.u (a.worth p.u p.v p.w) (b.worth p.u p.v p.w)=Hu.fld (u5 u) p.u (Hu.tl x p) (Hu.tl y p);rw[Sn,jv C e1,jv C e2]
theorem Up(e:K6 K H a (x::us))(h:∀p,H p=none->Q (.ref p) (upd H p (.tup us))):Q9 K (.ref a) (some 1) none H Q:=by
 refine⟨a,_,rfl,e,λz=>?_,λ_ p=>?_⟩
 .have RX:_root_.HT.sIx (x::us).length 0 (some 1)=1:=by
   rw[show(some (1:Int))=some ((1:Nat):Int) from rfl,_root_.HT.nQ,j9];omega
  exact absurd (RX.symm.trans z) (by decide)
 .intro Qe;rw[VZ];exact h _ Qe
theorem vy(h:0<xs.length):Mi xs (-1)=xs[xs.length-1]?:=by
 unfold Mi Qa;rw[d9 (by decide),d7 (by omega)];show xs[((-1:Int)+(xs.length:Nat)).toNat]?=_;congr 1;omega
theorem zE(e:(Hu.Tc.cut r l g).told h=some L):¬Hu.gX r h/\∃a b,l.told (Hu.low r h)=some a/\g.told (Hu.high r h)=some b/\L=a++b:=by
 by_cases n:Hu.gX r h
 .unfold Hu.Tc.told at e;rw[d7 n]at e;cases e
 .rw[xr n]at e;cases e1:l.told (Hu.low r h) with
  | none=>rw[e1]at e;cases e
  | some a=>cases e2:g.told (Hu.high r h) with
   | none=>rw[e1,e2]at e;cases e
   | some b=>rw[e1,e2]at e;cases e;exact⟨n,a,b,rfl,rfl,rfl⟩
theorem zH:∀t:Hu.Tc,(Lp t).canLay0=true
 | .leaf=>by decide+kernel
 | .cut r l g=>by
  have h1:=zH l;have h2:=zH g;have h3:(K9 r).canLay0=true:=rfl;have h4:(PyData.str "cut").canLay0=true:=by decide+kernel
  unfold Lp;simp only[PyData.canLay0,PyData.canLayAll0,h1,h2,h3,Bool.and_true,Bool.true_and]at h4 ⊢;exact h4
theorem qR:∀t:Hu.Tc,(Lp t).depth<=t.deep+3
 | .leaf=>by decide+kernel
 | .cut r l g=>by
  have h1:=qR l;have h2:=qR g;have h3:(K9 r).depth<=2:=by simp[K9,PyData.depth,PyData.depthAll]
  unfold Lp;simp only[PyData.depth,PyData.depthAll,Hu.Tc.deep];omega
theorem Di(h:t.deep<=20):SeqAt.shaped (Lp t)=true:=by
 have:=qR t;simp only[SeqAt.shaped,zH,Bool.true_and];exact e9 (by omega)
theorem T7(r:T3)(l g:Hu.Tc):PyData.eqv (Lp (.cut r l g)) (Lp .leaf)=false:=by
 unfold Lp;simp[PyData.eqv,PyData.eqvAll]
inductive nG(vs:List V)(H:Hp)(Q:VK)(E:XK):Prop
 | mk (i:Int):vs=[.int i]->Q (.bl true) H->nG vs H Q E
inductive rf(K:W.Frag)(n:Nat)(vs:List V)(H:Hp)(Q:VK)(E:XK):Prop
 | mk (x l us t h L):vs=[x,.ref l]->H l=some (.lst us)->DatAll K H (h.map K9) us->Hu.HK h->t.Sm 64->h.length+t.deep<=20->t.deep+1<=n->t.iR<=700->Dat K H (Lp t) x->t.told h=some L->(∀ll ws H',aJ H H'->H' ll=some (.lst ws)->cH (NK K H') ws L->Q (.ref ll) H')->rf K n vs H Q E
inductive rh(K:W.Frag)(vs:List V)(H:Hp)(Q:VK)(E:XK):Prop
 | mk (x l us rows) (tp bt:Int) (t L):vs=[x,.ref l,.int tp,.int bt]->H l=some (.lst us)->DatAll K H (rows.map lR) us->mY rows->0<rows.length->rows.length<=100->Bg tp->Bg bt->t.Sm 64->t.deep<=8->t.iR<=700->Dat K H (Lp t) x->t.told Hu.sqH=some L->((∀g∈L,∃rs,Hu.run g rows []=.rules rs/\∀r,rs.getLast?=some r->∀c∈g,tp*c.u<=Hu.tl r c*bt))->(∀H',aJ H H'->Q (.bl true) H')->rh K vs H Q E
inductive Ul(K:W.Frag)(vs:List V)(H:Hp)(Q:VK)(E:XK):Prop
 | mk (v f):vs=[v]->NZ K H v f->0<f.2->Lo.gc f.1 f.2=1->(∀H',aJ H H'->Q (.bl true) H')->Ul K vs H Q E
inductive Fy(K:W.Frag)(vs:List V)(H:Hp)(Q:VK)(E:XK):Prop
 | mk (v p):vs=[v]->Dat K H (K9 p) v->0<p.u->0<=p.v->p.v<=p.u->0<=p.w->p.w<=p.u->(∀H',aJ H H'->Q (.bl true) H')->Fy K vs H Q E
variable{P:Program}{w:World}{K:W.Frag}{mg:Str->Option Value}{base:Heap}
theorem rH:aB ["_law_found"] ["_law_found"] (au oP):=L2.fsc rfl (by decide+kernel)
theorem GI(T:aC K mg "_law_whole" oP)(aR:mg "isinstance"=none)(fV:mg "int"=none)(pI:mg "bool"=none)(kb:PySem.W.kitOne K (.type "int") (.type "bool")=some false):Def P w K mg base 1 "_law_whole" ["_law_found"] nG:=by
 refine aP T rH ?_ ?_
 .walk_at "i1"
 walk_at "i2";obtain⟨i,rfl,q⟩:=h;have nd:=rH.nd;refine⟨_,(ao (av (jh (aG lj aR (aa (pv 0) (aa (gP (v:=V.ty "int") rfl fV (by decide+kernel) rfl) af))) (mQ (Gv (aG lj aR (aa (pv 0) (aa (gP (v:=V.ty "bool") rfl pI (by decide+kernel) rfl) af)))))))),?_⟩;exact⟨_,rfl,_,_,_,_,true,rfl,(λ_ h=>h),jX.int _,fQ,_,rfl,dH ⟨_,rfl,_,_,_,_,false,rfl,(λ_ h=>h),jX.int _,kb,_,rfl,q⟩⟩
theorem Bu{t:Addr}{a b c:Int}{R:Hp->Prop}(st:K6 K H1 t [.int a,.int b,.int c])(hD:H1 D=none)
  (step:∀(n:Int) H' k,k (.bl true) H'->te (some (.int n)::bQ js σ) H' k)
  (fin:∀H',aJ H1 H'->H' D=some (.lst ((List.replicate 3 true).map V.bl))->R H') :
  ∃W:Nat->Nat->Hp->Prop,(∃m,W 0 m (upd H1 D (.lst [])))/\∀i m H2,W i m H2->((NJ K t).stop i H2/\R H2)\/
   ((
    NJ K t).go i H2/\∀v H3,(NJ K t).yld i H2 v H3->ke (some v::bQ js σ) H3 λb H4=>if b=true then te (some v::bQ js σ) H4 λy H5 =>
    ∃ys,H5 D=some (.lst ys)/\ys.length<sizeLine/\∃m',m'<m/\W (i+1) m' (upd H5 D (.lst (ys++[y]))) else ∃m',m'<m/\W (i+1) m' H4):=by
 refine⟨λi m H2=>m=3-i/\i<=3/\aJ H1 H2/\H2 D=some (.lst ((List.replicate i true).map V.bl)),⟨_,rfl,x4 _,ak hD _,ae⟩,?_⟩;rintro i m H2 ⟨rfl,hi,sm,LJ⟩
 have Q2:=st.ts sm.ts
 by_cases Le:i<3
 .refine .inr ⟨⟨_,_,Q2,c6 (show i<3 from Le)⟩,λv H3 y=>?_⟩;obtain⟨rfl,y⟩:=y
  have hv:∃n:Int,v=.int n:=by
   have z:=y _ Q2;rcases(show i=0\/i=1\/i=2 by omega) with rfl | rfl | rfl
   .exact⟨a,(j8 z).symm⟩
   .exact⟨b,(j8 z).symm⟩
   .exact⟨c,(j8 z).symm⟩
  obtain⟨n,rfl⟩:=hv;refine gU ?_;refine step n _ _ ⟨_,LJ,aZ (by simp;omega),3-(i+1),by omega,rfl,Le,aW sm hD _,?_⟩;rw[ae,List.replicate_succ',l8];rfl
 .have e:i=3:=by omega
  subst e;exact .inl ⟨⟨_,Q2,c5 _⟩,fin _ sm LJ⟩
theorem yp(T:aC K mg "_law_rules" oS)(zu:Def P w K mg base 2 "_law_rule" ["_law_row","_law_rules_here","_law_hull"] (vJ K)):Def P w K mg base 3 "_law_rules" ["_law_rows","_law_hull"] (nH K):=by
 refine aP T rL ?_ ?_
 .walk_at "i1"
 walk_at "i2";obtain⟨l,lh,us,hs,rows,h,rfl,hl,da,ok,few,ME,dh,bp,pos,L5,q1,q2⟩:=h;have nd:=rL.nd;have lu:=BU da;have d2:(2:Nat)<=sizeLine:=by decide
 refine⟨_,(ah (aI (i:=2) (cf af))
  (ah (dB x5 rfl (cq (pv 0)) (aO (i:=3)) (ah (sk (aK zu (aa (pv 3) (aa (pv 2) (aa (pv 1) af)))) (iH rfl (aX (aO (i:=4)) (aX (aO (i:=5)) di))))
  (ah (aS (aF ji (pv 4) bN (aH _)) (ao (av (bj (aa bN (aa (pv 5) af))))) aL)
  (ao (bD (cO b9 i8 i9 bf (pv 2) (aa (pv 4) af)))))))
  (ao (av (bj (aa (pv 2) (aa bN af))))))),?_⟩
 refine⟨(by show 0<=sizeLine;decide),λlr Mu=>?_⟩;have u0:=ak Mu (.lst []);refine⟨_,rfl,l,rfl,⟨us,K7.of (u0 _ _ hl)⟩,?_⟩
 refine eM (xs:=us) (λi σ H'=>i<=us.length/\aJ H H'/\∃(ws:List V)(rs:List T3)(o3 o4 o5:Option V),σ=[some (.ref l),some (.ref lh),some (.ref lr),o3,o4,o5]/\H' lr=some (.lst ws)/\DatAll K H' (rs.map K9) ws/\rs.length=i/\Hu.Rb rs/\Hu.run h rows []=Hu.run h (rows.drop i) rs)
  ⟨x4 _,u0,[],[],_,_,_,rfl,ae,rfl,rfl,(λi x e=>by simp at e),rfl⟩ (λi σ H' _ z=>K7.of (z.2.1 _ _ hl)) (λi v σ H' hv z=>?_) (λσ H' z=>?_)
 .obtain⟨_,sm,ws,rs,o3,o4,o5,rfl,MD,dr,Nk,rb,er⟩:=z;have hi:i<us.length:=(d6.mp hv).1;obtain⟨r,VL,dv⟩:=BV (da.ts sm.ts) hv;have Rm:r.Ok rs.length:=by rw[Nk];exact ok i r VL
  have dp:rows.drop i=r::rows.drop (i+1):=by
   obtain⟨g1,g2⟩:=d6.mp VL;rw[<- g2];exact C2 g1
  rw[dp]at er;obtain⟨cb,_,_⟩:=Hu.lg rb Rm;refine⟨_,rfl,_,rfl,_,rfl,v,lr,lh,ws,hs,r,rs,h,rfl,dv,MD,dr,Rm,rb,by omega,sm _ _ ME,dh.ts sm.ts,bp,pos,L5,λx u t H3 s3 ex du et=>?_,λex u t H3 s3 du et=>?_⟩
  .refine⟨t,_,rfl,K6.of et,rfl,_,_,rfl,_,_,rfl,rfl,?_⟩;obtain⟨ua,rfl,su⟩:=cS du;refine⟨_,rfl,rfl,_,rfl,bL ?_⟩;have m4:=sm.trans s3;have RQ:=s3 _ _ MD;have lw:=eT dr;refine⟨_,rfl,.inl ⟨rfl,_,K7.of RQ⟩,_,rfl,lr,ws,_,rfl,rfl,RQ,aZ (by omega),?_⟩;have t5:LY H3 (upd H3 lr (.lst (ws++[.ref ua]))):=dk RQ;refine⟨hi,aW m4 Mu _,ws++[.ref ua],rs++[x],_,_,_,rfl,ae,?_,?_,Hu.we rb (Hu.tK rb Rm ex),?_⟩
   .rw[l8];exact((dr.ts s3.ts).ts t5).snoc (du.ts t5)
   .rw[c7,Nk];rfl
   .rw[er];show(match Hu.bg h (Hu.choice rs r) with | some x=>_ | none=>_)=_
    rw[ex]
  .refine⟨t,_,rfl,K6.of et,rfl,_,_,rfl,_,_,rfl,rfl,?_⟩;refine⟨_,rfl,rfl,_,rfl,dH ?_⟩;refine⟨_,rfl,d2,λp hp=>?_⟩;have u3:=ak hp (.tup [.non,u]);refine q2 i (Hu.choice rs r).1 p u _ ((sm.trans s3).trans u3) ?_ (by omega) (by rw[<- Nk];exact cb) ae (du.ts u3.ts);rw[er];show(match Hu.bg h (Hu.choice rs r) with | some x=>_ | none=>_)=_
   rw[ex,Nk]
 .obtain⟨_,sm,ws,rs,o3,o4,o5,rfl,MD,dr,Nk,rb,er⟩:=z;refine⟨_,rfl,d2,λp hp=>?_⟩;have u:=ak hp (.tup [.ref lr,.non]);refine q1 rs p lr ws _ (sm.trans u) ?_ rb (by omega) ae (u _ _ MD) (dr.ts u.ts);rw[er,List.drop_eq_nil_of_le (by omega)];rfl
theorem DD(T:aC K mg "_law_hulls" oU)(aR:mg "isinstance"=none)(bB:mg "tuple"=none)(bG:mg "len"=none)(iO:mg "all"=none)(gY:Def P w K mg base 1 "_law_whole" ["_law_found"] nG)(pN:Def P w K mg base 3 "_law_cut" ["_law_hull","_law_rule_here"] (vK K)):∀n:Nat,Def P w K mg base (n+4) "_law_hulls" ["_law_tree","_law_hull"] (rf K n):=by
 intro n
 induction n with
 | zero =>
  refine aP T mw ?_ ?_
  .walk_at "i1"
  .walk_at "i2";obtain⟨x,l,us,t,h,L,rfl,_,_,_,_,_,z,_⟩:=h;omega
 | succ n ip =>
  refine aP T mw ?_ ?_
  .walk_at "i1"
  walk_at "i2";obtain⟨x,l,us,t,h,L,rfl,el,da,hk,sm,hl,dn,cu,dx,eL,q⟩:=h;have nd:=mw.nd;have hu:=hr.units;have n3:=hk.n3;refine⟨_,(ah (aS (aF (GC hu) (pv 0) (bj (aa aQ af)) (aH _)) (ao (av (cf (aa (pv 1) af)))) aL)
  (ah (aS (PW.pt (gW (fM (eB (aG iA aR (aa (pv 0) (aa (gP (v:=V.ty "tuple") rfl bB (by decide+kernel) rfl) af))))) (gW (aF ma (aG bJ bG (aa (pv 0) af)) aq (aH _)) (gW (aF ma (aD aA (pv 0) aq) aQ (aH _)) (hZ (fM (eB (aG iA aR (aa (aD aA (pv 0) aq) (aa (gP (v:=V.ty "tuple") rfl bB (by decide+kernel) rfl) af)))))))))) (ao (av bN)) aL)
  (ah (aS (PW.pt (gW (aF ma (aG bJ bG (aa (aD aA (pv 0) aq) af)) aq (aH _)) (hZ (fM (eB (aG (lx rfl) iO (aa (dC (pf (aD aA (pv 0) aq)) cE (λ_ _ _ _=>cM) (λ_ _ _ _=>(aK gY (aa (pv 0) af)))) af))))))) (ao (av bN)) aL)
  (ah (aI (i:=2) (aK pN (aa (pv 1) (aa (aD aA (pv 0) aq) af))))
  (ah (aS (aF ji (pv 2) bN (aH _)) (ao (av bN)) aL)
  (ah (aI (i:=3) (aK ip (aa (aD aA (pv 0) aq) (aa (aD aA (pv 2) aq) af))))
  (ah (aI (i:=4) (aK ip (aa (aD aA (pv 0) aq) (aa (aD aA (pv 2) aq) af))))
  (ah (aS (PW.pt (gW (aF ji (pv 3) bN (aH _)) (hZ (aF ji (pv 4) bN (aH _))))) (ao (av bN)) aL)
  (ao (av (aM GD (pv 3) (pv 4)))))))))))),?_⟩
  cases t with
  | leaf =>
   refine⟨_,rfl,(by show 1<=sizeLine;decide),λp2 Lk=>?_⟩;have u2:=ak Lk (.tup [V.str "leaf"]);have dl:Dat K (upd H p2 (.tup [V.str "leaf"])) (Lp .leaf) (.ref p2):=oF (K6.of ae);refine⟨_,_,.inl (dx.ts u2.ts),.inl dl,(by decide+kernel),(by decide+kernel),?_⟩;rw[show PyData.eqv (Lp .leaf) (Lp .leaf)=true from by decide+kernel];refine⟨_,rfl,dH ?_⟩;refine⟨_,rfl,(by show 1<=sizeLine;decide),λll hll=>?_⟩;have u:=ak hll (.lst [.ref l]);cases eL
   exact q ll [.ref l] _ (u2.trans u) ae (.cons ⟨l,us,rfl,(u2.trans u) _ _ el,da.ts (u2.trans u).ts⟩ .nil)
  | cut r t1 t2 =>
   obtain⟨a,x1,y1,z1,rfl,sq,d1,d2,d3⟩:=Fe dx;obtain⟨ta,rfl,WD⟩:=cS d1;obtain⟨nc,L1,L2,e1,e2,rfl⟩:=zE eL;refine⟨_,rfl,(by show 1<=sizeLine;decide),λp2 Lk=>?_⟩;have u2:=ak Lk (.tup [V.str "leaf"]);have dl:Dat K (upd H p2 (.tup [V.str "leaf"])) (Lp .leaf) (.ref p2):=oF (K6.of ae);refine⟨_,_,.inl (dx.ts u2.ts),.inl dl,Di (by omega),(by decide+kernel),?_⟩;rw[T7];refine⟨_,rfl,bL ?_⟩;generalize upd H p2 (.tup [V.str "leaf"])=H0 at u2 ⊢;have Td:=sq.ts u2.ts;refine⟨_,rfl,a,_,_,_,true,rfl,(λ_ h=>h),Td,fQ,_,rfl,bL ?_⟩;refine⟨_,rfl,_,_,rfl,.inr ⟨_,Td,rfl⟩,rfl,_,rfl,bL ?_⟩;refine⟨_,rfl,_,_,_,_,rfl,rfl,Td,rfl,rfl,_,rfl,bL ?_⟩;refine⟨_,rfl,_,_,_,_,rfl,rfl,Td,rfl,ta,_,_,_,true,rfl,(λ_ h=>h),WD.ts u2.ts,fQ,_,rfl,bL ?_⟩;refine⟨_,rfl,_,_,_,_,rfl,rfl,Td,rfl,_,_,rfl,.inr ⟨_,WD.ts u2.ts,rfl⟩,rfl,_,rfl,bL ?_⟩;refine⟨_,rfl,_,_,_,_,rfl,rfl,Td,rfl,ta,rfl,⟨_,WD.ts u2.ts⟩,λD hD=>?_⟩;refine Bu (K:=K) (WD.ts u2.ts) hD (λn H' k z=>⟨_,rfl,n,rfl,z⟩) (λH1 s1' LJ=>?_);have s1:=u2.trans s1';refine⟨D,List.replicate 3 true,rfl,K7.of LJ,_,rfl,bL ?_⟩;have dp:max t1.deep t2.deep+1+h.length<=20:=by simp only[Hu.Tc.deep]at hl;omega
   have dn':max t1.deep t2.deep+1+1<=n+1:=dn;have cu':1+t1.iR+t2.iR<=700:=cu;refine⟨_,rfl,_,rfl,_,_,_,_,rfl,rfl,sq.ts s1.ts,rfl,l,.ref ta,us,h,r,rfl,s1 _ _ el,da.ts s1.ts,d1.ts s1.ts,hk.hull.mono (by decide) (by omega),sm.1.mono (by decide),λz=>absurd z nc,λ_ v2 H2 s2' cr=>?_⟩;obtain⟨t2',la,lb,Na,MS,rfl,Yi,fa,fb,Z4,ea,eb,LW,da2⟩:=cr;have s2:=s1.trans s2';have C:=Hu.iR hk sm.1 nc;have c1:=C.ll;have c2:=C.lh;refine⟨_,rfl,rfl,_,rfl,bL ?_⟩;refine⟨_,rfl,_,_,_,_,rfl,rfl,sq.ts s2.ts,rfl,_,rfl,_,_,_,_,rfl,rfl,Z4,rfl,y1,la,Na,t1,_,L1,rfl,ea,LW,C.lo,sm.2.1,by omega,by omega,by omega,d2.ts s2.ts,e1,λl1 w1 H3 WJ Mv al1=>?_⟩;have s3:=s2.trans WJ;refine⟨_,rfl,_,_,_,_,rfl,rfl,sq.ts s3.ts,rfl,_,rfl,_,_,_,_,rfl,rfl,Z4.ts WJ.ts,rfl,z1,lb,MS,t2,_,L2,rfl,WJ _ _ eb,da2.ts WJ.ts,C.hi,sm.2.2,by omega,by omega,by omega,d3.ts s3.ts,e2,λl2 w2 H4 s4 Ss V8=>?_⟩;refine⟨_,rfl,rfl,_,rfl,bL ⟨_,rfl,rfl,_,rfl,bL ?_⟩⟩;have k1:=ir e1;have k2:=ir e2;have lw1:=al1.len;have lw2:=V8.len;refine⟨_,rfl,_,rfl,l1,l2,w1,w2,rfl,rfl,s4 _ _ Mv,Ss,Jx (aZ (by omega)),λl3 h3=>?_⟩;have u3:=ak h3 (.lst (w1++w2));exact q l3 _ _ ((s3.trans s4).trans u3) ae ((al1.imp (NK.to (s4.trans u3))).app (V8.imp (NK.to u3)))
variable{c:CCs}
theorem BK:aB ["_law_cells"] ["_law_cells"] (au PV):=L2.fsc rfl (by decide+kernel)
theorem ok_next(T:aC K mg "_law_next" PV)(bG:mg "len"=none):Def P w K mg base 1 "_law_next" ["_law_cells"] vG:=by
 refine aP T BK ?_ ?_
 .walk_at "i1"
 walk_at "i2";obtain⟨l,ms,rfl,e,hc,q⟩:=h;have nd:=BK.nd
 refine⟨_,(ah (aS (aF bS (aG bJ bG (aa (pv 0) af)) aq (aH _)) (ao (av aq)) aL)
  (ao (av (cO b9 B5 B6 Hj (pv 0) (fi af))))),?_⟩
 refine⟨_,rfl,_,_,rfl,.inl ⟨_,K7.of e,rfl⟩,rfl,_,rfl,?_⟩;refine cJ (λz=>?_) (λz=>?_)
 .exact q 0 ms H ZF hc (SB.refl _ _) e
 .cases ms with
  | nil=>exact absurd (e9 rfl) z
  | cons m r =>
   refine⟨_,rfl,.inl ⟨rfl,_,K7.of e⟩,l,_,0,0,V.int m,rfl,rfl,e,by decide,by decide,seqIndex_of (D5 0) (by rw[i7,j9];omega),rfl,?_⟩;exact q m r _ (hc m (by simp)) (λn hn=>hc n (x6 _ hn)) (jI _ _) ae
theorem xW:aB ["_law_word","_law_n","_law_one","_law_other"] ["_law_word","_law_n","_law_one","_law_other"] (au FL):=L2.fsc rfl (by decide+kernel)
theorem GZ(T:aC K mg "_law_fold" FL)(bR:mg "min"=none)(cA:mg "max"=none):Def P w K mg base 1 "_law_fold" ["_law_word","_law_n","_law_one","_law_other"] BF:=by
 refine aP T xW ?_ ?_
 .walk_at "i1"
 walk_at "i2";obtain⟨u,n,x,y,rfl,q⟩:=h;have nd:=xW.nd
 refine⟨_,(ah (aS (aF bS (pv 0) aQ (aH _)) (ao (av (aG (fo rfl) bR (aa (pv 1) (aa (aM bW (pv 2) (pv 3)) af))))) aL)
  (ah (aS (aF bS (pv 0) aQ (aH _)) (ao (av (aG (iz rfl) cA (fi (aa (aM cD (aM bW (pv 2) (pv 3)) (pv 1)) af))))) aL)
  (ah (aS (aF bS (pv 0) aQ (aH _)) (ao (av (aG (iz rfl) cA (aa (pv 2) (aa (pv 3) af))))) aL)
  (ah (aS (aF bS (pv 0) aQ (aH _)) (ao (av (aG (fo rfl) bR (aa (pv 2) (aa (pv 3) af))))) aL)
  (ao (av (aG (fo rfl) bR (aa (pv 1) (aa (aM bW (aM cD (pv 1) (pv 2)) (pv 3)) af))))))))),?_⟩
 cases u with
 | more =>
  refine⟨_,rfl,rfl,_,rfl,ite_yes rfl ⟨_,rfl,_,rfl,_,rfl,_,_,rfl,rfl,_,_,rfl,?_⟩⟩;rw[jS,Int.min_comm];exact q
 | less =>
  refine⟨_,rfl,rfl,_,rfl,ite_no (by decide+kernel) ⟨_,rfl,rfl,_,rfl,ite_yes rfl ⟨_,rfl,_,rfl,_,_,rfl,rfl,_,rfl,_,_,rfl,rfl,_,_,rfl,?_⟩⟩⟩;rw[mU,Int.max_comm];exact q
 | greater =>
  refine⟨_,rfl,rfl,_,rfl,ite_no (by decide+kernel) ⟨_,rfl,rfl,_,rfl,ite_no (by decide+kernel) ⟨_,rfl,rfl,_,rfl,ite_yes rfl ⟨_,rfl,_,rfl,_,_,rfl,?_⟩⟩⟩⟩;rw[mU];exact q
 | lesser =>
  refine⟨_,rfl,rfl,_,rfl,ite_no (by decide+kernel) ⟨_,rfl,rfl,_,rfl,ite_no (by decide+kernel) ⟨_,rfl,rfl,_,rfl,ite_no (by decide+kernel) ⟨_,rfl,rfl,_,rfl,ite_yes rfl ⟨_,rfl,_,rfl,_,_,rfl,?_⟩⟩⟩⟩⟩;rw[jS];exact q
 | leads =>
  refine⟨_,rfl,rfl,_,rfl,ite_no (by decide+kernel) ⟨_,rfl,rfl,_,rfl,ite_no (by decide+kernel) ⟨_,rfl,rfl,_,rfl,ite_no (by decide+kernel) ⟨_,rfl,rfl,_,rfl,ite_no (by decide+kernel) ⟨_,rfl,_,rfl,_,rfl,_,_,rfl,rfl,_,rfl,_,_,rfl,rfl,_,_,rfl,?_⟩⟩⟩⟩⟩;rw[jS,Int.min_comm];exact q
noncomputable abbrev Hm:List PySem.Str:=["_law_script","_law_least_here","_law_as_they_stand","_law_made","_law_k","_law_cell"]
theorem xM:aB Hm ["_law_script","_law_least_here"] (au vV):=L2.fsc rfl (by decide+kernel)
theorem GU(T:aC K mg "_law_mixed" vV)(bG:mg "len"=none)(cA:mg "max"=none)(bR:mg "min"=none)(cw:mg "range"=none)(iP:mg "abs"=none)(fV:mg "int"=none):Def P w K mg base 1 "_law_mixed" ["_law_script","_law_least_here"] (BE K):=by
 refine aP T xM ?_ ?_
 .walk_at "i1"
 walk_at "i2";obtain⟨a,ns,k,rfl,S,k0,k1,q⟩:=h;have nd:=xM.nd;have hlen:=S.few
 have tail:∃t,Lr (cN CX0 P w K mg base Hm "_law_mixed" (au vV) f cdv A outer s H E).nox ((bA vV).drop 1) t/\∀b:Bool,t {nx:=λ_ H'=>Q .non H',rt:=Q} [some (.ref a),some (.int k),some (.bl b),none,none,none] H:=by
  refine⟨_,(ah (aI (i:=3) (cf af))
  (ah (dB x5 rfl (iu cw (aa (aG (iz rfl) cA (aa (aM bW (pv 1) aq) (aa (aG (fo rfl) bR (fi (aa (aG bJ bG (aa (pv 0) af)) af))) af))) af)) (aO (i:=4)) (ah (aI (i:=5) aq)
  (ah (aS (aF iK (pv 4) (aG bJ bG (aa (pv 0) af)) (aH _)) (ao (aI (i:=5) (aD bH (pv 0) (pv 4)))) aL)
  (ao (aS (PW.pt (Ab (sj (pv 2) (λ_=>rfl)) (wk (Gk iK iK aq (pv 4) (aG bJ bG (aa (pv 0) af)))))) (ao (bD (cO b9 i8 i9 bf (pv 3) (aa (aG iN iP (aa (pv 5) af)) af)))) (ao (bD (cO b9 i8 i9 bf (pv 3) (aa (aM dE (aM bo (aM dE (aM bW (aM bo (aM dE (pv 5) (aM Rj aq aq)) aq) (aM bo aq (aM bW (pv 4) aq))) aq) aq) aq) af)))))))))
  (ao (av (iI vQ (pv 3) (jQ (cR jD fV (aa (pv 2) af))) jR))))),?_⟩
  intro b;refine⟨(by show 0<=sizeLine;decide),λD hD=>?_⟩;refine⟨_,rfl,_,_,rfl,rfl,_,rfl,_,_,rfl,.inl ⟨_,(ak hD _).seq S.l,rfl⟩,_,_,rfl,_,_,rfl,_,rfl,?_,?_,?_⟩
  .rw[jS,mU,i7];omega
  .rw[jS,mU,i7];omega
  rw[jS,mU,i7];have hN:(max (k+1) (min 63 (ns.length:Int))).toNat<=1000:=by omega
  refine iw (λi σ H2=>∃(ms:List Int)(o4 o5:Option V),σ=[some (.ref a),some (.int k),some (.bl b),some (.ref D),o4,o5]/\aJ H H2/\H2 D=some (.lst (ms.map V.int))/\ms.length=i/\∀m∈ms,Me m)
   ⟨[],_,_,rfl,ak hD _,ae,rfl,λ_ h=>nomatch h⟩ (λi σ H2 hi h=>?_) (λσ H2 h=>?_)
  .obtain⟨ms,o4,o5,rfl,sm,e,hm,hc⟩:=h;have S2:=S.to sm
   have next:∀v:Int,Me v->∀z:Int,∃(Mb:List Int)(o4 o5:Option V),[some (V.ref a),some (.int k),some (.bl b),some (.ref D),some (.int (0+(i:Int))),some (.int z)]=[some (V.ref a),some (.int k),some (.bl b),some (.ref D),o4,o5]/\aJ H (upd H2 D (.lst (ms.map V.int++[V.int v])))/\
     upd H2 D (.lst (ms.map V.int++[V.int v])) D=some (.lst (Mb.map V.int))/\Mb.length=i+1/\∀m∈Mb,Me m:=λv cv z=>by
    refine⟨ms++[v],_,_,rfl,λd o zz=>?_,by rw[ae,l8];rfl,by rw[c7,hm];rfl,λm RW=>?_⟩
    .rw[az (aE zz hD)];exact sm d o zz
    .rcases j6.mp RW with zz | zz
     .exact hc m zz
     .have:m=v:=by simpa using zz
      rw[this];exact cv
   have ml:(ms.map V.int).length<sizeLine:=by rw[i7,hm];exact i5 hi (l7 hN (by decide))
   have OM:∃xs,K7 K H2 a xs/\(ns.length:Nat)=xs.length:=⟨_,S2.l,(i7 _).symm⟩;refine⟨_,rfl,_,rfl,_,ns.length,rfl,.inl OM,_,_,rfl,rfl,_,rfl,?_⟩
   have SG:∃z:Int,Builtin.Int.intBits z<=1048576/\(decide ((0+(i:Int))<(ns.length:Int))=true->Mi (ns.map V.int) (0+(i:Int))=some (V.int z))/\(¬decide ((0+(i:Int))<(ns.length:Int))=true->z=0):=by
    by_cases Le:i<ns.length
    .refine⟨ns[i],S.bit _ (IX Le),λ_=>?_,λz=>absurd (e9 (by omega)) z⟩;rw[Int.zero_add];exact cC (by rw[w6,c6 Le];rfl)
    .exact⟨0,by decide,λz=>absurd (c8 z) (by omega),λ_=>rfl⟩
   obtain⟨z,hz,hz1,Tp⟩:=SG;refine cJ (λg=>?a) (λg=>?b)
   case' a=>refine⟨_,rfl,_,rfl,_,_,_,_,rfl,rfl,S2.l,hz1 g,?_⟩
   case' b=>have ez:=Tp g;subst ez
   all_goals
    cases b with
    | false =>
     refine⟨_,rfl,false,rfl,bL (bL ?_)⟩;refine⟨_,rfl,.inl ⟨rfl,_,K7.of e⟩,_,rfl,_,_,rfl,rfl,⟨by decide,by decide,by decide⟩,_,_,rfl,rfl,(show(0:Int)<10^(Int.toNat 18) by decide+kernel),_,_,rfl,rfl,fP (by decide+kernel),_,rfl,_,_,rfl,rfl,_,_,rfl,rfl,sI (by decide+kernel),_,_,rfl,rfl,_,_,rfl,rfl,(show(0:Int)<2147483647 by decide),_,_,rfl,rfl,fP (by decide+kernel),_,_,rfl,rfl,(show(0:Int)<2147483629 by decide),D,_,_,rfl,rfl,e,ml,?_⟩;exact next _ (pG (Jc _ (by decide)) (KW (E9 _ (by decide)) (by decide))) _
    | true =>
     refine⟨_,rfl,true,rfl,dH ?_⟩;refine⟨_,rfl,_,_,rfl,rfl,_,rfl,?_⟩;refine cJ (λg1=>?_) (λg1=>?_)
     .refine⟨_,rfl,_,ns.length,rfl,.inl OM,_,_,rfl,rfl,_,rfl,?_⟩;refine cJ (λg2=>?_) (λg2=>?_)
      .refine⟨_,rfl,.inl ⟨rfl,_,K7.of e⟩,_,rfl,_,rfl,D,_,_,rfl,rfl,e,ml,?_⟩;exact next _ (Pe hz) _
      .refine⟨_,rfl,.inl ⟨rfl,_,K7.of e⟩,_,rfl,_,_,rfl,rfl,⟨by decide,by decide,by decide⟩,_,_,rfl,rfl,(show(0:Int)<10^(Int.toNat 18) by decide+kernel),_,_,rfl,rfl,fP (by decide+kernel),_,rfl,_,_,rfl,rfl,_,_,rfl,rfl,sI (by decide+kernel),_,_,rfl,rfl,_,_,rfl,rfl,(show(0:Int)<2147483647 by decide),_,_,rfl,rfl,fP (by decide+kernel),_,_,rfl,rfl,(show(0:Int)<2147483629 by decide),D,_,_,rfl,rfl,e,ml,?_⟩;exact next _ (pG (Jc _ (by decide)) (KW (E9 _ (by decide)) (by decide))) _
     .refine⟨_,rfl,bL ?_⟩;refine⟨_,rfl,.inl ⟨rfl,_,K7.of e⟩,_,rfl,_,_,rfl,rfl,⟨by decide,by decide,by decide⟩,_,_,rfl,rfl,(show(0:Int)<10^(Int.toNat 18) by decide+kernel),_,_,rfl,rfl,fP (by decide+kernel),_,rfl,_,_,rfl,rfl,_,_,rfl,rfl,sI (by decide+kernel),_,_,rfl,rfl,_,_,rfl,rfl,(show(0:Int)<2147483647 by decide),_,_,rfl,rfl,fP (by decide+kernel),_,_,rfl,rfl,(show(0:Int)<2147483629 by decide),D,_,_,rfl,rfl,e,ml,?_⟩;exact next _ (pG (Jc _ (by decide)) (KW (E9 _ (by decide)) (by decide))) _
  .obtain⟨ms,o4,o5,rfl,sm,e,hm,hc⟩:=h;refine⟨_,rfl,_,rfl,.inr ⟨b,rfl,_,rfl,D,_,rfl,K7.of e,λp hp=>?_⟩⟩;obtain⟨Mb,em,RW⟩:=O9 ms (some (if b then 1 else 0)) none;rw[em];have np:H p=none:=sm.free hp;exact q p Mb _ (λd o zz=>by rw[az (aE zz np)];exact sm d o zz) np ae λm h=>hc m (RW m h)
 obtain⟨t1,OS,NP⟩:=tail;refine⟨_,ah (aI (i:=2) (jh (dO kh (aG bJ bG (aa (pv 0) af)) aq (aH _)) (mQ (dO bS (aM dE (aD bH (pv 0) aq) aq) aq (aH _))))) OS,?_⟩;refine⟨_,rfl,_,ns.length,rfl,.inl ⟨_,S.l,(i7 _).symm⟩,_,_,rfl,rfl,_,rfl,?_⟩;refine cJ (λg=>?_) (λg=>?_)
 .cases ns with
  | nil=>exact absurd (c8 g) (by decide)
  | cons n r=>exact⟨_,rfl,_,_,_,_,rfl,rfl,S.l,cC (j:=0) rfl,_,_,rfl,rfl,(show(0:Int)<2 by decide),rfl,NP _⟩
 .exact NP false
structure B4 where
 a:Int
 b:Int
 c:Int
 l:Int
noncomputable def M7(q:B4):PyData:=.tuple [.int q.a,.int q.b,.int q.c,.int q.l]
def B4.Kp(q:B4)(n x y:Int):Prop:=q.l<=q.a*x+q.b*y+q.c*n
def B4.R(q:B4):Prop:=q.a.natAbs<2^200/\q.b.natAbs<2^200/\q.c.natAbs<2^200/\q.l.natAbs<2^200
def Kept(bs:List B4)(n x y:Int):Prop:=∀q∈bs,q.Kp n x y
noncomputable def M4(t b:Int):Int:=-((-t).fdiv b)
theorem rY{t b y:Int}(hb:0<b):M4 t b<=y↔t<=b*y:=by
 unfold M4;rw[F3 _ (y9 hb)];have:=JO (a:=-y) (b:=-t) hb;rw[show -(-t/b)<=y↔-y<=-t/b by omega,this,Int.neg_mul,G8];omega
theorem So{t b y:Int}(hb:b<0):y<=t.fdiv b↔t<=b*y:=by
 rw[<- Int.neg_fdiv_neg,F3 _ (show 0<=-b by omega)];rw[JO (show 0 < -b by omega),Int.mul_neg,G8];omega
noncomputable def sb(p q:T3):B4:=⟨p.w*q.u-p.u*q.w,p.u*q.v-p.v*q.u,p.v*q.w-p.w*q.v,0⟩
theorem PR(p q:T3)(n x y:Int):(sb p q).Kp n x y↔0<=Hu.det p q ⟨n,x,y⟩:=by
 unfold B4.Kp sb;rw[show(p.w*q.u-p.u*q.w)*x+(p.u*q.v-p.v*q.u)*y+(p.v*q.w-p.w*q.v)*n=Hu.det p q ⟨n,x,y⟩ by simp only[Hu.det];grind]
noncomputable def XU(r:T3):B4:=⟨-r.u,-r.v,1-r.w,1⟩
theorem Gb(r:T3)(n x y:Int):(XU r).Kp n x y↔Hu.tl r ⟨n,x,y⟩ < n:=by
 show 1<=-r.u*x + -r.v*y+(1-r.w)*n↔_;have e:-r.u*x + -r.v*y+(1-r.w)*n=n-Hu.tl r ⟨n,x,y⟩:=by simp only[Hu.tl];grind
 rw[e];omega
noncomputable def za(h:List T3)(r:T3):List B4:=(List.range h.length).map (λi=>sb (Hu.cor h i) (Hu.cor h (i+1)))++[XU r]
theorem pH(h:List T3)(r:T3)(n x y:Int):Kept (za h r) n x y↔Hu.Ins h ⟨n,x,y⟩/\Hu.tl r ⟨n,x,y⟩ < n:=by
 unfold Kept za;constructor
 .intro k;refine⟨λi hi=>(PR _ _ _ _ _).mp (k _ (A5 _ (x8.mpr ⟨i,J9.mpr hi,rfl⟩))),(Gb _ _ _ _).mp (k _ (l9 _ v8))⟩
 .rintro⟨k1,k2⟩ q hq
  rcases j6.mp hq with z | z
  .obtain⟨i,hi,rfl⟩:=x8.mp z;exact(PR _ _ _ _ _).mpr (k1 i (J9.mp hi))
  .rw[c9.mp z];exact(Gb _ _ _ _).mpr k2
section
variable{K:W.Frag}{H H':Hp}{v:V}{q:B4}
theorem V5(d:Dat K H (M7 q) v):∃a,v=.ref a/\K6 K H a [.int q.a,.int q.b,.int q.c,.int q.l]:=by
 obtain⟨a,xs,rfl,s,x,t,rfl,hx,y,t2,rfl,hy,z,t3,rfl,hz,w,t4,rfl,hw,h4⟩:=d;cases(show x=V.int q.a from hx)
 cases(show y=V.int q.b from hy)
 cases(show z=V.int q.c from hz)
 cases(show w=V.int q.l from hw)
 cases(show t4=[] from h4)
 exact⟨a,rfl,s⟩
theorem Qw{a:Addr}(s:K6 K H a [.int q.a,.int q.b,.int q.c,.int q.l]):Dat K H (M7 q) (.ref a):=⟨a,_,rfl,s,_,_,rfl,rfl,_,_,rfl,rfl,_,_,rfl,rfl,_,_,rfl,rfl,rfl⟩
theorem SR{xs:List V}{bs:List B4}(g:DatAll K H (bs.map M7) xs){x:V}(e:xs[i]?=some x):∃r,bs[i]?=some r/\Dat K H (M7 r) x:=by
 obtain⟨d,e1,e2⟩:=g.get' e;rw[w6]at e1;cases z:bs[i]? with
 | none=>rw[z]at e1;cases e1
 | some s=>rw[z]at e1;cases e1;exact⟨s,rfl,e2⟩
theorem SQ{xs:List V}{bs:List B4}(g:DatAll K H (bs.map M7) xs):xs.length=bs.length:=by rw[g.len,i7]
end
theorem Qr:jV (x::us) none (some 1)=[x]:=by
 unfold jV
 rw[_root_.HT.rX,show _root_.HT.sIx (x::us).length (x::us).length (some 1)=1 from by
  rw[show(some (1:Int))=some ((1:Nat):Int) from rfl,_root_.HT.nQ,j9];omega]
 rfl
theorem Qq(x:V)(us:List V):jV (x::us) (some 1) none=us:=by
 unfold jV
 rw[show _root_.HT.sIx (x::us).length 0 (some 1)=1 from by
  rw[show(some (1:Int))=some ((1:Nat):Int) from rfl,_root_.HT.nQ,j9];omega,_root_.HT.rX]
 show List.take ((x::us).length-1) us=us;rw[j9,Nat.add_sub_cancel,z9]
inductive BD(vs:List V)(H:Hp)(Q:VK)(E:XK):Prop
 | mk (t b:Int):vs=[.int t,.int b]->b≠0->Bg b->Q (.int (M4 t b)) H->BD vs H Q E
inductive QU(K:W.Frag)(vs:List V)(H:Hp)(Q:VK)(E:XK):Prop
 | mk (x y p q):vs=[x,y]->Dat K H (K9 p) x->Dat K H (K9 q) y->Hu.R3 3000 p->Hu.R3 3000 q->(∀t H',aJ H H'->Dat K H' (M7 (sb p q)) (.ref t)->Q (.ref t) H')->QU K vs H Q E
inductive zR(K:W.Frag)(vs:List V)(H:Hp)(Q:VK)(E:XK):Prop
 | mk (l x us h r):vs=[.ref l,x]->H l=some (.lst us)->DatAll K H (h.map K9) us->Dat K H (K9 r) x->(∀p∈h,Hu.R3 3000 p)->0<h.length->h.length<=100->(∀l' ws H',aJ H H'->H l'=none->H' l'=some (.lst ws)->DatAll K H' ((za h r).map M7) ws->Q (.ref l') H')->zR K vs H Q E
inductive QS(K:W.Frag)(vs:List V)(H:Hp)(Q:VK)(E:XK):Prop
 | mk (l ws bs) (n x:Int):vs=[.ref l,.int n,.int x]->H l=some (.lst ws)->DatAll K H (bs.map M7) ws->(∀q∈bs,q.R)->0<=n->n.natAbs<2^200->x.natAbs<2^200->((∀y,0<=y->y<=n->Kept bs n x y->Q (.int y) H))->(((∀y,0<=y->y<=n->¬Kept bs n x y)->Q .non H))->QS K vs H Q E
theorem ok_rup(T:aC K mg "round_up" mH):Def P w K mg base 1 "round_up" ["top","bottom"] BD:=by
 refine aP T pW ?_ ?_
 .walk_at "i1"
 walk_at "i2";obtain⟨t,b,rfl,b0,bb,q⟩:=h;have nd:=pW.nd;refine⟨_,(ao (av (lZ gp (aM iL (lZ gp (pv 0)) (pv 1))))),?_⟩;exact⟨_,rfl,_,rfl,_,rfl,_,_,rfl,rfl,wR b0 bb,_,rfl,q⟩
theorem ok_sb(T:aC K mg "side_bound" jK):Def P w K mg base 1 "side_bound" ["one","other"] (QU K):=by
 refine aP T lX ?_ ?_
 .walk_at "i1"
 walk_at "i2";obtain⟨x,y,p,q,rfl,dx,dy,bp,bq,k⟩:=h;obtain⟨ax,rfl,sx⟩:=cS dx;obtain⟨ay,rfl,sy⟩:=cS dy;obtain⟨p1,p2,p3⟩:=Nj bp;obtain⟨q1,q2,q3⟩:=Nj bq;have nd:=lX.nd
 refine⟨_,(ah (aI (i:=2) (aM cD (aM bo (aD aA (pv 0) aq) (aD aA (pv 1) aq)) (aM bo (aD aA (pv 0) aq) (aD aA (pv 1) aq))))
  (ah (aI (i:=3) (aM cD (aM bo (aD aA (pv 0) aq) (aD aA (pv 1) aq)) (aM bo (aD aA (pv 0) aq) (aD aA (pv 1) aq))))
  (ah (aI (i:=4) (aM cD (aM bo (aD aA (pv 0) aq) (aD aA (pv 1) aq)) (aM bo (aD aA (pv 0) aq) (aD aA (pv 1) aq))))
  (ao (av (bj (aa (pv 2) (aa (pv 3) (aa (pv 4) (fi af)))))))))),?_⟩
 refine⟨_,rfl,_,_,_,_,rfl,rfl,sx,rfl,_,rfl,_,_,_,_,rfl,rfl,sy,rfl,_,_,rfl,rfl,eI p3 q1,_,rfl,_,_,_,_,rfl,rfl,sx,rfl,_,rfl,_,_,_,_,rfl,rfl,sy,rfl,_,_,rfl,rfl,eI p1 q3,_,_,rfl,rfl,?_⟩;refine⟨_,rfl,_,_,_,_,rfl,rfl,sx,rfl,_,rfl,_,_,_,_,rfl,rfl,sy,rfl,_,_,rfl,rfl,eI p1 q2,_,rfl,_,_,_,_,rfl,rfl,sx,rfl,_,rfl,_,_,_,_,rfl,rfl,sy,rfl,_,_,rfl,rfl,eI p2 q1,_,_,rfl,rfl,?_⟩;refine⟨_,rfl,_,_,_,_,rfl,rfl,sx,rfl,_,rfl,_,_,_,_,rfl,rfl,sy,rfl,_,_,rfl,rfl,eI p2 q3,_,rfl,_,_,_,_,rfl,rfl,sx,rfl,_,rfl,_,_,_,_,rfl,rfl,sy,rfl,_,_,rfl,rfl,eI p3 q2,_,_,rfl,rfl,?_⟩;refine⟨_,rfl,_,rfl,_,rfl,(by show 4<=sizeLine;decide),λt ht=>?_⟩;exact k t _ (ak ht _) (Qw (q:=sb p q) (K6.of ae))
theorem ok_yw(T:aC K mg "y_within" mE)(cA:mg "max"=none)(bR:mg "min"=none)(nj:Def P w K mg base 1 "round_up" ["top","bottom"] BD):Def P w K mg base 2 "y_within" ["bounds","n","x"] (QS K):=by
 refine aP T pS ?_ ?_
 .walk_at "i1"
 walk_at "i2";obtain⟨l,ws,bs,n,x,rfl,el,da,rb,n0,bn,bx,q1,q2⟩:=h;have nd:=pS.nd;have Xk:Bg n:=dI bn (by decide);have bxB:Bg x:=dI bx (by decide)
 refine⟨_,(ah (aI (i:=3) aq)
  (ah (aI (i:=4) (pv 1))
  (ah (dB x5 rfl (cq (pv 0)) (iH rfl (aX (aO (i:=5)) (aX (aO (i:=6)) (aX (aO (i:=7)) (aX (aO (i:=8)) di))))) (ah (aI (i:=9) (aM cD (aM cD (pv 8) (aM bo (pv 5) (pv 2))) (aM bo (pv 7) (pv 1))))
  (ao (aS (aF kh (pv 6) aq (aH _)) (ao (aI (i:=3) (aG (iz rfl) cA (aa (pv 3) (aa (aK nj (aa (pv 9) (aa (pv 6) af))) af))))) (ao (aS (aF iK (pv 6) aq (aH _)) (ao (aI (i:=4) (aG (fo rfl) bR (aa (pv 4) (aa (aM iL (pv 9) (pv 6)) af))))) (ao (aS (aF kh (pv 9) aq (aH _)) (ao (av bN)) aL))))))))
  (ao (av (kP (aF jz (pv 3) (pv 4) (aH _)) (pv 3) bN)))))),?_⟩
 refine⟨_,rfl,_,rfl,l,rfl,⟨ws,K7.of el⟩,?_⟩;refine eM (xs:=ws) (λi σ H'=>H'=H/\∃(lo hi:Int)(o5 o6 o7 o8 o9:Option V),σ=[some (.ref l),some (.int n),some (.int x),some (.int lo),some (.int hi),o5,o6,o7,o8,o9]/\∀y,(0<=y/\y<=n/\Kept (bs.take i) n x y)↔(lo<=y/\y<=hi)) ⟨rfl,0,n,_,_,_,_,_,rfl,λy=>⟨λz=>⟨z.1,z.2.1⟩,λz=>⟨z.1,z.2,λq hq=>by simp at hq⟩⟩⟩ (λi σ H' _ z=>by rw[z.1];exact K7.of el) (λi v σ H' hv z=>?_) (λσ H' z=>?_)
 .obtain⟨rfl,lo,hi,o5,o6,o7,o8,o9,rfl,iv⟩:=z;obtain⟨b,hb,db⟩:=SR da hv;obtain⟨ba,rfl,sb⟩:=V5 db;obtain⟨r1,r2,r3,r4⟩:=rb b (p8 hb);have tk:bs.take (i+1)=bs.take i++[b]:=by rw[A2,hb];rfl
  have kt:∀y,Kept (bs.take (i+1)) n x y↔Kept (bs.take i) n x y/\b.l-b.a*x-b.c*n<=b.b*y:=λy=>by
   rw[tk];unfold Kept;constructor
   .intro k;have k2:=k b (l9 _ v8);unfold B4.Kp at k2;exact⟨λq hq=>k q (A5 _ hq),by omega⟩
   .rintro⟨k1,k2⟩ q hq
    rcases j6.mp hq with z | z
    .exact k1 q z
    .rw[c9.mp z];unfold B4.Kp;omega
  refine⟨ba,_,rfl,sb,rfl,_,_,rfl,_,_,rfl,_,_,rfl,_,_,rfl,rfl,?_⟩;refine⟨_,rfl,_,rfl,_,rfl,_,_,rfl,rfl,eI (dI r1 (by decide)) bxB,_,_,rfl,rfl,_,rfl,_,rfl,_,_,rfl,rfl,eI (dI r3 (by decide)) Xk,_,_,rfl,rfl,?_⟩;refine⟨_,rfl,_,_,rfl,rfl,_,rfl,cJ (λc1=>?_) (λc1=>?_)⟩
  .have c1:0<b.b:=c8 c1;refine⟨_,rfl,_,rfl,_,rfl,_,b.b,rfl,by omega,dI r2 (by decide),?_⟩;refine⟨_,_,rfl,?_⟩;refine⟨rfl,_,hi,_,_,_,_,_,rfl,λy=>?_⟩;rw[kt];have e:=rY (t:=b.l-b.a*x-b.c*n) (y:=y) c1;have v:=iv y;generalize M4 (b.l-b.a*x-b.c*n) b.b=z at *;split<;>constructor
   .rintro⟨a1,a2,a3,a4⟩;have:=v.mp ⟨a1,a2,a3⟩;have:=e.mpr a4;omega
   .rintro⟨a1,a2⟩;have w:=v.mpr ⟨by omega,a2⟩;exact⟨w.1,w.2.1,w.2.2,e.mp a1⟩
   .rintro⟨a1,a2,a3,a4⟩;exact v.mp ⟨a1,a2,a3⟩
   .rintro⟨a1,a2⟩;have w:=v.mpr ⟨a1,a2⟩;exact⟨w.1,w.2.1,w.2.2,e.mp (by omega)⟩
  .have c1:¬0<b.b:=λz=>c1 (e9 z);refine⟨_,rfl,_,_,rfl,rfl,_,rfl,cJ (λc2=>?_) (λc2=>?_)⟩
   .have c2:b.b<0:=c8 c2;refine⟨_,rfl,_,rfl,_,rfl,_,_,rfl,rfl,wR (by omega) (dI r2 (by decide)),?_⟩;refine⟨_,_,rfl,?_⟩;refine⟨rfl,lo,_,_,_,_,_,_,rfl,λy=>?_⟩;rw[kt];have e:=So (t:=b.l-b.a*x-b.c*n) (y:=y) c2;have v:=iv y;generalize (b.l-b.a*x-b.c*n).fdiv b.b=z at *;split<;>constructor
    .rintro⟨a1,a2,a3,a4⟩;have:=v.mp ⟨a1,a2,a3⟩;have:=e.mpr a4;omega
    .rintro⟨a1,a2⟩;have w:=v.mpr ⟨a1,by omega⟩;exact⟨w.1,w.2.1,w.2.2,e.mp a2⟩
    .rintro⟨a1,a2,a3,a4⟩;exact v.mp ⟨a1,a2,a3⟩
    .rintro⟨a1,a2⟩;have w:=v.mpr ⟨a1,a2⟩;exact⟨w.1,w.2.1,w.2.2,e.mp (by omega)⟩
   .have c2:¬b.b<0:=λz=>c2 (e9 z);have b0:b.b=0:=by omega
    refine⟨_,rfl,_,_,rfl,rfl,_,rfl,cJ (λc3=>?_) (λc3=>?_)⟩
    .have c3:0<b.l-b.a*x-b.c*n:=c8 c3;refine q2 λy y0 y1 k=>?_;have k2:=k b (p8 hb);unfold B4.Kp at k2;rw[b0,J8]at k2;omega
    .have c3:¬0<b.l-b.a*x-b.c*n:=λz=>c3 (e9 z);refine⟨rfl,lo,hi,_,_,_,_,_,rfl,λy=>?_⟩;rw[kt,b0,J8];have v:=iv y;constructor
     .rintro⟨a1,a2,a3,a4⟩;exact v.mp ⟨a1,a2,a3⟩
     .rintro z;have w:=v.mpr z;exact⟨w.1,w.2.1,w.2.2,by omega⟩
 .obtain⟨rfl,lo,hi,o5,o6,o7,o8,o9,rfl,iv⟩:=z;rw[SQ da,z9]at iv;refine⟨_,rfl,_,rfl,_,_,rfl,rfl,_,rfl,cJ (λc=>?_) (λc=>?_)⟩
  .have c:lo<=hi:=c8 c;have w:=(iv lo).mpr ⟨D5 _,c⟩;exact⟨_,rfl,q1 lo w.1 w.2.1 w.2.2⟩
  .have c:¬lo<=hi:=λz=>c (e9 z);refine q2 λy y0 y1 k=>?_;have:=(iv y).mp ⟨y0,y1,k⟩;omega
theorem AQ(h:wi σ H λJ H1=>mj n (λ_ H R=>R J H) g te js σ H1 Q):mj n wi g te js σ H Q:=h
theorem Ep(zs:List PyData)(ha:H a=some (.lst xs))(hb:H b=some (.lst ys))(l1:ys.length=xs.length)(l2:zs.length=xs.length)(hx:xs.length<=1000)
  (hs:∀(i:Nat) x y z H' N,xs[i]?=some x->ys[i]?=some y->zs[i]?=some z->aJ H H'->(∀t La,aJ H' La->Dat K La z t->N t La)->te (some x::some y::bQ js σ) H' N)
  (hd:∀D us H',aJ H H'->H D=none->H' D=some (.lst us)->DatAll K H' zs us->Q (.ref D) H') :
  mj 2 (λ_ H R=>R (Xo K a b) H) (Sh K 2 (HW (kY 0) (HW (kY 1) VF))) te js σ H Q:=by
 intro D hD;have na:a≠D:=aE ha hD;have nb:b≠D:=aE hb hD;refine⟨λi m H'=>m=xs.length-i/\i<=xs.length/\aJ H H'/\∃us,us.length=i/\H' D=some (.lst us)/\DatAll K H' (zs.take i) us,⟨xs.length,rfl,x4 _,ak hD _,[],rfl,ae,rfl⟩,?_⟩;rintro i m H2 ⟨rfl,hi,s2,us,lu,eD,al⟩
 have ea:=s2 _ _ ha;have eb:=s2 _ _ hb
 by_cases Le:i<xs.length
 .have h1:xs[i]?=some xs[i]:=c6 Le;have h2:ys[i]?=some (ys[i]'(by omega)):=c6 (by omega);have h3:zs[i]?=some (zs[i]'(by omega)):=c6 (by omega);refine .inr ⟨⟨xs,ys,_,_,K7.of ea,K7.of eb,h1,h2⟩,λo lo v H3 y=>?_⟩;obtain⟨T,vs',hT,rfl,rfl,x,y',rfl,q1,q2⟩:=y;have q1:=q1 xs (K7.of ea);have q2:=q2 ys (K7.of eb);rw[h1]at q1;rw[h2]at q2;cases q1
  cases q2
  have uT:=ak hT (.tup [xs[i],ys[i]'(by omega)])
  obtain⟨o1,o2,rfl⟩:∃o1 o2,o=[o1,o2]:=by
   match o,lo with
   | [o1,o2],_=>exact⟨o1,o2,rfl⟩
  refine⟨T,_,rfl,K6.of ae,rfl,_,_,rfl,_,_,rfl,rfl,[some xs[i],some (ys[i]'(by omega))],rfl,rfl,?_⟩;refine hs i _ _ _ _ _ h1 h2 h3 (s2.trans uT) λt H4 s4 et=>?_;have Ux:=uT.trans s4;have Su:=Ux _ _ eD;have t5:LY H4 (upd H4 D (.lst (us++[t]))):=dk Su;refine⟨us,Su,d8 (show us.length<=1000 by omega) (by decide),xs.length-(i+1),by omega,rfl,Le,aW (s2.trans Ux) hD _,us++[t],by simp[lu],ae,?_⟩;rw[A2,h3];exact((al.ts Ux.ts).ts t5).snoc (et.ts t5)
 .have ei:i=xs.length:=by omega
  subst ei;rw[<- l2,z9]at al;exact .inl ⟨⟨xs,ys,K7.of ea,K7.of eb,.inl (c5 _)⟩,hd D us H2 s2 hD eD al⟩
theorem ok_bnds(T:aC K mg "bounds_of" kO)(gk:mg "zip"=none)(xj:Def P w K mg base 1 "side_bound" ["one","other"] (QU K)):Def P w K mg base 2 "bounds_of" ["hull","rule"] (zR K):=by
 refine aP T nO ?_ ?_
 .walk_at "i1"
 walk_at "i2";obtain⟨l,x,us,h,r,rfl,el,da,dx,rb,h0,h1,q⟩:=h;have nd:=nO.nd
 refine⟨_,(ah (yg (i:=2) (xs:=["one","other"]) (Ri rfl gk (pv 0) (aM GD (iI vQ (pv 0) (jQ aq) jR) (iI vQ (pv 0) jR (jQ aq)))) cE (λ_ _ _ _=>lI (K:=K) (n:=2) rfl rfl (aX (aO (i:=0) (hN:=(show(["one","other"]:List Str).Nodup by decide+kernel)) (hf:=(.inr rfl))) (aX (aO (i:=1) (hN:=(show(["one","other"]:List Str).Nodup by decide+kernel)) (hf:=(.inr rfl))) di))) (λ_ _ _ _=>(aK xj (aa (pv 0) (aa (pv 1) af)))))
  (ah (bD (cO b9 i8 i9 bf (pv 2) (P5 (bj (aa (lZ gp (aD aA (pv 1) aq)) (aa (lZ gp (aD aA (pv 1) aq)) (aa (aM cD aq (aD aA (pv 1) aq)) (fi af))))) af)))
  (ao (av (pv 2))))),?_⟩
 have hl:=eT da
 obtain⟨u0,ur,rfl⟩:∃u0 ur,us=u0::ur:=by
  cases us with
  | nil=>simp at hl;omega
  | cons a b=>exact⟨a,b,rfl⟩
 have s0:ur.length+1=h.length:=by rw[<- hl,j9]
 dsimp only[vB,pR];refine AQ ?_;refine⟨_,rfl,_,rfl,_,rfl,l,_,rfl,K7.of el,λp1 LO=>⟨_,rfl,_,rfl,l,_,rfl,K7.of ((ak LO _) _ _ el),λp2 Lk=>?_⟩⟩;have u1:=ak LO (.lst (jV (u0::ur) (some 1) none));have u2:=ak Lk (.lst (jV (u0::ur) none (some 1)));refine⟨p1,p2,_,_,rfl,rfl,u2 _ _ ae,ae,?_,λp3 RU=>?_⟩
 .rw[Qq,Qr];exact l7 (show _<=100 by simp;omega) (by decide)
 have u3:=ak RU (.lst (jV (u0::ur) (some 1) none++jV (u0::ur) none (some 1)));have s3:=(u1.trans u2).trans u3;refine⟨l,p3,rfl,rfl,⟨_,K7.of (s3 _ _ el)⟩,⟨_,K7.of ae⟩,?_⟩;refine Ep (K:=K) (xs:=u0::ur) (ys:=ur++[u0]) (((List.range h.length).map (λi=>sb (Hu.cor h i) (Hu.cor h (i+1)))).map M7) (s3 _ _ el) (by rw[ae,Qq,Qr]) (by simp) (by simp;omega) (by simp;omega) (λi x y z H' N hx hy hz s4 hN=>?_) (λD ws H' s4 hD eD dD=>?_)
 .have Q4:=s3.trans s4;have hi:i<h.length:=by have:=(d6.mp hx).1;rw[j9]at this;omega
  have hz:z=M7 (sb (Hu.cor h i) (Hu.cor h (i+1))):=by
   rw[w6,w6,List.getElem?_range hi]at hz;exact(j8 hz).symm
  obtain⟨p,hp,dp⟩:=ky (da.ts Q4.ts) hx;rw[Hu.jW hi]at hp
  have OR:(u0::ur)[(i+1)%h.length]?=some y:=by
   rcases A7 (i+1) h.length with c | c
   .rw[KP c,List.getElem?_cons_succ,<- hy,B0 (by omega)]
   .have e:i+1=h.length:=by omega
    rw[e,Nat.mod_self,<- hy,F4 (by omega),show i-ur.length=0 by omega];rfl
  obtain⟨p',Qe,dp'⟩:=ky (da.ts Q4.ts) OR;rw[Hu.jW (KU _ h0),Hu.oh]at Qe;cases hp
  cases Qe
  subst hz;exact⟨_,rfl,_,rfl,x,y,_,_,rfl,dp,dp',rb _ (Hu.cF h0 _),rb _ (Hu.cF h0 _),λt La s5 d5=>hN _ _ s5 d5⟩
 .have Q4:=s3.trans s4;obtain⟨ax,rfl,sx⟩:=cS dx;have sx:=sx.ts Q4.ts;have lw:=dD.len;refine⟨_,rfl,.inl ⟨rfl,_,K7.of eD⟩,?_⟩;refine⟨_,rfl,_,_,_,_,rfl,rfl,sx,rfl,_,rfl,?_⟩;refine⟨_,rfl,_,_,_,_,rfl,rfl,sx,rfl,_,rfl,?_⟩;refine⟨_,rfl,_,_,_,_,rfl,rfl,sx,rfl,_,_,rfl,rfl,?_⟩;refine⟨(by show 4<=sizeLine;decide),λt ht=>?_⟩;have ut:=ak ht (.tup [.int (-r.u),.int (-r.v),.int (1-r.w),.int 1]);have eD1:=ut _ _ eD;refine⟨D,ws,.ref t,rfl,rfl,eD1,d8 (show ws.length<=100 by simp at lw;omega) (by decide),_,rfl,?_⟩;have t5:LY (upd H' t (.tup [.int (-r.u),.int (-r.v),.int (1-r.w),.int 1])) (upd (upd H' t (.tup [.int (-r.u),.int (-r.v),.int (1-r.w),.int 1])) D (.lst (ws++[.ref t]))):=dk eD1;refine q D _ _ (aW (Q4.trans ut) (s3.free hD) _) (s3.free hD) ae ?_;unfold za;rw[l8];exact((dD.ts ut.ts).ts t5).snoc ((Qw (q:=XU r) (K6.of ae)).ts t5)
theorem Q7{t b:Int}(t0:0<=t)(b0:0<b):0<=M4 t b/\M4 t b<=t:=by
 refine⟨?_,(rY b0).mpr ?_⟩
 .rcases A0 (M4 t b) 0 with c | c
  .have:=(rY (t:=t) (y:=-1) b0).mp (by omega);omega
  .exact c
 .have:=G2 (show 1<=b by omega) t0;omega
theorem VI{t b:Int}(t0:0<=t)(b0:0<b):0<=t.fdiv b/\t.fdiv b<=t:=by
 rw[F3 _ (y9 b0)];exact⟨Int.ediv_nonneg t0 (y9 b0),Int.ediv_le_self _ t0⟩
theorem qN:∀{h:List T3}{us:List V},DatAll K H (h.map K9) us->cH (λv p=>Dat K H (K9 p) v) us h
 | [],_,g=>by cases(show _=([]:List V) from g);exact .nil
 | p::h,us,g=>by
  obtain⟨v,r,rfl,d,g2⟩:=g;exact .cons d (qN g2)
def ZL(c:T3):Prop:=0<c.u/\c.u<2^24/\0<=c.v/\c.v<=c.u
inductive QT(K:W.Frag)(vs:List V)(H:Hp)(Q:VK)(E:XK):Prop
 | mk (l lb:Addr) (us ws:List V) (h:List T3) (bs:List B4) (n:Int):vs=[.ref l,.ref lb,.int n]->H l=some (.lst us)->DatAll K H (h.map K9) us->(∀c∈h,ZL c)->0<h.length->h.length<=100->H lb=some (.lst ws)->DatAll K H (bs.map M7) ws->(∀q∈bs,q.R)->0<=n->n<2^32->((∀x y,0<=y->y<=n->Kept bs n x y->∀(t:Addr)(H':Hp),aJ H H'->Dat K H' (K9 ⟨n,x,y⟩) (.ref t)->Q (.ref t) H'))->(((∀x y,(∃c∈h,M4 (c.v*n) c.u<=x)->(∃c∈h,x<=(c.v*n).fdiv c.u)->0<=y->y<=n->¬Kept bs n x y)->∀H',aJ H H'->Q .non H'))->QT K vs H Q E
theorem ok_sw(T:aC K mg "step_within" jc)(bR:mg "min"=none)(cA:mg "max"=none)(cw:mg "range"=none)(nj:Def P w K mg base 1 "round_up" ["top","bottom"] BD)(Bm:Def P w K mg base 2 "y_within" ["bounds","n","x"] (QS K)):Def P w K mg base 3 "step_within" ["hull","bounds","n"] (QT K):=by
 refine aP T kC ?_ ?_
 .walk_at "i1"
 walk_at "i2";obtain⟨l,lb,us,ws,h,bs,n,rfl,el,da,Rr,h0,h1,eb,db,rb,n0,n1,q1,q2⟩:=h;have nd:=kC.nd;have hl:=eT da;have al:=qN da
 have TJ:∀c∈h,0<=c.v*n/\c.v*n<2^56/\Bg c.v/\Bg c.u:=λc hc=>by
  obtain⟨k1,k2,k3,k4⟩:=Rr c hc;refine⟨y8 k3 n0,?_,dI (n:=24) (by omega) (by decide),dI (n:=24) (by omega) (by decide)⟩;have e1:=Int.mul_le_mul_of_nonneg_left (show n<=2^32 by omega) k3;have e2:=G2 (show c.v<=2^24-1 by omega) (show(0:Int)<=2^32 by decide);omega
 have Xk:Bg n:=dI (n:=32) (by omega) (by decide)
 refine⟨_,(ah (aI (i:=3) (aG (iy rfl) bR (aa (dC (cq (pv 0)) (bY (j:=2) cE) (λ_ _ _ _=>cM) (λ_ _ _ _=>(aK nj (aa (aM bo (aD (lN (K:=K) rfl) (pv 0) aq) (pv 1)) (aa (aD (lN (K:=K) rfl) (pv 0) aq) af))))) af)))
  (ah (aI (i:=4) (aG (jC rfl) cA (aa (dC (cq (pv 0)) (bY (j:=2) cE) (λ_ _ _ _=>cM) (λ_ _ _ _=>(aM iL (aM bo (aD (lN (K:=K) rfl) (pv 0) aq) (pv 1)) (aD (lN (K:=K) rfl) (pv 0) aq)))) af)))
  (ah (dB x5 rfl (uW cw (aa (pv 3) (aa (aM bW (pv 4) aq) af))) (aO (i:=5)) (ah (aI (i:=6) (aK Bm (aa (pv 1) (aa (pv 2) (aa (pv 5) af)))))
  (ao (aS (aF wz (pv 6) bN (aH _)) (ao (av (bj (aa (pv 2) (aa (pv 5) (aa (pv 6) af)))))) aL))))
  (ao (av bN))))),?_⟩
 dsimp only[vB,Fn,Nf,dZ,lQ];refine comp_map (K:=K) (xs:=us) (ts:=h) (R:=λH v c=>Dat K H (K9 c) v) (λc=>V.int (M4 (c.v*n) c.u)) (λH H' v t s z=>z.ts s.ts) (λl' H'=>l'=l/\H'=H) (λR k=>⟨_,rfl,l,rfl,⟨_,K7.of el⟩,k l H ⟨rfl,rfl⟩⟩) (λl' H' z=>by obtain⟨rfl,rfl⟩:=z;exact⟨el,aJ.refl _⟩) (by omega) al (λv c H3 N hc rv hN=>?_) (λD1 H1 s1 hD1 e1=>?_)
 .obtain⟨ca,rfl,sc⟩:=cS rv;obtain⟨k1,k2,k3,k4⟩:=TJ c hc;have nc:=(Rr c hc).1;refine⟨_,rfl,_,_,_,_,rfl,rfl,sc,cC (j:=1) rfl,_,rfl,_,_,rfl,rfl,eI k3 Xk,?_⟩;exact⟨_,rfl,_,_,_,_,rfl,rfl,sc,cC (j:=0) rfl,_,_,rfl,by omega,k4,hN _ (aJ.refl _)⟩
 refine⟨D1,h.map λc=>M4 (c.v*n) c.u,rfl,K7.of (by rw[e1,JM];rfl),by simpa using h0,λlo LC klo=>?_⟩;dsimp only[kY,vB,Fn,Nf,dZ,lQ];have Mv:=s1 _ _ el;refine comp_map (K:=K) (xs:=us) (ts:=h) (R:=λH v c=>Dat K H (K9 c) v) (λc=>V.int ((c.v*n).fdiv c.u)) (λH H' v t s z=>z.ts s.ts) (λl' H'=>l'=l/\H'=H1) (λR k=>⟨_,rfl,l,rfl,⟨_,K7.of Mv⟩,k l H1 ⟨rfl,rfl⟩⟩) (λl' H' z=>by obtain⟨rfl,rfl⟩:=z;exact⟨Mv,aJ.refl _⟩) (by omega) (al.imp λv c z=>z.ts s1.ts) (λv c H3 N hc rv hN=>?_) (λD2 H2 s2 hD2 e2=>?_)
 .obtain⟨ca,rfl,sc⟩:=cS rv;obtain⟨k1,k2,k3,k4⟩:=TJ c hc;have nc:=(Rr c hc).1;refine⟨_,rfl,_,_,_,_,rfl,rfl,sc,cC (j:=1) rfl,_,rfl,_,_,rfl,rfl,eI k3 Xk,?_⟩;exact⟨_,rfl,_,_,_,_,rfl,rfl,sc,cC (j:=0) rfl,_,_,rfl,rfl,wR (by omega) k4,hN _ (aJ.refl _)⟩
 refine⟨D2,h.map λc=>(c.v*n).fdiv c.u,rfl,K7.of (by rw[e2,JM];rfl),by simpa using h0,λhi Lx khi=>?_⟩;have LS:=s1.trans s2;obtain⟨cl,Ym,rfl⟩:=x8.mp LC;obtain⟨ch,Yn,rfl⟩:=x8.mp Lx;have bl:=Q7 (TJ cl Ym).1 (Rr cl Ym).1;have bl2:=(TJ cl Ym).2.1;have bh:=VI (TJ ch Yn).1 (Rr ch Yn).1;have bh2:=(TJ ch Yn).2.1;generalize elo:M4 (cl.v*n) cl.u=lo at *;generalize ehi:(ch.v*n).fdiv ch.u=hi at *;refine⟨_,rfl,_,rfl,_,_,rfl,rfl,?_⟩;refine⟨_,_,rfl,⟨by omega,by omega,by omega,by omega⟩,?_⟩;refine iw (λi σ H'=>H'=H2/\∃o5 o6,σ=[some (.ref l),some (.ref lb),some (.int n),some (.int lo),some (.int hi),o5,o6]/\∀x y,lo<=x->x<lo+i->0<=y->y<=n->¬Kept bs n x y) ⟨rfl,_,_,rfl,λx y a b=>by omega⟩ (λi σ H' hi z=>?_) (λσ H' z=>?_)
 .obtain⟨rfl,o5,o6,rfl,iv⟩:=z;refine⟨_,rfl,_,rfl,_,rfl,lb,ws,bs,n,lo+i,rfl,LS _ _ eb,db.ts LS.ts,rb,n0,i5 (show n.natAbs<2^32 by omega) (by decide),i5 (show(lo+i).natAbs<2^60 by omega) (by decide),λy y0 y1 k=>?_,λno=>?_⟩
  .refine⟨_,rfl,rfl,_,rfl,dH ?_⟩;refine⟨_,rfl,_,rfl,_,rfl,(by show 3<=sizeLine;decide),λt ht=>?_⟩;exact q1 _ _ y0 y1 k t _ (LS.trans (ak ht _)) (cy (p:=⟨n,lo+i,y⟩) (K6.of ae))
  .refine⟨_,rfl,rfl,_,rfl,bL ?_⟩;refine⟨rfl,_,_,rfl,λx y x0 x1 y0 y1=>?_⟩;rcases A0 x (lo+i) with c | c
   .exact iv x y x0 c y0 y1
   .rw[show x=lo+i by omega];exact no y y0 y1
 .obtain⟨rfl,o5,o6,rfl,iv⟩:=z;refine q2 (λx y a b y0 y1=>?_) _ LS;obtain⟨c1,m1,l1⟩:=a;obtain⟨c2,m2,l2⟩:=b;have:=klo _ (x8.mpr ⟨c1,m1,rfl⟩);have:=khi _ (x8.mpr ⟨c2,m2,rfl⟩);exact iv x y (by omega) (by omega) y0 y1
inductive vM(vs:List V)(H:Hp)(Q:VK)(E:XK):Prop
 | mk (l:Addr) (ms:List Int) (r m:Int):vs=[.ref l,.int r,.int m]->H l=some (.lst (ms.map V.int))->(∀m∈ms,Me m)->1<=r->r<=60->0<=m->(∀(a:Addr)(t:Tr)(Mb:List Int)(H':Hp),(t.size:Int)<=r->(t.nf:Int)<=m->(∀m∈Mb,Me m)->SB (.ref l) H H'->H' l=some (.lst (Mb.map V.int))->Tu H' a t->Q (.ref a) H')->vM vs H Q E
theorem DE(T : aC K mg "_law_holds" s_l_holds)(bR : mg "min" = none)(ip : Def P w K mg base 13 "_law_hulls" ["_law_tree", "_law_hull"] (rf K 9))(lz : Def P w K mg base 3 "_law_rules" ["_law_rows", "_law_hull"] (nH K))(dQ : Def P w K mg base 1 "_law_tells" ["_law_rule_here", "_law_corner"] (vE K)) : Def P w K mg base 14 "_law_holds" ["_law_tree", "_law_rows", "_law_top", "_law_bottom"] (rh K) := by
 refine aP T sc_l_holds (fun vs H Q E h => ?_) (fun f cdv A outer s H vs Q E hr h => ?_)
 .obtain⟨x,l,us,rows,tp,bt,t,L,rfl,_⟩:=h;rfl
 obtain ⟨x,l,us,rows,tp,bt,t,L,rfl,el,da,ok,pos,few,b1,b2,sm,dp,cu,dx,eL,hg,q⟩:=h;have nd := sc_l_holds.nd
 have d3:(3:Nat)<=sizeLine:=by decide
 have hk:=Hu.Tc.gG Hu.iT sm eL
 refine⟨_,un (aU (fe (i:=4) (gE ip (aN (hv 0) (aN (HJ (gj (bK (bE (bE (bE aY)))) (gj (bK (bE (bE (bE aY)))) (gj (bK (bE (bE (bE aY)))) (gj (bK (bE (bE (bE aY)))) aY))))) aY)))) ⟨(ah (aS (aF ji (pv 4) bN (aH _)) (ao (av iJ)) aL)
  (ah (dB x5 rfl (cq (pv 4)) (aO (i:=5)) (ah (aI (i:=6) (aD aA (aK lz (aa (pv 1) (aa (pv 5) af))) aq))
  (ah (aS (aF ji (pv 6) bN (aH _)) (ao (av iJ)) aL)
  (ah (lH (i:=7) (cq (pv 5)) (bY (j:=6) (bY (j:=3) (bY (j:=2) cE))) (λ_ _ _ _=>cM) (λ_ _ _ _=>(aM cD (aM bo (aK dQ (aa (aD (Hw (K:=K) rfl) (pv 1) (lZ gp aq)) (aa (pv 0) af))) (pv 2)) (aM bo (pv 3) (aD (lN (K:=K) rfl) (pv 0) aq)))))
  (ao (aS (aF iK (aG (iy rfl) bR (aa (pv 7) af)) aq (aH _)) (ao (av iJ)) aL))))))
  (ao (av iJ))))⟩),?_⟩
 refine⟨_,rfl,d3,λp1 h1=>⟨d3,λp2 h2=>⟨d3,λp3 h3=>⟨d3,λp4 h4=>⟨(by show 4<=sizeLine;decide),λl5 h5=>?_⟩⟩⟩⟩⟩;have u1:=ak h1 (.tup [.int 1,.int 0,.int 0]);have u2:=ak h2 (.tup [.int 1,.int 1,.int 0]);have u3:=ak h3 (.tup [.int 1,.int 1,.int 1]);have u4:=ak h4 (.tup [.int 1,.int 0,.int 1]);have u5:=ak h5 (.lst [V.ref p1,.ref p2,.ref p3,.ref p4]);have e1:=(u2.trans (u3.trans (u4.trans u5))) _ _ ae;have e2:=(u3.trans (u4.trans u5)) _ _ ae;have e3:=(u4.trans u5) _ _ ae;have e4:=u5 _ _ ae;have e5:upd (upd (upd (upd (upd H p1 (.tup [.int 1,.int 0,.int 0])) p2 (.tup [.int 1,.int 1,.int 0])) p3 (.tup [.int 1,.int 1,.int 1])) p4 (.tup [.int 1,.int 0,.int 1])) l5 (.lst [V.ref p1,.ref p2,.ref p3,.ref p4]) l5=some (.lst [V.ref p1,.ref p2,.ref p3,.ref p4]):=ae;have s5:=u1.trans (u2.trans (u3.trans (u4.trans u5)));generalize upd (upd (upd (upd (upd H p1 (.tup [.int 1,.int 0,.int 0])) p2 (.tup [.int 1,.int 1,.int 0])) p3 (.tup [.int 1,.int 1,.int 1])) p4 (.tup [.int 1,.int 0,.int 1])) l5 (.lst [V.ref p1,.ref p2,.ref p3,.ref p4])=H5 at *;have Zt:DatAll K H5 (Hu.sqH.map K9) [V.ref p1,.ref p2,.ref p3,.ref p4]:=⟨_,_,rfl,cy (p:=⟨1,0,0⟩) (K6.of e1),_,_,rfl,cy (p:=⟨1,1,0⟩) (K6.of e2),_,_,rfl,cy (p:=⟨1,1,1⟩) (K6.of e3),_,_,rfl,cy (p:=⟨1,0,1⟩) (K6.of e4),rfl⟩;refine⟨x,l5,_,t,Hu.sqH,L,rfl,e5,Zt,Hu.iT,sm,by show 4+t.deep<=20;omega,by omega,cu,dx.ts s5.ts,eL,λll ws H6 s6 NA al6=>?_⟩;have s06:=s5.trans s6;refine⟨_,rfl,rfl,_,rfl,bL ?_⟩;refine⟨_,rfl,ll,rfl,⟨ws,K7.of NA⟩,?_⟩;refine eM (xs:=ws) (λi σ H'=>aJ H6 H'/\∃o5 o6 o7,σ=[some x,some (.ref l),some (.int tp),some (.int bt),some (.ref ll),o5,o6,o7]) ⟨aJ.refl _,_,_,_,rfl⟩ (λi σ H' _ z=>K7.of (z.1 _ _ NA)) (λi v σ H' hv z=>?_) (λσ H' z=>?_)
 .obtain⟨s7,o5,o6,o7,rfl⟩:=z;obtain⟨g,WZ,ga,M6,rfl,eg,dg⟩:=(al6.imp (NK.to s7)).get i v hv;have gm:=p8 WZ;obtain⟨XS,ru,kr⟩:=hg g gm;obtain⟨YV,hlg⟩:=hk g gm;have s07:=s06.trans s7;have Vm:∀p∈g,Hu.R3 3000 p:=λp hp=>(YV.ok p hp).r.mono (by decide);have n3:=YV.n3;have sqn:Hu.sqH.length=4:=rfl;refine⟨_,rfl,_,rfl,l,ga,us,M6,rows,g,rfl,s07 _ _ el,da.ts s07.ts,ok,few,eg,dg,Vm,by omega,by omega,λrs t2 lr wr H8 s8 er rb ln et Zm VW=>?_,λk tt t2 v2 H8 s8 er _ _ _ _=>?_⟩
  .rw[ru]at er;cases er
   have lw:=eT VW;have QC:0<wr.length:=by omega
   obtain⟨r,MC⟩:∃r,XS[wr.length-1]?=some r:=⟨XS[wr.length-1]'(by omega),c6 (by omega)⟩;obtain⟨rv0,YG,Zv⟩:=lV VW MC;have Nr:XS.getLast?=some r:=by rw[JA,<- lw];exact MC
   have Uz:Hu.R3 101 r:=(rb _ r MC).mono (by omega);have rb3:Hu.R3 3000 r:=Uz.mono (by decide);have kr:=kr r Nr;refine⟨_,_,_,_,rfl,rfl,K6.of et,rfl,?_⟩;refine⟨_,rfl,rfl,_,rfl,bL ?_⟩;have eg8:=s8 _ _ eg;dsimp only[Bv,vB,pR]
   refine comp_map (K:=K) (ts:=g) (R:=λH v p=>Dat K H (K9 p) v/\H lr=some (.lst wr)/\Dat K H (K9 r) rv0) (xs:=M6) (λp=>.int (Hu.tl r p*bt-tp*p.u)) (λ_ _ _ _ e h=>⟨h.1.ts e.ts,e _ _ h.2.1,h.2.2.ts e.ts⟩) (λl' H'=>l'=ga/\H'=H8) (λR h=>⟨_,rfl,ga,rfl,⟨_,K7.of eg8⟩,h ga _ ⟨rfl,rfl⟩⟩) (λl' H' h=>by obtain⟨rfl,rfl⟩:=h;exact⟨eg8,aJ.refl _⟩) (by rw[eT dg];omega)
    ((qN (dg.ts s8.ts)).imp λv p h=>⟨h,Zm,Zv⟩) (λv p H' N hp hv hN=>?_) (λD H9 s9 hD eD=>?_)
   .obtain⟨dv,slr,Zu⟩:=hv;obtain⟨pa,rfl,sp⟩:=cS dv;have pb:=(YV.ok p hp).r;have Ta:Bg (Hu.tl r p):=i5 (Hu.tl_b Uz pb) (F1 (by decide) (by decide));have pub:Bg p.u:=dI pb.a (by decide);exact⟨_,rfl,_,rfl,_,_,_,_,rfl,rfl,K7.of slr,(by rw[vy QC];exact YG),_,rfl,_,_,r,p,rfl,Zu,dv,rb3,Vm p hp,_,rfl,_,_,rfl,rfl,eI Ta b2,_,rfl,_,rfl,_,_,_,_,rfl,rfl,sp,rfl,_,_,rfl,rfl,eI b1 pub,_,_,rfl,rfl,hN _ (aJ.refl _)⟩
   .have LA:0<(g.map λp=>Hu.tl r p*bt-tp*p.u).length:=by rw[i7];omega
    refine⟨_,rfl,D,g.map λp=>Hu.tl r p*bt-tp*p.u,rfl,K7.of (by rw[JM];exact eD),LA,λM hM Mc=>?_⟩;refine⟨_,_,rfl,rfl,_,rfl,cJ (λc=>?_) (λc=>?_)⟩
    .have c':M<0:=c8 c;obtain⟨p,hp,ep⟩:=x8.mp hM;have:=kr p hp;omega
    .exact⟨(s7.trans s8).trans s9,_,_,_,rfl⟩
  .rw[ru]at er;cases er
 .obtain⟨s7,o5,o6,o7,rfl⟩:=z;exact q _ (s06.trans s7)
theorem ok_ispt(T:aC K mg "_law_is_point" jL)(aR:mg "isinstance"=none)(bB:mg "tuple"=none)(bG:mg "len"=none)(iO:mg "all"=none)(bR:mg "min"=none)(cA:mg "max"=none)(gY:Def P w K mg base 1 "_law_whole" ["_law_found"] nG):Def P w K mg base 2 "_law_is_point" ["_law_found"] (Fy K):=by
 refine aP T lY ?_ ?_
 .walk_at "i1"
 walk_at "i2";obtain⟨v,p,rfl,dv,u0,v0,v1,w0,w1,q⟩:=h;obtain⟨a,rfl,sq⟩:=cS dv;have nd:=lY.nd
 refine⟨_,(ah (aS (PW.pt (gW (fM (eB (aG iA aR (aa (pv 0) (aa (gP (v:=V.ty "tuple") rfl bB (by decide+kernel) rfl) af))))) (gW (aF ma (aG bJ bG (aa (pv 0) af)) aq (aH _)) (hZ (fM (eB (aG (lx rfl) iO (aa (dC (pf (pv 0)) cE (λ_ _ _ _=>cM) (λ_ _ _ _=>(aK gY (aa (pv 0) af)))) af)))))))) (ao (av iJ)) aL)
  (ao (av (jh (dO kh (aD aA (pv 0) aq) aq (aH _)) (jh (dO jz aq (aG (Eu (K:=K) rfl rfl) bR (aa (iI qD (pv 0) (jQ aq) jR) af)) (aH _)) (mQ (dO jz (aG (Ew (K:=K) rfl rfl) cA (aa (iI qD (pv 0) (jQ aq) jR) af)) (aD aA (pv 0) aq) (aH _)))))))),?_⟩
 refine⟨_,rfl,a,_,_,_,true,rfl,(λ_ h=>h),sq,fQ,_,rfl,bL ?_⟩;refine⟨_,rfl,_,_,rfl,.inr ⟨_,sq,rfl⟩,rfl,_,rfl,bL ?_⟩;refine⟨_,rfl,a,rfl,⟨_,sq⟩,λD hD=>?_⟩;refine Bu (K:=K) sq hD (λn H' k z=>⟨_,rfl,n,rfl,z⟩) (λH1 s1 LJ=>?_);refine⟨D,List.replicate 3 true,rfl,K7.of LJ,_,rfl,bL ?_⟩;have XG:=sq.ts s1.ts;refine⟨_,rfl,_,_,_,_,rfl,rfl,XG,rfl,_,_,rfl,rfl,_,rfl,?_⟩;rw[show decide (p.u>0)=true from e9 u0];refine dH ?_;refine⟨_,rfl,_,rfl,?_⟩;dsimp only[nA];refine Up (K:=K) XG λp2 Lk=>?_;have u2:=ak Lk (.tup [.int p.v,.int p.w]);refine⟨p2,[p.v,p.w],rfl,K6.of ae,by simp,λM hM Mc=>?_⟩
 have M0:0<=M:=by
  simp only[j4,A3,G4]at hM;rcases hM with rfl | rfl<;>assumption
 refine⟨_,_,rfl,rfl,_,rfl,?_⟩;rw[show decide ((0:Int)<=M)=true from e9 M0];refine dH ?_;have Tb:=XG.ts u2.ts;refine⟨_,rfl,_,rfl,?_⟩;dsimp only[nA];refine Up (K:=K) Tb λp3 RU=>?_;have u3:=ak RU (.tup [.int p.v,.int p.w]);refine⟨p3,[p.v,p.w],rfl,K6.of ae,by simp,λM2 NS Mm=>?_⟩
 have M1:M2<=p.u:=by
  simp only[j4,A3,G4]at NS;rcases NS with rfl | rfl<;>assumption
 refine⟨_,rfl,_,_,_,_,rfl,rfl,Tb.ts u3.ts,rfl,_,_,rfl,rfl,?_⟩;show Q (.bl (decide (M2<=p.u))) _;rw[show decide (M2<=p.u)=true from e9 M1];exact q _ ((s1.trans u2).trans u3)
theorem ok_lfew(T:aC K mg "_law_few" vT)(bG:mg "len"=none)(gF:Def P w K mg base 1 "_law_next" ["_law_cells"] vG)(gf:Def P w K mg base 62 "_law_saying" ["_law_cells","_law_room","_law_two"] (xD 60))(jZ:Def P w K mg base 61 "_law_folds" ["_law_tree"] (zO 60)):Def P w K mg base 63 "_law_few" ["_law_cells","_law_room","_law_most"] vM:=by
 refine aP T xR ?_ ?_
 .walk_at "i1"
 walk_at "i2";obtain⟨l,ms,r,m,rfl,el,V3,r1,r60,m0,q⟩:=h;have nd:=xR.nd
 refine⟨_,(ah (aI (i:=3) (aK gf (aa (pv 0) (aa (aM bW aq (aM iX (aK gF (aa (pv 0) af)) (pv 1))) (aa iJ af)))))
  (ah (jy x5 (aF kh (aK jZ (aa (pv 3) af)) (pv 2) (aH _)) (ao (aI (i:=3) (aD aA (pv 3) (aM bW aq (aM iX (aK gF (aa (pv 0) af)) (aM cD (aG bJ bG (aa (pv 3) af)) aq)))))))
  (ao (av (pv 3))))),?_⟩
 refine⟨_,rfl,_,rfl,l,ms,rfl,el,V3,λi L7 H1 ci c1 M3 Mv=>?_⟩;refine⟨_,rfl,_,_,rfl,rfl,(by omega),_,_,rfl,rfl,?_⟩;have f0:=G9 i (show 0<r by omega);have f1:=Jl i (show 0<r by omega);refine⟨l,L7,1+i.fmod r,true,rfl,Mv,c1,by omega,by omega,λa t Rx H2 sz c2 Nh Ss tu=>?_⟩;refine⟨λk σ H'=>∃(a:Addr)(t:Tr)(ms:List Int),σ=[some (.ref l),some (.int r),some (.int m),some (.ref a)]/\k=t.size/\(t.size:Int)<=r/\(∀m∈ms,Me m)/\SB (.ref l) H H'/\H' l=some (.lst (ms.map V.int))/\Tu H' a t,⟨_,a,t,Rx,rfl,rfl,by omega,c2,M3.trans Nh,Ss,tu⟩,?_⟩;rintro k σ H' ⟨a,t,ms,rfl,rfl,sz,cm,sb,Xb,tu⟩
 refine⟨_,rfl,a,t,rfl,tu,by omega,λH3 s3=>?_⟩;refine⟨_,rfl,_,_,rfl,rfl,_,rfl,cJ (λcc=>?_) (λcc=>?_)⟩
 .have cc:m<(t.nf:Int):=c8 cc;obtain⟨us,e,ou⟩:=(tu.to (Kp.of s3)).parts;have ul:=ou.len
  have kp:0<t.kids.length:=by
   cases t with
   | no t=>exact Nat.zero_lt_one
   | fold u a b=>exact Nat.zero_lt_two
   | never=>have z:(Tr.never.nf:Int)=0:=rfl;omega
   | always=>have z:(Tr.always.nf:Int)=0:=rfl;omega
   | lp=>have z:(Tr.lp.nf:Int)=0:=rfl;omega
   | lq=>have z:(Tr.lq.nf:Int)=0:=rfl;omega
  refine⟨λσ' La=>∃(a':Addr)(t':Tr)(ms:List Int),t'∈t.kids/\σ'=[some (.ref l),some (.int r),some (.int m),some (.ref a')]/\(∀m∈ms,Me m)/\SB (.ref l) H La/\La l=some (.lst (ms.map V.int))/\Tu La a' t',?_,?_⟩
  .rintro σ' La ⟨a',t',Mb,tk,rfl,cm',sb',VN,tu'⟩
   have ks:=nX tk;exact⟨t'.size,by omega,a',t',Mb,rfl,rfl,by omega,cm',sb',VN,tu'⟩
  .have XJ:SB (.ref l) H H3:=λd o z n=>s3 _ _ (sb _ _ z n);refine⟨_,rfl,_,rfl,l,ms,rfl,s3 _ _ Xb,cm,λj ms4 H4 cj c4 XM el4=>?_⟩;have e4:=XM _ _ e λz=>by cases z;rw[s3 _ _ Xb]at e;cases e
   have UY:Kp H3 H4:=XM.kp λa' o' z1 z2=>by cases z1;rw[s3 _ _ Xb]at z2;cases z2;rfl
   have lk:(((V.str t.word::us).length:Nat):Int)-1=(t.kids.length:Int):=by rw[j9,ul];omega
   have g0:=G9 j (show 0<(t.kids.length:Int) by omega);have g1:=Jl j (show 0<(t.kids.length:Int) by omega);have hj:∃v,us[(j.fmod (t.kids.length:Int)).toNat]?=some v:=⟨us[(j.fmod (t.kids.length:Int)).toNat]'(by omega),c6 (by omega)⟩;obtain⟨v,hv⟩:=hj;obtain⟨t',YC,b,rfl,tb⟩:=ou.get _ v hv;refine⟨_,rfl,_,_,rfl,.inr ⟨_,K6.of e4,rfl⟩,_,_,rfl,rfl,_,_,rfl,rfl,(by rw[lk];omega),_,_,rfl,rfl,_,_,_,_,rfl,rfl,K6.of e4,?_,b,t',ms4,p8 YC,rfl,c4,XJ.trans XM,el4,tb.to UY⟩;show Mi (V.str t.word::us) (1+j.fmod ((((V.str t.word::us).length:Nat):Int)-1))=_;rw[lk,show(1:Int)+j.fmod (t.kids.length:Int)=(((j.fmod (t.kids.length:Int)).toNat+1:Nat):Int) by omega];exact cC (by simpa using hv)
 .have cc:¬m<(t.nf:Int):=λz=>cc (e9 z);exact⟨_,rfl,q a t ms H3 sz (by omega) cm (λd o z n=>s3 _ _ (sb _ _ z n)) (s3 _ _ Xb) (tu.to (Kp.of s3))⟩
inductive zN(c:CCs)(n:Nat)(vs:List V)(H:Hp)(Q:VK)(E:XK):Prop
 | mk (a t):vs=[.ref a]->Tu H a t->t.size<=n->(∀x H',aJ H H'->Ob c H' x t->Q (.ref x) H')->zN c n vs H Q E
theorem rG:aB ["_law_tree","_law_one","_law_other"] ["_law_tree"] (au BQ):=L2.fsc rfl (by decide+kernel)
theorem GR(T:aC K mg "_law_object" BQ)(Po:Mk0 K c.ne)(Pp:mg "Never"=some (.ref c.ne))(IL:Mk0 K c.al)(IM:mg "Always"=some (.ref c.al))(IP:tO P w K mg base "Letter" c.le 1 ["self","name"] (lB c.le og))(Wj:tO P w K mg base "Not" c.no 1 ["self","part"] (lB c.no sX))(tP:∀u:W5,tO P w K mg base u.cls (c.fold u) 1 ["self","one","other"] (vL (c.fold u))):∀n:Nat,Def P w K mg base (n+3) "_law_object" ["_law_tree"] (zN c n):=by
 intro n
 induction n with
 | zero =>
  refine aP T rG ?_ ?_
  .walk_at "i1"
  .walk_at "i2";obtain⟨a,t,rfl,_,z,_⟩:=h;have:=t.size_pos;omega
 | succ n gh =>
  refine aP T rG ?_ ?_
  .walk_at "i1"
  walk_at "i2";obtain⟨a,t,rfl,tu,hz,q⟩:=h;have nd:=rG.nd;refine⟨_,(ah (aS (aF bS (aD aA (pv 0) aq) aQ (aH _)) (ao (av (yi Po rfl Pp))) aL)
  (ah (aS (aF bS (aD aA (pv 0) aq) aQ (aH _)) (ao (av (yi IL rfl IM))) aL)
  (ah (aS (aF lK (aD aA (pv 0) aq) (bj (aa aQ (aa aQ af))) rfl) (ao (av (sv IP (aa (aD aA (pv 0) aq) af)))) aL)
  (ah (aS (aF bS (aD aA (pv 0) aq) aQ (aH _)) (ao (av (sv Wj (aa (aK gh (aa (aD aA (pv 0) aq) af)) af)))) aL)
  (ah (aI (i:=1) (aK gh (aa (aD aA (pv 0) aq) af)))
  (ah (aI (i:=2) (aK gh (aa (aD aA (pv 0) aq) af)))
  (ah (aS (aF bS (aD aA (pv 0) aq) aQ (aH _)) (ao (av (sv (tP .more) (aa (pv 1) (aa (pv 2) af))))) aL)
  (ah (aS (aF bS (aD aA (pv 0) aq) aQ (aH _)) (ao (av (sv (tP .less) (aa (pv 1) (aa (pv 2) af))))) aL)
  (ah (aS (aF bS (aD aA (pv 0) aq) aQ (aH _)) (ao (av (sv (tP .greater) (aa (pv 1) (aa (pv 2) af))))) aL)
  (ah (aS (aF bS (aD aA (pv 0) aq) aQ (aH _)) (ao (av (sv (tP .lesser) (aa (pv 1) (aa (pv 2) af))))) aL)
  (ao (av (sv (tP .leads) (aa (pv 1) (aa (pv 2) af))))))))))))))),?_⟩
  cases tu with
  | never e =>
   refine⟨_,rfl,_,_,_,_,rfl,rfl,K6.of e,rfl,rfl,_,rfl,ite_yes rfl (λz dz h1 h2 ne=>?_)⟩;exact q z _ (rT (C:=c.ne) h1 h2) (.never ae)
  | always e =>
   refine⟨_,rfl,_,_,_,_,rfl,rfl,K6.of e,rfl,rfl,_,rfl,ite_no (by decide+kernel) ?_⟩;refine⟨_,rfl,_,_,_,_,rfl,rfl,K6.of e,rfl,rfl,_,rfl,ite_yes rfl (λz dz h1 h2 ne=>?_)⟩;exact q z _ (rT (C:=c.al) h1 h2) (.always ae)
  | lp e =>
   refine⟨_,rfl,_,_,_,_,rfl,rfl,K6.of e,rfl,rfl,_,rfl,ite_no (by decide+kernel) ?_⟩;refine⟨_,rfl,_,_,_,_,rfl,rfl,K6.of e,rfl,rfl,_,rfl,ite_no (by decide+kernel) ?_⟩;refine⟨_,rfl,_,_,_,_,rfl,rfl,K6.of e,rfl,(by show 2<=sizeLine;decide),λp hp=>⟨p,_,rfl,.inr (K6.of ae),rfl,rfl,_,rfl,kW UH ?_⟩⟩;have s0:=ak hp (.tup [V.str "p",.str "q"]);refine⟨_,rfl,_,_,_,_,rfl,rfl,K6.of (s0 _ _ e),rfl,λz dz h1 h2 ne=>⟨z,dz,_,rfl,ae,rfl,?_⟩⟩;exact q z _ (s0.trans (lD (C:=c.le) (fs:=og (.str "p")) h1 h2 ne)) (.lp ae)
  | lq e =>
   refine⟨_,rfl,_,_,_,_,rfl,rfl,K6.of e,rfl,rfl,_,rfl,ite_no (by decide+kernel) ?_⟩;refine⟨_,rfl,_,_,_,_,rfl,rfl,K6.of e,rfl,rfl,_,rfl,ite_no (by decide+kernel) ?_⟩;refine⟨_,rfl,_,_,_,_,rfl,rfl,K6.of e,rfl,(by show 2<=sizeLine;decide),λp hp=>⟨p,_,rfl,.inr (K6.of ae),rfl,rfl,_,rfl,kW UG ?_⟩⟩;have s0:=ak hp (.tup [V.str "p",.str "q"]);refine⟨_,rfl,_,_,_,_,rfl,rfl,K6.of (s0 _ _ e),rfl,λz dz h1 h2 ne=>⟨z,dz,_,rfl,ae,rfl,?_⟩⟩;exact q z _ (s0.trans (lD (C:=c.le) (fs:=og (.str "q")) h1 h2 ne)) (.lq ae)
  | @no _ b x e tb =>
   have RN:x.size+1<=n+1:=hz;refine⟨_,rfl,_,_,_,_,rfl,rfl,K6.of e,rfl,rfl,_,rfl,ite_no (by decide+kernel) ?_⟩;refine⟨_,rfl,_,_,_,_,rfl,rfl,K6.of e,rfl,rfl,_,rfl,ite_no (by decide+kernel) ?_⟩;refine⟨_,rfl,_,_,_,_,rfl,rfl,K6.of e,rfl,(by show 2<=sizeLine;decide),λp hp=>⟨p,_,rfl,.inr (K6.of ae),rfl,rfl,_,rfl,kX Gn ?_⟩⟩;have s0:=ak hp (.tup [V.str "p",.str "q"]);refine⟨_,rfl,_,_,_,_,rfl,rfl,K6.of (s0 _ _ e),rfl,rfl,_,rfl,ite_yes rfl ?_⟩;refine⟨_,rfl,_,_,_,_,rfl,rfl,K6.of (s0 _ _ e),rfl,b,x,rfl,tb.to (Kp.of s0),by omega,λy H2 s2 oy=>?_⟩;have Q5:=s0.trans s2;refine λz dz h1 h2 ne=>⟨z,dz,_,rfl,ae,rfl,?_⟩;have sm:=lD (C:=c.no) (fs:=sX (.ref y)) h1 h2 ne;exact q z _ (Q5.trans sm) (.no ae (oy.to (Kp.of sm)))
  | @fold _ b d u x y e tb td =>
   have RN:x.size+y.size+1<=n+1:=hz;refine⟨_,rfl,_,_,_,_,rfl,rfl,K6.of e,rfl,rfl,_,rfl,ite_no (Xt u) ?_⟩;refine⟨_,rfl,_,_,_,_,rfl,rfl,K6.of e,rfl,rfl,_,rfl,ite_no (Xu u) ?_⟩;refine⟨_,rfl,_,_,_,_,rfl,rfl,K6.of e,rfl,(by show 2<=sizeLine;decide),λp hp=>⟨p,_,rfl,.inr (K6.of ae),rfl,rfl,_,rfl,kX (UE u) ?_⟩⟩;have s0:=ak hp (.tup [V.str "p",.str "q"]);refine⟨_,rfl,_,_,_,_,rfl,rfl,K6.of (s0 _ _ e),rfl,rfl,_,rfl,ite_no (w_not u) ?_⟩;refine⟨_,rfl,_,_,_,_,rfl,rfl,K6.of (s0 _ _ e),rfl,b,x,rfl,tb.to (Kp.of s0),by omega,λv1 H2 s2 o1=>?_⟩;have Q5:=s0.trans s2;refine⟨_,rfl,_,_,_,_,rfl,rfl,K6.of (Q5 _ _ e),rfl,d,y,rfl,td.to (Kp.of Q5),by omega,λv2 H3 s3 o2=>?_⟩;have WK:=Q5.trans s3;have o1':=o1.to (Kp.of s3);have e3:=WK _ _ e;have fin:∀z dz,H3 z=none->H3 dz=none->dz≠z->Q (.ref z) (upd (upd (upd H3 dz (.own z)) z (.ins (c.fold u) dz [])) z (.ins (c.fold u) dz (uf (.ref v1) (.ref v2)))):=λz dz h1 h2 ne=>Eb (Q:=Q) h1 h2 ne o1' o2 λe' H' s' o'=>q e' H' (WK.trans s') o';cases u
   .refine⟨_,rfl,_,_,_,_,rfl,rfl,K6.of e3,rfl,rfl,_,rfl,ite_yes rfl ?_⟩;exact⟨_,rfl,_,rfl,λz dz h1 h2 ne=>⟨z,dz,_,_,rfl,ae,rfl,fin z dz h1 h2 ne⟩⟩
   .refine⟨_,rfl,_,_,_,_,rfl,rfl,K6.of e3,rfl,rfl,_,rfl,ite_no (by decide+kernel) ?_⟩;refine⟨_,rfl,_,_,_,_,rfl,rfl,K6.of e3,rfl,rfl,_,rfl,ite_yes rfl ?_⟩;exact⟨_,rfl,_,rfl,λz dz h1 h2 ne=>⟨z,dz,_,_,rfl,ae,rfl,fin z dz h1 h2 ne⟩⟩
   .refine⟨_,rfl,_,_,_,_,rfl,rfl,K6.of e3,rfl,rfl,_,rfl,ite_no (by decide+kernel) ?_⟩;refine⟨_,rfl,_,_,_,_,rfl,rfl,K6.of e3,rfl,rfl,_,rfl,ite_no (by decide+kernel) ?_⟩;refine⟨_,rfl,_,_,_,_,rfl,rfl,K6.of e3,rfl,rfl,_,rfl,ite_yes rfl ?_⟩;exact⟨_,rfl,_,rfl,λz dz h1 h2 ne=>⟨z,dz,_,_,rfl,ae,rfl,fin z dz h1 h2 ne⟩⟩
   .refine⟨_,rfl,_,_,_,_,rfl,rfl,K6.of e3,rfl,rfl,_,rfl,ite_no (by decide+kernel) ?_⟩;refine⟨_,rfl,_,_,_,_,rfl,rfl,K6.of e3,rfl,rfl,_,rfl,ite_no (by decide+kernel) ?_⟩;refine⟨_,rfl,_,_,_,_,rfl,rfl,K6.of e3,rfl,rfl,_,rfl,ite_no (by decide+kernel) ?_⟩;refine⟨_,rfl,_,_,_,_,rfl,rfl,K6.of e3,rfl,rfl,_,rfl,ite_yes rfl ?_⟩;exact⟨_,rfl,_,rfl,λz dz h1 h2 ne=>⟨z,dz,_,_,rfl,ae,rfl,fin z dz h1 h2 ne⟩⟩
   .refine⟨_,rfl,_,_,_,_,rfl,rfl,K6.of e3,rfl,rfl,_,rfl,ite_no (by decide+kernel) ?_⟩;refine⟨_,rfl,_,_,_,_,rfl,rfl,K6.of e3,rfl,rfl,_,rfl,ite_no (by decide+kernel) ?_⟩;refine⟨_,rfl,_,_,_,_,rfl,rfl,K6.of e3,rfl,rfl,_,rfl,ite_no (by decide+kernel) ?_⟩;refine⟨_,rfl,_,_,_,_,rfl,rfl,K6.of e3,rfl,rfl,_,rfl,ite_no (by decide+kernel) ?_⟩;exact⟨_,rfl,_,rfl,λz dz h1 h2 ne=>⟨z,dz,_,_,rfl,ae,rfl,fin z dz h1 h2 ne⟩⟩
def ZN(a:Tr)(h:List T3)(t b:Int):Prop:=0<b/\Bg t/\Bg b/\(∃c,Hu.eS h c/\0<c.u/\t*c.u=a.worth c.u c.v c.w*b)/\∀p,Hu.Ins h p->0<p.u->t*p.u<=a.worth p.u p.v p.w*b
def Pu(a:Tr)(H:Hp)(v:V)(h:List T3):Prop:=∃(p:Addr)(t b:Int),v=.ref p/\H p=some (.tup [.int t,.int b])/\ZN a h t b
theorem Pu.to(v:V)(h:List T3)(s:aJ H H')(z:Pu a H v h):Pu a H' v h:=by
 obtain⟨p,t,b,rfl,e,k⟩:=z;exact⟨p,t,b,rfl,s _ _ e,k⟩
theorem Pu.mut(e:H D=some (.lst ws))(z:Pu a H v h):Pu a (upd H D (.lst zs)) v h:=by
 obtain⟨p,t,b,rfl,e',k⟩:=z;exact⟨p,t,b,rfl,by rw[az (λy=>by subst y;rw[e]at e';cases e')];exact e',k⟩
inductive qY(K:W.Frag)(n:Nat)(vs:List V)(H:Hp)(Q:VK)(E:XK):Prop
 | mk (l lh us hs a h) (d:Nat):vs=[.ref l,.ref lh]->H l=some (.lst us)->DatAll K H ((bu a).map lR) us->a.size<=60->H lh=some (.lst hs)->DatAll K H (h.map K9) hs->Hu.TnL [bu a] d h->(∀c∈h,Hu.eS Hu.sqH c)->d+1<=n->(∀p (t b:Int) H',aJ H H'->H' p=some (.tup [.int t,.int b])->ZN a h t b->Q (.ref p) H')->qY K n vs H Q E
theorem Dd{α:Type}{t:Addr}{xs:List V}{ts:List α}{R:Hp->Prop}{R0 R1:Hp->V->α->Prop}(m0:∀H H' v a,aJ H H'->R0 H v a->R0 H' v a)(m1:∀H H' v a,aJ H H'->R1 H v a->R1 H' v a)(m2:∀D H ws zs v a,H D=some (.lst ws)->R1 H v a->R1 (upd H D (.lst zs)) v a)
  (st:K6 K H1 t xs)(hD:H1 D=none)(few:xs.length<=100)(o:cH (R0 H1) xs ts)(step:∀v a H' k,a∈ts->aJ H1 H'->R0 H' v a->(∀v' La,aJ H' La->R1 La v' a->k v' La)->te (some v::bQ js σ) H' k)
  (fin:∀ys H',aJ H1 H'->H' D=some (.lst ys)->cH (R1 H') ys ts->R H') :
  ∃W:Nat->Nat->Hp->Prop,(∃m,W 0 m (upd H1 D (.lst [])))/\∀i m H2,W i m H2->((NJ K t).stop i H2/\R H2)\/
   ((
    NJ K t).go i H2/\∀v H3,(NJ K t).yld i H2 v H3->ke (some v::bQ js σ) H3 λb H4=>if b=true then te (some v::bQ js σ) H4 λy H5 =>
    ∃ys,H5 D=some (.lst ys)/\ys.length<sizeLine/\∃m',m'<m/\W (i+1) m' (upd H5 D (.lst (ys++[y]))) else ∃m',m'<m/\W (i+1) m' H4):=by
 refine⟨λi m H2=>m=xs.length-i/\i<=xs.length/\aJ H1 H2/\∃ys,H2 D=some (.lst ys)/\cH (R1 H2) ys (ts.take i),⟨_,rfl,x4 _,ak hD _,[],ae,.nil⟩,?_⟩;rintro i m H2 ⟨rfl,hi,sm,ys,eD,al⟩
 have Q2:=st.ts sm.ts;have ol:=o.len
 by_cases Le:i<xs.length
 .refine .inr ⟨⟨_,_,Q2,c6 Le⟩,λv H3 y=>?_⟩;obtain⟨rfl,y⟩:=y;obtain⟨a,ha,r0⟩:=o.get i v (y _ Q2);refine gU ?_;refine step v a _ _ (p8 ha) sm (m0 _ _ _ _ sm r0) λv' La Ni r1=>?_;have O4:=Ni _ _ eD;have yl:=al.len;refine⟨ys,O4,aZ (by rw[yl,G0];omega),xs.length-(i+1),by omega,rfl,Le,aW (sm.trans Ni) hD _,ys++[v'],ae,?_⟩;rw[A2,ha];exact((al.imp λu t ru=>m1 _ _ _ _ Ni ru).app (.cons r1 .nil)).imp λu t ru=>m2 D _ _ _ _ _ O4 ru
 .have e:i=xs.length:=by omega
  subst e;rw[ol,z9]at al;exact .inl ⟨⟨_,Q2,c5 _⟩,fin ys _ sm eD al⟩
theorem DG(T:aC K mg "_law_least" oT)(lz:Def P w K mg base 3 "_law_rules" ["_law_rows","_law_hull"] (nH K))(dQ:Def P w K mg base 1 "_law_tells" ["_law_rule_here","_law_corner"] (vE K))(pN:Def P w K mg base 3 "_law_cut" ["_law_hull","_law_rule_here"] (vK K)):∀n:Nat,Def P w K mg base (n+4) "_law_least" ["_law_rows","_law_hull"] (qY K n):=by
 intro n
 induction n with
 | zero =>
  refine aP T mv ?_ ?_
  .walk_at "i1"
  .walk_at "i2";obtain⟨l,lh,us,hs,a,h,d,rfl,_,_,_,_,_,_,_,z,_⟩:=h;omega
 | succ n lA =>
  refine aP T mv ?_ ?_
  .walk_at "i1"
  walk_at "i2";obtain⟨l,lh,us,hs,a,h,d,rfl,el,da,sz,Xa,dh,tn,cn,dn,q⟩:=h;have nd:=mv.nd;have R:=sf a;have rl0:=R.len;have n3:=tn.hk.n3;have hl:=tn.ln;have Vm:∀p∈h,Hu.R3 3000 p:=λp hp=>(tn.hk.ok p hp).r.mono (by decide);have d2:(2:Nat)<=sizeLine:=by decide
  refine⟨_,(ah (sk (aK lz (aa (pv 0) (aa (pv 1) af))) (iH rfl (aX (aO (i:=2)) (aX (aO (i:=3)) di))))
  (ah (aS (aF wz (pv 2) bN (aH _)) (ah (aI (i:=4) (bj (fi (fi af))))
  (ah (dB x5 rfl (cq (pv 1)) (aO (i:=5)) (ah (aI (i:=6) (aK dQ (aa (aD bH (pv 2) (lZ gp aq)) (aa (pv 5) af))))
  (ao (aS (aF iK (aM bo (pv 6) (aD aA (pv 4) aq)) (aM bo (aD aA (pv 4) aq) (aD aA (pv 5) aq)) (aH _)) (ao (aI (i:=4) (bj (aa (pv 6) (aa (aD aA (pv 5) aq) af))))) aL))))
  (ao (av (pv 4))))) aL)
  (ah (lH (i:=7) (pf (aK pN (aa (pv 1) (aa (pv 3) af)))) (bY (j:=0) cE) (λ_ _ _ _=>cM) (λ_ _ _ _=>(aK lA (aa (pv 1) (aa (pv 0) af)))))
  (ah (aS (aF iK (aM bo (aD aA (aD bH (pv 7) aq) aq) (aD aA (aD bH (pv 7) aq) aq)) (aM bo (aD aA (aD bH (pv 7) aq) aq) (aD aA (aD bH (pv 7) aq) aq)) (aH _)) (ao (av (aD bH (pv 7) aq))) aL)
  (ao (av (aD bH (pv 7) aq))))))),?_⟩
  refine⟨_,rfl,_,rfl,l,lh,us,hs,bu a,h,rfl,el,da,R.ok,by omega,Xa,dh,Vm,by omega,by omega,λrs t2 lr wr H1 s1 er rb ln et Zm VW=>?_,λk tt t2 v2 H1 s1 er kl bt et dv=>?_⟩
  .refine⟨t2,_,rfl,K6.of et,rfl,_,_,rfl,_,_,rfl,rfl,?_⟩;refine⟨_,rfl,rfl,_,rfl,dH ?_⟩;have pos:=R.pos;have lw:=eT VW;have QC:0<wr.length:=by omega
   obtain⟨r,MC⟩:∃r,rs[wr.length-1]?=some r:=⟨rs[wr.length-1]'(by omega),c6 (by omega)⟩;obtain⟨rv0,YG,Zv⟩:=lV VW MC;have Nr:rs.getLast?=some r:=by rw[JA,<- lw];exact MC
   have Uz:Hu.R3 101 r:=(rb _ r MC).mono (by omega)
   have erl:rl h a=some r:=by
    rcases R.run h with⟨out,r',e,e1,e2⟩ | ⟨⟨k,x,e⟩,_⟩
    .rw[er]at e;cases e
     rw[Nr]at e1;cases e1
     exact e2
    .rw[er]at e;cases e
   have wt:∀{p:T3},Hu.eS h p->a.worth p.u p.v p.w=Hu.tl r p:=λC=>jv C erl;have Ta:∀p∈h,Bg (Hu.tl r p)/\Bg p.u/\0<p.u:=λp hp=>⟨i5 (Hu.tl_b Uz (tn.hk.ok p hp).r) (F1 (by decide) (by decide)),dI (tn.hk.ok p hp).r.a (by decide),(tn.hk.ok p hp).n0⟩;have o1:Bg 1:=dI (n:=1) (by decide) (by decide);refine⟨d2,λp0 YK=>?_⟩;have u0:=ak YK (.tup [.int 1,.int 1]);have s01:=s1.trans u0;refine⟨_,rfl,lh,rfl,⟨hs,K7.of (s01 _ _ Xa)⟩,?_⟩
   refine eM (xs:=hs) (λi σ H'=>aJ H1 H'/\∃(pb:Addr)(t b:Int)(o5 o6 o7:Option V),σ=[some (.ref l),some (.ref lh),some (.ref lr),some .non,some (.ref pb),o5,o6,o7]/\H' pb=some (.tup [.int t,.int b])/\0<b/\Bg t/\Bg b/\(∀c∈h.take i,t*c.u<=Hu.tl r c*b)/\((t=1/\b=1)\/∃c∈h,t=Hu.tl r c/\b=c.u))
    ⟨u0,p0,1,1,_,_,_,rfl,ae,by decide,o1,o1,(λc hc=>by simp at hc),.inl ⟨rfl,rfl⟩⟩ (λi σ H' _ z=>K7.of ((s1.trans z.1) _ _ Xa)) (λi v σ H' hv z=>?_) (λσ H' z=>?_)
   .obtain⟨s2,pb,t,b,o5,o6,o7,rfl,VM,b0,bt,bb,kt,kc⟩:=z;have Q5:=s1.trans s2;obtain⟨c,hc,dc⟩:=ky (dh.ts Q5.ts) hv;obtain⟨ca,rfl,sc⟩:=cS dc;have cm:=p8 hc;obtain⟨tb,cb,c0⟩:=Ta c cm;have tk:h.take (i+1)=h.take i++[c]:=by rw[A2,hc];rfl
    refine⟨_,rfl,_,rfl,_,_,_,_,rfl,rfl,K7.of (s2 _ _ Zm),(by rw[vy QC];exact YG),_,rfl,_,_,r,c,rfl,Zv.ts s2.ts,dc,Uz.mono (by decide),Vm c cm,?_⟩;refine⟨_,rfl,_,rfl,_,_,_,_,rfl,rfl,K6.of VM,rfl,_,_,rfl,rfl,eI tb bb,_,rfl,_,_,_,_,rfl,rfl,K6.of VM,rfl,_,rfl,_,_,_,_,rfl,rfl,sc,rfl,_,_,rfl,rfl,eI bt cb,_,_,rfl,rfl,_,rfl,cJ (λcc=>?_) (λcc=>?_)⟩
    .have cc:Hu.tl r c*b<t*c.u:=c8 cc;refine⟨_,rfl,_,rfl,_,_,_,_,rfl,rfl,sc,rfl,d2,λp2 Lk=>?_⟩;have u2:=ak Lk (.tup [.int (Hu.tl r c),.int c.u]);refine⟨s2.trans u2,p2,Hu.tl r c,c.u,_,_,_,rfl,ae,c0,tb,cb,λc' L6=>?_,.inr ⟨c,cm,rfl,rfl⟩⟩;rw[tk]at L6;rcases j6.mp L6 with z | z
     .exact kR (f:=(t,b)) (g:=(Hu.tl r c,c.u)) b0 c0 (Ta c' (Jv z)).2.2 (y9 cc) (kt c' z)
     .rw[c9.mp z];exact D5 _
    .have cc:¬Hu.tl r c*b<t*c.u:=λz=>cc (e9 z);refine⟨s2,pb,t,b,_,_,_,rfl,VM,b0,bt,bb,λc' L6=>?_,kc⟩;rw[tk]at L6;rcases j6.mp L6 with z | z
     .exact kt c' z
     .rw[c9.mp z];omega
   .obtain⟨s2,pb,t,b,o5,o6,o7,rfl,VM,b0,bt,bb,kt,kc⟩:=z;rw[eT dh,z9]at kt;refine⟨_,rfl,q pb t b H' (s1.trans s2) VM ⟨b0,bt,bb,?_,λp I p0=>?_⟩⟩
    .rcases kc with⟨rfl,rfl⟩ | ⟨c,cm,rfl,rfl⟩
     .obtain⟨c,cm⟩:∃c,c∈h:=by
       cases h with
       | nil=>simp at n3
       | cons c r=>exact⟨c,v8⟩
      obtain⟨_,_,c0⟩:=Ta c cm;have w1:=wt (Hu.eO cm);obtain⟨v0,v1,w0,w1'⟩:=Hu.ig (cn c cm);have bd:=ft (n:=c.u) (x:=c.v) (y:=c.w) (by omega) ⟨v0,v1⟩ ⟨w0,w1'⟩ a;have k1:=kt c cm;exact⟨c,Hu.eO cm,c0,by omega⟩
     .exact⟨c,Hu.eO cm,(Ta c cm).2.2,by rw[wt (Hu.eO cm)]⟩
    .have C:=Hu.sO tn.hk.tri n3 I;rw[wt C];exact Hu.tD kt C
  .refine⟨t2,_,rfl,K6.of et,rfl,_,_,rfl,_,_,rfl,rfl,?_⟩;refine⟨_,rfl,rfl,_,rfl,bL ?_⟩;obtain⟨V6,d',ed,T1,T2⟩:=tn.cut v8 R.ok (by omega) er;subst ed;have nc:=Hu.pA er;dsimp only[Bv,vB,pR];refine ix ?_;refine⟨_,rfl,_,rfl,lh,v2,hs,h,tt,rfl,s1 _ _ Xa,dh.ts s1.ts,dv,tn.hk.hull.mono (by decide) (by omega),V6.mono (by decide),(λz=>absurd z nc),λ_ v3 H2 s2 cr=>?_⟩;obtain⟨t3,la,lb,Na,MS,rfl,Yi,fa,fb,sq,ea,eb,d1,ZD⟩:=cr;have LS:=s1.trans s2;refine⟨t3,rfl,⟨_,sq⟩,λD hD=>?_⟩;refine Dd (K:=K) (ts:=[Hu.low tt h,Hu.high tt h]) (R0:=NK K) (R1:=Pu a) (λ_ _ v g s z=>NK.to s v g z) (λ_ _ v g s z=>Pu.to v g s z) (λD H ws zs v g e z=>Pu.mut e z) sq hD (by show 2<=100;decide) (.cons ⟨la,Na,rfl,ea,d1⟩ (.cons ⟨lb,MS,rfl,eb,ZD⟩ .nil)) (λv g H3 k hg s3 hv hk=>?_) (λys H3 s3 eD al=>?_)
   .obtain⟨ga,M6,rfl,eg,dg⟩:=hv;have Oe:=LS.trans s3
    have tg:Hu.TnL [bu a] d' g/\∀c∈g,Hu.eS Hu.sqH c:=by
     simp only[j4,A3,G4]at hg;rcases hg with rfl | rfl
     .exact⟨T1,λc hc=>Hu.eS.sub cn (Hu.fh tn.hk c hc)⟩
     .exact⟨T2,λc hc=>Hu.eS.sub cn (Hu.fh tn.hk c hc)⟩
    exact⟨_,rfl,_,rfl,l,ga,us,M6,a,g,d',rfl,Oe _ _ el,da.ts Oe.ts,sz,eg,dg,tg.1,tg.2,by omega,λp t b H4 s4 ep ls=>hk _ _ s4 ⟨p,t,b,rfl,ep,ls⟩⟩
   .cases al with
    | cons z0 al =>
     cases al with
     | cons z1 al =>
      cases al
      obtain⟨q0,x0,y0,rfl,e0,b0,Xj,bb0,⟨c0,C0,c0u,w0⟩,k0⟩:=z0;obtain⟨q1,x1,y1,rfl,e1,b1,bt1,bb1,⟨c1,C1,c1u,w1⟩,k1⟩:=z1;have Oe:=LS.trans s3;refine⟨_,rfl,_,_,_,_,rfl,rfl,K7.of eD,rfl,_,_,_,_,rfl,rfl,K6.of e1,rfl,_,rfl,_,_,_,_,rfl,rfl,K7.of eD,rfl,_,_,_,_,rfl,rfl,K6.of e0,rfl,_,_,rfl,rfl,eI bt1 bb0,_,rfl,_,_,_,_,rfl,rfl,K7.of eD,rfl,_,_,_,_,rfl,rfl,K6.of e0,rfl,_,rfl,_,_,_,_,rfl,rfl,K7.of eD,rfl,_,_,_,_,rfl,rfl,K6.of e1,rfl,_,_,rfl,rfl,eI Xj bb1,_,_,rfl,rfl,_,rfl,cJ (λcc=>?_) (λcc=>?_)⟩
      .have cc:x1*y0<x0*y1:=c8 cc;refine⟨_,rfl,_,_,_,_,rfl,rfl,K7.of eD,rfl,q q1 x1 y1 H3 Oe e1 ⟨b1,bt1,bb1,⟨c1,Hu.eS.sub (Hu.fh tn.hk) C1,c1u,w1⟩,λp I p0=>?_⟩⟩;have J:=Hu.wM tn.hk (V6.mono (by decide)) nc I;rcases Int.le_total (Hu.tl tt p) 0 with z | z
       .exact kR (f:=(x0,y0)) (g:=(x1,y1)) b0 b1 p0 (y9 cc) (k0 p (J.1 z) p0)
       .exact k1 p (J.2 z) p0
      .have cc:¬x1*y0<x0*y1:=λz=>cc (e9 z);refine⟨_,rfl,_,_,_,_,rfl,rfl,K7.of eD,rfl,q q0 x0 y0 H3 Oe e0 ⟨b0,Xj,bb0,⟨c0,Hu.eS.sub (Hu.fh tn.hk) C0,c0u,w0⟩,λp I p0=>?_⟩⟩;have J:=Hu.wM tn.hk (V6.mono (by decide)) nc I;rcases Int.le_total (Hu.tl tt p) 0 with z | z
       .exact k0 p (J.1 z) p0
       .exact kR (f:=(x1,y1)) (g:=(x0,y0)) b1 b0 p0 (by show x0*y1<=x1*y0;omega) (k1 p (J.2 z) p0)
inductive vF(vs:List V)(H:Hp)(Q:VK)(E:XK):Prop
 | mk (a t) (k:Nat):vs=[.ref a,.int k]->Tu H a t->t.nf=0->k<=9->(∀b t' H',aJ H H'->Tu H' b t'->t'.nf=k-1->t'.size<=k*(t.size+1)+1->Q (.ref b) H')->vF vs H Q E
inductive rq(vs:List V)(H:Hp)(Q:VK)(E:XK):Prop
 | mk (a t) (k:Nat):vs=[.ref a,.int k]->Tu H a t->t.nf=0->1<=k->k<=9->(∀b t' H',aJ H H'->Tu H' b t'->t'.nf=k-1->t'.size<=k*(t.size+1)+1->Q (.ref b) H')->rq vs H Q E
theorem GP(T:aC K mg "_law_times" oQ)(cw:mg "range"=none):Def P w K mg base 1 "_law_times" ["_law_letter","_law_many"] vF:=by
 refine aP T rJ ?_ ?_
 .walk_at "i1"
 walk_at "i2";obtain⟨a,t,k,rfl,tu,nf,k9,q⟩:=h;have nd:=rJ.nd
 refine⟨_,(ah (aS (aF bS (pv 1) aq (aH _)) (ao (av (bj (aa aQ af)))) aL)
  (ah (aI (i:=2) (pv 0))
  (ah (dB x5 rfl (iu cw (aa (aM cD (pv 1) aq) af)) (aO (i:=3)) (ao (aI (i:=2) (bj (aa aQ (aa (pv 2) (aa (pv 0) af)))))))
  (ao (av (pv 2)))))),?_⟩
 refine⟨_,rfl,rfl,_,rfl,cJ (λcc=>?_) (λcc=>?_)⟩
 .have cc:(k:Int)=0:=V.int.inj (c8 cc);have k0:k=0:=by omega
  subst k0;refine⟨(by show 1<=sizeLine;decide),λp hp=>?_⟩;exact q p .never _ (ak hp _) (.never ae) rfl (by show 1<=_;omega)
 .have k1:1<=k:=by
   rcases G1 k with z | z
   .subst z;exact absurd (e9 rfl) cc
   .exact z
  refine⟨_,rfl,_,rfl,_,_,rfl,rfl,_,rfl,by omega,by omega,?_⟩;refine iw (λi σ H'=>aJ H H'/\∃b t' o3,σ=[some (.ref a),some (.int k),some (.ref b),o3]/\Tu H' b t'/\t'.nf=i/\t'.size<=(i+1)*(t.size+1)) ⟨aJ.refl _,a,t,_,rfl,tu,nf,by omega⟩ (λi σ H' hi z=>?_) (λσ H' z=>?_)
  .obtain⟨s1,b,t',o3,rfl,tb,n1,z1⟩:=z;refine⟨_,rfl,_,rfl,(by show 3<=sizeLine;decide),λp hp=>?_⟩;have u:=ak hp (.tup [.str "more",.ref b,.ref a]);refine⟨s1.trans u,p,.fold .more t' t,_,rfl,.fold ae (tb.to (Kp.of u)) (tu.to (Kp.of (s1.trans u))),by rw[fO];omega,?_⟩;show t'.size+t.size+1<=_;have:=Nat.add_mul (i+1) 1 (t.size+1);omega
  .obtain⟨s1,b,t',o3,rfl,tb,n1,z1⟩:=z;refine⟨_,rfl,q b t' _ s1 tb (by omega) ?_⟩;have e:((k:Int)-1).toNat+1=k:=by omega
   rw[e]at z1;omega
theorem DN(T:aC K mg "_law_beyond" mJ)(cw:mg "range"=none):Def P w K mg base 1 "_law_beyond" ["_law_letter","_law_many"] rq:=by
 refine aP T pY ?_ ?_
 .walk_at "i1"
 walk_at "i2";obtain⟨a,t,k,rfl,tu,nf,k1,k9,q⟩:=h;have nd:=pY.nd
 refine⟨_,(ah (aI (i:=2) (pv 0))
  (ah (dB x5 rfl (iu cw (aa (aM cD (pv 1) aq) af)) (aO (i:=3)) (ao (aI (i:=2) (bj (aa aQ (aa (pv 2) (aa (pv 0) af)))))))
  (ao (av (pv 2))))),?_⟩
 refine⟨_,rfl,_,rfl,_,_,rfl,rfl,_,rfl,by omega,by omega,?_⟩;refine iw (λi σ H'=>aJ H H'/\∃b t' o3,σ=[some (.ref a),some (.int k),some (.ref b),o3]/\Tu H' b t'/\t'.nf=i/\t'.size<=(i+1)*(t.size+1)) ⟨aJ.refl _,a,t,_,rfl,tu,nf,by omega⟩ (λi σ H' hi z=>?_) (λσ H' z=>?_)
 .obtain⟨s1,b,t',o3,rfl,tb,n1,z1⟩:=z;refine⟨_,rfl,_,rfl,(by show 3<=sizeLine;decide),λp hp=>?_⟩;have u:=ak hp (.tup [.str "less",.ref b,.ref a]);refine⟨s1.trans u,p,.fold .less t' t,_,rfl,.fold ae (tb.to (Kp.of u)) (tu.to (Kp.of (s1.trans u))),by rw[fO];omega,?_⟩;show t'.size+t.size+1<=_;have:=Nat.add_mul (i+1) 1 (t.size+1);omega
 .obtain⟨s1,b,t',o3,rfl,tb,n1,z1⟩:=z;refine⟨_,rfl,q b t' _ s1 tb (by omega) ?_⟩;have e:((k:Int)-1).toNat+1=k:=by omega
  rw[e]at z1;omega
end Mine
namespace L2
open PySem PySem.Spec PyProof.Rows
variable{X:Cx}{ss:List Stmt}{i:Nat}
noncomputable def stN(s:Stmt)(i:Nat):Stmt:=(bA s).getD i (.Pass ⟨0,0,0,0⟩)
theorem O2{t:TS}{R:TS->Prop}(h:ow X ss t)(r:R t):∃t,Lr X ss t/\R t:=⟨t,h.h,r⟩
theorem OT(h:litE N sc e=some (.lst xs))(hb:PE X b tb)(eN:X.N=N)(es:X.env.scope=sc)(hN:X.N.Nodup)(hi:X.N[i]?=some x)(hx:Loc X.env.scope x)(hs:swapsWith (.Subscript e b q) (some (.Name x p)) pos.line X.env=pure false)(hf:X.fn x=true\/X.env.scope.names.lookup x=some .local)(hp:xc b) :
  ∃t,HS X (.Assign [.Name x p] (.Subscript e b q) pos) t/\∀D σ H (j:Int),Cj σ (.lst xs)=true->0<=j->j<(xs.length:Int)->(∀H1 Q',Q' (.int j) H1->tb σ H1 Q')->(∀u l H1,aJ H H1->l∈xs->NX σ H1 l u->D.nx (σ.set i (some u)) H1)->t D σ H:=by
 refine⟨_,⟨aI (aD bH (BZ eN es e h) hb (hs:=hp)) (hN:=hN) (hi:=hi) (hx:=hx) (hs:=hs) (hf:=hf)⟩,λD σ H j hv j0 j1 k fin=>?_⟩;refine Hs _ hv λv H1 s1 lv=>?_;obtain⟨a,us,rfl,ea,lu⟩:=lv;refine k H1 _ ?_;have hj:j.toNat<xs.length:=by omega
 obtain⟨u,h4,h5⟩:=lu.get (c6 hj);have ej:j=((j.toNat:Nat):Int):=by omega
 refine⟨a,us,j,u,rfl,rfl,K7.of ea,?_,fin u _ H1 s1 (IX hj) h5⟩;rw[ej];exact cC h4
end L2
namespace Mine
open PySem L2
variable{lo:Int}{n:Nat}
inductive zS(vs:List V)(H:Hp)(Q:VK)(E:XK):Prop
 | mk (i:Int):vs=[.int i]->0<=i->(∀b t H',aJ H H'->Tu H' b t->t.nf<=8->t.size<=60->Q (.ref b) H')->zS vs H Q E
noncomputable def ixV:Stmt->Expr
 | .Assign _ (.Subscript e _ _) _=>e
 | _=>.Constant .none 0 ⟨0,0,0,0⟩
noncomputable def ixB:Stmt->Expr
 | .Assign _ (.Subscript _ b _) _=>b
 | _=>.Constant .none 0 ⟨0,0,0,0⟩
noncomputable def ixP:Stmt->Pos
 | .Assign [.Name _ p] _ _=>p
 | _=>⟨0,0,0,0⟩
noncomputable def ixQ:Stmt->Pos
 | .Assign _ (.Subscript _ _ q) _=>q
 | _=>⟨0,0,0,0⟩
noncomputable def ixO:Stmt->Pos
 | .Assign _ _ o=>o
 | _=>⟨0,0,0,0⟩
variable{P:Program}{w:World}{K:W.Frag}{mg:Str->Option Value}{base:Heap}{c:CCs}
theorem Ry(hl:l∈[Lt.tup [.str "p"],.tup [.str "q"],.tup [.str "not",.tup [.str "p"]],.tup [.str "not",.tup [.str "q"]]])(h:NX σ H l u):∃a t,u=.ref a/\Tu H a t/\t.nf=0/\t.size<=2:=by
 simp only[j4,A3,G4]at hl;rcases hl with rfl | rfl | rfl | rfl
 .obtain⟨a,us,rfl,e,v,r,rfl,rfl,rfl⟩:=h;exact⟨a,.lp,rfl,.lp e,rfl,by decide⟩
 .obtain⟨a,us,rfl,e,v,r,rfl,rfl,rfl⟩:=h;exact⟨a,.lq,rfl,.lq e,rfl,by decide⟩
 .obtain⟨a,us,rfl,e,v,r,rfl,rfl,v2,r2,rfl,⟨b,MS,rfl,e2,v3,r3,rfl,rfl,rfl⟩,rfl⟩:=h;exact⟨a,.no .lp,rfl,.no e (.lp e2),rfl,by decide⟩
 .obtain⟨a,us,rfl,e,v,r,rfl,rfl,v2,r2,rfl,⟨b,MS,rfl,e2,v3,r3,rfl,rfl,rfl⟩,rfl⟩:=h;exact⟨a,.no .lq,rfl,.no e (.lq e2),rfl,by decide⟩
theorem ok_betw(T:aC K mg "_law_between" aV)(jY:Def P w K mg base 1 "_law_times" ["_law_letter","_law_many"] vF)(uv:Def P w K mg base 1 "_law_beyond" ["_law_letter","_law_many"] rq):Def P w K mg base 2 "_law_between" ["_law_cell"] zS:=by
 refine aP T nK ?_ ?_
 .walk_at "i1"
 walk_at "i2";obtain⟨i,rfl,i0,q⟩:=h;have nd:=nK.nd;have d2:(2:Nat)<=sizeLine:=by decide
 have d3:(3:Nat)<=sizeLine:=by decide
 have t1:∃t,ow (cN CX0 P w K mg base fj "_law_between" (au aV) f cdv A outer s H E).nox ((bA aV).drop 1) t/\∀o2 o3 a x H1,aJ H H1->Tu H1 a x->x.nf=0->x.size<=2->t {nx:=λ_ H'=>Q .non H',rt:=Q} [some (.int i),some (.ref a),o2,o3] H1:=by
  refine⟨_,aU (sP (jT bS (iZ dE (iZ gQ (hv 0) cg) cg) cg (aH _)) (aU (fe (i:=2) (iZ bW cg (iZ dE (iZ gQ (hv 0) cg) cg)))
  (gR (pE (bK (aN cQ (aN (gE jY (gj (bK (aN cQ (aN (hv 1) aY))) (aN (hv 2) aY))) (aN (gE uv (aN (hv 1) (aN (hv 2) aY))) aY))))))) jU) (aU (fe (i:=2) (iZ bW cg (iZ dE (iZ gQ (hv 0) cg) cg))) (aU (fe (i:=3) (bK (aN cQ (gj (bK (aN cQ (aN (hv 1) aY))) (aN (gE jY (aN (hv 1) (aN (iZ cD (hv 2) cg) aY))) aY))))) (gR (pE (bK (aN cQ (aN (hv 3) (gj (bK (aN cQ (aN (gE jY (aN (hv 1) (aN (iZ cD (hv 2) cg) aY))) (gj (bK (aN cQ (aN (hv 1) aY))) aY)))) aY)))))))),?_⟩
  intro o2 o3 a x H1 s1 tu nf sz;refine⟨_,rfl,_,_,rfl,rfl,⟨by decide,by decide⟩,_,_,rfl,rfl,(by show(0:Int)<2;decide),rfl,_,rfl,cJ (λ_=>?_) (λ_=>?_)⟩
  .refine⟨_,rfl,_,_,rfl,rfl,⟨by decide,by decide⟩,_,_,rfl,rfl,(by show(0:Int)<3;decide),_,_,rfl,rfl,?_⟩;obtain⟨k,ek,k2,k4⟩:∃k:Nat,2+i/4%3=(k:Int)/\2<=k/\k<=4:=⟨(2+i/4%3).toNat,by omega,by omega,by omega⟩;refine⟨_,rfl,d2,λp hp=>?_⟩;have u1:=ak hp (.tup [.str "not",.ref a]);have tn:Tu (upd H1 p (.tup [.str "not",.ref a])) p (.no x):=.no ae (tu.to (Kp.of u1));refine⟨_,rfl,p,.no x,k,(show[V.ref p,V.int (2+i/4%3)]=_ by rw[ek]),tn,(by rw[uZ];exact nf),by omega,λb1 t1 H2 s2 Xz n1 z1=>?_⟩;refine⟨_,rfl,_,rfl,a,x,k,(show[V.ref a,V.int (2+i/4%3)]=_ by rw[ek]),(tu.to (Kp.of u1)).to (Kp.of s2),nf,by omega,by omega,λb2 t2 H3 s3 Xy n2 z2=>?_⟩;refine⟨d3,λp3 RU=>?_⟩;have u3:=ak RU (.tup [.str "greater",.ref b1,.ref b2]);have z1:t1.size<=k*(x.size+1+1)+1:=z1;refine q p3 (.fold .greater t1 t2) _ ((((s1.trans u1).trans s2).trans s3).trans u3) (.fold ae ((Xz.to (Kp.of s3)).to (Kp.of u3)) (Xy.to (Kp.of u3))) (by rw[fO];omega) ?_;show t1.size+t2.size+1<=60;have m1:k*(x.size+1+1)<=4*4:=Kk k4 (by omega);have m2:k*(x.size+1)<=4*3:=Kk k4 (by omega);omega
  .refine⟨_,rfl,_,_,rfl,rfl,⟨by decide,by decide⟩,_,_,rfl,rfl,(by show(0:Int)<4;decide),_,_,rfl,rfl,?_⟩;obtain⟨k,ek,k5⟩:∃k:Nat,2+i/4%4=((k+2:Nat):Int)/\k<=3:=⟨(i/4%4).toNat,by omega,by omega⟩;refine⟨_,rfl,d2,λp hp=>?_⟩;have u1:=ak hp (.tup [.str "not",.ref a]);have tn:Tu (upd H1 p (.tup [.str "not",.ref a])) p (.no x):=.no ae (tu.to (Kp.of u1));have Wz:=tu.to (Kp.of u1);refine⟨_,rfl,_,rfl,_,_,rfl,rfl,a,x,k,(show[V.ref a,V.int (2+i/4%4-2)]=_ by rw[show 2+i/4%4-2=(k:Int) by omega]),Wz,nf,by omega,λb1 t1 H2 s2 Xz n1 z1=>?_⟩;refine⟨d3,λp3 RU=>?_⟩;have u3:=ak RU (.tup [.str "leads",.ref p,.ref b1]);have tl:Tu (upd H2 p3 (.tup [.str "leads",.ref p,.ref b1])) p3 (.fold .leads (.no x) t1):=.fold ae ((tn.to (Kp.of s2)).to (Kp.of u3)) (Xz.to (Kp.of u3));have WK:=((s1.trans u1).trans s2).trans u3;have ZW:=(Wz.to (Kp.of s2)).to (Kp.of u3);refine⟨_,rfl,_,rfl,_,rfl,_,_,rfl,rfl,a,x,k+1,(show[V.ref a,V.int (2+i/4%4-1)]=_ by rw[show 2+i/4%4-1=((k+1:Nat):Int) by omega]),ZW,nf,by omega,λb2 t2 H4 s4 Xy n2 z2=>?_⟩;refine⟨_,rfl,d2,λp5 hp5=>?_⟩;have u5:=ak hp5 (.tup [.str "not",.ref a]);refine⟨d3,λp6 hp6=>?_⟩;have u6:=ak hp6 (.tup [.str "leads",.ref b2,.ref p5]);refine⟨d3,λp7 Ve=>?_⟩;have u7:=ak Ve (.tup [.str "greater",.ref p3,.ref p6]);have WI:=(u5.trans u6).trans u7;have E5:=(u6.trans u7) _ _ ae;have E6:=u7 _ _ ae;refine q p7 (.fold .greater (.fold .leads (.no x) t1) (.fold .leads t2 (.no x))) _ ((WK.trans s4).trans WI) (.fold ae ((tl.to (Kp.of s4)).to (Kp.of WI)) (.fold E6 (Xy.to (Kp.of WI)) (.no E5 ((ZW.to (Kp.of s4)).to (Kp.of WI))))) ?_ ?_
   .rw[fO,fO,fO];have:=uZ x;omega
   .show(x.size+1+t1.size+1)+(t2.size+(x.size+1)+1)+1<=60;have m1:k*(x.size+1)<=3*3:=Kk k5 (by omega);have m2:(k+1)*(x.size+1)<=4*3:=Kk (by omega) (by omega);omega
 obtain⟨t1,OS,k1⟩:=t1;have eb:bA aV=stN aV 0::(bA aV).drop 1:=by kernel_rfl
 have t0:∃t,HS (cN CX0 P w K mg base fj "_law_between" (au aV) f cdv A outer s H E).nox (stN aV 0) t/\∀D:Ends,(∀u l H1,aJ H H1->l∈[Lt.tup [.str "p"],.tup [.str "q"],.tup [.str "not",.tup [.str "p"]],.tup [.str "not",.tup [.str "q"]]]->NX [some (.int i),none,none,none] H1 l u->D.nx [some (.int i),some u,none,none] H1)->t D [some (.int i),none,none,none] H:=by
  obtain⟨t,h,r⟩:=OT (i:=1) (X:=(cN CX0 P w K mg base fj "_law_between" (au aV) f cdv A outer s H E).nox) (N:=fj) (sc:=au aV) (xs:=[Lt.tup [.str "p"],.tup [.str "q"],.tup [.str "not",.tup [.str "p"]],.tup [.str "not",.tup [.str "q"]]]) (x:="_law_letter") (e:=ixV (stN aV 0)) (b:=ixB (stN aV 0)) (p:=ixP (stN aV 0)) (q:=ixQ (stN aV 0)) (pos:=ixO (stN aV 0)) (by kernel_rfl) (tb:=Nd (rI (λ_ j=>0<j) λi j=>V.int (i%j)) (Fg 0) (tC (.int 4))) (by exact(aM dE (pv 0) aq)) rfl rfl nd rfl (Or.inl rfl) (by kernel_rfl) (Or.inr rfl) (λ_ _=>rfl);have ee:stN aV 0=.Assign [.Name "_law_letter" (ixP (stN aV 0))] (.Subscript (ixV (stN aV 0)) (ixB (stN aV 0)) (ixQ (stN aV 0))) (ixO (stN aV 0)):=by kernel_rfl
  refine⟨t,by rw[ee];exact h,λD k=>r D _ H (i%4) rfl (Jc _ (by decide)) (E9 _ (by decide)) (λH2 Q' z=>⟨_,rfl,_,_,rfl,rfl,(show(0:Int)<4 by decide),z⟩) k⟩
 obtain⟨t0,ht0,k0⟩:=t0
 have hh:ow (cN CX0 P w K mg base fj "_law_between" (au aV) f cdv A outer s H E).nox (bA aV) (vB t0 t1):=by
  rw[eb];exact aU ht0 OS
 refine O2 hh ?_
 exact k0 _ λu l H1 s1 hl hv=>by
  obtain⟨a,x,rfl,tu,nf,sz⟩:=Ry hl hv;exact k1 _ _ a x H1 s1 tu nf sz
inductive oH(vs:List V)(H:Hp)(Q:VK)(E:XK):Prop
 | mk (l:Addr) (ms:List Int):vs=[.ref l]->H l=some (.lst (ms.map V.int))->(∀m∈ms,Me m)->(∀(a:Addr)(t:Tr)(H':Hp),t.size<=60->t.nf<=8->Tu H' a t->Q (.ref a) H')->oH vs H Q E
theorem RB{t k:Tr}(h:k∈t.kids):k.nf<=t.nf:=by
 cases t with
 | no t=>rw[c9.mp h,uZ];exact c5 _
 | fold u a b =>
  rw[fO];rcases j4.mp h with rfl | h
  .omega
  .rw[c9.mp h];omega
 | _=>cases h
theorem Am(T:aC K mg "_law_drawn" gv)(bG:mg "len"=none)(cw:mg "range"=none)(gF:Def P w K mg base 1 "_law_next" ["_law_cells"] vG)(tU:Def P w K mg base 2 "_law_between" ["_law_cell"] zS)(tT:Def P w K mg base 63 "_law_few" ["_law_cells","_law_room","_law_most"] vM):Def P w K mg base 64 "_law_drawn" ["_law_cells"] oH:=by
 refine aP T rM ?_ ?_
 .walk_at "i1"
 walk_at "i2";obtain⟨l,ms,rfl,el,V3,q⟩:=h;have nd:=rM.nd;have d2:(2:Nat)<=sizeLine:=by decide
 have d3:(3:Nat)<=sizeLine:=by decide
 have t7:∃t,ow (cN CX0 P w K mg base pq "_law_drawn" (au gv) f cdv A outer s H E).nox ((bA gv).drop 7) t/\∀o4 (i:Int) a b x y H1,Tu H1 a x->x.size<=9->x.nf<=3->Tu H1 b y->y.size<=10->y.nf<=3->t {nx:=λ_ H'=>Q .non H',rt:=Q} [some (.ref l),some (.int i),some (.ref a),some (.ref b),o4] H1:=by
  refine⟨_,aU (sP (jT bS (iZ dE (iZ gQ (hv 1) cg) cg) cg (aH _)) (gR (pE (bK (aN cQ (aN (hv 2) (aN (hv 3) aY)))))) jU) (gR (pE (bK (aN cQ (aN (hv 3) (aN (hv 2) aY)))))),?_⟩;intro o4 i a b x y H1 tx sx nx ty sy ny;refine⟨_,rfl,_,_,rfl,rfl,⟨by decide,by decide⟩,_,_,rfl,rfl,(by show(0:Int)<2;decide),rfl,_,rfl,cJ (λ_=>?_) (λ_=>?_)⟩
  .refine⟨_,rfl,_,rfl,d3,λp hp=>?_⟩;have u:=ak hp (.tup [.str "leads",.ref a,.ref b]);exact q p (.fold .leads x y) _ (by show x.size+y.size+1<=60;omega) (by rw[fO];omega) (.fold ae (tx.to (Kp.of u)) (ty.to (Kp.of u)))
  .refine⟨_,rfl,_,rfl,d3,λp hp=>?_⟩;have u:=ak hp (.tup [.str "leads",.ref b,.ref a]);exact q p (.fold .leads y x) _ (by show y.size+x.size+1<=60;omega) (by rw[fO];omega) (.fold ae (ty.to (Kp.of u)) (tx.to (Kp.of u)))
 obtain⟨t7,ht7,k7⟩:=t7
 have t6:∃t,ow (cN CX0 P w K mg base pq "_law_drawn" (au gv) f cdv A outer s H E).nox ((bA gv).drop 6) t/\∀o4 (i:Int) a b x y H1,Tu H1 a x->x.size<=9->x.nf<=3->Tu H1 b y->y.size<=9->y.nf<=3->t {nx:=λ_ H'=>Q .non H',rt:=Q} [some (.ref l),some (.int i),some (.ref a),some (.ref b),o4] H1:=by
  refine⟨_,aU (sP (jT bS (iZ dE (iZ gQ (hv 1) cg) cg) cg (aH _)) (gR (fe (i:=3) (bK (aN cQ (aN (hv 3) aY))))) jU) ht7,?_⟩;intro o4 i a b x y H1 tx sx nx ty sy ny;refine⟨_,rfl,_,_,rfl,rfl,⟨by decide,by decide⟩,_,_,rfl,rfl,(by show(0:Int)<2;decide),rfl,_,rfl,cJ (λ_=>?_) (λ_=>?_)⟩
  .refine⟨_,rfl,d2,λp hp=>?_⟩;have u:=ak hp (.tup [.str "not",.ref b]);exact k7 _ i a p x (.no y) _ (tx.to (Kp.of u)) sx nx (.no ae (ty.to (Kp.of u))) (by show y.size+1<=10;omega) (by rw[uZ];exact ny)
  .exact k7 _ i a b x y _ tx sx nx ty (by omega) ny
 obtain⟨t6,YA,k6⟩:=t6;refine⟨_,un (aU ⟨(aI (i:=1) (aK gF (aa (pv 0) af)))⟩ (aU ⟨(aS (aF iK (aM dE (aM gQ (pv 1) aq) aq) aq (aH _)) (ao (av (aK tU (aa (pv 1) af)))) aL)⟩ (aU ⟨(aS (aF bS (aM dE (pv 1) aq) aq (aH _)) (ao (av (aK tT (aa (pv 0) (fi (fi af)))))) aL)⟩ (aU ⟨(aI (i:=2) (aK tT (aa (pv 0) (fi (fi af)))))⟩ (aU ⟨(aI (i:=3) (pv 2))⟩ (aU ⟨(dB x5 rfl (iu cw (aa (aM dE (aM gQ (pv 1) aq) aq) af)) (aO (i:=4)) (ao (aS (aF kh (aG bJ bG (aa (pv 3) af)) aq (aH _)) (ao (aI (i:=3) (aD aA (pv 3) (aM bW aq (aM iX (aM gQ (pv 1) aq) (aM cD (aG bJ bG (aa (pv 3) af)) aq)))))) aL)))⟩ YA)))))),?_⟩;refine⟨_,rfl,l,ms,rfl,el,V3,λi L7 H1 ci c1 M3 Mv=>?_⟩;refine⟨_,rfl,_,_,rfl,rfl,⟨by decide,by decide⟩,_,_,rfl,rfl,(by show(0:Int)<5;decide),_,_,rfl,rfl,_,rfl,cJ (λ_=>?_) (λ_=>?_)⟩
 .exact⟨_,rfl,i,rfl,ci.1,λb t H2 s2 tb n2 z2=>q b t H2 z2 n2 tb⟩
 refine⟨_,rfl,_,_,rfl,rfl,(by show(0:Int)<2;decide),rfl,_,rfl,cJ (λ_=>?_) (λ_=>?_)⟩
 .exact⟨_,rfl,l,L7,16,5,rfl,Mv,c1,by decide,by decide,by decide,λa t Rx H2 sz nf c2 Nh Ss tu=>q a t H2 (by omega) (by omega) tu⟩
 refine⟨_,rfl,l,L7,9,3,rfl,Mv,c1,by decide,by decide,by decide,λa x Rx H2 sz nf c2 Nh Ss tu=>?_⟩;refine⟨_,rfl,?_⟩;refine⟨_,rfl,_,_,rfl,rfl,⟨by decide,by decide⟩,_,_,rfl,rfl,(by show(0:Int)<4;decide),_,rfl,(by omega),(by omega),?_⟩;refine iw (λk σ H'=>H'=H2/\∃b y o4,σ=[some (.ref l),some (.int i),some (.ref a),some (.ref b),o4]/\Tu H2 b y/\y.size<=9/\y.nf<=3) ⟨rfl,a,x,_,rfl,tu,by omega,by omega⟩ (λk σ H' _ z=>?_) (λσ H' z=>?_)
 .obtain⟨rfl,b,y,o4,rfl,ty,sy,ny⟩:=z;obtain⟨us,e,ou⟩:=ty.parts;have ul:=ou.len;refine⟨_,rfl,_,_,rfl,.inr ⟨_,K6.of e,rfl⟩,_,_,rfl,rfl,_,rfl,cJ (λcc=>?_) (λ_=>?_)⟩
  .have cc:(1:Int)<((V.str y.word::us).length:Nat):=c8 cc;rw[j9,ul]at cc;have kp:0<y.kids.length:=by omega
   have lk:(((V.str y.word::us).length:Nat):Int)-1=(y.kids.length:Int):=by rw[j9,ul];omega
   have g0:=G9 (i/8) (show 0<(y.kids.length:Int) by omega);have g1:=Jl (i/8) (show 0<(y.kids.length:Int) by omega);have hj:∃v,us[((i/8).fmod (y.kids.length:Int)).toNat]?=some v:=⟨us[((i/8).fmod (y.kids.length:Int)).toNat]'(by omega),c6 (by omega)⟩;obtain⟨v,hv⟩:=hj;obtain⟨t',YC,b',rfl,tb⟩:=ou.get _ v hv;have tk:=p8 YC;have ks:=nX tk;have kn:=RB tk;refine⟨_,rfl,_,rfl,_,_,rfl,rfl,⟨by decide,by decide⟩,_,rfl,_,_,rfl,.inr ⟨_,K6.of e,rfl⟩,_,_,rfl,rfl,_,_,rfl,rfl,(by rw[lk];omega),_,_,rfl,rfl,_,_,_,_,rfl,rfl,K6.of e,?_,rfl,b',t',_,rfl,tb,by omega,by omega⟩;show Mi (V.str y.word::us) (1+(i/8).fmod ((((V.str y.word::us).length:Nat):Int)-1))=_;rw[lk,show(1:Int)+(i/8).fmod (y.kids.length:Int)=((((i/8).fmod (y.kids.length:Int)).toNat+1:Nat):Int) by omega];exact cC (by simpa using hv)
  .exact⟨rfl,b,y,_,rfl,ty,sy,ny⟩
 .obtain⟨rfl,b,y,o4,rfl,ty,sy,ny⟩:=z;exact k6 _ i a b x y _ tu (by omega) (by omega) ty sy ny
theorem rA:aB ["_law_tree","_law_n","_law_x","_law_y"] ["_law_tree","_law_n","_law_x","_law_y"] (au FK):=L2.fsc rfl (by decide+kernel)
theorem GH(T:aC K mg "_law_worth" FK)(fV:mg "int"=none)(Bn:Def P w K mg base 1 "_law_fold" ["_law_word","_law_n","_law_one","_law_other"] BF):∀k:Nat,Def P w K mg base (k+2) "_law_worth" ["_law_tree","_law_n","_law_x","_law_y"] (vD k):=by
 intro k
 induction k with
 | zero =>
  refine aP T rA ?_ ?_
  .walk_at "i1"
  .walk_at "i2";obtain⟨a,t,n,x,y,rfl,_,z,_⟩:=h;have:=t.size_pos;omega
 | succ k dJ =>
  refine aP T rA ?_ ?_
  .walk_at "i1"
  walk_at "i2";obtain⟨a,t,n,x,y,rfl,tu,hz,q⟩:=h;have nd:=rA.nd;refine⟨_,(ah (aS (aF lK (aD aA (pv 0) aq) (bj (aa aQ (aa aQ af))) rfl) (ao (av (aM bo (pv 1) (cR jD fV (aa (dO bS (aD aA (pv 0) aq) aQ (aH _)) af))))) aL)
  (ah (aS (aF lK (aD aA (pv 0) aq) (bj (aa aQ (aa aQ af))) rfl) (ao (av (aD bH (cf (aa (pv 2) (aa (pv 3) af))) (cR jD fV (aa (dO bS (aD aA (pv 0) aq) aQ (aH _)) af))))) aL)
  (ah (aS (aF bS (aD aA (pv 0) aq) aQ (aH _)) (ao (av (aM cD (pv 1) (aK dJ (aa (aD aA (pv 0) aq) (aa (pv 1) (aa (pv 2) (aa (pv 3) af)))))))) aL)
  (ao (av (aK Bn (aa (aD aA (pv 0) aq) (aa (pv 1) (aa (aK dJ (aa (aD aA (pv 0) aq) (aa (pv 1) (aa (pv 2) (aa (pv 3) af))))) (aa (aK dJ (aa (aD aA (pv 0) aq) (aa (pv 1) (aa (pv 2) (aa (pv 3) af))))) af)))))))))),?_⟩
  cases tu with
  | never e =>
   refine⟨_,rfl,_,_,_,_,rfl,rfl,K6.of e,rfl,(by show 2<=sizeLine;decide),λp hp=>⟨p,_,rfl,.inr (K6.of ae),rfl,rfl,_,rfl,kW UU ?_⟩⟩;have s0:=ak hp (.tup [V.str "never",.str "always"]);have dz:decide (V.str "never"=V.str "always")=false:=B7 (λz:V.str "never"=V.str "always"=>absurd (V.str.inj z) (by decide+kernel));refine⟨_,rfl,_,rfl,_,_,_,_,rfl,rfl,K6.of (s0 _ _ e),rfl,rfl,.inr ⟨_,rfl,_,_,rfl,rfl,(by rw[dz];exact fP (by decide+kernel)),?_⟩⟩;rw[dz];have z:n*(if false=true then 1 else 0)=Tr.worth n x y .never:=by show n*0=0;omega
   exact(show Q (V.int (n*(if false=true then 1 else 0))) _ from by rw[z];exact q _ s0)
  | always e =>
   refine⟨_,rfl,_,_,_,_,rfl,rfl,K6.of e,rfl,(by show 2<=sizeLine;decide),λp hp=>⟨p,_,rfl,.inr (K6.of ae),rfl,rfl,_,rfl,kW UW ?_⟩⟩;have s0:=ak hp (.tup [V.str "never",.str "always"]);have dz:decide (V.str "always"=V.str "always")=true:=e9 (rfl:V.str "always"=V.str "always");refine⟨_,rfl,_,rfl,_,_,_,_,rfl,rfl,K6.of (s0 _ _ e),rfl,rfl,.inr ⟨_,rfl,_,_,rfl,rfl,(by rw[dz];exact fP (by decide+kernel)),?_⟩⟩;rw[dz];have z:n*(if true=true then 1 else 0)=Tr.worth n x y .always:=by show n*1=n;omega
   exact(show Q (V.int (n*(if true=true then 1 else 0))) _ from by rw[z];exact q _ s0)
  | lp e =>
   refine⟨_,rfl,_,_,_,_,rfl,rfl,K6.of e,rfl,(by show 2<=sizeLine;decide),λp hp=>⟨p,_,rfl,.inr (K6.of ae),rfl,rfl,_,rfl,kX Yl ?_⟩⟩;have s0:=ak hp (.tup [V.str "never",.str "always"]);refine⟨_,rfl,_,_,_,_,rfl,rfl,K6.of (s0 _ _ e),rfl,(by show 2<=sizeLine;decide),λp1 LO=>⟨p1,_,rfl,.inr (K6.of ae),rfl,rfl,_,rfl,kW UH ?_⟩⟩;have s1:=s0.trans (ak LO (.tup [V.str "p",.str "q"]));refine⟨_,rfl,_,rfl,(by show 2<=sizeLine;decide),λl hl=>?_⟩;have s2:=s1.trans (ak hl (.lst [V.int x,.int y]));refine⟨_,rfl,_,_,_,_,rfl,rfl,K6.of (s2 _ _ e),rfl,rfl,.inr ⟨_,rfl,l,_,_,_,rfl,rfl,K7.of ae,?_,q _ s2⟩⟩;rw[B7 (λz:V.str "p"=V.str "q"=>absurd (V.str.inj z) (by decide+kernel))];rfl
  | lq e =>
   refine⟨_,rfl,_,_,_,_,rfl,rfl,K6.of e,rfl,(by show 2<=sizeLine;decide),λp hp=>⟨p,_,rfl,.inr (K6.of ae),rfl,rfl,_,rfl,kX Yk ?_⟩⟩;have s0:=ak hp (.tup [V.str "never",.str "always"]);refine⟨_,rfl,_,_,_,_,rfl,rfl,K6.of (s0 _ _ e),rfl,(by show 2<=sizeLine;decide),λp1 LO=>⟨p1,_,rfl,.inr (K6.of ae),rfl,rfl,_,rfl,kW UG ?_⟩⟩;have s1:=s0.trans (ak LO (.tup [V.str "p",.str "q"]));refine⟨_,rfl,_,rfl,(by show 2<=sizeLine;decide),λl hl=>?_⟩;have s2:=s1.trans (ak hl (.lst [V.int x,.int y]));refine⟨_,rfl,_,_,_,_,rfl,rfl,K6.of (s2 _ _ e),rfl,rfl,.inr ⟨_,rfl,l,_,_,_,rfl,rfl,K7.of ae,?_,q _ s2⟩⟩;rw[e9 (rfl:V.str "q"=V.str "q")];rfl
  | @no _ b t e tb =>
   have RN:t.size+1<=k+1:=hz;refine⟨_,rfl,_,_,_,_,rfl,rfl,K6.of e,rfl,(by show 2<=sizeLine;decide),λp hp=>⟨p,_,rfl,.inr (K6.of ae),rfl,rfl,_,rfl,kX Rt ?_⟩⟩;have s0:=ak hp (.tup [V.str "never",.str "always"]);refine⟨_,rfl,_,_,_,_,rfl,rfl,K6.of (s0 _ _ e),rfl,(by show 2<=sizeLine;decide),λp1 LO=>⟨p1,_,rfl,.inr (K6.of ae),rfl,rfl,_,rfl,kX Gn ?_⟩⟩;have s1:=s0.trans (ak LO (.tup [V.str "p",.str "q"]));refine⟨_,rfl,_,_,_,_,rfl,rfl,K6.of (s1 _ _ e),rfl,rfl,_,rfl,ite_yes rfl ?_⟩;refine⟨_,rfl,_,rfl,_,_,_,_,rfl,rfl,K6.of (s1 _ _ e),rfl,_,rfl,_,rfl,_,rfl,b,t,n,x,y,rfl,tb.to (Kp.of s1),by omega,λH2 s2=>⟨_,_,rfl,rfl,q _ (s1.trans s2)⟩⟩
  | @fold _ b d u t t' e tb td =>
   have RN:t.size+t'.size+1<=k+1:=hz;refine⟨_,rfl,_,_,_,_,rfl,rfl,K6.of e,rfl,(by show 2<=sizeLine;decide),λp hp=>⟨p,_,rfl,.inr (K6.of ae),rfl,rfl,_,rfl,kX (Yj u) ?_⟩⟩;have s0:=ak hp (.tup [V.str "never",.str "always"]);refine⟨_,rfl,_,_,_,_,rfl,rfl,K6.of (s0 _ _ e),rfl,(by show 2<=sizeLine;decide),λp1 LO=>⟨p1,_,rfl,.inr (K6.of ae),rfl,rfl,_,rfl,kX (UE u) ?_⟩⟩;have s1:=s0.trans (ak LO (.tup [V.str "p",.str "q"]));refine⟨_,rfl,_,_,_,_,rfl,rfl,K6.of (s1 _ _ e),rfl,rfl,_,rfl,ite_no (w_not u) ?_⟩;refine⟨_,rfl,_,_,_,_,rfl,rfl,K6.of (s1 _ _ e),rfl,_,rfl,_,rfl,_,_,_,_,rfl,rfl,K6.of (s1 _ _ e),rfl,_,rfl,_,rfl,_,rfl,b,t,n,x,y,rfl,tb.to (Kp.of s1),by omega,λH2 s2=>?_⟩;have LS:=s1.trans s2;refine⟨_,rfl,_,_,_,_,rfl,rfl,K6.of (LS _ _ e),rfl,_,rfl,_,rfl,_,rfl,d,t',n,x,y,rfl,td.to (Kp.of LS),by omega,λH3 s3=>?_⟩;exact⟨u,n,_,_,rfl,q _ (LS.trans s3)⟩
theorem qk(Nl:∀R:It->Hp->Prop,R (QA lo n) H->wi σ H R)(hx:n<=2^19)
  (hs:∀(i:Nat) H' N,i<n->aJ H H'->(∀La,aJ H' La->N (.bl true) La)->te (some (.int (lo+i))::bQ js σ) H' N)
  (hd:∀D H',aJ H H'->H' D=some (.lst ((List.replicate n true).map V.bl))->Q (.ref D) H'):iS wi ke te js σ H Q:=by
 refine Nl _ ?_;intro D hD;refine⟨λi m H'=>m=n-i/\i<=n/\aJ H H'/\H' D=some (.lst ((List.replicate i true).map V.bl)),⟨n,rfl,x4 _,ak hD _,ae⟩,?_⟩;rintro i m H2 ⟨rfl,hi,s2,eD⟩
 by_cases Le:i<n
 .refine .inr ⟨Le,λv H3 y=>?_⟩;obtain⟨eh,ev⟩:=y;subst eh ev;refine gU ?_;refine hs i _ _ Le s2 λH5 s5=>?_;refine⟨_,s5 _ _ eD,?_,n-(i+1),by omega,rfl,Le,aW (s2.trans s5) hD _,?_⟩
  .rw[i7,Jt];exact d8 (show i<=2^19 by omega) (by decide)
  .rw[ae,List.replicate_succ',l8];rfl
 .have ei:i=n:=by omega
  subst ei;exact .inl ⟨c5 _,hd D H2 s2 eD⟩
theorem CS(n:Nat):(List.replicate n true).all id=true:=by
 induction n with
 | zero=>rfl
 | succ n ih=>rw[List.replicate_succ,K4,ih];rfl
inductive vO(vs:List V)(H:Hp)(Q:VK)(E:XK):Prop
 | mk (a t) (n:Int):vs=[.ref a,.int n]->Tu H a t->t.size<=60->1<=n->n<2^18->((∀x y:Int,0<=x->x<=n->0<=y->y<=n->t.worth n x y=n))->(∀H',aJ H H'->Q (.bl true) H')->vO vs H Q E
theorem He(T:aC K mg "_law_all" vU)(cw:mg "range"=none)(iO:mg "all"=none)(dJ:Def P w K mg base 62 "_law_worth" ["_law_tree","_law_n","_law_x","_law_y"] (vD 60)):Def P w K mg base 63 "_law_all" ["_law_tree","_law_n"] vO:=by
 refine aP T xU ?_ ?_
 .walk_at "i1"
 walk_at "i2";obtain⟨a,t,n,rfl,tu,sz,n1,n2,kw,q⟩:=h;have nd:=xU.nd
 refine⟨_,(ah (dB x5 rfl (iu cw (aa (aM bW (pv 1) aq) af)) (aO (i:=2)) (ao (aS (fM (eB (aG (lx rfl) iO (aa (dC (iu cw (aa (aM bW (pv 1) aq) af)) (bY (j:=0) (bY (j:=1) (bY (j:=2) cE))) (λ_ _ _ _=>cM) (λ_ _ _ _=>(dO bS (aK dJ (aa (pv 1) (aa (pv 2) (aa (pv 3) (aa (pv 0) af))))) (pv 2) (aH _)))) af)))) (ao (av iJ)) aL)))
  (ao (av iJ))),?_⟩
 refine⟨_,rfl,_,_,rfl,rfl,_,rfl,by omega,by omega,?_⟩;refine iw (λi σ H'=>aJ H H'/\∃o2,σ=[some (.ref a),some (.int n),o2]) ⟨aJ.refl _,_,rfl⟩ (λi σ H' hi z=>?_) (λσ H' z=>?_)
 .obtain⟨s1,o2,rfl⟩:=z;dsimp only[kY,N7,Ub,tB,Nf,dZ];refine qk (lo:=0) (n:=(n+1).toNat) (λR h=>⟨_,rfl,_,_,rfl,rfl,_,rfl,by omega,by omega,h⟩) (by omega) (λj H2 N hj s2 hN=>?_) (λD H2 s2 eD=>?_)
  .refine⟨_,rfl,_,rfl,_,rfl,_,rfl,a,t,n,0+(i:Int),0+(j:Int),rfl,tu.to (Kp.of (s1.trans s2)),sz,λH3 s3=>?_⟩;refine⟨_,rfl,rfl,?_⟩;rw[show decide (V.int (t.worth n (0+(i:Int)) (0+(j:Int)))=V.int n)=true from e9 (x9 V.int (kw _ _ (by omega) (by omega) (by omega) (by omega)))];exact hN _ s3
  .refine⟨D,List.replicate (n+1).toNat true,rfl,K7.of eD,_,rfl,?_⟩;rw[CS];exact⟨s1.trans s2,_,rfl⟩
 .obtain⟨s1,o2,rfl⟩:=z;exact q _ s1
end Mine
namespace L2
open PySem PySem.Spec PyProof.Rows
section
variable{X:Cx}
noncomputable def Hg:V->Bool
 | .flt _=>false
 | .byt _=>false
 | _=>true
def XY(K:W.Frag)(neg:Bool):R2:=λx y H Q=>∃a b xs ys,x=.ref a/\y=.ref b/\K7 K H a xs/\K7 K H b ys/\((xs=ys/\(∀v∈xs,Hg v=true)/\Q (.bl (!neg)) H)\/(xs.length≠ys.length/\Q (.bl neg) H))
theorem Ii{A:Around}{s:Shared}(h:Hg v=true)(r:RelV v u)(r':RelV v u'):PySem.SeqAt.EqAt A s u u' true:=by
 cases v with
 | non=>cases(show u=Value.none from r);cases(show u'=Value.none from r');exact Ju _
 | bl b=>cases(show u=Value.bool b from r);cases(show u'=Value.bool b from r');exact Ju _
 | int i =>
  obtain⟨t,rfl⟩:=(show ∃t,u=Value.int i t from r);obtain⟨t',rfl⟩:=(show ∃t,u'=Value.int i t from r');have:=PySem.SeqAt.EqAt.int_int (A:=A) (s:=s) i t i t'
  rwa [F0]at this
 | str x =>
  obtain⟨t,rfl⟩:=(show ∃t,u=Value.str x t from r);obtain⟨t',rfl⟩:=(show ∃t,u'=Value.str x t from r');have:=PySem.SeqAt.EqAt.str_str (A:=A) (s:=s) x t x t'
  rwa [F0]at this
 | byt b=>cases h
 | flt b=>cases h
 | ref a=>cases(show u=Value.ref a from r);cases(show u'=Value.ref a from r');exact Ju _
 | ty n=>cases(show u=Value.type n from r);cases(show u'=Value.type n from r');exact Ju _
theorem Dp(h:∀v∈xs,Hg v=true)(r:Vals xs us)(r':Vals xs ws):∀j (h1:j<us.toArray.size) (h2:j<ws.toArray.size),PySem.SeqAt.EqAt A s us.toArray[j] ws.toArray[j] true:=by
 intro j h1 h2;have l1:=r.length;have M5:j<us.length:=by simpa using h1
 have hj:j<xs.length:=by omega
 obtain⟨u,e1,e2⟩:=r.get (c6 hj);obtain⟨u',e3,e4⟩:=r'.get (c6 hj)
 have e5:us.toArray[j]=u:=by
  obtain⟨_,z⟩:=d6.mp e1;simpa using z
 have e6:ws.toArray[j]=u':=by
  obtain⟨_,z⟩:=d6.mp e3;simpa using z
 rw[e5,e6];exact Ii (h _ (IX hj)) e2 e4
theorem all_true(n:Nat):(List.range n).all (λ_=>true)=true:=by
 rw[List.all_eq_true];exact λ_ _=>rfl
theorem GB(hu:X.A.units+64<cLine):Lm X (compareOp .Eq) (XY X.K false):=by
 intro K5 s σ H x y v u Q I rx ry h;obtain⟨a,b,xs,ys,rfl,rfl,ha,hb,q⟩:=h;cases(show v=Value.ref a from rx)
 cases(show u=Value.ref b from ry)
 obtain⟨us,ru,⟨o,n,ho,hc,_,hd⟩,_⟩:=I.list ha;obtain⟨ws,rw_,⟨o',n',Ml,L6,_,Vk⟩,_⟩:=I.list hb;have l1:s.heap.IsList a us.toArray:=⟨o,ho,hc,n,hd⟩;have l2:s.heap.IsList b ws.toArray:=⟨o',Ml,L6,n',Vk⟩;have n1:=ru.length;have n2:=rw_.length;rcases q with⟨rfl,hv,q⟩ | ⟨ne,q⟩
 .have z:=PySem.SeqAt.RcAt.lists (A:=X.A) (s:=s) (e:=λ_=>true) l1 l2 (by simp;omega) (by omega) (Dp hv ru rw_);rw[all_true]at z;exact z _ _ _ _ ⟨.bl true,H,I,rfl,q⟩
 .have z:=PySem.SeqAt.RcAt.lists_lengths (A:=X.A) (s:=s) l1 l2 (by simp;omega) (by omega);exact z _ _ _ _ ⟨.bl false,H,I,rfl,q⟩
end
end L2
namespace Mine
open PySem L2
variable{D CN:Addr}{X:Hu.Tc}{L:List (List T3)}{g:List T3}{p:T3}{n y:Int}
theorem Hu.ins_cor(T:Hu.oj h)(n3:3<=h.length)(hc:c∈h):Hu.Ins h c:=by
 obtain⟨j,hj,rfl⟩:=D7.mp hc;rw[<- Hu.cK hj];intro i hi
 by_cases e1:j=i
 .rw[e1,Hu.Io];exact D5 _
 by_cases e2:j=(i+1)%h.length
 .rw[e2,Hu.oh];exact Jz (by simp only[Hu.det];grind)
 exact y9 (Hu.sideS T n3 hi hj e1 e2)
structure Rg where
 h:List T3
 bs:List B4
def Rg.Ok(r:Rg):Prop:=(∀c∈r.h,ZL c)/\0<r.h.length/\r.h.length<=100/\∀q∈r.bs,q.R
def Rg.Col(r:Rg)(n x:Int):Prop:=(∃c∈r.h,M4 (c.v*n) c.u<=x)/\∃c∈r.h,x<=(c.v*n).fdiv c.u
def MY(K:W.Frag)(N:Addr->Prop)(H:Hp)(v:V)(r:Rg):Prop:=∃t l lb us ws,v=.ref t/\K6 K H t [.ref l,.ref lb]/\N l/\N lb/\H l=some (.lst us)/\DatAll K H (r.h.map K9) us/\H lb=some (.lst ws)/\DatAll K H (r.bs.map M7) ws
theorem MY.to(s:aJ H H')(g:MY K N H v r):MY K N H' v r:=by
 obtain⟨t,l,lb,us,ws,rfl,h1,h2,h3,h4,h5,h6,h7⟩:=g;exact⟨t,l,lb,us,ws,rfl,h1.ts s.ts,h2,h3,s _ _ h4,h5.ts s.ts,s _ _ h6,h7.ts s.ts⟩
theorem MY.mut(e:H D=some (.lst ws))(g:MY K (·≠D) H v r):MY K (·≠D) (upd H D (.lst zs)) v r:=by
 obtain⟨t,l,lb,us,ws,rfl,h1,h2,h3,h4,h5,h6,h7⟩:=g;have z:LY H (upd H D (.lst zs)):=dk e;exact⟨t,l,lb,us,ws,rfl,h1.ts z,h2,h3,by rw[az h2];exact h4,h5.ts z,by rw[az h3];exact h6,h7.ts z⟩
inductive BC(K:W.Frag)(vs:List V)(H:Hp)(Q:VK)(E:XK):Prop
 | mk (l us N rs) (n:Int):vs=[.ref l,.int n]->H l=some (.lst us)->cH (MY K N H) us rs->(∀r∈rs,r.Ok)->0<=n->n<2^32->((∀r∈rs,∀x y,0<=y->y<=n->Kept r.bs n x y->∀t H',aJ H H'->Dat K H' (K9 ⟨n,x,y⟩) (.ref t)->Q (.ref t) H'))->(((∀r∈rs,∀x y,r.Col n x->0<=y->y<=n->¬Kept r.bs n x y)->∀H',aJ H H'->Q .non H'))->BC K vs H Q E
noncomputable def L9(rows:List Hu.Row)(g:List T3):T3:=match Hu.run g rows []with
 | .rules rs=>rs.getLastD Hu.z0
 | _=>Hu.z0
noncomputable def V4(rows:List Hu.Row)(g:List T3):Bool:=g.any λc=>decide (Hu.tl (L9 rows g) c<c.u)
noncomputable def LN(rows:List Hu.Row)(L:List (List T3)):List Rg:=(L.filter (V4 rows)).map λg=>⟨g,za g (L9 rows g)⟩
inductive Ft(c:CCs)(K:W.Frag)(vs:List V)(H:Hp)(Q:VK)(E:XK):Prop
 | mk (x:Addr) (a:Tr):vs=[.ref x]->Ob c H x a->a.size<=60->a.nf<=8->(∀(D:Addr)(us:List V)(T:Hu.Tc)(L:List (List T3))(H':Hp),aJ H H'->H' D=some (.lst us)->cH (MY K (·≠D) H') us (LN (bu a) L)->(∀r∈LN (bu a) L,r.Ok)->T.Sm 8->T.told Hu.sqH=some L->(∀g∈L,∃rs,Hu.run g (bu a) []=.rules rs)->Q (.ref D) H')->Ft c K vs H Q E
structure Xq(rs:List Rg)(n x y:Int):Prop where
 n1:1<=n
 n2:n<2^18
 y0:0<=y
 y1:y<=n
 kp:∃r∈rs,Kept r.bs n x y
 no:∀m,1<=m->m<n->∀r∈rs,∀x y,r.Col m x->0<=y->y<=m->¬Kept r.bs m x y
inductive Fz(c:CCs)(K:W.Frag)(vs:List V)(H:Hp)(Q:VK)(E:XK):Prop
 | mk (x:Addr) (a:Tr):vs=[.ref x]->Ob c H x a->a.size<=60->a.nf<=8->(∀(T:Hu.Tc)(L:List (List T3)),T.Sm 8->T.told Hu.sqH=some L->(∀g∈L,∃rs,Hu.run g (bu a) []=.rules rs)->(LN (bu a) L=[]->∀H',aJ H H'->Q .non H')/\(∀(n x y:Int)(t p:Addr)(H':Hp),Xq (LN (bu a) L) n x y->aJ H H'->H' t=some (.tup [.int n,.ref p])->Dat K H' (K9 ⟨n,x,y⟩) (.ref p)->Q (.ref t) H'))->Fz c K vs H Q E
variable{P:Program}{w:World}{K:W.Frag}{mg:Str->Option Value}{base:Heap}{c:CCs}
theorem ok_sbl(T:aC K mg "step_below" jJ)(uk:Def P w K mg base 3 "step_within" ["hull","bounds","n"] (QT K)):Def P w K mg base 4 "step_below" ["regions","n"] (BC K):=by
 refine aP T lW ?_ ?_
 .walk_at "i1"
 walk_at "i2";obtain⟨l,us,N,rs,n,rfl,el,al,ok,n0,n1,q1,q2⟩:=h;have nd:=lW.nd;have ll:=al.len
 refine⟨_,(ah (dB x5 rfl (cq (pv 0)) (iH rfl (aX (aO (i:=2)) (aX (aO (i:=3)) di))) (ah (aI (i:=4) (aK uk (aa (pv 2) (aa (pv 3) (aa (pv 1) af)))))
  (ao (aS (aF wz (pv 4) bN (aH _)) (ao (av (pv 4))) aL))))
  (ao (av bN))),?_⟩
 refine⟨_,rfl,_,rfl,⟨us,K7.of el⟩,?_⟩;refine eM (xs:=us) (λi σ H'=>aJ H H'/\∃o2 o3 o4,σ=[some (.ref l),some (.int n),o2,o3,o4]/\∀r∈rs.take i,∀x y,r.Col n x->0<=y->y<=n->¬Kept r.bs n x y) ⟨aJ.refl _,_,_,_,rfl,λr hr=>by simp at hr⟩ (λi σ H' _ z=>K7.of (z.1 _ _ el)) (λi v σ H' hv z=>?_) (λσ H' z=>?_)
 .obtain⟨s1,o2,o3,o4,rfl,iv⟩:=z;obtain⟨r,hri,rv⟩:=al.get i v hv;have rm:=p8 hri;obtain⟨t,lh,lb,hs,ws,rfl,st,_,_,eh,dh,eb,db⟩:=rv.to s1;obtain⟨k1,k2,k3,k4⟩:=ok r rm;refine⟨t,_,rfl,st,rfl,_,_,rfl,_,_,rfl,rfl,?_⟩;refine⟨_,rfl,_,rfl,_,rfl,lh,lb,hs,ws,r.h,r.bs,n,rfl,eh,dh,k1,k2,k3,eb,db,k4,n0,n1,λx y y0 y1 k t2 H2 s2 d2=>?_,λno H2 s2=>?_⟩
  .refine⟨_,rfl,rfl,_,rfl,dH ?_⟩;exact⟨_,rfl,q1 r rm x y y0 y1 k t2 _ (s1.trans s2) d2⟩
  .refine⟨_,rfl,rfl,_,rfl,bL ?_⟩;refine⟨s1.trans s2,_,_,_,rfl,λr' MD=>?_⟩;rw[A2,hri]at MD;rcases j6.mp MD with z | z
   .exact iv r' z
   .rw[show r'=r by simpa using z];exact λx y cl=>no x y cl.1 cl.2
 .obtain⟨s1,o2,o3,o4,rfl,iv⟩:=z;rw[ll,z9]at iv;exact q2 iv _ s1
theorem Ey(h:0<xs.length):Mi xs (-1)=xs[xs.length-1]?:=by
 unfold Mi Qa;rw[d9 (by decide),d7 (by omega)];show xs[((-1:Int)+(xs.length:Nat)).toNat]?=_;congr 1;omega
theorem SB.ts{H H':Hp}{ws:List V}(e:SB (.ref D) H H')(h:H D=some (.lst ws)):LY H H':=by
 constructor
 .intro b xs hb;refine e b _ hb λz=>?_;cases z
  rw[h]at hb;cases hb
 .intro b o u hb;refine e b _ hb λz=>?_;cases z
  rw[h]at hb;cases hb
theorem Uy{rows:List Hu.Row}(sm:X.Sm 8)(dp:X.deep<=8)(eL:X.told Hu.sqH=some L)(hg:g∈L):(∀p∈g,Hu.R3 3000 p)/\(3<=g.length/\g.length<=12/\Hu.oj g)/\∀{r:T3},Hu.R3 100 r->Rg.Ok ⟨g,za g r⟩:=by
 obtain⟨hk,gl⟩:=Hu.Tc.gG (Hu.qU (by decide)) sm eL g hg;have cn:=Hu.Tc.told_cone Hu.iT (sm.mono (by decide)) eL g hg;have n3:=hk.n3;have gl:g.length<=4+X.deep:=gl;have Rr:∀p∈g,ZL p:=λp hp=>⟨(hk.ok p hp).n0,KW (hk.ok p hp).n1 (by decide),(Hu.ig (cn p hp)).1,(Hu.ig (cn p hp)).2.1⟩;refine⟨λp hp=>(hk.ok p hp).r.mono (by decide),⟨n3,by omega,hk.tri⟩,λ{r} br=>⟨Rr,by show 0<g.length;omega,by show g.length<=100;omega,λq hq=>?_⟩⟩;rcases j6.mp hq with z | z
 .obtain⟨i,_,rfl⟩:=x8.mp z;have h1:=hk.cok i;have h2:=hk.cok (i+1)
  have mb:∀{a b c d:Int},0<=a->a<2^18->0<=b->b<2^18->0<=c->c<2^18->0<=d->d<2^18->(a*b-c*d).natAbs<2^200:=λ{a b c d} a0 a1 b0 b1 c0 c1 d0 d1=>by
   have e1:=Int.mul_le_mul (y9 a1) (y9 b1) b0 (by decide);have e2:=Int.mul_le_mul (y9 c1) (y9 d1) d0 (by decide);have e3:=y8 a0 b0;have e4:=y8 c0 d0;exact i5 (show(a*b-c*d).natAbs<2^40 by omega) (by decide)
  have u1:=y9 h1.n0;have u2:=y9 h2.n0;exact⟨mb h1.y0 h1.y1 u2 h2.n1 u1 h1.n1 h2.y0 h2.y1,mb u1 h1.n1 h2.x0 h2.x1 h1.x0 h1.x1 u2 h2.n1,mb h1.x0 h1.x1 h2.y0 h2.y1 h1.y0 h1.y1 h2.x0 h2.x1,(by show(0:Int).natAbs<_;decide)⟩
 .rw[c9.mp z];have k:(2:Nat)^100+1<2^200:=by decide
  have ka:=br.a;have kb:=br.b;have kc:=br.c;refine⟨?_,?_,?_,?_⟩
  .show(-r.u).natAbs<_;omega
  .show(-r.v).natAbs<_;omega
  .show(1-r.w).natAbs<_;omega
  .show(1:Int).natAbs<_;decide
theorem ok_rbl(T:aC K mg "regions_below" hJ)(IG:mg "any"=none)(pM:Def P w K mg base 3 "rows_of" ["saying"] (qW c))(pO:Def P w K mg base 14 "cutting" ["saying"] (qC c K))(nq:xi P w K mg base 4 "hulls_of" ["tree"] (qB K CN))(ia:Def P w K mg base 4 "rules_of_rows" ["rows","hull"] (qA K))(pL:Def P w K mg base 1 "told_by" ["rule","point"] (vE K))(zt:Def P w K mg base 2 "bounds_of" ["hull","rule"] (zR K)):Def P w K mg base 16 "regions_below" ["saying"] (Ft c K):=by
 refine aP T jr ?_ ?_
 .walk_at "i1"
 walk_at "i2";obtain⟨x,a,rfl,oa,sz,n8,q⟩:=h;have nd:=jr.nd;have R:=sf a;have fd:=R.fd;have ln:=R.len
 refine⟨_,(ah (aI (i:=1) (aK pM (aa (pv 0) af)))
  (ah (aI (i:=2) (cf af))
  (ah (dB x5 rfl (cq (wu nq (hr.mono (by omega)) rfl (aa (aK pO (aa (pv 0) af)) af))) (aO (i:=3)) (ah (aI (i:=4) (aD bH (aD aA (aK ia (aa (pv 1) (aa (pv 3) af))) aq) (lZ gp aq)))
  (ao (aS (eB (aG (IB rfl) IG (aa (dC (cq (pv 3)) (bY (j:=4) cE) (λ_ _ _ _=>cM) (λ_ _ _ _=>(dO iK (aK pL (aa (pv 1) (aa (pv 0) af))) (aD (lN (K:=K) rfl) (pv 0) aq) (aH _)))) af))) (ao (bD (cO b9 i8 i9 bf (pv 2) (P5 (bj (aa (pv 3) (aa (aK zt (aa (pv 3) (aa (pv 4) af))) af))) af)))) aL))))
  (ao (av (pv 2)))))),?_⟩
 refine⟨_,rfl,x,a,rfl,oa,by omega,λlr rws H1 s1 Mu er alr=>?_⟩;refine⟨(by show 0<=sizeLine;decide),λD hD=>?_⟩;have uD:=ak hD (.lst []);have s1D:=s1.trans uD;have nr:lr≠D:=aE er hD;refine⟨_,rfl,x,a,rfl,oa.to (Kp.of s1D),sz,n8,λvt X H2 s2 dt sm dp cu gd=>?_⟩;obtain⟨L,eL,kL⟩:=gd;have kL:∀g∈L,∃rs,Hu.run g (bu a) []=.rules rs:=λg hg=>kL g hg _ v8;have O4:=s2 _ _ ae;refine⟨vt,X,rfl,dt,sm.mono (by decide),by omega,λnn=>absurd (eL.symm.trans nn) (λz=>by cases z),λL' NT l us H3 s3 hl el al=>?_⟩;rw[eL]at NT;cases NT
 have eD3:=s3 _ _ O4;have er3:=(s2.trans s3) _ _ (uD _ _ er);have nl:l≠D:=λz=>by rw[z,O4]at hl;cases hl
 have Xg:=(R.dat (K:=K) alr).ts (uD.trans (s2.trans s3)).ts;have lu:=al.len;refine⟨l,rfl,⟨us,K7.of el⟩,?_⟩;refine eM (xs:=us) (λi σ H'=>SB (.ref D) H3 H'/\∃ws o3 o4,σ=[some (.ref x),some (.ref lr),some (.ref D),o3,o4]/\H' D=some (.lst ws)/\cH (MY K (·≠D) H') ws (LN (bu a) (L.take i))/\∀r∈LN (bu a) (L.take i),r.Ok) ⟨SB.refl _ _,[],_,_,rfl,eD3,.nil,λr hr=>by simp[LN]at hr⟩ (λi σ H' _ z=>K7.of (z.1 _ _ el (λz=>nl (V.ref.inj z)))) (λi v σ H' hv z=>?_) (λσ H' z=>?_)
 .obtain⟨s4,ws,o3,o4,rfl,Su,aw,UM⟩:=z;obtain⟨g,WZ,ga,M6,rfl,⟨gn,_⟩,eg,dg⟩:=al.at hv;have gm:=p8 WZ;have ng:ga≠D:=λz=>by rw[z,O4]at gn;cases gn
  have ZX:=s4.ts eD3;have eg4:=s4 _ _ eg (λz=>ng (V.ref.inj z));have VX:=dg.ts ZX;obtain⟨rs,Vc⟩:=kL g gm;obtain⟨g1,g2,g3⟩:=Uy (rows:=bu a) sm dp eL gm;refine⟨_,rfl,_,rfl,lr,ga,rws,M6,bu a,g,rfl,s4 _ _ er3 (λz=>nr (V.ref.inj z)),Xg.ts ZX,R.ok,R.pos,by omega,eg4,VX,g1,by omega,by omega,λLM t lt tws H5 s5 ru rb rl f5 st e5 d5=>?_,λk tt t v H5 s5 mx=>?_⟩
  rotate_left
  .rw[Vc]at mx;cases mx
  rw[Vc]at ru;cases ru
  have rp:0<rs.length:=by have:=R.pos;omega
  have tl:=eT d5
  have LD:rs[rs.length-1]?=some (L9 (bu a) g):=by
   unfold L9;rw[Vc];show _=some (rs.getLastD Hu.z0);rw[Ks,JA,c6 (by omega)];rfl
  obtain⟨vr,hvr⟩:∃vr,tws[tws.length-1]?=some vr:=⟨_,c6 (by omega)⟩;obtain⟨r',MD,dr'⟩:=ky d5 hvr;rw[tl,LD]at MD;cases MD
  have br:Hu.R3 100 (L9 (bu a) g):=(rb _ _ LD).mono (by omega);refine⟨_,_,_,_,rfl,rfl,st,rfl,_,rfl,_,_,_,_,rfl,rfl,K7.of e5,(Ey (by omega)).trans hvr,?_⟩;have Xc:=s5 _ _ eg4;have ag:=qN (VX.ts s5.ts);have gl:=eT VX;dsimp only[kY,N7,tB,Nf,dZ,lQ];refine comp_map (K:=K) (xs:=M6) (ts:=g) (R:=λH v c=>Dat K H (K9 c) v/\Dat K H (K9 (L9 (bu a) g)) vr) (λc=>V.bl (decide (Hu.tl (L9 (bu a) g) c<c.u))) (λH H' v t s z=>⟨z.1.ts s.ts,z.2.ts s.ts⟩) (λl' H'=>l'=ga/\H'=H5) (λR k=>⟨_,rfl,ga,rfl,⟨_,K7.of Xc⟩,k ga H5 ⟨rfl,rfl⟩⟩) (λl' H' z=>by obtain⟨rfl,rfl⟩:=z;exact⟨Xc,aJ.refl _⟩) (by omega) (ag.imp λv c z=>⟨z,dr'⟩) (λv c H6 N hc rv hN=>?_) (λD6 H6 s6 hD6 e6=>?_)
  .obtain⟨dv,dr6⟩:=rv;obtain⟨ca,rfl,sc⟩:=cS dv;exact⟨_,rfl,_,rfl,_,_,_,_,rfl,dr6,dv,br.mono (by decide),g1 c hc,_,rfl,_,_,_,_,rfl,rfl,sc,cC (j:=0) rfl,_,_,rfl,rfl,hN _ (aJ.refl _)⟩
  have LK:=s5.trans s6;have tk:L.take (i+1)=L.take i++[g]:=by rw[A2,WZ];rfl
  have eb:(g.map λc=>decide (Hu.tl (L9 (bu a) g) c<c.u)).any id=V4 (bu a) g:=by unfold V4;rw[List.any_map];rfl
  refine⟨D6,g.map λc=>decide (Hu.tl (L9 (bu a) g) c<c.u),rfl,K7.of (by rw[e6,JM];rfl),_,rfl,?_⟩;rw[eb];refine cJ (λcc=>?_) (λcc=>?_)
  .have rg:LN (bu a) (L.take (i+1))=LN (bu a) (L.take i)++[⟨g,za g (L9 (bu a) g)⟩]:=by
    unfold LN;rw[tk,List.filter_append,l8,List.filter_cons,d7 cc];rfl
   have Zp:=LK _ _ Su;refine⟨_,rfl,.inl ⟨rfl,_,K7.of Zp⟩,?_⟩;refine⟨_,rfl,_,rfl,_,rfl,ga,vr,M6,g,L9 (bu a) g,rfl,s6 _ _ Xc,VX.ts LK.ts,dr'.ts s6.ts,g1,by omega,by omega,λlb bws H7 s7 nb eb7 db7=>?_⟩;refine⟨(by show 2<=sizeLine;decide),λt8 Yz=>?_⟩;have u8:=ak Yz (.tup [.ref ga,.ref lb]);have Uw:=s7.trans u8;have Xd:=Uw _ _ Zp;have nlb:lb≠D:=λz=>by rw[z,Zp]at nb;cases nb
   refine⟨D,ws,.ref t8,rfl,rfl,Xd,?_,?_⟩
   .have h1:=aw.len
    have h2:(LN (bu a) (L.take i)).length<=L.length:=by
     unfold LN;rw[i7];exact l7 (List.length_filter_le _ _) (by rw[G0];omega)
    have h3:=ir eL;exact d8 (show ws.length<=2^8 by omega) (by decide)
   have t9:LY (upd H7 t8 (.tup [.ref ga,.ref lb])) (upd (upd H7 t8 (.tup [.ref ga,.ref lb])) D (.lst (ws++[.ref t8]))):=dk Xd;refine⟨(s4.trans (SB.of (LK.trans Uw))).trans (jI _ _),ws++[.ref t8],_,_,rfl,ae,?_,?_⟩
   .rw[rg];refine cH.app ?_ (.cons (MY.mut Xd ⟨t8,ga,lb,M6,bws,rfl,K6.of ae,ng,nlb,(s6.trans Uw) _ _ Xc,VX.ts (LK.trans Uw).ts,u8 _ _ eb7,db7.ts u8.ts⟩) .nil);exact aw.imp λv r z=>MY.mut Xd (z.to (LK.trans Uw))
   .rw[rg];intro r hr;rcases j6.mp hr with z | z
    .exact UM r z
    .rw[c9.mp z];exact(g3 br)
  .have rg:LN (bu a) (L.take (i+1))=LN (bu a) (L.take i):=by
    unfold LN;rw[tk,List.filter_append,l8,List.filter_cons,d9 cc];simp
   refine⟨s4.trans (SB.of LK),ws,_,_,rfl,LK _ _ Su,?_,?_⟩
   .rw[rg];exact aw.imp λv r z=>z.to LK
   .rw[rg];exact UM
 .obtain⟨s4,ws,o3,o4,rfl,Su,aw,UM⟩:=z;rw[lu,z9]at aw UM;refine⟨_,rfl,q D ws X L _ ?_ Su aw UM sm eL kL⟩;intro b o hb;exact s4 _ _ ((s1D.trans (s2.trans s3)) _ _ hb) λz=>by cases z;rw[s1.free hD]at hb;cases hb
theorem FZ{rows:List Hu.Row}(sm:X.Sm 8)(eL:X.told Hu.sqH=some L)(ne:LN rows L≠[]):∃(N x y:Int)(r:Rg),r∈LN rows L/\1<=N/\N<2^18/\r.Col N x/\0<=y/\y<=N/\Kept r.bs N x y:=by
 obtain⟨r,hr⟩:=Kt _ ne;obtain⟨g,hg,rfl⟩:=x8.mp hr;obtain⟨gm,bl⟩:=Jo.mp hg;obtain⟨p,hp,lt⟩:=List.any_eq_true.mp bl;have lt:=c8 lt;obtain⟨hk,gl⟩:=Hu.Tc.gG (Hu.qU (by decide)) sm eL g gm;have cn:=Hu.ig (Hu.Tc.told_cone Hu.iT (sm.mono (by decide)) eL g gm p hp);have p0:=(hk.ok p hp).n0;refine⟨p.u,p.v,p.w,_,hr,by omega,(hk.ok p hp).n1,⟨⟨p,hp,(rY p0).mpr (Jz (G8 _ _))⟩,p,hp,?_⟩,cn.2.2.1,cn.2.2.2,(pH _ _ _ _ _).mpr ⟨Hu.ins_cor hk.tri hk.n3 hp,lt⟩⟩;rw[Int.mul_fdiv_cancel _ (by omega)];exact D5 _
theorem ok_fst(T:aC K mg "fewest_steps" iG)(qv:Def P w K mg base 16 "regions_below" ["saying"] (Ft c K))(oA:Def P w K mg base 4 "step_below" ["regions","n"] (BC K)):Def P w K mg base 17 "fewest_steps" ["saying"] (Fz c K):=by
 refine aP T kg ?_ ?_
 .walk_at "i1"
 walk_at "i2";obtain⟨x,a,rfl,oa,sz,n8,q⟩:=h;have nd:=kg.nd;have hu:=hr.units
 refine⟨_,(ah (aI (i:=1) (aK qv (aa (pv 0) af)))
  (ah (aS (aF (GB hu) (pv 1) (cf af) (aH _)) (ao (av bN)) aL)
  (ah (aI (i:=2) aq)
  (ah (aI (i:=3) (aK oA (aa (pv 1) (aa (pv 2) af))))
  (ah (jy x5 (aF ji (pv 3) bN (aH _)) (ah (Rh (i:=2) nd rfl (Or.inl rfl) aq RK)
  (ao (aI (i:=3) (aK oA (aa (pv 1) (aa (pv 2) af)))))))
  (ao (av (bj (aa (pv 2) (aa (pv 3) af)))))))))),?_⟩
 refine⟨_,rfl,x,a,rfl,oa,sz,n8,λD us X L H1 s1 eD al ok sm eL kL=>?_⟩;obtain⟨q1,q2⟩:=q X L sm eL kL;have ul:=al.len;have met:=FZ (rows:=bu a) sm eL;generalize LN (bu a) L=rs at *;refine⟨_,rfl,(by show 0<=sizeLine;decide),λp0 YK=>?_⟩;have u0:=ak YK (.lst []);refine⟨D,p0,us,[],rfl,rfl,K7.of (u0 _ _ eD),K7.of ae,?_⟩
 by_cases er:rs=[]
 .refine .inl ⟨?_,λv hv=>?_,_,rfl,dH (q1 er _ (s1.trans u0))⟩
  .subst er;exact E1 ul
  .subst er;rw[E1 ul]at hv;cases hv
 refine .inr ⟨?_,_,rfl,bL ?_⟩
 .rw[ul];intro z;exact er (E1 z)
 obtain⟨N,X0,Y0,r0,MC,N1,N2,col,Y1,Y2,kp⟩:=met er;have s1:=s1.trans u0;have eD:=u0 _ _ eD;have al:=al.imp λv r z=>MY.to u0 z
 have step:∀(n:Int)(H':Hp)(M:VK),1<=n->n<=N->aJ (upd H1 p0 (.lst [])) H'->(∀m,1<=m->m<n->∀r∈rs,∀x y,r.Col m x->0<=y->y<=m->¬Kept r.bs m x y)->
   (∀(v:V)(La:Hp),aJ (upd H1 p0 (.lst [])) La->((v=.non/\n<N/\∀m,1<=m->m<n+1->∀r∈rs,∀x y,r.Col m x->0<=y->y<=m->¬Kept r.bs m x y)\/∃t x y,v=.ref t/\Dat K La (K9 ⟨n,x,y⟩) v/\Xq rs n x y)->M v La)->BC K [.ref D,.int n] H' M E0:=λn H' M n1 nN s4 iv k=>by
  refine⟨D,us,_,rs,n,rfl,s4 _ _ eD,al.imp λv r z=>MY.to s4 z,ok,by omega,by omega,λr hr x y y0 y1 kk t H5 s5 d5=>?_,λno H5 s5=>?_⟩
  .exact k _ _ (s4.trans s5) (.inr ⟨t,x,y,rfl,d5,⟨n1,by omega,y0,y1,⟨r,hr,kk⟩,iv⟩⟩)
  .refine k _ _ (s4.trans s5) (.inl ⟨rfl,?_,λm m1 m2 r hr x y cl y0 y1=>?_⟩)
   .rcases A0 n N with z | z
    .exact z
    .have e:n=N:=by omega
     subst e;exact absurd kp (no r0 MC _ _ col Y1 Y2)
   .rcases A0 m n with z | z
    .exact iv m m1 z r hr x y cl y0 y1
    .have e:m=n:=by omega
     subst e;exact no r hr x y cl y0 y1
 refine⟨_,rfl,_,rfl,?_⟩;dsimp only[lQ,y7,w8];refine(step 1 _ _ (by omega) N1 (aJ.refl _) (λm m1 m2=>by omega) λv H4 s4 hv=>?_);refine⟨λm σ H'=>aJ (upd H1 p0 (.lst [])) H'/\∃(n:Int)(v:V),m=(N-n).toNat/\σ=[some (.ref x),some (.ref D),some (.int n),some v]/\1<=n/\n<=N/\((v=.non/\n<N/\∀m,1<=m->m<n+1->∀r∈rs,∀x y,r.Col m x->0<=y->y<=m->¬Kept r.bs m x y)\/∃t x y,v=.ref t/\Dat K H' (K9 ⟨n,x,y⟩) v/\Xq rs n x y),⟨_,s4,1,v,rfl,rfl,by omega,N1,hv⟩,?_⟩;rintro m σ H' ⟨s5,n,v,rfl,rfl,n1,nN,iv⟩
 refine⟨_,rfl,rfl,_,rfl,?_⟩;rcases iv with⟨rfl,lt,no⟩ | ⟨t,X1,Y3,rfl,d5,few⟩
 .refine dH ⟨_,λσ' H' z=>z,?_⟩;refine⟨_,rfl,_,_,rfl,rfl,_,rfl,_,rfl,?_⟩;dsimp only[lQ,y7,w8];refine(step (n+1) _ _ (by omega) (by omega) s5 no λv H6 s6 hv=>?_);exact⟨_,by omega,s6,n+1,v,rfl,rfl,by omega,by omega,hv⟩
 .refine bL ?_;refine⟨_,rfl,_,rfl,(by show 2<=sizeLine;decide),λt6 YA=>?_⟩;have u6:=ak YA (.tup [.int n,.ref t]);exact q2 n X1 Y3 t6 t _ few ((s1.trans s5).trans u6) ae (d5.ts u6.ts)
theorem rZ(ru:Hu.run g (bu a) []=.rules rs)(C:Hu.eS g p):a.worth p.u p.v p.w=Hu.tl (L9 (bu a) g) p:=by
 rcases(sf a).run g with⟨out,r,e,e1,e2⟩ | ⟨⟨k,x,e⟩,_⟩
 .have er:L9 (bu a) g=r:=by
   unfold L9;rw[e];show out.getLastD Hu.z0=r;rw[Ks,e1];rfl
  rw[er];exact jv C e2
 .rw[ru]at e;cases e
theorem Ga{a:Tr}{T:Hu.Tc}(sm:T.Sm 8)(eL:T.told Hu.sqH=some L)(kL:∀g∈L,∃rs,Hu.run g (bu a) []=.rules rs){r:Rg}(hr:r∈LN (bu a) L){x:Int}(k:Kept r.bs n x y):(0<=x/\x<=n)/\(0<=y/\y<=n)/\a.worth n x y<n:=by
 obtain⟨g,hg,rfl⟩:=x8.mp hr;have gm:=(Jo.mp hg).1;obtain⟨I,lt⟩:=(pH _ _ _ _ _).mp k;obtain⟨hk,gl⟩:=Hu.Tc.gG (Hu.qU (by decide)) sm eL g gm;have C:=Hu.sO hk.tri hk.n3 I;have cn:=Hu.Tc.told_cone Hu.iT (sm.mono (by decide)) eL g gm;have Cs:Hu.eS Hu.sqH ⟨n,x,y⟩:=λf hf=>C f λc hc=>cn c hc f hf;have sq:=Hu.ig Cs;obtain⟨rs,ru⟩:=kL g gm;have e:=rZ (p:=⟨n,x,y⟩) ru C;exact⟨⟨sq.1,sq.2.1⟩,⟨sq.2.2.1,sq.2.2.2⟩,by rw[show a.worth n x y=_ from e];exact lt⟩
theorem PZ{a:Tr}{T:Hu.Tc}(sm:T.Sm 8)(eL:T.told Hu.sqH=some L)(kL:∀g∈L,∃rs,Hu.run g (bu a) []=.rules rs){m x:Int}(m1:1<=m)(x0:0<=x)(x1:x<=m)(y0:0<=y)(y1:y<=m)(lt:a.worth m x y<m):∃r∈LN (bu a) L,r.Col m x/\Kept r.bs m x y:=by
 have Ng:T.Sm 64:=sm.mono (by decide);obtain⟨g,gm,I⟩:=Hu.cover Hu.iT Ng eL (Hu.Hx (p:=⟨m,x,y⟩) x0 x1 y0 y1);obtain⟨hk,gl⟩:=Hu.Tc.gG (Hu.qU (by decide)) sm eL g gm;have C:=Hu.sO hk.tri hk.n3 I;obtain⟨rs,ru⟩:=kL g gm;have e:a.worth m x y=_:=rZ (p:=⟨m,x,y⟩) ru C;rw[e]at lt;have n3:=hk.n3
 have bl:V4 (bu a) g=true:=by
  unfold V4;cases z:g.any λc=>decide (Hu.tl (L9 (bu a) g) c<c.u) with
  | true=>rfl
  | false =>
   exfalso;have z:=List.any_eq_false.mp z
   have h:=Hu.tD (a:=1) (b:=1) (r:=L9 (bu a) g) (λc hc=>by
    have:=z c hc;have:¬Hu.tl (L9 (bu a) g) c<c.u:=λy=>this (e9 y);omega) C
   rw[K3,Ku]at h;have h:m<=Hu.tl (L9 (bu a) g) ⟨m,x,y⟩:=h;omega
 have key:∀s:Int,(s=1\/s = -1)->∃c∈g,s*(c.v*m-c.u*x)<=0:=λs hs=>by
  rcases Classical.em (∃c∈g,s*(c.v*m-c.u*x)<=0) with z | z
  .exact z
  .exfalso
   have z:∀c∈g,1<=s*(c.v*m-c.u*x):=λc hc=>by
    rcases A0 0 (s*(c.v*m-c.u*x)) with y | y
    .omega
    .exact absurd ⟨c,hc,y⟩ z
   have ef:∀q:T3,Hu.tl ⟨2^18*s*m,0,-(2^18*s*x)-1⟩ q=2^18*(s*(q.v*m-q.u*x))-q.u:=λq=>by simp only[Hu.tl];grind
   have h:=C ⟨2^18*s*m,0,-(2^18*s*x)-1⟩ λc hc=>by
    rw[ef];have h1:=z c hc;have h2:c.u<2^18:=(hk.ok c hc).n1;omega
   rw[ef]at h;have e0:s*(x*m-m*x)=0:=by rw[G8 x m,Int.sub_self,Int.mul_zero]
   have h:0<=2^18*(s*(x*m-m*x))-m:=h;rw[e0]at h;omega
 refine⟨⟨g,za g (L9 (bu a) g)⟩,x8.mpr ⟨g,Jo.mpr ⟨gm,bl⟩,rfl⟩,⟨?_,?_⟩,(pH _ _ _ _ _).mpr ⟨I,lt⟩⟩
 .obtain⟨c,hc,z⟩:=key 1 (.inl rfl);refine⟨c,hc,(rY (hk.ok c hc).n0).mpr ?_⟩;omega
 .obtain⟨c,hc,z⟩:=key (-1) (.inr rfl);refine⟨c,hc,?_⟩;have u0:=(hk.ok c hc).n0;rw[F3 _ (y9 u0),JO u0,G8];omega
theorem BW{a:Tr}{T:Hu.Tc}(sm:T.Sm 8)(eL:T.told Hu.sqH=some L)(kL:∀g∈L,∃rs,Hu.run g (bu a) []=.rules rs):LN (bu a) L=[]↔∀m x y:Int,1<=m->0<=x->x<=m->0<=y->y<=m->a.worth m x y=m:=by
 constructor
 .intro e m x y m1 x0 x1 y0 y1;have bd:=ft (show 0<=m by omega) ⟨x0,x1⟩ ⟨y0,y1⟩ a;rcases A0 (a.worth m x y) m with z | z
  .obtain⟨r,hr,_⟩:=PZ sm eL kL m1 x0 x1 y0 y1 z;rw[e]at hr;cases hr
  .omega
 .intro h;rcases Classical.em (LN (bu a) L=[]) with z | z
  .exact z
  .exfalso;obtain⟨N,x,y,r,hr,N1,_,_,_,_,k⟩:=FZ sm eL z;obtain⟨⟨x0,x1⟩,⟨y0,y1⟩,lt⟩:=Ga sm eL kL hr k;have:=h N x y N1 x0 x1 y0 y1;omega
theorem vm{a:Tr}{T:Hu.Tc}(sm:T.Sm 8)(eL:T.told Hu.sqH=some L)(kL:∀g∈L,∃rs,Hu.run g (bu a) []=.rules rs){x:Int}(F:Xq (LN (bu a) L) n x y):(0<=x/\x<=n)/\(0<=y/\y<=n)/\a.worth n x y<n/\∀m x y:Int,1<=m->m<n->0<=x->x<=m->0<=y->y<=m->a.worth m x y=m:=by
 obtain⟨r,hr,k⟩:=F.kp;obtain⟨hx,hy,lt⟩:=Ga sm eL kL hr k;refine⟨hx,hy,lt,λm x y m1 mn x0 x1 y0 y1=>?_⟩;have bd:=ft (show 0<=m by omega) ⟨x0,x1⟩ ⟨y0,y1⟩ a;rcases A0 (a.worth m x y) m with z | z
 .obtain⟨r,hr,cl,k⟩:=PZ sm eL kL m1 x0 x1 y0 y1 z;exact absurd k (F.no m m1 mn r hr x y cl y0 y1)
 .omega
theorem TY{a:Tr}{T:Hu.Tc}(sm:T.Sm 64)(eL:T.told Hu.sqH=some L)(hg:g∈L)(hp:p∈g) :
  0<p.u/\(0<=p.v/\p.v<=p.u/\0<=p.w/\p.w<=p.u)/\Bg p.u/\Bg (a.worth p.u p.v p.w)/\Bg (WF a p).1/\Bg (WF a p).2/\0<(WF a p).2/\Lo.gc (WF a p).1 (WF a p).2=1/\(WF a p).1*p.u=a.worth p.u p.v p.w*(WF a p).2:=by
 have hk:=Hu.Tc.gG Hu.iT sm eL;have cn:=Hu.Tc.told_cone Hu.iT sm eL;have u0:=((hk g hg).1.ok p hp).n0;have bx:=Hu.ig (cn g hg p hp);have ub:Bg p.u:=dI ((hk g hg).1.ok p hp).r.a (by decide);obtain⟨v0,v1,w0,w1⟩:=bx;have b:=ft (n:=p.u) (x:=p.v) (y:=p.w) (by omega) ⟨v0,v1⟩ ⟨w0,w1⟩ a;have e:=Cn (w:=a.worth p.u p.v p.w) u0;exact⟨u0,⟨v0,v1,w0,w1⟩,ub,d8 (by omega) ub,d8 (Lo.Ck (by omega)) (d8 (by omega) ub),d8 (Lo.Cp (by omega)) ub,e.2,Lo.low_gc (by omega),e.1⟩
inductive vN(c:CCs)(K:W.Frag)(vs:List V)(H:Hp)(Q:VK)(E:XK):Prop
 | mk (x a):vs=[.ref x]->Ob c H x a->a.size<=60->a.nf<=8->((∀p vt T L H',aJ H H'->H' p=some (.tup [.str "always",vt])->Dat K H' (Lp T) vt->T.Sm 8->T.deep<=8->T.iR+1<=2^8->T.told Hu.sqH=some L->(∀g∈L,∃rs,Hu.run g (bu a) []=.rules rs)->(∀m x y:Int,1<=m->0<=x->x<=m->0<=y->y<=m->a.worth m x y=m)->Q (.ref p) H'))->(∀p vp pt H',aJ H H'->H' p=some (.tup [.str "less",vp])->Dat K H' (K9 pt) vp->0<pt.u->(0<=pt.v/\pt.v<=pt.u)->(0<=pt.w/\pt.w<=pt.u)->a.worth pt.u pt.v pt.w<pt.u->Q (.ref p) H')->vN c K vs H Q E
theorem HZ(h:NZ K H v f):Dat K H (OY f.1 f.2) v:=by
 obtain⟨a,rfl,s⟩:=h;exact⟨a,_,rfl,s,_,_,rfl,rfl,_,_,rfl,rfl,rfl⟩
theorem Hd(T:aC K mg "always" rW)(xf:ff K mg "WHOLE" [1,1])(uo:Def P w K mg base 16 "least_worth" ["saying"] (QW c K)):Def P w K mg base 17 "always" ["saying"] (vN c K):=by
 refine aP T uS ?_ ?_
 .walk_at "i1"
 walk_at "i2";obtain⟨x,a,rfl,oa,sz,n8,q1,q2⟩:=h;have nd:=uS.nd;have hu:=hr.units;obtain⟨aWH,Pq,sWH⟩:=xf.ex
 refine⟨_,(ah (aI (i:=1) (aK uo (aa (pv 0) af)))
  (ah (aS (aF (GC hu) (aD aA (pv 1) aq) (cV (v:=V.ref aWH) rfl Pq rfl) (aH _)) (ao (av (bj (aa aQ (aa (aD aA (pv 1) aq) af))))) aL)
  (ao (av (bj (aa aQ (aa (aD aA (pv 1) aq) af))))))),?_⟩
 refine⟨_,rfl,x,a,rfl,oa,sz,n8,λp vl vp vt pt T L H1 s1 ep fvl NV dT XI dp cu eL kL Tt To=>?_⟩;obtain⟨g,hg,YJ⟩:=Tt;obtain⟨u0,bx,ub,wb,b1,b2,f0,g1,eq1⟩:=TY (a:=a) (XI.mono (by decide)) eL hg YJ;have wbd:=ft (n:=pt.u) (x:=pt.v) (y:=pt.w) (by omega) ⟨bx.1,bx.2.1⟩ ⟨bx.2.2.1,bx.2.2.2⟩ a;refine⟨_,rfl,_,_,_,_,rfl,rfl,K6.of ep,rfl,_,_,.inl (HZ fvl),.inl (HZ (f:=(1,1)) ⟨aWH,rfl,sWH _⟩),vk _ _,vk _ _,_,rfl,?_⟩;rw[Sj];refine cJ (λcc=>?_) (λcc=>?_)
 .have cc:=c8 cc;refine⟨_,rfl,_,_,_,_,rfl,rfl,K6.of ep,rfl,(by show 2<=sizeLine;decide),λp2 h2=>?_⟩;have u2:=ak h2 (.tup [.str "always",vt]);refine q1 p2 vt T L _ (s1.trans u2) ae (dT.ts u2.ts) XI dp cu eL kL ((BW XI eL kL).mp ?_);rcases Classical.em (LN (bu a) L=[]) with z | z
  .exact z
  .exfalso;obtain⟨r,hr⟩:=Kt _ z;obtain⟨g',YX,rfl⟩:=x8.mp hr;obtain⟨gm,bl⟩:=Jo.mp YX;obtain⟨c',L6,lt⟩:=List.any_eq_true.mp bl;have lt:=c8 lt;obtain⟨rs,ru⟩:=kL g' gm;rw[<- rZ ru (Hu.eO L6)]at lt;have k:=To g' gm c' L6;rw[cc.1,cc.2]at k;omega
 .have cc:¬((WF a pt).1=1/\(WF a pt).2=1):=λz=>cc (e9 z);refine⟨_,rfl,_,_,_,_,rfl,rfl,K6.of ep,rfl,(by show 2<=sizeLine;decide),λp2 h2=>?_⟩;have u2:=ak h2 (.tup [.str "less",vp]);refine q2 p2 vp pt _ (s1.trans u2) ae (NV.ts u2.ts) u0 ⟨bx.1,bx.2.1⟩ ⟨bx.2.2.1,bx.2.2.2⟩ ?_;rcases A0 (a.worth pt.u pt.v pt.w) pt.u with z | z
  .exact z
  .exfalso;have ew:a.worth pt.u pt.v pt.w=pt.u:=by omega
   rw[ew,G8 pt.u]at eq1;have e12:(WF a pt).1=(WF a pt).2:=Kl (by omega) eq1;rw[e12]at g1
   have:Lo.gc (WF a pt).2 (WF a pt).2=(WF a pt).2:=by
    have h1:=Lo.eJ (WF a pt).2 (WF a pt).2;have h2:(WF a pt).2∣Lo.gc (WF a pt).2 (WF a pt).2:=Int.dvd_coe_gcd (Int.dvd_refl _) (Int.dvd_refl _);exact Int.dvd_antisymm (Lo.pF _ _) (by omega) h1 h2
   exact cc ⟨by omega,by omega⟩
theorem oK:aB rS ["_law_cells","_law_room","_law_two"] (au lE):=L2.fsc rfl (by decide+kernel)
theorem DB(T:aC K mg "_law_saying" lE)(fV:mg "int"=none)(gF:Def P w K mg base 1 "_law_next" ["_law_cells"] vG):∀n:Nat,Def P w K mg base (n+2) "_law_saying" ["_law_cells","_law_room","_law_two"] (xD n):=by
 intro n
 induction n with
 | zero =>
  refine aP T oK ?_ ?_
  .walk_at "i1"
  .walk_at "i2";obtain⟨l,ms,r,b,rfl,_,_,z1,z2,_⟩:=h;have:(r:Int)<=((0:Nat):Int):=z2;omega
 | succ n gf =>
  refine aP T oK ?_ ?_
  .walk_at "i1"
  walk_at "i2";obtain⟨l,ms,r,b,rfl,e,hc,r1,r2,q⟩:=h;have nd:=oK.nd;have r2':r<=(n:Int)+1:=by exact_mod_cast r2
  have T8:∃t,Lr (cN CX0 P w K mg base rS "_law_saying" (au lE) f cdv A outer s H E).nox ((bA lE).drop 4) t/\∀(i:Int)(L7:List Int)(H1:Hp),(∀m∈L7,Me m)->SB (.ref l) H H1->H1 l=some (.lst (L7.map V.int))->
    t {nx:=λ_ H'=>Q .non H',rt:=Q} [some (.ref l),some (.int r),some (.bl b),some (.int i),some (.int (i/16)),none,none,none] H1:=by
   refine⟨_,(ah (aS (aF kh (aM dE (pv 4) aq) aq (aH _)) (ao (av (bj (aa (aD aA (bj (aa aQ (aa aQ af))) (aM cD (aM dE (pv 4) aq) aq)) af)))) aL)
  (ao (av (bj (aa (aD aA (bj (aa aQ (aa aQ af))) (aM bo (aM dE (pv 4) aq) (cR jD fV (aa (pv 2) af)))) af))))),?_⟩
   intro i L7 H1 OW M3 e1
   have fin:∀(p p2:Addr)(xs:List V)(x:Str)(t:Tr),t.size=1->H1 p=none->upd H1 p (.tup xs) p2=none->Tu (upd (upd H1 p (.tup xs)) p2 (.tup [V.str x])) p2 t->Q (.ref p2) (upd (upd H1 p (.tup xs)) p2 (.tup [V.str x])):=λp p2 xs x t ht hp Lk tu=>by
    have s1:=ak hp (.tup xs);have s2:=ak Lk (.tup [V.str x]);exact q p2 t L7 _ (by rw[ht];exact r1) OW (M3.trans (SB.of (s1.trans s2))) (s2 _ _ (s1 _ _ e1)) tu
   refine⟨_,rfl,_,_,rfl,rfl,(show(0:Int)<9 by decide),_,_,rfl,rfl,_,rfl,?_⟩;refine cJ (λg=>?_) (λg=>?_)
   .have g1:6<i/16%9:=c8 g;have g2:i/16%9<9:=E9 _ (by decide);refine⟨(by show 2<=sizeLine;decide),λp hp=>?_⟩;obtain⟨z,hz,Yw⟩:=two_at (x:=V.str "never") (y:=V.str "always") (i/16%9-7) (by omega);refine⟨_,rfl,_,_,rfl,rfl,(show(0:Int)<9 by decide),_,_,rfl,rfl,_,_,_,_,rfl,rfl,K6.of ae,hz,(by show 1<=sizeLine;decide),λp2 Lk=>?_⟩;rcases Yw with rfl | rfl
    .exact fin p p2 _ _ .never rfl hp Lk (.never ae)
    .exact fin p p2 _ _ .always rfl hp Lk (.always ae)
   .have g2:i/16%2<2:=E9 _ (by decide);have g3:0<=i/16%2:=Jc _ (by decide);refine⟨(by show 2<=sizeLine;decide),λp hp=>?_⟩;have hi:i/16%2*(if b then 1 else 0)=0\/i/16%2*(if b then 1 else 0)=1:=by cases b<;>simp<;>omega
    obtain⟨z,hz,Yw⟩:=two_at (x:=V.str "p") (y:=V.str "q") (i/16%2*(if b then 1 else 0)) hi;refine⟨_,rfl,_,_,rfl,rfl,(show(0:Int)<2 by decide),_,rfl,.inr ⟨b,rfl,_,_,rfl,rfl,fP (by cases b<;>decide+kernel),_,_,_,_,rfl,rfl,K6.of ae,hz,(by show 1<=sizeLine;decide),λp2 Lk=>?_⟩⟩;rcases Yw with rfl | rfl
    .exact fin p p2 _ _ .lp rfl hp Lk (.lp ae)
    .exact fin p p2 _ _ .lq rfl hp Lk (.lq ae)
  obtain⟨t4,RO,Ts⟩:=T8
  have tail3:∃t,Lr (cN CX0 P w K mg base rS "_law_saying" (au lE) f cdv A outer s H E).nox ((bA lE).drop 3) t/\∀(i:Int)(L7:List Int)(H1:Hp),(∀m∈L7,Me m)->SB (.ref l) H H1->H1 l=some (.lst (L7.map V.int))->
    t {nx:=λ_ H'=>Q .non H',rt:=Q} [some (.ref l),some (.int r),some (.bl b),some (.int i),some (.int (i/16)),none,none,none] H1:=by
   refine⟨_,ah (aS (PW.pt (Ab (aF kh (pv 1) aq (aH _)) (wk (aF iK (aM dE (pv 3) aq) aq (aH _))))) (ao (av (bj (aa aQ (aa (aK gf (aa (pv 0) (aa (aM cD (pv 1) aq) (aa (pv 2) af)))) af))))) aL) RO,?_⟩;intro i L7 H1 OW M3 e1;refine⟨_,rfl,_,_,rfl,rfl,_,rfl,?_⟩;refine cJ (λg=>?_) (λg=>?_)
   .have g1:1<r:=c8 g;refine⟨_,rfl,_,_,rfl,rfl,(show(0:Int)<16 by decide),_,_,rfl,rfl,_,rfl,?_⟩;refine cJ (λg'=>?_) (λg'=>Ts i L7 H1 OW M3 e1);refine⟨_,rfl,_,rfl,_,_,rfl,rfl,_,rfl,l,L7,r-1,b,rfl,e1,OW,by omega,by omega,λa1 t1 Rx H2 z1 Qg Nh e2 tu=>?_⟩;refine⟨(by show 2<=sizeLine;decide),λp hp=>?_⟩;have s3:=ak hp (.tup [V.str "not",.ref a1]);exact q p (.no t1) Rx _ (by show((t1.size+1:Nat):Int)<=r;omega) Qg ((M3.trans Nh).trans (SB.of s3)) (s3 _ _ e2) (.no ae (tu.to (Kp.of s3)))
   .exact bL (Ts i L7 H1 OW M3 e1)
  obtain⟨t3,Va,Qd⟩:=tail3;refine⟨_,ah (aI (i:=3) (aK gF (aa (pv 0) af))) (ah (aI (i:=4) (aM gQ (pv 3) aq)) (ah (aS (PW.pt (Ab (aF kh (pv 1) aq (aH _)) (wk (aF kh (aM dE (pv 3) aq) aq (aH _))))) (ah (aI (i:=5) (aM bW aq (aM dE (aM gQ (pv 4) aq) (aM cD (pv 1) aq))))
  (ah (aI (i:=6) (aK gf (aa (pv 0) (aa (pv 5) (aa (pv 2) af)))))
  (ah (aI (i:=7) (aD aA (bj (aa aQ (aa aQ (aa aQ (aa aQ (aa aQ af)))))) (aM dE (pv 4) aq)))
  (ao (av (bj (aa (pv 7) (aa (pv 6) (aa (aK gf (aa (pv 0) (aa (aM cD (aM cD (pv 1) aq) (pv 5)) (aa (pv 2) af)))) af))))))))) aL) Va)),?_⟩
  refine⟨_,rfl,l,ms,rfl,e,hc,λi L7 H1 ci OW M3 e1=>?_⟩;refine⟨_,rfl,_,_,rfl,rfl,⟨by decide,by decide⟩,?_⟩;refine⟨_,rfl,_,_,rfl,rfl,_,rfl,?_⟩;refine cJ (λg=>?_) (λg=>bL (Qd i L7 H1 OW M3 e1));have g1:2<r:=c8 g;refine⟨_,rfl,_,_,rfl,rfl,(show(0:Int)<16 by decide),_,_,rfl,rfl,_,rfl,?_⟩;refine cJ (λg'=>?_) (λg'=>Qd i L7 H1 OW M3 e1);have b1:0<=i/16/5%(r-2):=Jc _ (by omega);have b2:i/16/5%(r-2)<r-2:=E9 _ (by omega);refine⟨_,rfl,_,_,rfl,rfl,⟨by decide,by decide⟩,_,rfl,_,_,rfl,rfl,_,_,rfl,rfl,(show(0:Int)<r-2 by omega),_,_,rfl,rfl,?_⟩;refine⟨_,rfl,_,rfl,_,rfl,l,L7,_,b,rfl,e1,OW,by omega,by omega,λa1 x1 Rx H2 z1 Qg Nh e2 Wz=>?_⟩;refine⟨(by show 5<=sizeLine;decide),λp hp=>?_⟩;obtain⟨u,hu⟩:=N3 (i/16%5) (Jc _ (by decide)) (E9 _ (by decide));refine⟨_,rfl,_,_,rfl,rfl,(show(0:Int)<5 by decide),_,_,_,_,rfl,rfl,K6.of ae,hu,?_⟩;have s2:=ak hp (.tup [V.str "more",.str "less",.str "greater",.str "lesser",.str "leads"]);refine⟨_,rfl,_,rfl,_,rfl,_,rfl,_,_,rfl,rfl,_,rfl,_,_,rfl,rfl,_,rfl,l,Rx,_,b,rfl,s2 _ _ e2,Qg,by omega,by omega,λa2 x2 ms3 H3 z2 hc3 WH e3 tu2=>?_⟩;refine⟨(by show 3<=sizeLine;decide),λp2 Lk=>?_⟩;have s4:=ak Lk (.tup [V.str u.str,.ref a1,.ref a2]);have k3:Kp (upd H2 p (.tup [V.str "more",.str "less",.str "greater",.str "lesser",.str "leads"])) H3:=WH.kp (Rz (s2 _ _ e2));exact q p2 (.fold u x1 x2) ms3 _ (by show((x1.size+x2.size+1:Nat):Int)<=r;omega) hc3 ((((M3.trans Nh).trans (SB.of s2)).trans WH).trans (SB.of s4)) (s4 _ _ e3) (.fold ae (Wz.to (((Kp.of s2).trans k3).trans (Kp.of s4))) (tu2.to (Kp.of s4)))
theorem FP(ru:Hu.run g (bu t) []=.rules rs):∀r,rs.getLast?=some r->∀c∈g,t.worth c.u c.v c.w=Hu.tl r c:=λr hr c hc=>by
 rcases(sf t).run g with⟨out,r',e,e1,e2⟩ | ⟨⟨k,x,e⟩,_⟩
 .rw[ru]at e;cases e
  rw[hr]at e1;cases e1
  exact jv (Hu.eO hc) e2
 .rw[ru]at e;cases e
noncomputable abbrev AB:List Str:=["_law_script","_law_tree","_law_rows","_law_least_here","_law_saying_here","_law_found","_law_steps","_law_n","_law_x","_law_y"]
theorem xP:aB AB ["_law_script"] (au rV):=L2.fsc rfl (by decide+kernel)
theorem ok_law{f:Addr}{fd:FuncData}(F:NY K "law" "law" rV f fd)(cw:mg "range"=none)(iO:mg "all"=none)(aR:mg "isinstance"=none)(bB:mg "tuple"=none)(bG:mg "len"=none)(zp:Def P w K mg base 1 "_law_mixed" ["_law_script","_law_least_here"] (BE K))(xk:Def P w K mg base 64 "_law_drawn" ["_law_cells"] oH)
  (iQ:Def P w K mg base 61 "_law_rows_to" ["_law_tree","_law_rows"] (zM K 60))(lA:Def P w K mg base 13 "_law_least" ["_law_rows","_law_hull"] (qY K 9))(gh:Def P w K mg base 63 "_law_object" ["_law_tree"] (zN c 60))(IT:Def P w K mg base 17 "always" ["saying"] (vN c K))(tR:Def P w K mg base 17 "fewest_steps" ["saying"] (Fz c K))
  (D__law_holds : Def P w K mg base 14 "_law_holds" ["_law_tree", "_law_rows", "_law_top", "_law_bottom"] (rh K))(kj : Def P w K mg base 2 "_law_is_point" ["_law_found"] (Fy K))(gY : Def P w K mg base 1 "_law_whole" ["_law_found"] nG)(dJ : Def P w K mg base 62 "_law_worth" ["_law_tree", "_law_n", "_law_x", "_law_y"] (vD 60))(Br : Def P w K mg base 63 "_law_all" ["_law_tree", "_law_n"] vO) : oz P w K mg base CX0 80 f fd ["_law_script"] (spLaw K) := by
 refine F.ok xP ?_ ?_
 .walk_at "i1"
 walk_at "i3";obtain⟨a,ns,rfl,S,q⟩:=h;have nd:=xP.nd;have d3:(3:Nat)<=sizeLine:=by decide
 have t9:∃t,ow (cN CX0 P w K mg base AB "law" (au rV) f cdv A outer s H E).nox ((bA rV).drop 9) t/\∀(o2 o3 o4:Option V)(ta p5 p6 q6:Addr)(x:Tr)(pt:T3)(vp:V)(n n1 n2:Int)(H1:Hp),Tu H1 ta x->x.size<=60->H1 p5=some (.tup [.str "less",vp])->Dat K H1 (K9 pt) vp->0<pt.u->(0<=pt.v/\pt.v<=pt.u)->(0<=pt.w/\pt.w<=pt.u)->x.worth pt.u pt.v pt.w<pt.u->
   H1 p6=some (.tup [.int n,.ref q6])->Dat K H1 (K9 ⟨n,n1,n2⟩) (.ref q6)->1<=n->n<2^18->(0<=n1/\n1<=n)->(0<=n2/\n2<=n)->x.worth n n1 n2<n->(∀m x' y:Int,1<=m->m<n->0<=x'->x'<=m->0<=y->y<=m->x.worth m x' y=m)->
   t {nx:=λ_ H'=>Q .non H',rt:=Q} [some (.ref a),some (.ref ta),o2,o3,o4,some (.ref p5),some (.ref p6),none,none,none] H1:=by
  refine⟨_,aU ⟨(aS (PW.pt (gW (aF ma (aD aA (pv 5) aq) aQ (aH _)) (hZ (fM (eB (aK kj (aa (aD aA (pv 5) aq) af))))))) (ao (av iJ)) aL)⟩ (aU ⟨(sk (aD aA (pv 5) aq) (iH rfl (aX (aO (i:=7)) (aX (aO (i:=8)) (aX (aO (i:=9)) di)))))⟩ (aU ⟨(aS (PW.pt (gW (aF qf (aK dJ (aa (pv 1) (aa (pv 7) (aa (pv 8) (aa (pv 9) af))))) (pv 7) (aH _)) (gW (fM (eB (aG iA aR (aa (pv 6) (aa (gP (v:=V.ty "tuple") rfl bB (by decide+kernel) rfl) af))))) (hZ (aF ma (aG bJ bG (aa (pv 6) af)) aq (aH _)))))) (ao (av iJ)) aL)⟩ (aU ⟨(aS (PW.pt (gW (fM (eB (aK kj (aa (aD aA (pv 6) aq) af)))) (gW (fM (eB (aK gY (aa (aD aA (pv 6) aq) af)))) (hZ (aF ma (aD aA (aD aA (pv 6) aq) aq) (aD aA (pv 6) aq) (aH _)))))) (ao (av iJ)) aL)⟩ (aU ⟨(sk (aD aA (pv 6) aq) (iH rfl (aX (aO (i:=7)) (aX (aO (i:=8)) (aX (aO (i:=9)) di)))))⟩ (gR ⟨(av (jh (dO iK (aK dJ (aa (pv 1) (aa (pv 7) (aa (pv 8) (aa (pv 9) af))))) (pv 7) (aH _)) (mQ (aG (lx rfl) iO (aa (dC (uW cw (fi (aa (pv 7) af))) (bY (j:=1) cE) (λ_ _ _ _=>cM) (λ_ _ _ _=>(aK Br (aa (pv 1) (aa (pv 0) af))))) af)))))⟩))))),?_⟩;intro o2 o3 o4 ta p5 p6 q6 x pt vp n n1 n2 H1 tu sz e5 NV u0 bv bw lt e6 dq m1 m2 bn1 bn2 ltn kf;refine⟨_,rfl,_,_,_,_,rfl,rfl,K6.of e5,rfl,rfl,_,rfl,bL ?_⟩;refine⟨_,rfl,_,_,_,_,rfl,rfl,K6.of e5,rfl,vp,pt,rfl,NV,u0,bv.1,bv.2,bw.1,bw.2,λH2 s2=>⟨_,rfl,bL ?_⟩⟩;obtain⟨pa,rfl,sp⟩:=cS NV;refine⟨_,rfl,_,_,_,_,rfl,rfl,K6.of (s2 _ _ e5),rfl,pa,_,rfl,sp.ts s2.ts,rfl,_,_,rfl,_,_,rfl,_,_,rfl,rfl,?_⟩;refine⟨_,rfl,_,rfl,_,rfl,_,rfl,ta,x,pt.u,pt.v,pt.w,rfl,tu.to (Kp.of s2),sz,λH3 s3=>?_⟩;refine⟨_,rfl,_,_,rfl,rfl,_,rfl,cJ (λcc=>?_) (λ_=>?_)⟩
  .have cc:x.worth pt.u pt.v pt.w>=pt.u:=c8 cc;omega
  have Oe:=s2.trans s3;have Xf:=Oe _ _ e6;refine⟨_,rfl,p6,_,_,_,true,rfl,(λ_ h=>h),K6.of Xf,fQ,_,rfl,bL ?_⟩;refine⟨_,rfl,_,_,rfl,.inr ⟨_,K6.of Xf,rfl⟩,rfl,_,rfl,bL ?_⟩;refine⟨_,rfl,_,_,_,_,rfl,rfl,K6.of Xf,rfl,_,⟨n,n1,n2⟩,rfl,dq.ts Oe.ts,(by show 0<n;omega),bn1.1,bn1.2,bn2.1,bn2.2,λH4 s4=>⟨_,rfl,bL ?_⟩⟩;have MU:=Oe.trans s4;have Xe:=s4 _ _ Xf;obtain⟨qa,eq,sq⟩:=cS dq;cases eq
  have Z5:=sq.ts MU.ts;refine⟨_,rfl,_,_,_,_,rfl,rfl,K6.of Xe,rfl,n,rfl,_,rfl,bL ?_⟩;refine⟨_,rfl,_,_,_,_,rfl,rfl,K6.of Xe,rfl,_,_,_,_,rfl,rfl,Z5,rfl,_,rfl,_,_,_,_,rfl,rfl,K6.of Xe,rfl,rfl,_,rfl,Qb rfl ?_⟩;refine⟨_,rfl,_,_,_,_,rfl,rfl,K6.of Xe,rfl,q6,_,rfl,Z5,rfl,_,_,rfl,_,_,rfl,_,_,rfl,rfl,?_⟩;have ZV:=tu.to (Kp.of MU);refine⟨_,rfl,_,rfl,_,rfl,_,rfl,ta,x,n,n1,n2,rfl,ZV,sz,λH5 s5=>?_⟩;refine⟨_,rfl,_,_,rfl,rfl,_,rfl,?_⟩;rw[show decide (x.worth n n1 n2<n)=true from e9 ltn];refine dH ?_;dsimp only[Nf,dZ];refine qk (lo:=1) (n:=(n-1).toNat) (λR h=>⟨_,rfl,_,_,rfl,⟨by omega,by omega,by omega,by omega⟩,h⟩) (by omega) (λj H6 N hj s6 hN=>?_) (λD H6 s6 eD=>?_)
  .exact⟨_,rfl,_,rfl,ta,x,1+(j:Int),rfl,ZV.to (Kp.of (s5.trans s6)),sz,by omega,by omega,λx' y h1 h2 h3 h4=>kf _ _ _ (by omega) (by omega) h1 h2 h3 h4,λH7 s7=>hN H7 s7⟩
  .refine⟨D,List.replicate (n-1).toNat true,rfl,K7.of eD,?_⟩;rw[CS];exact q _
 obtain⟨t9,ht9,k9⟩:=t9
 have t4:∃t,ow (cN CX0 P w K mg base AB "law" (au rV) f cdv A outer s H E).nox ((bA rV).drop 4) t/\∀(o4 o5 o6:Option V)(ta lr pl:Addr)(us:List V)(x:Tr)(tp bt:Int)(H1:Hp),Tu H1 ta x->x.size<=60->x.nf<=8->H1 lr=some (.lst us)->DatAll K H1 ((bu x).map lR) us->H1 pl=some (.tup [.int tp,.int bt])->ZN x Hu.sqH tp bt->
   t {nx:=λ_ H'=>Q .non H',rt:=Q} [some (.ref a),some (.ref ta),some (.ref lr),some (.ref pl),o4,o5,o6,none,none,none] H1:=by
  refine ⟨_, aU ⟨(aI (i := 4) (aK gh (aa (pv 1) af)))⟩ (aU ⟨(aI (i := 5) (aK IT (aa (pv 4) af)))⟩ (aU ⟨(aI (i := 6) (aK tR (aa (pv 4) af)))⟩ (aU ⟨(aS (PW.pt (gW (fM (eB (aG iA aR (aa (pv 5) (aa (gP (v := V.ty "tuple") rfl bB (by decide+kernel) rfl) af))))) (hZ (aF ma (aG bJ bG (aa (pv 5) af)) aq (aH _))))) (ao (av iJ)) aL)⟩ (aU ⟨(aS (aF bS (aD aA (pv 3) aq) (aD aA (pv 3) aq) (aH _)) (ao (av (jh (dO bS (aD aA (pv 5) aq) aQ (aH _)) (jh (aK D__law_holds (aa (aD aA (pv 5) aq) (aa (pv 2) (fi (fi af))))) (mQ (dO ji (pv 6) bN (aH _))))))) aL)⟩ ht9)))), ?_⟩
  intro o4 o5 o6 ta lr pl us x tp bt H1 tu sz n8 el da epl ls;obtain⟨Xj,bbt,bbb,⟨e0,C,c0,wc⟩,Yr⟩:=ls;have R:=sf x;have rl0:=R.len;refine⟨_,rfl,ta,x,rfl,tu,sz,λo H2 s2 ob=>?_⟩;refine⟨_,rfl,o,x,rfl,ob,sz,n8,λp vt T L H3 s3 ep dT sm dp cu eL kL full=>?_,λp vp pt H3 s3 ep NV u0 bv bw lt=>?_⟩
  .refine⟨_,rfl,o,x,rfl,ob.to (Kp.of s3),sz,n8,λT' L' WG NT WQ=>⟨λ_ H4 s4=>?_,λn x' y t q' H4 F s4 et dq=>?_⟩⟩
   .have MK:=s3.trans s4;have MU:=s2.trans MK;have Ql:=s4 _ _ ep;have Ny:=MU _ _ epl;refine⟨_,rfl,p,_,_,_,true,rfl,(λ_ h=>h),K6.of Ql,fQ,_,rfl,bL ?_⟩;refine⟨_,rfl,_,_,rfl,.inr ⟨_,K6.of Ql,rfl⟩,rfl,_,rfl,bL ?_⟩
    have ew:tp=bt:=by
     have c1:=Hu.ig C;rw[full e0.u e0.v e0.w (by omega) c1.1 c1.2.1 c1.2.2.1 c1.2.2.2,G8 e0.u]at wc;exact Kl (by omega) wc
    refine⟨_,rfl,_,_,_,_,rfl,rfl,K6.of Ny,rfl,_,rfl,_,_,_,_,rfl,rfl,K6.of Ny,rfl,rfl,_,rfl,?_⟩;rw[show decide (V.int tp=V.int bt)=true from e9 (x9 V.int ew)];refine dH ?_;refine⟨_,rfl,_,_,_,_,rfl,rfl,K6.of Ql,rfl,rfl,_,rfl,?_⟩;rw[show decide (V.str "always"=V.str "always")=true from e9 rfl];refine dH ?_;have b1:Bg 1:=dI (n:=1) (by decide) (by decide);refine⟨_,rfl,_,_,_,_,rfl,rfl,K6.of Ql,rfl,_,rfl,vt,lr,us,bu x,1,1,T,L,rfl,MU _ _ el,da.ts MU.ts,R.ok,R.pos,by omega,b1,b1,sm.mono (by decide),dp,by omega,dT.ts s4.ts,eL,λg hg=>?_,λH5 s5=>⟨_,rfl,dH ?_⟩⟩
    .obtain⟨rs,ru⟩:=kL g hg;refine⟨rs,ru,λr hr c hc=>?_⟩;rw[<- FP ru r hr c hc];have cn:=Hu.ig (Hu.Tc.told_cone Hu.iT (sm.mono (by decide)) eL g hg c hc);have cu0:=((Hu.Tc.gG Hu.iT (sm.mono (by decide)) eL g hg).1.ok c hc).n0;rw[full c.u c.v c.w (by omega) cn.1 cn.2.1 cn.2.2.1 cn.2.2.2];omega
    .exact⟨_,rfl,rfl,q _⟩
   .exfalso;obtain⟨h1,h2,h3,_⟩:=vm WG NT WQ F;have:=full n x' y F.n1 h1.1 h1.2 h2.1 h2.2;omega
  .refine⟨_,rfl,o,x,rfl,ob.to (Kp.of s3),sz,n8,λT' L' WG NT WQ=>⟨λz H4 s4=>?_,λn x' y t q' H4 F s4 et dq=>?_⟩⟩
   .exfalso;have:=(BW WG NT WQ).mp z pt.u pt.v pt.w (by omega) bv.1 bv.2 bw.1 bw.2;omega
   .obtain⟨h1,h2,h3,h4⟩:=vm WG NT WQ F;have MK:=s3.trans s4;have MU:=s2.trans MK;have Ql:=s4 _ _ ep;have Ny:=MU _ _ epl;refine⟨_,rfl,p,_,_,_,true,rfl,(λ_ h=>h),K6.of Ql,fQ,_,rfl,bL ?_⟩;refine⟨_,rfl,_,_,rfl,.inr ⟨_,K6.of Ql,rfl⟩,rfl,_,rfl,bL ?_⟩
    have ew:tp≠bt:=λz=>by
     have k:=Yr pt (Hu.Hx bv.1 bv.2 bw.1 bw.2) u0;rw[z,G8 bt]at k;have:=Kj k Xj;omega
    refine⟨_,rfl,_,_,_,_,rfl,rfl,K6.of Ny,rfl,_,rfl,_,_,_,_,rfl,rfl,K6.of Ny,rfl,rfl,_,rfl,?_⟩;rw[show decide (V.int tp=V.int bt)=false from B7 (λz=>ew (V.int.inj z))];refine bL ?_;exact k9 _ _ _ ta p t q' x pt vp n x' y H4 (tu.to (Kp.of MU)) sz Ql (NV.ts s4.ts) u0 bv bw lt et dq F.n1 F.n2 h1 h2 h3 h4
 obtain⟨t4,RO,k4⟩:=t4;refine⟨_,un (aU ⟨(aI (i:=1) (aK xk (aa (aK zp (aa (pv 0) (fi af))) af)))⟩ (aU ⟨(aI (i:=2) (cf af))⟩ (aU ⟨(bD (aK iQ (aa (pv 1) (aa (pv 2) af))))⟩ (aU (fe (i:=3) (gE lA (aN (hv 2) (aN (HJ (gj (bK (bE (bE (bE aY)))) (gj (bK (bE (bE (bE aY)))) (gj (bK (bE (bE (bE aY)))) (gj (bK (bE (bE (bE aY)))) aY))))) aY)))) RO)))),?_⟩;refine⟨_,rfl,a,ns,40,rfl,S,by decide,by decide,λC ms H1 s1 fC eC V3=>?_⟩;refine⟨C,ms,rfl,eC,V3,λta x H2 sz n8 tu=>?_⟩;refine⟨(by show 0<=sizeLine;decide),λlr Mu=>?_⟩;have u5:=ak Mu (.lst []);refine⟨_,rfl,_,rfl,ta,lr,x,[],[],rfl,tu.to (Kp.of u5),by omega,ae,.nil,by simp;omega,(λ_ z=>nomatch z),λH6 us sb el rv=>?_⟩;have LK:aJ H2 H6:=λd o z=>sb _ _ (u5 _ _ z) λy=>by cases y;rw[Mu]at z;cases z
 refine⟨_,rfl,d3,λp1 h1=>⟨d3,λp2 h2=>⟨d3,λp3 h3=>⟨d3,λp4 h4=>⟨(by show 4<=sizeLine;decide),λl5 h5=>?_⟩⟩⟩⟩⟩;have u1:=ak h1 (.tup [.int 1,.int 0,.int 0]);have u2:=ak h2 (.tup [.int 1,.int 1,.int 0]);have u3:=ak h3 (.tup [.int 1,.int 1,.int 1]);have u4:=ak h4 (.tup [.int 1,.int 0,.int 1]);have u5:=ak h5 (.lst [V.ref p1,.ref p2,.ref p3,.ref p4]);have e1:=(u2.trans (u3.trans (u4.trans u5))) _ _ ae;have e2:=(u3.trans (u4.trans u5)) _ _ ae;have e3:=(u4.trans u5) _ _ ae;have e4:=u5 _ _ ae;have e5:upd (upd (upd (upd (upd H6 p1 (.tup [.int 1,.int 0,.int 0])) p2 (.tup [.int 1,.int 1,.int 0])) p3 (.tup [.int 1,.int 1,.int 1])) p4 (.tup [.int 1,.int 0,.int 1])) l5 (.lst [V.ref p1,.ref p2,.ref p3,.ref p4]) l5=some (.lst [V.ref p1,.ref p2,.ref p3,.ref p4]):=ae;have s5:=u1.trans (u2.trans (u3.trans (u4.trans u5)));generalize upd (upd (upd (upd (upd H6 p1 (.tup [.int 1,.int 0,.int 0])) p2 (.tup [.int 1,.int 1,.int 0])) p3 (.tup [.int 1,.int 1,.int 1])) p4 (.tup [.int 1,.int 0,.int 1])) l5 (.lst [V.ref p1,.ref p2,.ref p3,.ref p4])=H7 at *;have Zt:DatAll K H7 (Hu.sqH.map K9) [V.ref p1,.ref p2,.ref p3,.ref p4]:=⟨_,_,rfl,cy (p:=⟨1,0,0⟩) (K6.of e1),_,_,rfl,cy (p:=⟨1,1,0⟩) (K6.of e2),_,_,rfl,cy (p:=⟨1,1,1⟩) (K6.of e3),_,_,rfl,cy (p:=⟨1,0,1⟩) (K6.of e4),rfl⟩;have R:=sf x;have fd:=R.fd;have da7:=R.dat (K:=K) (rv.imp (Ly.to (Kp.of s5)));refine⟨lr,l5,us,_,x,Hu.sqH,8,rfl,s5 _ _ el,da7,by omega,e5,Zt,Fq (by simp;omega),(λc hc=>Hu.eO hc),by decide,λp t b H8 s8 ep8 ls=>?_⟩;exact k4 _ _ _ ta lr p us x t b H8 (tu.to (Kp.of ((LK.trans s5).trans s8))) sz n8 (s8 _ _ (s5 _ _ el)) (da7.ts s8.ts) ep8 ls
end Mine
namespace L2
open PySem PySem.Spec PyProof.Rows
variable{st:Stmt}{f:Addr}{od an:Option Addr}{osl:Array (Option Value)}
structure FunM(K:W.Frag)(x qual:Str)(st:Stmt)(f:Addr):Prop where
 ex:∃fd:FuncData,NY K x qual st f fd
 fn:PySem.W.isFn K (.ref f)=true
theorem funM_mk{K:W.Frag}{x qual:Str}{oc kV doc pm cdv ct:Value}(l:K.lookup f=some ⟨oc,od,.func (PySem.W.fnOf x qual (fT st) (bA st) (au st) .none kV doc pm an cdv ct),osl⟩)
  (c:PySem.W.codeIn K cdv qual=true)(k:PySem.W.keepIn K (.ref f)=true)(fn:PySem.W.isFn K (.ref f)=true):FunM K x qual st f:=⟨⟨_,HX l c k⟩,fn⟩
end L2
open PySem PySem.W PyProof.Rows
namespace Mine
variable{K:Frag}{o:Option Value}{C f:Addr}{q:Str}{st:Stmt}{mg:Str->Option Value}{h:Heap}
structure CB(K:Frag)(C:Addr)(x:Str):Prop where
 n:nsIn K mainGlobals x=some (some (.ref C))
 c:L2.Cls K C
 h:findIn K (.ref C) "__class__"=some (some (.builtin "object.__class__"))
 m:mroIn K C (.type "object")=some true
 s:kitOne K (.ref C) (.type "str")=some false
 y:makesIn K C=true
 z:keepIn K (.ref C)=true
inductive GS(K:Frag)(m:Str)(o:Option Value):List Addr->Prop
 | nil:GS K m o []
 | cons {C:Addr} {r:List Addr}:findIn K (.ref C) m=some o->GS K m o r->GS K m o (C::r)
theorem GS.at{m:Str}{l:List Addr}(h:GS K m o l)(hC:C∈l):findIn K (.ref C) m=some o:=by
 induction h with
 | nil=>cases hC
 | cons e _ ih =>
  rcases j4.mp hC with rfl | z
  .exact e
  .exact ih z
def GE(K:Frag)(m q:Str)(st:Stmt)(l:List Addr):Prop:=∃f,GS K m (some (.ref f)) l/\L2.FunM K m q st f
theorem GE.mk{m:Str}{l:List Addr}(g:GS K m (some (.ref f)) l)(e:L2.FunM K m q st f):GE K m q st l:=⟨f,g,e⟩
theorem GE.meth{m:Str}{l:List Addr}(h:GE K m q st l)(cl:L2.Cls K C)(hC:C∈l):L2.bF K C m q st:=by
 obtain⟨f,g,e⟩:=h;obtain⟨fd,F⟩:=e.ex;exact⟨cl,f,fd,⟨g.at hC,e.fn,F.kp⟩,F⟩
theorem GE.made{x:Str}{l:List Addr}(X:K.In h)(G:h.Ns mainGlobals mg)(g:GE K "__init__" q st l)(b:CB K C x)(hC:C∈l):L2.MkF K mg x C q st:=by
 obtain⟨f,g,e⟩:=g;obtain⟨fd,F⟩:=e.ex;exact⟨b.c,KC X G b.n,f,fd,⟨b.y,g.at hC,e.fn,b.z⟩,F⟩
theorem CCs.fm(c:CCs)(u:W5):c.fold u∈[c.mo,c.ls,c.gr,c.lr,c.ld]:=by cases u<;>simp[CCs.fold]
theorem CCs.om(c:CCs)(t:Tr):c.of t∈[c.ne,c.al,c.le,c.no,c.mo,c.ls,c.gr,c.lr,c.ld]:=by
 cases t with
 | fold u _ _=>cases u<;>simp[CCs.of,CCs.fold]
 | _=>simp[CCs.of]
end Mine
structure Mine.AllF(K:Frag)(mg:Str->Option Value)(c:Mine.CCs):Prop where
 fx:Mine.Fx K c
 madeS_ne:L2.bF K c.ne "made_of" "Saying.made_of" Mine.cI
 madeS_al:L2.bF K c.al "made_of" "Saying.made_of" Mine.cI
 madeS_le:L2.bF K c.le "made_of" "Saying.made_of" Mine.cI
 laid:∀t,L2.bF K (c.of t) "laid_out" "Saying.laid_out" Mine.fB
 out:∀t,L2.bF K (c.of t) "out_of" "Saying.out_of" Mine.hX
 foldsS:∀t,L2.bF K (c.of t) "folds" "Saying.folds" Mine.fD
 Kne_ne:L2.bF K c.ne "making_word" "Never.making_word" Mine.cZ
 Wne_ne:L2.bF K c.ne "weigh" "Never.weigh" Mine.gJ
 Kal_al:L2.bF K c.al "making_word" "Always.making_word" Mine.cU
 Wal_al:L2.bF K c.al "weigh" "Always.weigh" Mine.fK
 Kle_le:L2.bF K c.le "making_word" "Letter.making_word" Mine.bU
 Wle_le:L2.bF K c.le "weigh" "Letter.weigh" Mine.dA
 Kno_no:L2.bF K c.no "making_word" "Not.making_word" Mine.dW
 Wno_no:L2.bF K c.no "weigh" "Not.weigh" Mine.iV
 Mno_no:L2.bF K c.no "made_of" "Not.made_of" Mine.gH
 Mfo:∀u,L2.bF K (c.fold u) "made_of" "Fold.made_of" Mine.fJ
 Wfo:∀u,L2.bF K (c.fold u) "weigh" "Fold.weigh" Mine.ic
 F0mo_mo:L2.bF K c.mo "making_word" "More.making_word" Mine.dM
 F1mo_mo:L2.bF K c.mo "folded" "More.folded" Mine.gK
 F0ls_ls:L2.bF K c.ls "making_word" "Less.making_word" Mine.dN
 F1ls_ls:L2.bF K c.ls "folded" "Less.folded" Mine.gN
 F0gr_gr:L2.bF K c.gr "making_word" "Greater.making_word" Mine.cL
 F1gr_gr:L2.bF K c.gr "folded" "Greater.folded" Mine.eP
 F0lr_lr:L2.bF K c.lr "making_word" "Lesser.making_word" Mine.cT
 F1lr_lr:L2.bF K c.lr "folded" "Lesser.folded" Mine.eY
 F0ld_ld:L2.bF K c.ld "making_word" "Leads.making_word" Mine.de
 F1ld_ld:L2.bF K c.ld "folded" "Leads.folded" Mine.fH
 ile:L2.MkF K mg "Letter" c.le "Letter.__init__" Mine.gM
 ino:L2.MkF K mg "Not" c.no "Not.__init__" Mine.jM
 ifo:∀u,L2.MkF K mg (Mine.W5.cls u) (c.fold u) "Fold.__init__" Mine.iW
 o_ne:L2.Mk0 K c.ne
 r_ne:mg "Never"=some (.ref c.ne)
 o_al:L2.Mk0 K c.al
 r_al:mg "Always"=some (.ref c.al)
theorem Mine.all_mk{K:Frag}{h:Heap}{mg:Str->Option Value}{ne al le no mo ls gr lr ld:Addr}(X:K.In h)(G:h.Ns mainGlobals mg)
  (MG:Mine.CB K ne "Never")
  (MH:Mine.CB K al "Always")
  (NH:Mine.CB K le "Letter")
  (NG:Mine.CB K no "Not")
  (SJ:Mine.CB K mo "More")
  (SK:Mine.CB K ls "Less")
  (SO:Mine.CB K gr "Greater")
  (SM:Mine.CB K lr "Lesser")
  (SN:Mine.CB K ld "Leads")
  (hn:specialIn K (.builtin "object.__class__") "__get__"=some (some (.builtin "getset_descriptor.__get__")))
  (tk:takesIn K (.builtin "object.__class__")=some true)
  (SV:Mine.GS K "name" none [le])
  (SU:Mine.GS K "part" none [no])
  (V9:Mine.GS K "one" none [mo,ls,gr,lr,ld])
  (Ph:Mine.GS K "other" none [mo,ls,gr,lr,ld])
  (Md:Mine.GE K "made_of" "Saying.made_of" Mine.cI [ne,al,le])
  (R5:Mine.GE K "laid_out" "Saying.laid_out" Mine.fB [ne,al,le,no,mo,ls,gr,lr,ld])
  (Vq:Mine.GE K "out_of" "Saying.out_of" Mine.hX [ne,al,le,no,mo,ls,gr,lr,ld])
  (Nx:Mine.GE K "folds" "Saying.folds" Mine.fD [ne,al,le,no,mo,ls,gr,lr,ld])
  (VC:Mine.GE K "making_word" "Never.making_word" Mine.cZ [ne])
  (Vv:Mine.GE K "weigh" "Never.weigh" Mine.gJ [ne])
  (VE:Mine.GE K "making_word" "Always.making_word" Mine.cU [al])
  (Vy:Mine.GE K "weigh" "Always.weigh" Mine.fK [al])
  (VD:Mine.GE K "making_word" "Letter.making_word" Mine.bU [le])
  (Vw:Mine.GE K "weigh" "Letter.weigh" Mine.dA [le])
  (VB:Mine.GE K "making_word" "Not.making_word" Mine.dW [no])
  (Vu:Mine.GE K "weigh" "Not.weigh" Mine.iV [no])
  (Vz:Mine.GE K "made_of" "Not.made_of" Mine.gH [no])
  (VA:Mine.GE K "made_of" "Fold.made_of" Mine.fJ [mo,ls,gr,lr,ld])
  (Vx:Mine.GE K "weigh" "Fold.weigh" Mine.ic [mo,ls,gr,lr,ld])
  (Sb:Mine.GE K "making_word" "More.making_word" Mine.dM [mo])
  (R6:Mine.GE K "folded" "More.folded" Mine.gK [mo])
  (Sd:Mine.GE K "making_word" "Less.making_word" Mine.dN [ls])
  (R7:Mine.GE K "folded" "Less.folded" Mine.gN [ls])
  (Sg:Mine.GE K "making_word" "Greater.making_word" Mine.cL [gr])
  (Sa:Mine.GE K "folded" "Greater.folded" Mine.eP [gr])
  (Se:Mine.GE K "making_word" "Lesser.making_word" Mine.cT [lr])
  (R8:Mine.GE K "folded" "Lesser.folded" Mine.eY [lr])
  (Sf:Mine.GE K "making_word" "Leads.making_word" Mine.de [ld])
  (R9:Mine.GE K "folded" "Leads.folded" Mine.fH [ld])
  (Vs:Mine.GE K "__init__" "Letter.__init__" Mine.gM [le])
  (Vr:Mine.GE K "__init__" "Not.__init__" Mine.jM [no])
  (Vt:Mine.GE K "__init__" "Fold.__init__" Mine.iW [mo,ls,gr,lr,ld])
  (i_0:Mine.GS K "__init__" (some (.builtin "object.__init__")) [ne,al]) :
  ∃c,Mine.AllF K mg c:=by
 have D:∀u,Mine.CB K (Mine.CCs.fold ⟨ne,al,le,no,mo,ls,gr,lr,ld⟩ u) (Mine.W5.cls u):=λu=>by
  cases u with
  | more=>exact SJ
  | less=>exact SK
  | greater=>exact SO
  | lesser=>exact SM
  | leads=>exact SN
 have B:∀t,∃x,Mine.CB K (Mine.CCs.of ⟨ne,al,le,no,mo,ls,gr,lr,ld⟩ t) x:=λt=>by
  cases t with
  | fold u=>exact⟨_,D u⟩
  | never=>exact⟨_,MG⟩
  | always=>exact⟨_,MH⟩
  | no=>exact⟨_,NG⟩
  | _=>exact⟨_,NH⟩
 refine⟨⟨ne,al,le,no,mo,ls,gr,lr,ld⟩,?_⟩
 refine⟨?_,?_,?_,?_,?_,?_,?_,?_,?_,?_,?_,?_,?_,?_,?_,?_,?_,?_,?_,?_,?_,?_,?_,?_,?_,?_,?_,?_,?_,?_,?_,?_,?_,?_,?_⟩
 .exact⟨λt=>(B t).elim λ_ b=>b.c,λt=>(B t).elim λ_ b=>b.h,λt=>(B t).elim λ_ b=>b.m,λt=>(B t).elim λ_ b=>b.s,hn,tk,SV.at (.head _),SU.at (.head _),λu=>V9.at (Mine.CCs.fm _ u),λu=>Ph.at (Mine.CCs.fm _ u)⟩
 .exact Md.meth MG.c (.head _)
 .exact Md.meth MH.c (.tail _ (.head _))
 .exact Md.meth NH.c (.tail _ (.tail _ (.head _)))
 .exact λt=>R5.meth ((B t).elim λ_ b=>b.c) (Mine.CCs.om _ t)
 .exact λt=>Vq.meth ((B t).elim λ_ b=>b.c) (Mine.CCs.om _ t)
 .exact λt=>Nx.meth ((B t).elim λ_ b=>b.c) (Mine.CCs.om _ t)
 .exact VC.meth MG.c (.head _)
 .exact Vv.meth MG.c (.head _)
 .exact VE.meth MH.c (.head _)
 .exact Vy.meth MH.c (.head _)
 .exact VD.meth NH.c (.head _)
 .exact Vw.meth NH.c (.head _)
 .exact VB.meth NG.c (.head _)
 .exact Vu.meth NG.c (.head _)
 .exact Vz.meth NG.c (.head _)
 .exact λu=>VA.meth (D u).c (Mine.CCs.fm _ u)
 .exact λu=>Vx.meth (D u).c (Mine.CCs.fm _ u)
 .exact Sb.meth SJ.c (.head _)
 .exact R6.meth SJ.c (.head _)
 .exact Sd.meth SK.c (.head _)
 .exact R7.meth SK.c (.head _)
 .exact Sg.meth SO.c (.head _)
 .exact Sa.meth SO.c (.head _)
 .exact Se.meth SM.c (.head _)
 .exact R8.meth SM.c (.head _)
 .exact Sf.meth SN.c (.head _)
 .exact R9.meth SN.c (.head _)
 .exact Vs.made X G NH (.head _)
 .exact Vr.made X G NG (.head _)
 .exact λu=>Vt.made X G (D u) (Mine.CCs.fm _ u)
 .exact⟨MG.y,i_0.at (.head _),MG.z⟩
 .exact KC X G MG.n
 .exact⟨MH.y,i_0.at (.tail _ (.head _)),MH.z⟩
 .exact KC X G MH.n
section
variable{P:Program}{w:World}{K:Frag}{mg:Str->Option Value}{base:Heap}{c:Mine.CCs}
open Mine L2
theorem Mine.mks(A:AllF K mg c):tO P w K mg base "Letter" c.le 1 ["self","name"] (lB c.le og)/\tO P w K mg base "Not" c.no 1 ["self","part"] (lB c.no sX)/\∀u:W5,tO P w K mg base u.cls (c.fold u) 1 ["self","one","other"] (vL (c.fold u)):=
 ⟨Ak A.ile A.fx.nName,OE A.ino A.fx.nPart,λu=>GX (A.ifo u) (A.fx.nOne u) (A.fx.nOther u)⟩
theorem Mine.ms(A:AllF K mg c)(bR:mg "min"=none)(cA:mg "max"=none):Ms P w K mg base c:=by
 obtain⟨kl,kn,kf⟩:=mks (P:=P) (w:=w) (base:=base) A
 have word:∀t,bC P w K mg base (c.of t) "making_word" 1 ["self"] (gZ c t):=by
  intro t;cases t with
  | never=>exact Dy A.Kne_ne
  | always=>exact Ah A.Kal_al
  | lp=>exact Ro A.Kle_le A.fx
  | lq=>exact Rn A.Kle_le A.fx
  | no t=>exact OC A.Kno_no
  | fold u a b =>
   cases u
   .exact GK A.F0mo_mo
   .exact GN A.F0ls_ls
   .exact yn A.F0gr_gr
   .exact Ag A.F0lr_lr
   .exact Dz A.F0ld_ld
 have Sl:∀u,bC P w K mg base (c.fold u) "folded" 1 ["self","n","first","second"] (iD u):=by
  intro u;cases u
  .exact Ha A.F1mo_mo bR
  .exact Hb A.F1ls_ls cA
  .exact yq A.F1gr_gr cA
  .exact Al A.F1lr_lr bR
  .exact DK A.F1ld_ld bR
 refine⟨λt=>?_,λt=>?_,λt=>?_⟩
 .cases t with
  | never=>exact Cd A.madeS_ne rfl
  | always=>exact Cd A.madeS_al rfl
  | lp=>exact Cd A.madeS_le rfl
  | lq=>exact Cd A.madeS_le rfl
  | no t=>exact OD A.Mno_no A.fx
  | fold u a b=>exact GV (A.Mfo u) A.fx
 .exact word t
 .cases t with
  | never=>exact Af A.Wne_ne
  | always=>exact ym A.Wal_al
  | lp=>exact OB A.Wle_le A.fx
  | lq=>exact OA A.Wle_le A.fx
  | no t=>exact GJ A.Wno_no
  | fold u a b=>exact Dx (A.Wfo u) (Sl u)
end
open PySem PySem.W PyProof.Rows
structure Mine.X47(K:Frag)(mg:Str->Option Value)(CT CN CF:Addr):Prop where
 mT:mg "TooMany"=some (.ref CT)
 mN:mg "NoCut"=some (.ref CN)
 mF:mg "Fold"=some (.ref CF)
 xT:excIn K CT L2.bmV "ValueError.__new__"=true
 xN:excIn K CN L2.bmV "ValueError.__new__"=true
 ct:L2.zw K CT
 cn:L2.zw K CN
 st:mroIn K CT (.ref CT)=some true
 sn:mroIn K CN (.ref CN)=some true
 ne:∃a,mg "Never"=some (.ref a)/\kitOne K (.ref a) (.ref CF)=some false
 al:∃a,mg "Always"=some (.ref a)/\kitOne K (.ref a) (.ref CF)=some false
 le:∃a,mg "Letter"=some (.ref a)/\kitOne K (.ref a) (.ref CF)=some false
 no:∃a,mg "Not"=some (.ref a)/\kitOne K (.ref a) (.ref CF)=some false
 mo:∃a,mg "More"=some (.ref a)/\kitOne K (.ref a) (.ref CF)=some true
 ls:∃a,mg "Less"=some (.ref a)/\kitOne K (.ref a) (.ref CF)=some true
 gr:∃a,mg "Greater"=some (.ref a)/\kitOne K (.ref a) (.ref CF)=some true
 lr:∃a,mg "Lesser"=some (.ref a)/\kitOne K (.ref a) (.ref CF)=some true
 ld:∃a,mg "Leads"=some (.ref a)/\kitOne K (.ref a) (.ref CF)=some true
theorem Mine.X47.kf{K:Frag}{mg:Str->Option Value}{CT CN CF:Addr}{c:Mine.CCs}(X:Mine.X47 K mg CT CN CF)(A:Mine.AllF K mg c):∀t,kitOne K (.ref (c.of t)) (.ref CF)=some (Mine.isF t):=by
 have g:∀{x:Str}{a:Addr}{b:Bool},mg x=some (.ref a)->(∃a,mg x=some (.ref a)/\kitOne K (.ref a) (.ref CF)=some b)->kitOne K (.ref a) (.ref CF)=some b:=λe z=>by
  obtain⟨a',e',k⟩:=z;cases e.symm.trans e'
  exact k
 intro t;cases t with
 | never=>exact g A.r_ne X.ne
 | always=>exact g A.r_al X.al
 | lp=>exact g A.ile.mg_ X.le
 | lq=>exact g A.ile.mg_ X.le
 | no=>exact g A.ino.mg_ X.no
 | fold u=>cases u with
  | more=>exact g (A.ifo .more).mg_ X.mo
  | less=>exact g (A.ifo .less).mg_ X.ls
  | greater=>exact g (A.ifo .greater).mg_ X.gr
  | lesser=>exact g (A.ifo .lesser).mg_ X.lr
  | leads=>exact g (A.ifo .leads).mg_ X.ld
theorem Mine.cls47{K:Frag}{h:Heap}{mg:Str->Option Value}{CT CN CF ne al le no mo ls gr lr ld:Addr}{c1 c2:ClassData}(X:K.In h)(G:h.Ns mainGlobals mg)
  (mCT:nsIn K mainGlobals "TooMany"=some (some (.ref CT)))
  (mCN:nsIn K mainGlobals "NoCut"=some (some (.ref CN)))
  (mCF:nsIn K mainGlobals "Fold"=some (some (.ref CF)))
  (xt:excIn K CT L2.bmV "ValueError.__new__"=true)
  (xn:excIn K CN L2.bmV "ValueError.__new__"=true)
  (t6:clsIn K CT=some c1)
  (t7:typeIn K (.ref CT)=some (.type "type"))
  (t8:mroIn K CT (.type "BaseException")=some true)
  (st:mroIn K CT (.ref CT)=some true)
  (n6:clsIn K CN=some c2)
  (n7:typeIn K (.ref CN)=some (.type "type"))
  (n8:mroIn K CN (.type "BaseException")=some true)
  (sn:mroIn K CN (.ref CN)=some true)
  (mne:nsIn K mainGlobals "Never"=some (some (.ref ne)))
  (kne:kitOne K (.ref ne) (.ref CF)=some false)
  (mal:nsIn K mainGlobals "Always"=some (some (.ref al)))
  (kal:kitOne K (.ref al) (.ref CF)=some false)
  (mle:nsIn K mainGlobals "Letter"=some (some (.ref le)))
  (kle:kitOne K (.ref le) (.ref CF)=some false)
  (mno:nsIn K mainGlobals "Not"=some (some (.ref no)))
  (kno:kitOne K (.ref no) (.ref CF)=some false)
  (mmo:nsIn K mainGlobals "More"=some (some (.ref mo)))
  (kmo:kitOne K (.ref mo) (.ref CF)=some true)
  (mls:nsIn K mainGlobals "Less"=some (some (.ref ls)))
  (kls:kitOne K (.ref ls) (.ref CF)=some true)
  (mgr:nsIn K mainGlobals "Greater"=some (some (.ref gr)))
  (kgr:kitOne K (.ref gr) (.ref CF)=some true)
  (mlr:nsIn K mainGlobals "Lesser"=some (some (.ref lr)))
  (klr:kitOne K (.ref lr) (.ref CF)=some true)
  (mld:nsIn K mainGlobals "Leads"=some (some (.ref ld)))
  (kld:kitOne K (.ref ld) (.ref CF)=some true) :
  ∃CT CN CF,Mine.X47 K mg CT CN CF:=
 ⟨CT,CN,CF,KC X G mCT,KC X G mCN,KC X G mCF,xt,xn,⟨⟨_,t6⟩,t7,t8⟩,⟨⟨_,n6⟩,n7,n8⟩,st,sn,⟨_,KC X G mne,kne⟩,⟨_,KC X G mal,kal⟩,⟨_,KC X G mle,kle⟩,⟨_,KC X G mno,kno⟩,⟨_,KC X G mmo,kmo⟩,⟨_,KC X G mls,kls⟩,⟨_,KC X G mgr,kgr⟩,⟨_,KC X G mlr,klr⟩,⟨_,KC X G mld,kld⟩⟩
abbrev Mine.Pg:=PySem.Challenge.rw_leansay_k52_fewest_steps.prog
namespace PySem.W.Fast
def tw10034074539527727853:=True
def tw10045446979869076427:=True
def tw10066527137641561394:=True
def tw10067619276940282855:=True
def tw10088811625710210880:=True
def tw10106867696805236876:=True
def tw10167076819129019976:=True
def tw10183429018869517213:=True
def tw10202006637961144869:=True
def tw10226588447005722402:=True
def tw10227159732514108980:=True
def tw10253803052095121729:=True
def tw10261780202789774812:=True
def tw10291946411197995773:=True
def tw10296599069116664032:=True
def tw1030227792053367215:=True
def tw10303166521694619869:=True
def tw10309546602731306993:=True
def tw10365133306390048139:=True
def tw10365407075948081596:=True
def tw10373780615959725757:=True
def tw10381838709485509005:=True
def tw10426195235918423765:=True
def tw10431102957513315262:=True
def tw10457188843399681397:=True
def tw10460264723234282682:=True
def tw10513738690896535283:=True
def tw10526483999515645425:=True
def tw10526801807386108476:=True
def tw10527921855532802791:=True
def tw10570197034959827959:=True
def tw10691863074659224377:=True
def tw10723333340056341309:=True
def tw10744029560566743689:=True
def tw10789356154244222944:=True
def tw1078944866027684011:=True
def tw10799161500979119273:=True
def tw10831637171127012004:=True
def tw10883364534350618052:=True
def tw10899042178339373291:=True
def tw10906877232605244905:=True
def tw10969269310273292907:=True
def tw10995393587000842386:=True
def tw11009893139026305281:=True
def tw11053644948825062930:=True
def tw11074785982872747666:=True
def tw11099674815543461523:=True
def tw11107001671983127486:=True
def tw11112311392566121036:=True
def tw11155655074056695843:=True
def tw11159486876767780354:=True
def tw11190724377551623420:=True
def tw11191047500196943671:=True
def tw11196983225983914415:=True
def tw11219525548079588852:=True
def tw11221594977003098195:=True
def tw11225818913268625914:=True
def tw11231075244129336044:=True
def tw1124979070279906121:=True
def tw11260667970103591892:=True
def tw11297732038494212292:=True
def tw1131930257323461111:=True
def tw11345024328160138627:=True
def tw11350773524358338425:=True
def tw11351339224000982320:=True
def tw11353175190820548362:=True
def tw11358724027382975823:=True
def tw1141714165176707920:=True
def tw11429904865363344218:=True
def tw11439607675859320640:=True
def tw11448730978795218269:=True
def tw11456753307152732599:=True
def tw11463221257942135245:=True
def tw11466267685793762272:=True
def tw11497657502939973158:=True
def tw11545513233204060725:=True
def tw11556479267772507836:=True
def tw1155818103175810625:=True
def tw11660644426012805203:=True
def tw11685187151862134499:=True
def tw11688479540861649267:=True
def tw11691595044803203338:=True
def tw1169598452884221399:=True
def tw11714116215217832387:=True
def tw11741788095050123003:=True
def tw11759291756173826481:=True
def tw11802136243617887407:=True
def tw11808038539797625258:=True
def tw11820968412679233002:=True
def tw11827091464064780834:=True
def tw11849252813135477856:=True
def tw11880615190905153028:=True
def tw11920513878331427611:=True
def tw11946562705604334094:=True
def tw11950660795239360608:=True
def tw11953196148371700976:=True
def tw11980197932713900947:=True
def tw11984252635535381306:=True
def tw12039865224614875300:=True
def tw12069838577901971819:=True
def tw12074665637330041082:=True
def tw12075300298767435508:=True
def tw1209346157265273598:=True
def tw12095774592625082529:=True
def tw12116012609457717998:=True
def tw12132169846696761280:=True
def tw12169337464600414692:=True
def tw12171324515379344128:=True
def tw1217427343672096452:=True
def tw12215246145172161969:=True
def tw12296678694340340556:=True
def tw12310854637967271106:=True
def tw12333356862003433403:=True
def tw12336441503725921462:=True
def tw12431341714921749933:=True
def tw12441066164905401893:=True
def tw12443892901987960127:=True
def tw12479897890729265694:=True
def tw12486439281896722454:=True
def tw1249146125945803897:=True
def tw12511203191101088605:=True
def tw12519048569096472859:=True
def tw1255019458394173812:=True
def tw12555400853267347031:=True
def tw12559206653530635108:=True
def tw1256552333501001136:=True
def tw12571500469561777062:=True
def tw12577317329589316258:=True
def tw12579973568423558047:=True
def tw12594821127244010696:=True
def tw12606480216700168733:=True
def tw12622401119960213820:=True
def tw12629077522499549080:=True
def tw12646406452971740040:=True
def tw1266698734251277292:=True
def tw12690505934751702220:=True
def tw12709723372639854654:=True
def tw12737052393259650490:=True
def tw12743751440524658958:=True
def tw12751734142658822002:=True
def tw1276029791302095658:=True
def tw12789559401436476798:=True
def tw12796602298981701240:=True
def tw12809888087074147381:=True
def tw12833862304421387194:=True
def tw12853997345293129752:=True
def tw12895733829050617077:=True
def tw12949226235783672733:=True
def tw12960194244570803318:=True
def tw12960406608000528212:=True
def tw12963965159784660865:=True
def tw12977644963305144157:=True
def tw13026786022180546347:=True
def tw131289731057943987:=True
def tw13178117275638718712:=True
def tw13184080981212016775:=True
def tw13207105572828149172:=True
def tw13212074636419545785:=True
def tw13219936318451538632:=True
def tw13254359458185853908:=True
def tw13270155686597732194:=True
def tw13313383725300173033:=True
def tw1333127281665368517:=True
def tw13394279384151242830:=True
def tw13407588079144202020:=True
def tw13415070664749850693:=True
def tw13476685923436195767:=True
def tw13477401726483567330:=True
def tw13500749459692605263:=True
def tw13505993378351273443:=True
def tw13579245680253940438:=True
def tw13580596691420514717:=True
def tw13596777945366860404:=True
def tw13614793423116696868:=True
def tw13615040211062624162:=True
def tw13621197126928090691:=True
def tw13663374786044832133:=True
def tw13688684017828158146:=True
def tw1371634246276566849:=True
def tw13718757474723584766:=True
def tw13739974824098626511:=True
def tw13756283678879645647:=True
def tw13782281245831960874:=True
def tw13817234926264438100:=True
def tw13830883986773471340:=True
def tw13840297911503767790:=True
def tw13926430538088502518:=True
def tw13928185988209253189:=True
def tw13946772220220267577:=True
def tw13952138380897115857:=True
def tw13959266012105388630:=True
def tw13983263984674915315:=True
def tw14012673376949183938:=True
def tw14046856197689521442:=True
def tw14079700956508438466:=True
def tw1410310448045808767:=True
def tw14105436925040248468:=True
def tw14186867084550591738:=True
def tw14205094559628271498:=True
def tw14226522803409268696:=True
def tw14273824047321625858:=True
def tw14298527460881590958:=True
def tw14327703800721896017:=True
def tw14345764489313560751:=True
def tw14347139182432880862:=True
def tw14373883744992564972:=True
def tw14389245429180469134:=True
def tw14392833438666137621:=True
def tw1442351854634269878:=True
def tw14427187583924417362:=True
def tw14432566225882218157:=True
def tw14475184109377147962:=True
def tw14475261971379884533:=True
def tw14527386938906861018:=True
def tw14544573581071495651:=True
def tw14552475438126986115:=True
def tw14570048082213754135:=True
def tw14607521649702284068:=True
def tw14609883956212905791:=True
def tw14650253061885600106:=True
def tw14659111077285246497:=True
def tw14798466576936747313:=True
def tw14849454682802374869:=True
def tw14852466167698905176:=True
def tw14892029963416305638:=True
def tw14964050046030081661:=True
def tw14971878914059622355:=True
def tw14982305690972597570:=True
def tw15006549850832421255:=True
def tw15011803784540812530:=True
def tw15030169996421928662:=True
def tw15048416290750439172:=True
def tw15075186146261307691:=True
def tw15083952698910897676:=True
def tw15106552036416498765:=True
def tw15162677135560288546:=True
def tw15207043030199362358:=True
def tw15218681281972826425:=True
def tw15240743205418174449:=True
def tw15247447774625767216:=True
def tw15267608271866169621:=True
def tw1530600892506603864:=True
def tw15330080360718264287:=True
def tw15334377595941491038:=True
def tw15343727711329477340:=True
def tw15346292257712474503:=True
def tw15360753930892104113:=True
def tw15360957387668464204:=True
def tw1536855245590325545:=True
def tw15399951119679510016:=True
def tw15423870451679961318:=True
def tw15431312826272333287:=True
def tw15448035205541550872:=True
def tw15469761634245817228:=True
def tw15480513148492891602:=True
def tw15500999941497615450:=True
def tw15512651677042465643:=True
def tw155152132415439186:=True
def tw15553021614051644168:=True
def tw15602029691880701127:=True
def tw15621369923943286252:=True
def tw1563722499558736545:=True
def tw15688448290096848573:=True
def tw15703066025482310688:=True
def tw15740379393528370132:=True
def tw1574428666443527804:=True
def tw15748679994326834004:=True
def tw15752922500047392835:=True
def tw15773175424168627352:=True
def tw15778689195180036706:=True
def tw15783970400061985490:=True
def tw15830719061227257506:=True
def tw15845650693208506880:=True
def tw15855411749606504994:=True
def tw15861348036990934565:=True
def tw1586669536730756962:=True
def tw15889878183606849358:=True
def tw15904472634835043175:=True
def tw15920505201387538487:=True
def tw15926005180595352101:=True
def tw15942185396654879294:=True
def tw15968265462397466933:=True
def tw15968624898957917730:=True
def tw15968849865052218636:=True
def tw15981304834256604647:=True
def tw15986294168201831116:=True
def tw15990919992560083918:=True
def tw15997006844134108029:=True
def tw16012197778558418711:=True
def tw16015763902672913847:=True
def tw16053872794094406191:=True
def tw16066832137321001447:=True
def tw16081340321457770395:=True
def tw16083494989506014202:=True
def tw16128492757604312523:=True
def tw16173005985183969253:=True
def tw16178816561043566537:=True
def tw16221290125861932869:=True
def tw16275769125555748514:=True
def tw16276840874467430548:=True
def tw16277656649882080254:=True
def tw16293055114577270728:=True
def tw16293369630952282734:=True
def tw16318292039751526437:=True
def tw16326132415955679720:=True
def tw16328876204530145580:=True
def tw16350202226738566519:=True
def tw16397771857153457981:=True
def tw1641177863224218251:=True
def tw16416577442719681077:=True
def tw16449262348437163778:=True
def tw16455382054612969430:=True
def tw16457773490131543767:=True
def tw16528808795321337434:=True
def tw16550573072194444451:=True
def tw16626896457229450237:=True
def tw16657044340359564740:=True
def tw16671956031249270663:=True
def tw16675244820662730917:=True
def tw16675263878230986386:=True
def tw16678375822566337996:=True
def tw16686022327525103409:=True
def tw16691525131329125962:=True
def tw16692552710978160093:=True
def tw16699394203956694678:=True
def tw16720657954406758668:=True
def tw16758383388405479812:=True
def tw16762748039997823031:=True
def tw16802958782450480651:=True
def tw16811941385611023546:=True
def tw16823355636338138161:=True
def tw1683900835622075800:=True
def tw16849715629437990135:=True
def tw16851045792927998078:=True
def tw1686188168896489186:=True
def tw16872113330848974764:=True
def tw16873201998348847721:=True
def tw16907613870884519229:=True
def tw16917936480519142740:=True
def tw16939422356939199509:=True
def tw16942939905126805498:=True
def tw16977376359148225426:=True
def tw17004924154508173023:=True
def tw17028912900601430419:=True
def tw17075710223186885646:=True
def tw17112312435520174506:=True
def tw17145424445438909678:=True
def tw17159029299096419565:=True
def tw17171565712274552551:=True
def tw17184179776562777537:=True
def tw17191354354846801831:=True
def tw17249284403807479637:=True
def tw17268550666634509479:=True
def tw17294562361961331837:=True
def tw17333059045756285881:=True
def tw17346332895081070717:=True
def tw1738679505674343719:=True
def tw17398160511025504843:=True
def tw17398162912673471607:=True
def tw17400969564180819207:=True
def tw17487977728589421071:=True
def tw17496719580514040203:=True
def tw17503211906026940597:=True
def tw17565789509601131868:=True
def tw17604439325231644062:=True
def tw17614008107887534782:=True
def tw17614851188601501264:=True
def tw17641205015650740022:=True
def tw17645247161223690006:=True
def tw17688902191153122587:=True
def tw17694740905509326544:=True
def tw17702280100311192020:=True
def tw17703489380472858114:=True
def tw177035665380166121:=True
def tw17750401167785300576:=True
def tw177535487179178306:=True
def tw17754395507892890313:=True
def tw17755931924233520961:=True
def tw17774102902581650180:=True
def tw1778863894833906747:=True
def tw17798522409107675452:=True
def tw17802862749823029051:=True
def tw17804406656825597654:=True
def tw17806306435803102928:=True
def tw17815054439025683493:=True
def tw17824041412709833791:=True
def tw1782815852753530114:=True
def tw17832999984712199457:=True
def tw17850951911720939487:=True
def tw17876483329547887774:=True
def tw17918295139093882053:=True
def tw17923217511596945627:=True
def tw17961791225143141884:=True
def tw17980271549823140942:=True
def tw17983882266719372864:=True
def tw17988632118101159760:=True
def tw18004725012293659388:=True
def tw18006943139254114879:=True
def tw18039333214028195607:=True
def tw18061032194412212559:=True
def tw18064613205835129817:=True
def tw18069017056896225593:=True
def tw18072831295818910885:=True
def tw18079772314561960554:=True
def tw1808982328708919081:=True
def tw18136600844433148719:=True
def tw18155635183803691765:=True
def tw18161650855933691343:=True
def tw18165189520320930385:=True
def tw1816966020950757079:=True
def tw18175962349603662145:=True
def tw18184865625187081595:=True
def tw18192702092122809103:=True
def tw18251158205261143164:=True
def tw1825401645506778192:=True
def tw1826649173645697372:=True
def tw1840484075171043541:=True
def tw18412545694965075174:=True
def tw18432781993812414592:=True
def tw2000702639535909286:=True
def tw2086448868968749831:=True
def tw209986491887644245:=True
def tw2102008773080328629:=True
def tw2121195248594211458:=True
def tw2162191882186734241:=True
def tw219180290663420099:=True
def tw21998812765308098:=True
def tw2226095732343352000:=True
def tw2229220839544431160:=True
def tw2247186379142260469:=True
def tw2271922225177003388:=True
def tw2277454781130294817:=True
def tw2300762772579678312:=True
def tw2307225325181996904:=True
def tw2320967501235713399:=True
def tw2343236137664306185:=True
def tw2351174006490333673:=True
def tw2366778214447393768:=True
def tw2369795577255950545:=True
def tw2373459755329635442:=True
def tw2376007959337216011:=True
def tw2389434449011194338:=True
def tw239259647664420438:=True
def tw2405942623886028564:=True
def tw2456820299349969142:=True
def tw2468809218221105778:=True
def tw2470654464901643043:=True
def tw247195434992845345:=True
def tw247481272724488811:=True
def tw2545723502903520093:=True
def tw2559518754756937838:=True
def tw2564651230394409017:=True
def tw2567061737631261357:=True
def tw2587276565165205430:=True
def tw259383707297253125:=True
def tw2600521919394233168:=True
def tw2602350113155879906:=True
def tw2656772172443697754:=True
def tw2661692817641721928:=True
def tw267376014423516786:=True
def tw2681461527121040658:=True
def tw2688174384926328764:=True
def tw2711583561815959224:=True
def tw2736474487878903727:=True
def tw2779742811155448316:=True
def tw2784854335212150105:=True
def tw2785986556398635678:=True
def tw2802262572045801879:=True
def tw2812226279237097138:=True
def tw2834505910213806807:=True
def tw2842608041119603498:=True
def tw2856390811165840040:=True
def tw2867754279645627783:=True
def tw2899962362164014065:=True
def tw2906399512978611460:=True
def tw2929127627501984502:=True
def tw2931065070644579120:=True
def tw294689291983188899:=True
def tw2972671964181281984:=True
def tw2985668820322898201:=True
def tw2992675012905564479:=True
def tw3081253846813793633:=True
def tw3082418415933278189:=True
def tw3116149077349871162:=True
def tw3138315730150728904:=True
def tw3161812588214428246:=True
def tw3162737480475501485:=True
def tw3212678265179897577:=True
def tw3223684675426212048:=True
def tw3252207208033079815:=True
def tw3257820445213901635:=True
def tw3278790431715727914:=True
def tw3297554433936833226:=True
def tw3309394304555967418:=True
def tw3344069481507459586:=True
def tw3468997543804148320:=True
def tw3474864951902043156:=True
def tw3507482008601958184:=True
def tw3515766681021156256:=True
def tw354550589346364948:=True
def tw356766282792922590:=True
def tw3599873061683768134:=True
def tw3654360351937150134:=True
def tw3674468680065878761:=True
def tw3674937117483200785:=True
def tw3675296238953595153:=True
def tw3675418419425688075:=True
def tw3700759009573295061:=True
def tw3717374780972373831:=True
def tw3728931469353553912:=True
def tw3733959956153286619:=True
def tw3743215435181763921:=True
def tw3747761435334832398:=True
def tw3775408656537652229:=True
def tw3785286580847617677:=True
def tw3846692393370119377:=True
def tw3883788087695640559:=True
def tw3892321352367993309:=True
def tw3899604852461927136:=True
def tw3910273391389800968:=True
def tw3944033855569365976:=True
def tw3963453750226999659:=True
def tw3999379145194859223:=True
def tw4022228040007110903:=True
def tw4022577412451964866:=True
def tw4072709327371488762:=True
def tw4079835326691851314:=True
def tw4084044748011085904:=True
def tw4096602949836635515:=True
def tw410249315203378344:=True
def tw4104194752872893218:=True
def tw4152510899718085938:=True
def tw4207362916271484520:=True
def tw4232150108879487648:=True
def tw42691047358287283:=True
def tw4271098216916198374:=True
def tw4275238818417484237:=True
def tw4277826140845480512:=True
def tw4313084823279484772:=True
def tw4337922263459806343:=True
def tw439252862295483420:=True
def tw4417914296019289634:=True
def tw4441910521079037756:=True
def tw4462031316563264325:=True
def tw4470619465253114289:=True
def tw4488301659694600469:=True
def tw4528365527908634356:=True
def tw4539143089231340196:=True
def tw4541075301052266249:=True
def tw4549748524395565766:=True
def tw4555129112280488474:=True
def tw4588301308212613841:=True
def tw459282402874576106:=True
def tw4628094694426661666:=True
def tw4638423640883975132:=True
def tw4663384722000366563:=True
def tw4684539654481755265:=True
def tw4702339379277144740:=True
def tw4708163176683283406:=True
def tw4717462073254008701:=True
def tw4718781227182526666:=True
def tw4723334622618024644:=True
def tw4731126011693395235:=True
def tw4733246484438154683:=True
def tw4738130817365496509:=True
def tw475116724153474876:=True
def tw475820854636822193:=True
def tw4759655267548269218:=True
def tw4760634815835052927:=True
def tw4768146123723540976:=True
def tw4796427690424211653:=True
def tw4804822588438398690:=True
def tw4808825551456590030:=True
def tw4819853927184209601:=True
def tw4838024828754762942:=True
def tw4840809400441547864:=True
def tw4873196424298472236:=True
def tw4882192291379381702:=True
def tw4891194223568252855:=True
def tw4891738517021541179:=True
def tw4905338153345528561:=True
def tw4912206338879629059:=True
def tw492989617606593151:=True
def tw4947400038067075591:=True
def tw4973969472545564319:=True
def tw4988626619972346465:=True
def tw4998261452988724309:=True
def tw5075174352201622197:=True
def tw5080561880665843704:=True
def tw5083683638734894633:=True
def tw509273081428491244:=True
def tw5140680486462464599:=True
def tw5170239622734639419:=True
def tw5194357308598309698:=True
def tw5210480435908298160:=True
def tw5216693954241985601:=True
def tw52174069084406680:=True
def tw5241258545284281256:=True
def tw5246350284524269509:=True
def tw525086068935281659:=True
def tw5274346900331304961:=True
def tw5280326080890359488:=True
def tw5287284665593551089:=True
def tw5301504040299667060:=True
def tw5303226548320547622:=True
def tw5322135590166823969:=True
def tw5328081672645762155:=True
def tw5347004887213930342:=True
def tw5401215834689703245:=True
def tw5408776859637911995:=True
def tw5412589262309668945:=True
def tw5423096368548487267:=True
def tw5432966825006213434:=True
def tw5462057821458773692:=True
def tw5509619267556720156:=True
def tw5509781108387517831:=True
def tw5523880785845332271:=True
def tw5527744342196795445:=True
def tw5528672106417238930:=True
def tw5573788871839172490:=True
def tw5576217903568687320:=True
def tw5590739445942787009:=True
def tw5610195698322195550:=True
def tw5619973071089942363:=True
def tw5666829866803127735:=True
def tw5679128262006176792:=True
def tw5717101459410448011:=True
def tw5754223175157104594:=True
def tw575764940547353080:=True
def tw5774049544807704764:=True
def tw5789014932605965186:=True
def tw5811232131904332547:=True
def tw5824858070053951303:=True
def tw5829359855513616392:=True
def tw5838956440759461896:=True
def tw5841329582503552538:=True
def tw585088176168200209:=True
def tw5877935799125789055:=True
def tw5923901259052319518:=True
def tw5948118006680312182:=True
def tw6069281305000070763:=True
def tw6141775955525003573:=True
def tw6149330247168957222:=True
def tw6191439836633831869:=True
def tw6199520525446938316:=True
def tw6200603849263281314:=True
def tw6204360466487986559:=True
def tw6217962736749922366:=True
def tw6226480269431894252:=True
def tw6238938554470413661:=True
def tw624449892273460302:=True
def tw6274759296756186724:=True
def tw6329350187390340969:=True
def tw6332834707923389261:=True
def tw6338936222816257228:=True
def tw6339915530454790104:=True
def tw6346240158256413699:=True
def tw6353900103957238844:=True
def tw6354527263651619417:=True
def tw6355066077166853929:=True
def tw6357834729481686563:=True
def tw6378535703519434683:=True
def tw6394859698304410800:=True
def tw6402976183506748626:=True
def tw644043303942613987:=True
def tw645102372004179189:=True
def tw6467912918429582914:=True
def tw6470329823627951498:=True
def tw6474620931532490604:=True
def tw6514428896153749216:=True
def tw6592575082316170114:=True
def tw6623257476792458453:=True
def tw6640046611356334987:=True
def tw6642023434346113843:=True
def tw6644009636542294261:=True
def tw6650035860397757743:=True
def tw6661361626353068519:=True
def tw668285489258378695:=True
def tw6731613459630317083:=True
def tw6744603479311944201:=True
def tw6772889293643265111:=True
def tw6782969978878148760:=True
def tw6830665161343613338:=True
def tw6893996929343958:=True
def tw6912626544624387380:=True
def tw6926041890832556298:=True
def tw6965483765452788507:=True
def tw6986867359632240535:=True
def tw7054538973092745178:=True
def tw7055028819289217929:=True
def tw7095025226485126668:=True
def tw7126996314078467627:=True
def tw7143735642661074729:=True
def tw7155331450736368499:=True
def tw7158738192188481861:=True
def tw7181994238170565854:=True
def tw7222916960120346969:=True
def tw7259464028329103928:=True
def tw7266047325445901935:=True
def tw7273863138270522848:=True
def tw7280447747669009119:=True
def tw7282431843403347689:=True
def tw7289923790577061888:=True
def tw7337956604970711806:=True
def tw7348278572121461024:=True
def tw7350518054031371883:=True
def tw7356058077229758777:=True
def tw7401061956958529561:=True
def tw741274952064372365:=True
def tw7479650478264288183:=True
def tw7488495279830507822:=True
def tw7525556397647821722:=True
def tw7536078157859330690:=True
def tw7555212546406916404:=True
def tw7584043714854751328:=True
def tw7592973112736433153:=True
def tw7610818842429594317:=True
def tw7631586472622970117:=True
def tw7645861600047282417:=True
def tw7647451246935905531:=True
def tw7661861314790863709:=True
def tw7724436736788678860:=True
def tw7744580755401790262:=True
def tw7749761420945403821:=True
def tw7755986879233081695:=True
def tw7767008076937212030:=True
def tw7774985353330511730:=True
def tw7781380466615642156:=True
def tw7825605737502189601:=True
def tw7835563230897269882:=True
def tw7860348142230854048:=True
def tw7872301172270435330:=True
def tw7884949352571324470:=True
def tw7904697658961599461:=True
def tw7905265058726512187:=True
def tw7957790267052581617:=True
def tw7960102553604285757:=True
def tw7964105090922348855:=True
def tw7992585740706789701:=True
def tw7997609302002378242:=True
def tw7999567275917464928:=True
def tw8029464173297830859:=True
def tw8038580587926902375:=True
def tw8059579095526747534:=True
def tw8083633888254390334:=True
def tw8085526786624583867:=True
def tw8089097641502698914:=True
def tw8098537198366174812:=True
def tw8107470625562805323:=True
def tw8119886464523632922:=True
def tw8125840361116450227:=True
def tw8138335186991982387:=True
def tw81453945996182508:=True
def tw8188777787585633335:=True
def tw8208861542707027256:=True
def tw8232431638551422045:=True
def tw8253033796688054154:=True
def tw8298875165680313751:=True
def tw834858692139856840:=True
def tw8377148538066376536:=True
def tw8448452233080159716:=True
def tw8454897224670689574:=True
def tw846060314298145957:=True
def tw8472011311755437281:=True
def tw8545014268389562902:=True
def tw8558573134917806135:=True
def tw8570196776029043415:=True
def tw8572309201215953939:=True
def tw8605948698384394322:=True
def tw8624282725650605112:=True
def tw864341912949302920:=True
def tw8670254826332974709:=True
def tw8683129275417602672:=True
def tw8693514598427633042:=True
def tw8741865987774343953:=True
def tw8762101754773024284:=True
def tw8805410841585679156:=True
def tw8859756709151551658:=True
def tw8874792619268894174:=True
def tw88753062797294305:=True
def tw8882633800166038122:=True
def tw888947316270761571:=True
def tw8901178482926337743:=True
def tw8919652910173527126:=True
def tw8951589431919928977:=True
def tw8983819711111814629:=True
def tw9014380511991397816:=True
def tw9014989217353602192:=True
def tw905884636425869947:=True
def tw9060158425674463073:=True
def tw9076570434751128697:=True
def tw9079371304622844211:=True
def tw9098453265226129358:=True
def tw9126022546393463444:=True
def tw9129643467003511478:=True
def tw9143145529622717925:=True
def tw9148218561726220540:=True
def tw9153179653434401875:=True
def tw9161596098751384067:=True
def tw9176045434223201304:=True
def tw9177094659554279456:=True
def tw9187386539963359628:=True
def tw9261976495678644461:=True
def tw9284792489406062033:=True
def tw9351668513586026353:=True
def tw9357111250634467721:=True
def tw9379159028132177371:=True
def tw9395688786579452091:=True
def tw9415829905424667796:=True
def tw9415953299464176524:=True
def tw9436539687636423768:=True
def tw9450279879266785962:=True
def tw9467851622411663124:=True
def tw9476635989742764636:=True
def tw9515375593963434100:=True
def tw9516443504223146226:=True
def tw9535114191905138273:=True
def tw9539425588941814309:=True
def tw9560393333489498919:=True
def tw9597200129140480143:=True
def tw9598065607869771371:=True
def tw9598192946511997666:=True
def tw9605031363349916280:=True
def tw9608176517242700834:=True
def tw961023727132264041:=True
def tw962418938423854656:=True
def tw9627227268287783205:=True
def tw9646274212296431345:=True
def tw9692855741648861950:=True
def tw9698210060600450774:=True
def tw9703502589675272460:=True
def tw9706686817190893517:=True
def tw9718502616322675909:=True
def tw9730589917200385131:=True
def tw9736845664533365403:=True
def tw9754978501137224253:=True
def tw9803177966759507352:=True
def tw9819529119159013456:=True
def tw9828588672435667579:=True
def tw9833464777095172796:=True
def tw987398966248535731:=True
def tw9916777298021276066:=True
def tw9979449142483873120:=True
end PySem.W.Fast
open PySem PySem.W PyProof.Rows
set_option hygiene false
local macro_rules | `(tactic| walk_at "cb") => `(tactic| (refine' ⟨?n, ?c, ?h, ?m, ?s, ?y, ?z⟩; (case n => k_is); (case c => refine' ⟨?q1, ?q2, ?q3, ?q4⟩; (case q1 => k_is); (case q2 => k_is); (case q3 => k_is); (case q4 => k_is)); (case h => k_is); (case m => k_is); (case s => first | k_is | kit_is); (case y => k_is); (case z => k_is)))
local macro_rules | `(tactic| walk_at "gs") => `(tactic| ((repeat (refine' .cons ?h ?_; (case h => k_is))); exact .nil))
local macro_rules | `(tactic| walk_at "ge") => `(tactic| (refine' Mine.GE.mk ?g ?e; (case g => walk_at "gs"); (case e => refine' L2.funM_mk ?l ?c ?k ?fn; (case l => k_is); (case c => k_is); (case k => k_is); (case fn => k_is))))
set_option hygiene true
open PySem PySem.W PyProof.Rows
set_option hygiene false
local macro_rules | `(tactic| walk_at "td") => `(tactic| (dsimp only [L2.KOf];refine' L2.aT KX G ?a ?l ?c ?k;(case a=>k_is);(case l=>k_is);(case c=>k_is);(case k=>k_is)))
set_option hygiene true
set_option maxRecDepth 100000 in
set_option maxHeartbeats 0 in
theorem PySem.Challenge.cw_leansay_k52_fewest_steps_holds : PySem.Challenge.rw_leansay_k52_fewest_steps.Holds := by
 w_on;o_law;k_head;(case hw=>w_witness2)
 k_fill
 refine L2.CV (l:=PySem.Challenge.rw_leansay_k52_fewest_steps) (n:=63) (k:=80) (x:="_law_script") (CX:=L2.CX0) (sp:=Mine.spLaw) rfl (by decide) rfl ⟨rfl,by decide,by decide⟩ (λw h Y=>PySem.W.kIn_of Y) ?F ?S ?C
 case F =>
  intro w mg fa h KX G YQ
  have qu:L2.aC (L2.KOf KX) mg "common_factor" Mine.hV:=by walk_at "td"
  have Bf:L2.aC (L2.KOf KX) mg "fraction" Mine.mM:=by walk_at "td"
  have T_less:L2.aC (L2.KOf KX) mg "less" Mine.zV:=by walk_at "td"
  have zf:L2.aC (L2.KOf KX) mg "square" Mine.nP:=by walk_at "td"
  have EC:L2.aC (L2.KOf KX) mg "told_by" Mine.oO:=by walk_at "td"
  have oo:L2.aC (L2.KOf KX) mg "told_in_corners" Mine.fu:=by walk_at "td"
  have pJ:L2.aC (L2.KOf KX) mg "corner_between" Mine.gw:=by walk_at "td"
  have T_cut:L2.aC (L2.KOf KX) mg "cut" Mine.kK:=by walk_at "td"
  have Bb:L2.aC (L2.KOf KX) mg "is_whole" Mine.mK:=by walk_at "td"
  have Bc:L2.aC (L2.KOf KX) mg "is_point" Mine.iF:=by walk_at "td"
  have qt:L2.aC (L2.KOf KX) mg "must_be_point" Mine.hU:=by walk_at "td"
  have T_worth:L2.aC (L2.KOf KX) mg "worth" Mine.vR:=by walk_at "td"
  have ED:L2.aC (L2.KOf KX) mg "rows_of" Mine.ju:=by walk_at "td"
  have T_both:L2.aC (L2.KOf KX) mg "both" Mine.zY:=by walk_at "td"
  have EA:L2.aC (L2.KOf KX) mg "without" Mine.oM:=by walk_at "td"
  have zg:L2.aC (L2.KOf KX) mg "leaf_rule" Mine.kH:=by walk_at "td"
  have uj:L2.aC (L2.KOf KX) mg "fold_choice" Mine.jf:=by walk_at "td"
  have zk:L2.aC (L2.KOf KX) mg "choice_of" Mine.kN:=by walk_at "td"
  have zj:L2.aC (L2.KOf KX) mg "chosen_on" Mine.kM:=by walk_at "td"
  have qq:L2.aC (L2.KOf KX) mg "rules_of_rows" Mine.hI:=by walk_at "td"
  have Be:L2.aC (L2.KOf KX) mg "hulls_of" Mine.mL:=by walk_at "td"
  have uh:L2.aC (L2.KOf KX) mg "must_be_few" Mine.jd:=by walk_at "td"
  have EB:L2.aC (L2.KOf KX) mg "tree_on" Mine.oN:=by walk_at "td"
  have EO:L2.aC (L2.KOf KX) mg "cutting" Mine.oX:=by walk_at "td"
  have ui:L2.aC (L2.KOf KX) mg "least_worth" Mine.je:=by walk_at "td"
  have IK:L2.aC (L2.KOf KX) mg "always" Mine.rW:=by walk_at "td"
  have xa:L2.aC (L2.KOf KX) mg "side_bound" Mine.jK:=by walk_at "td"
  have zm:L2.aC (L2.KOf KX) mg "bounds_of" Mine.kO:=by walk_at "td"
  have qr:L2.aC (L2.KOf KX) mg "regions_below" Mine.hJ:=by walk_at "td"
  have AW:L2.aC (L2.KOf KX) mg "round_up" Mine.mH:=by walk_at "td"
  have AV:L2.aC (L2.KOf KX) mg "y_within" Mine.mE:=by walk_at "td"
  have ug:L2.aC (L2.KOf KX) mg "step_within" Mine.jc:=by walk_at "td"
  have wZ:L2.aC (L2.KOf KX) mg "step_below" Mine.jJ:=by walk_at "td"
  have tN:L2.aC (L2.KOf KX) mg "fewest_steps" Mine.iG:=by walk_at "td"
  have EJ:L2.aC (L2.KOf KX) mg "_law_mixed" Mine.Dr:=by walk_at "td"
  have II:L2.aC (L2.KOf KX) mg "_law_next" Mine.FI:=by walk_at "td"
  have AX:L2.aC (L2.KOf KX) mg "_law_saying" Mine.zW:=by walk_at "td"
  have AY:L2.aC (L2.KOf KX) mg "_law_object" Mine.zX:=by walk_at "td"
  have EM:L2.aC (L2.KOf KX) mg "_law_folds" Mine.oV:=by walk_at "td"
  have IJ:L2.aC (L2.KOf KX) mg "_law_fold" Mine.FJ:=by walk_at "td"
  have EE:L2.aC (L2.KOf KX) mg "_law_worth" Mine.Dq:=by walk_at "td"
  have EF:L2.aC (L2.KOf KX) mg "_law_whole" Mine.oP:=by walk_at "td"
  have zh:L2.aC (L2.KOf KX) mg "_law_rows_to" Mine.kJ:=by walk_at "td"
  have EH:L2.aC (L2.KOf KX) mg "_law_tells" Mine.oR:=by walk_at "td"
  have AZ:L2.aC (L2.KOf KX) mg "_law_lowest" Mine.mI:=by walk_at "td"
  have T_l_cut:L2.aC (L2.KOf KX) mg "_law_cut" Mine.fA:=by walk_at "td"
  have T_l_sum:L2.aC (L2.KOf KX) mg "_law_sum" Mine.vS:=by walk_at "td"
  have IH:L2.aC (L2.KOf KX) mg "_law_rule" Mine.kI:=by walk_at "td"
  have EI:L2.aC (L2.KOf KX) mg "_law_rules" Mine.oS:=by walk_at "td"
  have EL:L2.aC (L2.KOf KX) mg "_law_hulls" Mine.oU:=by walk_at "td"
  have T_l_holds : L2.aC (L2.KOf KX) mg "_law_holds" Mine.s_l_holds :=by walk_at "td"
  have xb:L2.aC (L2.KOf KX) mg "_law_is_point" Mine.jL:=by walk_at "td"
  have Pl:L2.aC (L2.KOf KX) mg "_law_few" Mine.vT:=by walk_at "td"
  have EK:L2.aC (L2.KOf KX) mg "_law_least" Mine.oT:=by walk_at "td"
  have EG:L2.aC (L2.KOf KX) mg "_law_times" Mine.oQ:=by walk_at "td"
  have Ba:L2.aC (L2.KOf KX) mg "_law_beyond" Mine.mJ:=by walk_at "td"
  have zi:L2.aC (L2.KOf KX) mg "_law_between" Mine.aV:=by walk_at "td"
  have EN:L2.aC (L2.KOf KX) mg "_law_drawn" Mine.gv:=by walk_at "td"
  have Pm:L2.aC (L2.KOf KX) mg "_law_all" Mine.vU:=by walk_at "td"
  have We:L2.aC (L2.KOf KX) mg "law" Mine.rV:=by walk_at "td"
  have bG:mg "len"=none:=by
   refine' z8 KX G ?z;(case z=>k_is)
  have iP:mg "abs"=none:=by
   refine' z8 KX G ?z;(case z=>k_is)
  have aR:mg "isinstance"=none:=by
   refine' z8 KX G ?z;(case z=>k_is)
  have pI:mg "bool"=none:=by
   refine' z8 KX G ?z;(case z=>k_is)
  have fV:mg "int"=none:=by
   refine' z8 KX G ?z;(case z=>k_is)
  have bB:mg "tuple"=none:=by
   refine' z8 KX G ?z;(case z=>k_is)
  have cw:mg "range"=none:=by
   refine' z8 KX G ?z;(case z=>k_is)
  have ZI:mg "list"=none:=by
   refine' z8 KX G ?z;(case z=>k_is)
  have bR:mg "min"=none:=by
   refine' z8 KX G ?z;(case z=>k_is)
  have cA:mg "max"=none:=by
   refine' z8 KX G ?z;(case z=>k_is)
  have iO:mg "all"=none:=by
   refine' z8 KX G ?z;(case z=>k_is)
  have IG:mg "any"=none:=by
   refine' z8 KX G ?z;(case z=>k_is)
  have IF:mg "sum"=none:=by
   refine' z8 KX G ?z;(case z=>k_is)
  have cX:mg "enumerate"=none:=by
   refine' z8 KX G ?z;(case z=>k_is)
  have gk:mg "zip"=none:=by
   refine' z8 KX G ?z;(case z=>k_is)
  have kb:kitOne (L2.KOf KX) (.type "int") (.type "bool")=some false:=by
   dsimp only[L2.KOf]
   first | k_is | kit_is
  have AA:∃c,Mine.AllF (L2.KOf KX) mg c:=by
   dsimp only[L2.KOf];refine' Mine.all_mk KX G ?zaa ?zab ?zac ?zad ?zae ?zaf ?zag ?zah ?zai ?hn ?tk ?zaj ?zak ?zal ?zam ?zan ?zao ?zap ?zaq ?zar ?zas ?zat ?zau ?zav ?zaw ?zax ?zay ?zaz ?zba ?zbb ?zbc ?zbd ?zbe ?zbf ?zbg ?zbh ?zbi ?zbj ?zbk ?zbl ?zbm ?zbn ?zbo ?zbp
   (case zaa|zab|zac|zad|zae|zaf|zag|zah|zai=>walk_at "cb")
   (case hn|tk=>k_is)
   (case zaj|zak|zal|zam=>walk_at "gs")
   (case zan|zao|zap|zaq|zar|zas|zat|zau|zav|zaw|zax|zay|zaz|zba|zbb|zbc|zbd|zbe|zbf|zbg|zbh|zbi|zbj|zbk|zbl|zbm|zbn|zbo=>walk_at "ge")
   (case zbp=>walk_at "gs")
  obtain⟨c,AF⟩:=AA
  have CC:∃CT CN CF,Mine.X47 (L2.KOf KX) mg CT CN CF:=by
   dsimp only[L2.KOf];refine' Mine.cls47 KX G ?zbq ?zbr ?zbs ?xt ?xn ?t6 ?t7 ?t8 ?st ?n6 ?n7 ?n8 ?sn ?zbt ?zbu ?zbv ?zbw ?zbx ?zby ?zbz ?zca ?zcb ?zcc ?zcd ?zce ?zcf ?zcg ?zch ?zci ?zcj ?zck
   (case zbq|zbr|zbs=>k_is)
   (case xt|xn=>k_exc)
   (case t6|t7|t8|st|n6|n7|n8|sn|zbt=>k_is)
   (case zbu=>first | k_is | kit_is)
   (case zbv=>k_is)
   (case zbw=>first | k_is | kit_is)
   (case zbx=>k_is)
   (case zby=>first | k_is | kit_is)
   (case zbz=>k_is)
   (case zca=>first | k_is | kit_is)
   (case zcb=>k_is)
   (case zcc=>first | k_is | kit_is)
   (case zcd=>k_is)
   (case zce=>first | k_is | kit_is)
   (case zcf=>k_is)
   (case zcg=>first | k_is | kit_is)
   (case zch=>k_is)
   (case zci=>first | k_is | kit_is)
   (case zcj=>k_is)
   (case zck=>first | k_is | kit_is)
  obtain⟨CT,CN,CF,XF⟩:=CC
  have ik:L2.ff (L2.KOf KX) mg "NEVER" [0,0,0]:=by
   dsimp only[L2.KOf];refine' L2.jk (ns:=[0,0,0]) KX G ?e ?l ?z ?v;(case e=>k_is);(case l=>k_is);(case z=>decide);(case v=>exact(.cons ⟨_,rfl⟩ (.cons ⟨_,rfl⟩ (.cons ⟨_,rfl⟩ .nil))))
  have fW:L2.ff (L2.KOf KX) mg "ALWAYS" [0,0,1]:=by
   dsimp only[L2.KOf];refine' L2.jk (ns:=[0,0,1]) KX G ?e ?l ?z ?v;(case e=>k_is);(case l=>k_is);(case z=>decide);(case v=>exact(.cons ⟨_,rfl⟩ (.cons ⟨_,rfl⟩ (.cons ⟨_,rfl⟩ .nil))))
  have nh:L2.ff (L2.KOf KX) mg "LETTER_P" [1,0,0]:=by
   dsimp only[L2.KOf];refine' L2.jk (ns:=[1,0,0]) KX G ?e ?l ?z ?v;(case e=>k_is);(case l=>k_is);(case z=>decide);(case v=>exact(.cons ⟨_,rfl⟩ (.cons ⟨_,rfl⟩ (.cons ⟨_,rfl⟩ .nil))))
  have mZ:L2.ff (L2.KOf KX) mg "LETTER_Q" [0,1,0]:=by
   dsimp only[L2.KOf];refine' L2.jk (ns:=[0,1,0]) KX G ?e ?l ?z ?v;(case e=>k_is);(case l=>k_is);(case z=>decide);(case v=>exact(.cons ⟨_,rfl⟩ (.cons ⟨_,rfl⟩ (.cons ⟨_,rfl⟩ .nil))))
  have P_LEAF:Mine.AU (L2.KOf KX) mg "LEAF" "leaf":=by
   dsimp only[L2.KOf];refine' Mine.De KX G ?e ?l ?z ?v;(case e=>k_is);(case l=>k_is);(case z=>decide);(case v=>exact(.cons ⟨_,rfl⟩ .nil))
  have S6:∃t,mg "MOST_FOLDS"=some (.int 8 t):=by
   refine' L2.Df KX G ?ie ?iq;(case ie=>k_is);(case iq=>exact⟨_,rfl⟩)
  obtain⟨tm,M_MOST⟩:=S6
  have xf:L2.ff (L2.KOf KX) mg "WHOLE" [1,1]:=by
   dsimp only[L2.KOf];refine' L2.jk (ns:=[1,1]) KX G ?e ?l ?z ?v;(case e=>k_is);(case l=>k_is);(case z=>decide);(case v=>exact(.cons ⟨_,rfl⟩ (.cons ⟨_,rfl⟩ .nil)))
  obtain⟨f,fd,F,m⟩:=We.ex;have e:=YQ.symm.trans m;cases e
  obtain ⟨oc,od,kV,doc,pm,an,cdv,ct,osl,hfd,lk,hcd⟩:=id F.ex;subst hfd;refine ⟨PySem.W.fnOf "law" "law" (L2.fT Mine.sLaw) (L2.bA Mine.sLaw) (L2.au Mine.sLaw) .none kV doc pm an cdv ct,λs u=>.of_eq rfl,λbase kb' nb=>?_⟩;have M:=Mine.ms (P:=Mine.Pg) (w:=w) (base:=base) AF bR cA;obtain ⟨kl,kn,kf⟩:=Mine.mks (P:=Mine.Pg) (w:=w) (base:=base) AF;have GL:∀ t,L2.bC Mine.Pg w (L2.KOf KX) mg base (c.of t) "laid_out" 2 ["self"] (Mine.qZ c t):=λt=>Mine.ok_laid (AF.laid t) M;have GF:∀ t,L2.bC Mine.Pg w (L2.KOf KX) mg base (c.of t) "folds" 3 ["self"] (Mine.rj c t):=λt=>Mine.DI (AF.foldsS t) bG aR XF.mF AF.fx (XF.kf AF) GL;have GO:∀ t,L2.bC Mine.Pg w (L2.KOf KX) mg base (c.of t) "out_of" 3 ["self","n","x","y"] (Mine.Fu c t):=λt=>Mine.ok_out (AF.out t) M GL;have dRowsOf:=Mine.DC ED bG bB M GL;have dFactor:=Mine.DJ (P:=Mine.Pg) (w:=w) (base:=base) qu iP;have dTold:=Mine.ok_told (P:=Mine.Pg) (w:=w) (base:=base) EC;have dTells:=Mine.Ai (P:=Mine.Pg) (w:=w) (base:=base) EH;have dTic:=Mine.ok_tic oo dTold;have dCut:=Mine.ok_cut T_cut XF.mN XF.xN bR cA cX bG dTic (Mine.ok_cb pJ gk iP bB dFactor);have dLcut:=Mine.DH T_l_cut bR cA cX bG gk iP dTells (Mine.ok_lwL AZ bB);have dWithout:=Mine.Ae (P:=Mine.Pg) (w:=w) (base:=base) EA gk bB;have dChoice:=Mine.DM zk bG ik fW dWithout (Mine.ok_leaf zg ik fW nh mZ) (Mine.ok_fold uj ik fW (Mine.ok_both (P:=Mine.Pg) (w:=w) (base:=base) T_both gk bB) dWithout);have dRules:=Mine.GQ qq cX dChoice (Mine.DL zj cA bR dTic);have dHulls:=Mine.GY Be (Mine.ok_sq (P:=Mine.Pg) (w:=w) (base:=base) zf) dCut;have dCutting:=Mine.Hc EO GF (Mine.ok_few (P:=Mine.Pg) (w:=w) (base:=base) uh M_MOST) (Mine.ok_sq (P:=Mine.Pg) (w:=w) (base:=base) zf) dRowsOf (Mine.DA EB P_LEAF dRules dCut 9);have dWorth:=Mine.Ad T_worth (Mine.yo qt (Mine.wA Bc aR bB bG iO (Mine.Aj (P:=Mine.Pg) (w:=w) (base:=base) Bb aR fV pI kb))) GO;have dLw:=Mine.ok_lw ui dCutting dHulls dWorth (Mine.tX Bf dFactor) (Mine.DF (P:=Mine.Pg) (w:=w) (base:=base) T_less);have dAlw:=Mine.Hd IK xf dLw;have dRup:=Mine.ok_rup (P:=Mine.Pg) (w:=w) (base:=base) AW;have dSw:=Mine.ok_sw ug bR cA cw dRup (Mine.ok_yw AV cA bR dRup);have dRbl:=Mine.ok_rbl qr IG dRowsOf dCutting dHulls dRules dTold (Mine.ok_bnds zm gk (Mine.ok_sb (P:=Mine.Pg) (w:=w) (base:=base) xa));have dFst:=Mine.ok_fst tN dRbl (Mine.ok_sbl wZ dSw);have dWhole:=Mine.GI (P:=Mine.Pg) (w:=w) (base:=base) EF aR fV pI kb;have dLrules:=Mine.yp EI (Mine.GW IH bG bR cA (Mine.ok_lsum (P:=Mine.Pg) (w:=w) (base:=base) T_l_sum gk bB) dTells);have dLhulls:=Mine.DD EL aR bB bG iO dWhole dLcut 9;have dHolds := Mine.DE T_l_holds bR dLhulls dLrules dTells
  have ND:=Mine.ok_next (P:=Mine.Pg) (w:=w) (base:=base) II bG;have ZC:=Mine.ok_lfew Pl bG ND (Mine.DB AX fV ND 60) (Mine.ok_nf50 EM IF fV bG 60);have dRt:=Mine.ok_rt50 (P:=Mine.Pg) (w:=w) (base:=base) zh bB 60;have ZA:=Mine.ok_ispt xb aR bB bG iO bR cA dWhole;have MN:=Mine.GH (P:=Mine.Pg) (w:=w) (base:=base) EE fV (Mine.GZ IJ bR cA) 60;have VY:=Mine.ok_betw zi (Mine.GP (P:=Mine.Pg) (w:=w) (base:=base) EG cw) (Mine.DN (P:=Mine.Pg) (w:=w) (base:=base) Ba cw);exact Mine.ok_law F cw iO aR bB bG (Mine.GU EJ bG cA bR cw iP fV) (Mine.Am EN bG cw ND VY ZC) dRt (Mine.DG EK dLrules dTells dLcut 9) (Mine.GR AY AF.o_ne AF.r_ne AF.o_al AF.r_al kl kn kf 60) dAlw dFst dHolds ZA dWhole MN (Mine.He Pm cw iO MN)
 case S=>exact λK H a ns hl hb hO hS=>⟨a,ns,rfl,Mine.scr_of hO hS hl hb,λ_=>rfl⟩
 case C=>exact λ_ _ _ _ z=>z
